/- Noise: the document's Begin. -/
import Derived.Test.YtbjnejnjlidiaaaNoF
import Derived.Test.YtbjnejnjlidiaaaRgA
import Derived.Deep.DeepCutAuto
namespace Go.Proofs.Ytbjnejnjlidiaaa.noG
open Go.RowKit kit numA numB numC numD numE tmA tmB tmC tmD tmE trA trB prR prS prW prX tsA tsB tsF tsI wrA wrB wrC wrD wrE wrF wrG wrH wrI wrJ mkA maA maB maC noA noB noC noD noE tsG noF
set_option linter.unusedVariables false
set_option linter.unusedSimpArgs false

theorem one78 (c h : ByteArray) : (chainV c h).all (·.oneCell') = true := by simp [chainV, Value.oneCell']

end Go.Proofs.Ytbjnejnjlidiaaa.noG
