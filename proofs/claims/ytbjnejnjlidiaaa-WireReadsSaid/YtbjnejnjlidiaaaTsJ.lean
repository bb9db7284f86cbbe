/- Term: the document's Make. -/
import Derived.Test.YtbjnejnjlidiaaaTsI
namespace Go.Proofs.Ytbjnejnjlidiaaa.tsJ
open Go.RowKit kit numA numB numC numD numE numF numG numH numI tmA tmB tmC tmD tmE srcA trA trB trD prA prC prR prS prW prX tsA tsB tsF tsG tsH tsI
set_option linter.unusedVariables false
set_option linter.unusedSimpArgs false

end Go.Proofs.Ytbjnejnjlidiaaa.tsJ
