/- Term: the document's Make. -/
import Derived.Test.YtbjnejnjlidiaaaTsF
namespace Go.Proofs.Ytbjnejnjlidiaaa.tsI
open Go.RowKit kit numA numB numC numD numE numF numG numH numI tmA tmB tmC tmD tmE srcA trA trB trD prA prC prR prS prW prX tsA tsB tsF tsG tsH
set_option linter.unusedVariables false
set_option linter.unusedSimpArgs false

theorem made_told {f : FuncId} {args : Array Value} {w0 w : World} {t : Txt} {b : ByteArray} (h : Calls Try.prog f args w0 (Made w t)) (hb : b.data.toList = t) : Calls Try.prog f args w0 (numA.Told w (.string b)) := by
  refine h.mono ?_
  rintro e w' ⟨o, rfl⟩
  subst hb
  exact ⟨rfl, o⟩

end Go.Proofs.Ytbjnejnjlidiaaa.tsI
