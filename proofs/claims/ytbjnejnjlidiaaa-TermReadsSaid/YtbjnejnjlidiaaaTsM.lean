/- Term: what TermReads tells. -/
import Derived.Test.YtbjnejnjlidiaaaTsL
namespace Go.Proofs.Ytbjnejnjlidiaaa.tsM
open Go.RowKit Go.Proofs.Ytbjnejnjlidiaaa.kit Go.Proofs.Ytbjnejnjlidiaaa.tsL
set_option linter.unusedVariables false
theorem reads_walk (s : ByteArray) (_ : s.size ≤ 9223372036854775807) {w : World} : Calls Try.prog 3 #[.string s] w fun e w' => e = .returned (.bool true) ∧ Below w.heap.size w w' :=
  (reads_any s w).mono fun e w' ⟨he, o⟩ => ⟨he, o.below (fun k h => h.elim) (Nat.le_refl _)⟩
end Go.Proofs.Ytbjnejnjlidiaaa.tsM
