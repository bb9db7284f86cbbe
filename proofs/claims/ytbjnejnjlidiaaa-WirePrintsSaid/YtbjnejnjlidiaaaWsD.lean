/- Wire: the law on what is printed. -/
import Derived.Test.YtbjnejnjlidiaaaWsC
import Derived.Test.YtbjnejnjlidiaaaArgM
namespace Go.Proofs.Ytbjnejnjlidiaaa.wsD
open Go.RowKit kit numA numB numC numD numE numF numG numH numI tmA tmD trA trB prR prS prW prX tsA wrA wrB wrC wrD wrE wrF wrG wrH wrI wrJ wrK wrL wrM wrN wrO wrQ wrR wrS wrT wrU wrV wrW wrY wrZ wsA wsB wsC
set_option linter.unusedVariables false
set_option linter.unusedSimpArgs false

theorem print_law_any (m : Msg) (w : World) (ho : ∀ i, i < 4 ∨ 12 < i → (m.t i).size = 0) (ht : ∀ i, (m.t i).size ≤ 140737488355328) (hs : 0 ≤ m.s ∧ m.s ≤ 4294967295) (hr : 0 ≤ m.r ∧ m.r ≤ 4294967295) (hc : 0 ≤ m.c ∧ m.c ≤ (most : Nat)) : Calls Try.prog 10 #[mval m] w (numA.Told w (.bool true)) := by
  cases hv : decide ((2000 : Int) < bytesM m)
  case true => exact wp_heavy m w ht hv
  have hz : bytesM m ≤ 2000 := by have := of_decide_eq_false hv; omega
  have h4 : ∀ i, (m.t i).size ≤ 60000 := by
    intro i
    by_cases h : i < 4 ∨ 12 < i
    · rw [ho i h]; exact Nat.zero_le _
    · have e : i = 4 ∨ i = 5 ∨ i = 6 ∨ i = 7 ∨ i = 8 ∨ i = 9 ∨ i = 10 ∨ i = 11 ∨ i = 12 := by omega
      unfold bytesM at hz
      rcases e with rfl | rfl | rfl | rfl | rfl | rfl | rfl | rfl | rfl <;> omega
  cases hq : rightM m
  case false => exact wp_no m w h4 hs hr hc hv hq
  case true => exact wp_ok m w h4 hs hr hc hv hq
theorem print_walk (m : Msg) (hm : argM.MsgOk m) {w : World} : Calls Try.prog 10 #[.agg m.row] w fun e w' => e = .returned (.bool true) ∧ Below w.heap.size w w' := by
  obtain ⟨h0, hs, hr, hc, ho, ht⟩ := hm
  refine (print_law_any m w ho (fun i => Nat.le_trans (ht i) (by decide)) hs hr ⟨hc.1, by unfold most; omega⟩).mono ?_
  rintro e w' ⟨rfl, o⟩
  exact ⟨rfl, o.below (fun _ h => h.elim) (Nat.le_refl _)⟩

end Go.Proofs.Ytbjnejnjlidiaaa.wsD
