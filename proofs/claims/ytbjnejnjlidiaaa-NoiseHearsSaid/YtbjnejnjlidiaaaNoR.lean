/- Noise: the law on what is heard. -/
import Derived.Test.YtbjnejnjlidiaaaNoQ
import Derived.Test.YtbjnejnjlidiaaaArgM
namespace Go.Proofs.Ytbjnejnjlidiaaa.noR
open Go.RowKit kit numA numB numC numD numE tmA tmB tmC tmD tmE trA trB prR prS prW prX tsA tsB tsF tsI wrA wrB wrC wrD wrE wrF wrG wrH wrI wrJ mkA maA maB maC noA noB noC noD noE tsG noF noG noH noJ noK noL noM noN noO noP noQ noI wrL
set_option linter.unusedVariables false
set_option linter.unusedSimpArgs false

theorem hear_law_any (r : ByteArray) (m : Msg) (w : World) (ho : ∀ i, i < 4 ∨ 12 < i → (m.t i).size = 0) (ht : ∀ i, (m.t i).size ≤ 140737488355328) : Calls Try.prog 13 #[.string r, mval m] w (numA.Told w (.bool true)) := by
  cases hb : bigN [r.data.toList]
  case true => exact nh_big r m w hb
  cases hv : decide ((4000 : Int) < bytesM m)
  case true => exact nh_heavy r m w hb ht hv
  have rz : r.size ≤ 200 := by
    have := hb
    simp [bigN] at this
    exact this
  have hz : bytesM m ≤ 4000 := by have := of_decide_eq_false hv; omega
  have h4 : ∀ i, (m.t i).size ≤ 4000 := by
    intro i
    by_cases h : i < 4 ∨ 12 < i
    · rw [ho i h]; exact Nat.zero_le _
    · have e : i = 4 ∨ i = 5 ∨ i = 6 ∨ i = 7 ∨ i = 8 ∨ i = 9 ∨ i = 10 ∨ i = 11 ∨ i = 12 := by omega
      unfold bytesM at hz
      rcases e with rfl | rfl | rfl | rfl | rfl | rfl | rfl | rfl | rfl <;> omega
  have hall : (hearR r.data.toList m).1 = 0 → isT (hearR r.data.toList m).2.2.2.1 = true ∧ isT (hearR r.data.toList m).2.2.2.2 = true := by
    intro h0
    have hr : Ok r.data.toList 200 := by
      refine ⟨?_, by rw [tl_size]; exact rz⟩
      unfold hearR at h0
      by_cases h : isT r.data.toList = true ∧ (m.k == 1 && rightM m) = true ∧ pubB (m.t 4).data.toList = true
      · exact h.1
      · rw [if_neg h] at h0; simp at h0
    have h := hear_ok (b := 0) hr (h4 4) (h4 5) (h4 6) h0 (by decide)
    exact ⟨h.1.1, h.2.1⟩
  by_cases h0 : (hearR r.data.toList m).1 = 0
  · exact nh_ok r m w hb hv h4 rz hall h0
  · exact nh_no r m w hb hv h4 rz hall h0
theorem hear_walk (r : ByteArray) (_ : r.size ≤ 9223372036854775807) (m : Msg) (hm : argM.MsgOk m) {w : World} : Calls Try.prog 13 #[.string r, .agg m.row] w fun e w' => e = .returned (.bool true) ∧ Below w.heap.size w w' := by
  obtain ⟨h0, hs, hr, hc, ho, ht⟩ := hm
  refine (hear_law_any r m w ho (fun i => Nat.le_trans (ht i) (by decide))).mono ?_
  rintro e w' ⟨rfl, o⟩
  exact ⟨rfl, o.below (fun _ h => h.elim) (Nat.le_refl _)⟩

end Go.Proofs.Ytbjnejnjlidiaaa.noR
