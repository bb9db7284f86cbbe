/- Noise: any answer, for any arguments. -/
import Derived.Test.YtbjnejnjlidiaaaNpB
import Derived.Test.YtbjnejnjlidiaaaArgM
import Derived.Test.YtbjnejnjlidiaaaArgH
namespace Go.Proofs.Ytbjnejnjlidiaaa.npC
open Go.RowKit kit numA numB numC numD numE tmA tmB tmC tmD tmE trA trB prR prS prW prX tsA tsB tsF tsI wrA wrB wrC wrD wrE wrF wrG wrH wrI wrJ mkA maA maB maC noA noB noC noD noE tsG noF noG noH noJ noK noL noM noN noO noP wrL noS noU noY npA npB argH
set_option linter.unusedVariables false
set_option linter.unusedSimpArgs false

theorem finishes_law (x : Int) (e c h : ByteArray) (y : Int) (p : ByteArray) (N : Int) (ee c2 h2 : ByteArray) (s q : ByteArray) (m : Msg) (w : World) (ho : ∀ i, i < 4 ∨ 12 < i → (m.t i).size = 0) (ht : ∀ i, (m.t i).size ≤ 140737488355328) : Calls Try.prog 15 #[.agg (startV x e c h), .agg (heardV y p N ee c2 h2), .string s, .string q, mval m] w (numA.Told w (.bool true)) := by
  cases hb : bigN [e.data.toList, c.data.toList, h.data.toList, p.data.toList, ee.data.toList, c2.data.toList, h2.data.toList, s.data.toList, q.data.toList]
  case true => exact nf_big x e c h y p N ee c2 h2 s q m w hb
  cases hv : decide ((4000 : Int) < bytesM m)
  case true => exact nf_heavy x e c h y p N ee c2 h2 s q m w hb ht hv
  have hs : e.size ≤ 200 ∧ c.size ≤ 200 ∧ h.size ≤ 200 ∧ p.size ≤ 200 ∧ ee.size ≤ 200 ∧ c2.size ≤ 200 ∧ h2.size ≤ 200 ∧ s.size ≤ 200 ∧ q.size ≤ 200 := by
    have h0 := hb
    simp only [bigN, List.any_cons, List.any_nil, Bool.or_false, Bool.or_eq_false_iff, decide_eq_false_iff_not, tl_size] at h0
    omega
  have hz : bytesM m ≤ 4000 := by have := of_decide_eq_false hv; omega
  have h4 : ∀ i, (m.t i).size ≤ 4000 := by
    intro i
    by_cases h : i < 4 ∨ 12 < i
    · rw [ho i h]; exact Nat.zero_le _
    · have e : i = 4 ∨ i = 5 ∨ i = 6 ∨ i = 7 ∨ i = 8 ∨ i = 9 ∨ i = 10 ∨ i = 11 ∨ i = 12 := by omega
      unfold bytesM at hz
      rcases e with rfl | rfl | rfl | rfl | rfl | rfl | rfl | rfl | rfl <;> omega
  obtain ⟨ze, zc, zh, zp, zee, zc2, zh2, zs, zq⟩ := hs
  exact nf_main x e c h y p N ee c2 h2 s q m w hb hv h4 ze zc zh zp zee zc2 zh2 zs zq
theorem finishes_walk (a : StA) (_ : True) (b : HdA) (_ : True) (s : ByteArray) (_ : s.size ≤ 9223372036854775807) (q : ByteArray) (_ : q.size ≤ 9223372036854775807) (m : Msg) (hm : argM.MsgOk m) {w : World} : Calls Try.prog 15 #[.agg a.row, .agg b.row, .string s, .string q, .agg m.row] w fun e w' => e = .returned (.bool true) ∧ Below w.heap.size w w' := by
  obtain ⟨h0, hs, hr, hc, ho, ht⟩ := hm
  refine (finishes_law a.x a.e a.c a.h b.x b.p b.n b.e b.c b.h s q m w ho (fun i => Nat.le_trans (ht i) (by decide))).mono ?_
  rintro e w' ⟨rfl, o⟩
  exact ⟨rfl, o.below (fun _ h => h.elim) (Nat.le_refl _)⟩

end Go.Proofs.Ytbjnejnjlidiaaa.npC
