/- (more) Term: what the document compares and counts. -/
import Derived.StillTailTactics
import Derived.Test.YtbjnejnjlidiaaaTsA
namespace Go.Proofs.Ytbjnejnjlidiaaa.tsA
open Go.RowKit kit numA numB numC numD numE numF tmA tmB tmC tmD tmE srcA trA trB prA prC prQ prR prS prX
set_option linter.unusedVariables false
set_option linter.unusedSimpArgs false

theorem list_eq {xs ys : List Txt} (hl : xs.length = ys.length) (h : ∀ q, q < xs.length → xs.getD q [] = ys.getD q []) : xs = ys := by
  refine List.ext_getElem hl fun i h1 h2 => ?_
  have := h i h1
  simpa [h1, h2] using this

set_option maxRecDepth 100000 in
theorem same_any (xs ys : List Txt) (S T : Nat → Prop) (a b : Value) (w : World) (ha : Sl w S a (xs.map sv)) (hb : Sl w T b (ys.map sv)) (hx : xs.length ≤ 1000000) : Calls Try.prog 28 #[a, b] w (numA.Told w (.bool (xs == ys))) := by
  obtain ⟨a', n, c, rfl⟩ : ∃ a' n c, a = .slice a' n c := by obtain ⟨_, a', c, h, _⟩ := ha; exact ⟨a', _, c, h⟩
  obtain ⟨b', m, d, rfl⟩ : ∃ b' m d, b = .slice b' m d := by obtain ⟨_, b', d, h, _⟩ := hb; exact ⟨b', _, d, h⟩
  obtain rfl := sl_len ha
  obtain rfl := sl_len hb
  have HA := Lib.hid ha
  have HB := Lib.hid hb
  have HX := Lib.hid hx
  clear ha hb hx
  by_cases hl : xs.length = ys.length
  · have l1 : (((xs.length : Nat) : Int) != (ys.length : Nat)) = false := by rw [bne_eq_false_iff_eq]; omega
    have HL := Lib.hid hl
    obtain ⟨N, hN⟩ : ∃ N, N = xs.length := ⟨_, rfl⟩
    have HN := Lib.hid hN
    clear hl
    rw [← hN] at l1 ⊢
    clear hN
    go_enter Try.func28, Try.ntmps28
    go_wp2_with fail
    go_loopw [5] (fun i wr => ∃ j : Nat, i = .int .i64 j ∧ j ≤ N ∧ (∀ q, q < j → xs.getD q [] = ys.getD q []) ∧ Only (fun _ => False) w wr) (fun i _ => N - (Lib.intOf i).toNat)
    case atStart => exact ⟨0, rfl, Nat.zero_le _, fun q h => absurd h (Nat.not_lt_zero _), Only.refl _ _⟩
    case round =>
      obtain ⟨j, rfl, hj, hq, ho⟩ := hrel
      have O := Lib.hid ho
      have HQ := Lib.hid hq
      clear hq
      by_cases hlt : j < N
      · obtain ⟨g, o, rfl, -, -, x0⟩ := sl_get (HA.out.keep ho fun _ _ h => h) j (by have := HN.out; omega)
        obtain ⟨g2, o2, rfl, -, -, x1⟩ := sl_get (HB.out.keep ho fun _ _ h => h) j (by have := HN.out; have := HL.out; omega)
        unfold sv at x0 x1
        obtain ⟨sa, hsa⟩ : ∃ sa : ByteArray, sa = ⟨(xs.getD j []).toArray⟩ := ⟨_, rfl⟩
        obtain ⟨sb, hsb⟩ : ∃ sb : ByteArray, sb = ⟨(ys.getD j []).toArray⟩ := ⟨_, rfl⟩
        rw [← hsa] at x0
        rw [← hsb] at x1
        have k0 : (0 : Int) ≤ (j : Int) := by omega
        have k1 : (j : Int) < (N : Int) := by omega
        have k2 : (j : Int) < (ys.length : Int) := by have := HN.out; have := HL.out; omega
        have wj : wrap64 ((j : Int) + 1) = (j : Int) + 1 := IntWalk.wrap64_in _ (by have := HX.out; have := HN.out; omega)
        have HSE := Lib.hid (show (sa = sb ↔ xs.getD j [] = ys.getD j []) from by rw [hsa, bytes_eq, hsb])
        have HJ := Lib.hid hlt
        clear hsa hsb ho hj hlt
        cases hs : (sa.toList == sb.toList)
        · have HF := Lib.hid (show (xs == ys) = false from by
            rw [beq_eq_false_iff_ne]
            intro e
            have : sa = sb := HSE.out.2 (by rw [e])
            rw [beq_t this] at hs
            cases hs)
          have hs' : (sa.toList = sb.toList) = False := eq_false (beq_eq_false_iff_ne.1 hs)
          go_wp2_with fail
          go_quiet (fail)
          go_wp2_with fail
          go_ret
          exact ⟨by rw [HF.out]; rfl, O.out.drewN _⟩
        · have HE := Lib.hid (show xs.getD j [] = ys.getD j [] from HSE.out.1 (ByteArray.ext (Array.ext' (by have := beq_iff_eq.1 hs; rwa [byteArray_toList, byteArray_toList] at this))))
          have hs' : (sa.toList = sb.toList) = True := eq_true (beq_iff_eq.1 hs)
          go_wp2_with fail
          go_quiet (fail)
          go_wp2_with fail
          go_roundw
          case rel =>
            refine ⟨j + 1, by rw [wj]; rfl, by have := HJ.out; omega, fun q hq => ?_, O.out.drewN _⟩
            rcases Nat.lt_or_ge q j with h | h
            · exact HQ.out q h
            · obtain rfl : q = j := by omega
              exact HE.out
          case measure =>
            rw [wj]
            have := HJ.out
            simp only [Lib.intOf]
            omega
      · obtain rfl : j = N := by omega
        have HF := Lib.hid (show (xs == ys) = true from by
          rw [beq_iff_eq]
          exact list_eq HL.out fun q h => HQ.out q (by rw [HN.out]; exact h))
        have k1 : ¬ ((j : Int) < (j : Int)) := by omega
        clear ho hj hlt
        go_wp2_with fail
        go_ret
        exact ⟨by rw [HF.out]; rfl, O.out⟩
  · have l1 : (((xs.length : Nat) : Int) != (ys.length : Nat)) = true := by rw [bne_iff_ne]; omega
    have HF := Lib.hid (show (xs == ys) = false from by
      rw [beq_eq_false_iff_ne]
      intro e
      exact hl (by rw [e]))
    clear hl
    go_enter Try.func28, Try.ntmps28
    go_wp2_with fail
    go_ret
    exact ⟨by rw [HF.out]; rfl, Only.refl _ _⟩

end Go.Proofs.Ytbjnejnjlidiaaa.tsA
namespace Go.Proofs.Ytbjnejnjlidiaaa.tsB
open Go.RowKit kit numA numB numC numD numE numF numG numH numI tmA tmB tmC tmD tmE srcA trA trB trD prA prC prS prX tsA
set_option linter.unusedVariables false
set_option linter.unusedSimpArgs false

end Go.Proofs.Ytbjnejnjlidiaaa.tsB
namespace Go.Proofs.Ytbjnejnjlidiaaa.tsB
open Go.RowKit kit numA numB numC numD numE numF numG numH numI tmA tmB tmC tmD tmE srcA trA trB trD prA prC prS prX tsA
set_option linter.unusedVariables false
set_option linter.unusedSimpArgs false

end Go.Proofs.Ytbjnejnjlidiaaa.tsB
namespace Go.Proofs.Ytbjnejnjlidiaaa.tsB
open Go.RowKit kit numA numB numC numD numE numF numG numH numI tmA tmB tmC tmD tmE srcA trA trB trD prA prC prS prX tsA
set_option linter.unusedVariables false
set_option linter.unusedSimpArgs false

end Go.Proofs.Ytbjnejnjlidiaaa.tsB

