/- Roam: the law's own: is it heavy? is it awake? -/
import Derived.Test.YtklcanjlkmkmmaaRmC
namespace Go.Proofs.Ytklcanjlkmkmmaa.rmN
open Go.RowKit Go.Proofs.Ytklcanjlkmkmmaa.kit Go.Proofs.Ytklcanjlkmkmmaa.floA Go.Proofs.Ytklcanjlkmkmmaa.skyA Go.Proofs.Ytklcanjlkmkmmaa.skyB Go.Proofs.Ytklcanjlkmkmmaa.skyC Go.Proofs.Ytklcanjlkmkmmaa.skyD Go.Proofs.Ytklcanjlkmkmmaa.skyE Go.Proofs.Ytklcanjlkmkmmaa.skyF Go.Proofs.Ytklcanjlkmkmmaa.skyG Go.Proofs.Ytklcanjlkmkmmaa.skyH Go.Proofs.Ytklcanjlkmkmmaa.skyI Go.Proofs.Ytklcanjlkmkmmaa.skyK Go.Proofs.Ytklcanjlkmkmmaa.skyO Go.Proofs.Ytklcanjlkmkmmaa.skyP Go.Proofs.Ytklcanjlkmkmmaa.skyQ Go.Proofs.Ytklcanjlkmkmmaa.skyT Go.Proofs.Ytklcanjlkmkmmaa.rmA Go.Proofs.Ytklcanjlkmkmmaa.rmB Go.Proofs.Ytklcanjlkmkmmaa.rmC
set_option linter.unusedVariables false
set_option linter.unusedSimpArgs false

set_option maxHeartbeats 800000 in
theorem awake_true (w : World) : Calls Try.prog 4 #[] w fun e w' => e = .returned (.bool true) ∧ w' = w := by
  have AD := Lib.hid (address_good 2 3 (by omega) (by omega))
  go_enter Try.func4, Try.ntmps4
  go_wp2_with fail
  with_reducible refine (AD.out _).mono ?_
  rintro e w2 ⟨rfl, rfl⟩
  go_wp2_with fail
  go_ret
  exact ⟨by simp, rfl⟩

def light (m : List (Int × Int)) (rs : List Rt) : Prop := m.length ≤ 70 ∧ rs.length ≤ 10 ∧ ∀ k, k < rs.length → (rr rs k).l.length ≤ 70

set_option maxHeartbeats 800000 in
theorem heavy_any (ma : Option Addr) (mcap : Nat) (m : List (Int × Int)) (ra : Option Addr) (rcap : Nat) (rs : List Rt) (w : World) (hr : Rts w ra rs) :
    Calls Try.prog 5 #[jn ma m.length mcap ra rs.length rcap] w fun e w' => (∃ b, e = .returned (.bool b) ∧ (b = false → light m rs)) ∧ Only (fun _ => False) w w' := by
  have o1 : Only (fun _ => False) w (w.alloc (.cells #[.slice ma m.length mcap, .slice ra rs.length rcap] 25)) := (Only.refl _ w).alloc _
  have HB := Lib.hid (show BoxJ (w.alloc (.cells #[.slice ma m.length mcap, .slice ra rs.length rcap] 25)) w.heap.size (.slice ma m.length mcap) (.slice ra rs.length rcap) from heap_alloc_new w _)
  have HR := Lib.hid (hr.keep o1)
  have O1 := Lib.hid o1
  clear hr o1
  obtain ⟨c0, c1⟩ := HB.out.cells
  go_enter Try.func5, Try.ntmps5
  by_cases g : 70 < m.length
  · have t1 : ((70 : Int) < (m.length : Int)) = True := eq_true (by omega)
    go_wp2_with fail
    go_ret
    exact ⟨⟨true, by simp, fun h => by cases h⟩, O1.out⟩
  have t1 : ((70 : Int) < (m.length : Int)) = False := eq_false (by omega)
  by_cases g2 : 10 < rs.length
  · have t2 : ((10 : Int) < (rs.length : Int)) = True := eq_true (by omega)
    go_wp2_with fail
    go_ret
    exact ⟨⟨true, by simp, fun h => by cases h⟩, O1.out⟩
  have t2 : ((10 : Int) < (rs.length : Int)) = False := eq_false (by omega)
  go_wp2_with fail
  generalize w.alloc (.cells #[.slice ma m.length mcap, .slice ra rs.length rcap] 25) = W1 at HB HR O1 c0 c1 ⊢
  generalize w.heap.size = B at HB c0 c1 ⊢
  clear c0 c1
  go_loopw [3] (fun i wr => ∃ k : Nat, k ≤ rs.length ∧ i = .int .i64 k ∧ (∀ j, j < k → (rr rs j).l.length ≤ 70) ∧ Only (fun _ => False) W1 wr) (fun i _ => rs.length - (intOf i).toNat)
  case atStart => exact ⟨0, Nat.zero_le _, rfl, fun j h => absurd h (Nat.not_lt_zero j), Only.refl _ _⟩
  case round =>
    obtain ⟨k, hk, rfl, hl, o⟩ := hrel
    have R := Lib.hid o
    have LK := Lib.hid hl
    clear o hl
    obtain ⟨c0, c1⟩ := (HB.out.keep R.out).cells
    by_cases hlt : k < rs.length
    · have k1 : ((k : Int) < (rs.length : Int)) = True := eq_true (by omega)
      have k1n : ((k : Int) < (rs.length : Int)) := by omega
      have k0n : (0 : Int) ≤ (k : Int) := by omega
      have WK := Lib.hid (wrap_succ hlt (by unfold maxLen; omega))
      obtain ⟨b, off, rfl, hb, d0, d1, d2, _⟩ := (HR.out.keep R.out).at hlt
      have HLT := Lib.hid hlt
      clear hlt hb
      by_cases h7 : 70 < (rr rs k).l.length
      · have t3 : ((70 : Int) < ((rr rs k).l.length : Int)) = True := eq_true (by omega)
        go_wp2_with fail
        go_ret
        exact ⟨⟨true, by simp, fun h => by cases h⟩, O1.out.trans R.out⟩
      · have t3 : ((70 : Int) < ((rr rs k).l.length : Int)) = False := eq_false (by omega)
        have HN := Lib.hid (show (rr rs k).l.length ≤ 70 by omega)
        have wk := WK.out
        clear h7
        go_wp2_with fail
        clear wk
        go_roundw
        case rel => exact ⟨k + 1, HLT.out, by first | (rw [WK.out]; go_num) | go_num, fun j hj => by
          rcases Nat.lt_or_eq_of_le (Nat.le_of_lt_succ hj) with h | h
          · exact LK.out j h
          · rw [h]; exact HN.out, R.out⟩
        case measure => first | exact meas WK.out HLT.out | exact meas rfl HLT.out
    · have k1 : ((k : Int) < (rs.length : Int)) = False := eq_false (by omega)
      have e : k = rs.length := by omega
      subst e
      go_wp2_with fail
      go_ret
      exact ⟨⟨false, by simp, fun _ => ⟨by omega, by omega, LK.out⟩⟩, O1.out.trans R.out⟩
end Go.Proofs.Ytklcanjlkmkmmaa.rmN
