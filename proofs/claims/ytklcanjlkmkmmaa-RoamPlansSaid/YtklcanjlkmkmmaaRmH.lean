/- Roam: a plan's errors. -/
import Derived.Test.YtklcanjlkmkmmaaRmC
namespace Go.Proofs.Ytklcanjlkmkmmaa.rmH
open Go.RowKit Go.Proofs.Ytklcanjlkmkmmaa.kit Go.Proofs.Ytklcanjlkmkmmaa.floA Go.Proofs.Ytklcanjlkmkmmaa.skyA Go.Proofs.Ytklcanjlkmkmmaa.skyB Go.Proofs.Ytklcanjlkmkmmaa.skyC Go.Proofs.Ytklcanjlkmkmmaa.skyD Go.Proofs.Ytklcanjlkmkmmaa.skyE Go.Proofs.Ytklcanjlkmkmmaa.skyF Go.Proofs.Ytklcanjlkmkmmaa.skyG Go.Proofs.Ytklcanjlkmkmmaa.skyH Go.Proofs.Ytklcanjlkmkmmaa.skyI Go.Proofs.Ytklcanjlkmkmmaa.skyK Go.Proofs.Ytklcanjlkmkmmaa.skyO Go.Proofs.Ytklcanjlkmkmmaa.skyP Go.Proofs.Ytklcanjlkmkmmaa.skyQ Go.Proofs.Ytklcanjlkmkmmaa.skyT Go.Proofs.Ytklcanjlkmkmmaa.rmA Go.Proofs.Ytklcanjlkmkmmaa.rmB Go.Proofs.Ytklcanjlkmkmmaa.rmC
set_option linter.unusedVariables false
set_option linter.unusedSimpArgs false

set_option maxHeartbeats 800000 in
theorem plan_form (ma : Option Addr) (mcap : Nat) (m : List (Int × Int)) (ra : Option Addr) (rcap : Nat) (rs : List Rt) (U : Int) (w : World) (hm : Pts w ma m) (hml : m.length ≤ 1000) (hr : Rts w ra rs) (hrl : rs.length ≤ 1000) (hll : ∀ k, k < rs.length → (rr rs k).l.length ≤ 1000) (hj : jOk m rs = false) :
    Calls Try.prog 8 #[jn ma m.length mcap ra rs.length rcap, .int .i64 U] w fun e w' => e = .returned (.tuple #[.slice none 0 0, .int .i64 3]) ∧ Only (fun _ => False) w w' := by
  have o1 : Only (fun _ => False) w (w.alloc (.cells #[.slice ma m.length mcap, .slice ra rs.length rcap] 25)) := (Only.refl _ w).alloc _
  have HB := Lib.hid (show BoxJ (w.alloc (.cells #[.slice ma m.length mcap, .slice ra rs.length rcap] 25)) w.heap.size (.slice ma m.length mcap) (.slice ra rs.length rcap) from heap_alloc_new w _)
  have JR := Lib.hid (jright_any ma mcap m ra rcap rs _ (hm.keep o1) hml (hr.keep o1) hrl hll)
  have O1 := Lib.hid o1
  rw [hj] at JR
  clear hm hml hr hrl hll o1 hj
  go_enter Try.func8, Try.ntmps8
  go_wp2_with fail
  generalize w.alloc (.cells #[.slice ma m.length mcap, .slice ra rs.length rcap] 25) = W1 at HB JR O1 ⊢
  generalize w.heap.size = B at HB ⊢
  with_reducible refine JR.out.mono ?_
  rintro e w2 ⟨rfl, o⟩
  have O := Lib.hid o
  obtain ⟨c0, c1⟩ := (HB.out.keep o).cells
  clear o JR
  go_wp2_with fail
  exact bodyPost_ret (v := .tuple #[.slice none 0 0, .int .i64 3]) (by simp [results, Try.results8, go_sem]) rfl ⟨rfl, O1.out.trans O.out⟩

set_option maxHeartbeats 800000 in
theorem plan_arg (ma : Option Addr) (mcap : Nat) (m : List (Int × Int)) (ra : Option Addr) (rcap : Nat) (rs : List Rt) (U : Int) (w : World) (hm : Pts w ma m) (hml : m.length ≤ 1000) (hr : Rts w ra rs) (hrl : rs.length ≤ 1000) (hll : ∀ k, k < rs.length → (rr rs k).l.length ≤ 1000) (hj : jOk m rs = true) (hU : U < 0 ∨ 1000 < U) :
    Calls Try.prog 8 #[jn ma m.length mcap ra rs.length rcap, .int .i64 U] w fun e w' => e = .returned (.tuple #[.slice none 0 0, .int .i64 2]) ∧ Only (fun _ => False) w w' := by
  have o1 : Only (fun _ => False) w (w.alloc (.cells #[.slice ma m.length mcap, .slice ra rs.length rcap] 25)) := (Only.refl _ w).alloc _
  have HB := Lib.hid (show BoxJ (w.alloc (.cells #[.slice ma m.length mcap, .slice ra rs.length rcap] 25)) w.heap.size (.slice ma m.length mcap) (.slice ra rs.length rcap) from heap_alloc_new w _)
  have JR := Lib.hid (jright_any ma mcap m ra rcap rs _ (hm.keep o1) hml (hr.keep o1) hrl hll)
  have O1 := Lib.hid o1
  have HU := Lib.hid hU
  rw [hj] at JR
  clear hm hml hr hrl hll o1 hj hU
  go_enter Try.func8, Try.ntmps8
  go_wp2_with fail
  generalize w.alloc (.cells #[.slice ma m.length mcap, .slice ra rs.length rcap] 25) = W1 at HB JR O1 ⊢
  generalize w.heap.size = B at HB ⊢
  with_reducible refine JR.out.mono ?_
  rintro e w2 ⟨rfl, o⟩
  have O := Lib.hid o
  obtain ⟨c0, c1⟩ := (HB.out.keep o).cells
  clear o JR
  by_cases g : U < 0
  · have t1 : (U < 0) = True := eq_true g
    go_wp2_with fail
    exact bodyPost_ret (v := .tuple #[.slice none 0 0, .int .i64 2]) (by simp [results, Try.results8, go_sem]) rfl ⟨rfl, O1.out.trans O.out⟩
  · have t1 : (U < 0) = False := eq_false g
    have t2 : (1000 < U) = True := eq_true (by have := HU.out; omega)
    go_wp2_with fail
    exact bodyPost_ret (v := .tuple #[.slice none 0 0, .int .i64 2]) (by simp [results, Try.results8, go_sem]) rfl ⟨rfl, O1.out.trans O.out⟩
end Go.Proofs.Ytklcanjlkmkmmaa.rmH
