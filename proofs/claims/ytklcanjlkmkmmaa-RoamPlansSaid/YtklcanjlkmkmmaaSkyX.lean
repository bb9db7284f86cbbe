/- sky: Changes, where there is an error. -/
import Derived.Test.YtklcanjlkmkmmaaSkyJ
namespace Go.Proofs.Ytklcanjlkmkmmaa.skyX
open Go.RowKit Go.Lib Go.Proofs.Ytklcanjlkmkmmaa.kit Go.Proofs.Ytklcanjlkmkmmaa.floA Go.Proofs.Ytklcanjlkmkmmaa.skyA Go.Proofs.Ytklcanjlkmkmmaa.skyB Go.Proofs.Ytklcanjlkmkmmaa.skyC Go.Proofs.Ytklcanjlkmkmmaa.skyD Go.Proofs.Ytklcanjlkmkmmaa.skyE Go.Proofs.Ytklcanjlkmkmmaa.skyF Go.Proofs.Ytklcanjlkmkmmaa.skyG Go.Proofs.Ytklcanjlkmkmmaa.skyH Go.Proofs.Ytklcanjlkmkmmaa.skyI Go.Proofs.Ytklcanjlkmkmmaa.skyJ
set_option linter.unusedVariables false
set_option linter.unusedSimpArgs false

theorem changes_form (ma : Option Addr) (mcap : Nat) (m : List (Int × Int)) (x y : Int) (a : Option Addr) (cap : Nat) (l : List Leg3) (U : Int) (w : World) (hm : Pts w ma m) (hml : m.length ≤ 1000) (hl : Lgs w a l) (hll : l.length ≤ 1000) (hb : (good m && routeOk x y l) = false) :
    Calls Try.prog 18 #[.slice ma m.length mcap, rt x y a l.length cap, .int .i64 U] w fun e w' => e = .returned (.tuple #[.slice none 0 0, .int .i64 3]) ∧ Only (fun _ => False) w w' := by
  have o1 : Only (fun _ => False) w (w.alloc (.cells #[.int .i64 x, .int .i64 y, .slice a l.length cap] 53)) := (Only.refl _ w).alloc _
  have HG := Lib.hid (fun hg => numbers_good ma mcap m _ (hm.keep o1) hg)
  have HBd := Lib.hid (fun hg => numbers_bad ma mcap m _ (hm.keep o1) hml hg)
  have HL := Lib.hid (hl.keep o1)
  have HLL := Lib.hid hll
  have HI := Lib.hid hb
  have O1 := Lib.hid o1
  have HB := Lib.hid (show BoxR (w.alloc (.cells #[.int .i64 x, .int .i64 y, .slice a l.length cap] 53)) w.heap.size x y (.slice a l.length cap) from heap_alloc_new w _)
  clear hm hml hl hll hb o1
  go_enter Try.func18, Try.ntmps18
  go_wp2_with fail
  cases hg : good m
  · with_reducible refine (HBd.out hg).mono ?_
    rintro e w2 ⟨rfl, o⟩
    have O2 := Lib.hid o
    clear o
    go_wp2_with fail
    exact bodyPost_ret (v := .tuple #[.slice none 0 0, .int .i64 3]) (by simp [results, Try.results18, go_sem]) rfl ⟨rfl, O1.out.trans O2.out⟩
  · have hr : routeOk x y l = false := by
      have := HI.out
      rw [hg] at this
      exact this
    with_reducible refine (HG.out hg).mono ?_
    rintro e w2 ⟨⟨nb, ncap, rfl, hns⟩, o⟩
    have O2 := Lib.hid o
    have RR := Lib.hid (routeright_any x y a cap l w2 (HL.out.keep o) HLL.out)
    obtain ⟨c0, c1, c2⟩ := (HB.out.keep o).cells
    rw [hr] at RR
    clear o hns hr
    go_wp2_with fail
    with_reducible refine RR.out.mono ?_
    rintro e w3 ⟨rfl, o⟩
    have O3 := Lib.hid (O2.out.trans o)
    clear o
    go_wp2_with fail
    exact bodyPost_ret (v := .tuple #[.slice none 0 0, .int .i64 3]) (by simp [results, Try.results18, go_sem]) rfl ⟨rfl, O1.out.trans O3.out⟩

theorem changes_arg (ma : Option Addr) (mcap : Nat) (m : List (Int × Int)) (x y : Int) (a : Option Addr) (cap : Nat) (l : List Leg3) (U : Int) (w : World) (hm : Pts w ma m) (hl : Lgs w a l) (hll : l.length ≤ 1000) (hg : good m = true) (hr : routeOk x y l = true) (hU : U < 0 ∨ 100000 < U) :
    Calls Try.prog 18 #[.slice ma m.length mcap, rt x y a l.length cap, .int .i64 U] w fun e w' => e = .returned (.tuple #[.slice none 0 0, .int .i64 2]) ∧ Only (fun _ => False) w w' := by
  have o1 : Only (fun _ => False) w (w.alloc (.cells #[.int .i64 x, .int .i64 y, .slice a l.length cap] 53)) := (Only.refl _ w).alloc _
  have HG := Lib.hid (numbers_good ma mcap m _ (hm.keep o1) hg)
  have HL := Lib.hid (hl.keep o1)
  have HLL := Lib.hid hll
  have O1 := Lib.hid o1
  have HR := Lib.hid hr
  have HU := Lib.hid hU
  have HB := Lib.hid (show BoxR (w.alloc (.cells #[.int .i64 x, .int .i64 y, .slice a l.length cap] 53)) w.heap.size x y (.slice a l.length cap) from heap_alloc_new w _)
  clear hm hl hll o1 hg hr hU
  go_enter Try.func18, Try.ntmps18
  go_wp2_with fail
  with_reducible refine HG.out.mono ?_
  rintro e w2 ⟨⟨nb, ncap, rfl, hns⟩, o⟩
  have O2 := Lib.hid o
  have RR := Lib.hid (routeright_any x y a cap l w2 (HL.out.keep o) HLL.out)
  obtain ⟨c0, c1, c2⟩ := (HB.out.keep o).cells
  rw [HR.out] at RR
  clear o hns
  go_wp2_with fail
  with_reducible refine RR.out.mono ?_
  rintro e w3 ⟨rfl, o⟩
  have O3 := Lib.hid (O2.out.trans o)
  clear o
  by_cases g : U < 0
  · have g1 : (U < 0) = True := eq_true g
    go_wp2_with fail
    exact bodyPost_ret (v := .tuple #[.slice none 0 0, .int .i64 2]) (by simp [results, Try.results18, go_sem]) rfl ⟨rfl, O1.out.trans O3.out⟩
  · have g1 : (U < 0) = False := eq_false g
    have g2 : (100000 < U) = True := eq_true (by have := HU.out; omega)
    go_wp2_with fail
    exact bodyPost_ret (v := .tuple #[.slice none 0 0, .int .i64 2]) (by simp [results, Try.results18, go_sem]) rfl ⟨rfl, O1.out.trans O3.out⟩
end Go.Proofs.Ytklcanjlkmkmmaa.skyX
