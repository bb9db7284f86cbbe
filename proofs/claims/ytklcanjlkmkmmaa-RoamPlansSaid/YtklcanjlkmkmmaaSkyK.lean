/- sky: Nearest, Far; the chapter's example. -/
import Derived.Test.YtklcanjlkmkmmaaSkyJ
namespace Go.Proofs.Ytklcanjlkmkmmaa.skyK
open Go.RowKit Go.Lib Go.Proofs.Ytklcanjlkmkmmaa.kit Go.Proofs.Ytklcanjlkmkmmaa.floA Go.Proofs.Ytklcanjlkmkmmaa.skyA Go.Proofs.Ytklcanjlkmkmmaa.skyB Go.Proofs.Ytklcanjlkmkmmaa.skyC Go.Proofs.Ytklcanjlkmkmmaa.skyD Go.Proofs.Ytklcanjlkmkmmaa.skyE Go.Proofs.Ytklcanjlkmkmmaa.skyF Go.Proofs.Ytklcanjlkmkmmaa.skyG Go.Proofs.Ytklcanjlkmkmmaa.skyH Go.Proofs.Ytklcanjlkmkmmaa.skyI Go.Proofs.Ytklcanjlkmkmmaa.skyJ
set_option linter.unusedVariables false
set_option linter.unusedSimpArgs false

theorem mids {x y : Int} (h : inP 16777216 x y = true) : Mid x ∧ Mid y := by
  have := inP_iff.1 h
  exact ⟨⟨this.1, this.2.1⟩, this.2.2⟩

theorem nearest_good (a : Option Addr) (cap : Nat) (m : List (Int × Int)) (x y : Int) (w : World) (h : Pts w a m) (hg : good m = true) (hi : inP 16777216 x y = true) :
    Calls Try.prog 20 #[.slice a m.length cap, pt x y] w fun e w' => e = .returned (.tuple #[.int .i64 (best m x y m.length : Nat), .int .i64 0]) ∧ Only (fun _ => False) w w' := by
  have hq : ok m = true ∧ 1 ≤ m.length ∧ m.length ≤ 64 := by
    simp [good] at hg
    exact ⟨hg.1, by omega, by omega⟩
  have o1 : Only (fun _ => False) w (w.alloc (.cells #[.int .i64 x, .int .i64 y] 50)) := (Only.refl _ w).alloc _
  have HN := Lib.hid (numbers_good a cap m _ (h.keep o1) hg)
  have HB := Lib.hid (show Box (w.alloc (.cells #[.int .i64 x, .int .i64 y] 50)) w.heap.size x y 50 from heap_alloc_new w _)
  have O1 := Lib.hid o1
  have HR := Lib.hid (right_any x y)
  have HD := Lib.hid (number_det x y)
  have HI := Lib.hid hi
  have HQ := Lib.hid hq
  clear h hg o1 hq hi
  go_enter Try.func20, Try.ntmps20
  go_wp2_with fail
  with_reducible refine HN.out.mono ?_
  rintro e w2 ⟨⟨nb, ncap, rfl, hns⟩, o⟩
  have O2 := Lib.hid o
  have HNs := Lib.hid hns
  obtain ⟨c0, c1⟩ := (HB.out.keep o).cells
  clear o hns
  rw [HI.out] at HR
  go_wp2_with fail
  with_reducible refine (HR.out _).mono ?_
  rintro e w3 ⟨rfl, o⟩
  have O3 := Lib.hid (O2.out.trans o)
  have HN3 := Lib.hid (HNs.out.keep o)
  obtain ⟨c0, c1⟩ := (HB.out.keep O3.out).cells
  clear o HNs
  go_wp2_with fail
  with_reducible refine (HD.out _).mono ?_
  rintro e w4 ⟨rfl, o⟩
  have O4 := Lib.hid (O3.out.trans o)
  obtain ⟨m0, m1⟩ := mids HI.out
  have NE := Lib.hid (nearest_any nb 0 ncap m (fl x) (fl y) x y w4 (HN3.out.keep o) (fl_mid m0) (fl_mid m1) m0 m1 HQ.out.1 HQ.out.2.1 HQ.out.2.2)
  clear o m0 m1
  go_wp2_with fail
  with_reducible refine NE.out.mono ?_
  rintro e w5 ⟨rfl, o⟩
  have O5 := Lib.hid (O4.out.trans o)
  clear o
  go_wp2_with fail
  exact bodyPost_ret (v := .tuple #[.int .i64 (best m x y m.length : Nat), .int .i64 0]) (by simp [results, Try.results20, go_sem]) rfl ⟨rfl, O1.out.trans O5.out⟩

theorem nearest_bad (a : Option Addr) (cap : Nat) (m : List (Int × Int)) (x y : Int) (w : World) (h : Pts w a m) (hl : m.length ≤ 1000) (hb : good m = false ∨ inP 16777216 x y = false) :
    Calls Try.prog 20 #[.slice a m.length cap, pt x y] w fun e w' => e = .returned (.tuple #[.int .i64 0, .int .i64 3]) ∧ Only (fun _ => False) w w' := by
  have o1 : Only (fun _ => False) w (w.alloc (.cells #[.int .i64 x, .int .i64 y] 50)) := (Only.refl _ w).alloc _
  have HG := Lib.hid (fun hg => numbers_good a cap m _ (h.keep o1) hg)
  have HBd := Lib.hid (fun hg => numbers_bad a cap m _ (h.keep o1) hl hg)
  have HB := Lib.hid (show Box (w.alloc (.cells #[.int .i64 x, .int .i64 y] 50)) w.heap.size x y 50 from heap_alloc_new w _)
  have O1 := Lib.hid o1
  have HR := Lib.hid (right_any x y)
  have HI := Lib.hid hb
  clear h o1 hb hl
  go_enter Try.func20, Try.ntmps20
  go_wp2_with fail
  cases hg : good m
  · with_reducible refine (HBd.out hg).mono ?_
    rintro e w2 ⟨rfl, o⟩
    have O2 := Lib.hid o
    clear o
    go_wp2_with fail
    exact bodyPost_ret (v := .tuple #[.int .i64 0, .int .i64 3]) (by simp [results, Try.results20, go_sem]) rfl ⟨rfl, O1.out.trans O2.out⟩
  · with_reducible refine (HG.out hg).mono ?_
    rintro e w2 ⟨⟨nb, ncap, rfl, hns⟩, o⟩
    have O2 := Lib.hid o
    obtain ⟨c0, c1⟩ := (HB.out.keep o).cells
    have hi : inP 16777216 x y = false := by
      rcases HI.out with h | h
      · rw [hg] at h; cases h
      · exact h
    rw [hi] at HR
    clear o hns hi HI
    go_wp2_with fail
    with_reducible refine (HR.out _).mono ?_
    rintro e w3 ⟨rfl, o⟩
    have O3 := Lib.hid (O2.out.trans o)
    clear o
    go_wp2_with fail
    exact bodyPost_ret (v := .tuple #[.int .i64 0, .int .i64 3]) (by simp [results, Try.results20, go_sem]) rfl ⟨rfl, O1.out.trans O3.out⟩
end Go.Proofs.Ytklcanjlkmkmmaa.skyK
