/- sky: Nearest, Far; the chapter's example. -/
import Derived.Test.YtmkpdnjdengcfaaSkyJ
namespace Go.Proofs.Ytmkpdnjdengcfaa.skyK
open Go.RowKit Go.Lib Go.Proofs.Ytmkpdnjdengcfaa.kit Go.Proofs.Ytmkpdnjdengcfaa.floA Go.Proofs.Ytmkpdnjdengcfaa.skyA Go.Proofs.Ytmkpdnjdengcfaa.skyB Go.Proofs.Ytmkpdnjdengcfaa.skyC Go.Proofs.Ytmkpdnjdengcfaa.skyD Go.Proofs.Ytmkpdnjdengcfaa.skyE Go.Proofs.Ytmkpdnjdengcfaa.skyF Go.Proofs.Ytmkpdnjdengcfaa.skyG Go.Proofs.Ytmkpdnjdengcfaa.skyH Go.Proofs.Ytmkpdnjdengcfaa.skyI Go.Proofs.Ytmkpdnjdengcfaa.skyJ
set_option linter.unusedVariables false
set_option linter.unusedSimpArgs false

theorem mids {x y : Int} (h : inP 16777216 x y = true) : Mid x ∧ Mid y := by
  have := inP_iff.1 h
  exact ⟨⟨this.1, this.2.1⟩, this.2.2⟩

theorem nearest_good (a : Option Addr) (cap : Nat) (m : List (Int × Int)) (x y : Int) (w : World) (h : Pts w a m) (hg : good m = true) (hi : inP 16777216 x y = true) :
    Calls Try.prog 19 #[.slice a m.length cap, pt x y] w fun e w' => e = .returned (.tuple #[.int .i64 (best m x y m.length : Nat), .int .i64 0]) ∧ Only (fun _ => False) w w' := by
  have hq : ok m = true ∧ 1 ≤ m.length ∧ m.length ≤ 64 := by
    simp [good] at hg
    exact ⟨hg.1, by omega, by omega⟩
  have o1 : Only (fun _ => False) w (w.alloc (.cells #[.int .i64 x, .int .i64 y] 23)) := (Only.refl _ w).alloc _
  have HN := Lib.hid (numbers_good a cap m _ (h.keep o1) hg)
  have HB := Lib.hid (show Box (w.alloc (.cells #[.int .i64 x, .int .i64 y] 23)) w.heap.size x y 23 from heap_alloc_new w _)
  have O1 := Lib.hid o1
  have HR := Lib.hid (right_any x y)
  have HD := Lib.hid (number_det x y)
  have HI := Lib.hid hi
  have HQ := Lib.hid hq
  clear h hg o1 hq hi
  go_enter Try.func19, Try.ntmps19
  go_wp2_with fail
  with_reducible refine HN.out.mono ?_
  rintro e w2 ⟨⟨nb, ncap, rfl, hns⟩, o⟩
  have O2 := Lib.hid o
  have HNs := Lib.hid hns
  obtain ⟨c0, c1⟩ := (HB.out.keep o).cells
  clear o hns
  rw [HI.out] at HR
  go_wp2_with fail
  with_reducible refine (HR.out _).mono ?_
  rintro e w3 ⟨rfl, o⟩
  have O3 := Lib.hid (O2.out.trans o)
  have HN3 := Lib.hid (HNs.out.keep o)
  obtain ⟨c0, c1⟩ := (HB.out.keep O3.out).cells
  clear o HNs
  go_wp2_with fail
  with_reducible refine (HD.out _).mono ?_
  rintro e w4 ⟨rfl, o⟩
  have O4 := Lib.hid (O3.out.trans o)
  obtain ⟨m0, m1⟩ := mids HI.out
  have NE := Lib.hid (nearest_any nb 0 ncap m (fl x) (fl y) x y w4 (HN3.out.keep o) (fl_mid m0) (fl_mid m1) m0 m1 HQ.out.1 HQ.out.2.1 HQ.out.2.2)
  clear o m0 m1
  go_wp2_with fail
  with_reducible refine NE.out.mono ?_
  rintro e w5 ⟨rfl, o⟩
  have O5 := Lib.hid (O4.out.trans o)
  clear o
  go_wp2_with fail
  exact bodyPost_ret (v := .tuple #[.int .i64 (best m x y m.length : Nat), .int .i64 0]) (by simp [results, Try.results19, go_sem]) rfl ⟨rfl, O1.out.trans O5.out⟩

theorem nearest_bad (a : Option Addr) (cap : Nat) (m : List (Int × Int)) (x y : Int) (w : World) (h : Pts w a m) (hl : m.length ≤ 1000) (hb : good m = false ∨ inP 16777216 x y = false) :
    Calls Try.prog 19 #[.slice a m.length cap, pt x y] w fun e w' => e = .returned (.tuple #[.int .i64 0, .int .i64 3]) ∧ Only (fun _ => False) w w' := by
  have o1 : Only (fun _ => False) w (w.alloc (.cells #[.int .i64 x, .int .i64 y] 23)) := (Only.refl _ w).alloc _
  have HG := Lib.hid (fun hg => numbers_good a cap m _ (h.keep o1) hg)
  have HBd := Lib.hid (fun hg => numbers_bad a cap m _ (h.keep o1) hl hg)
  have HB := Lib.hid (show Box (w.alloc (.cells #[.int .i64 x, .int .i64 y] 23)) w.heap.size x y 23 from heap_alloc_new w _)
  have O1 := Lib.hid o1
  have HR := Lib.hid (right_any x y)
  have HI := Lib.hid hb
  clear h o1 hb hl
  go_enter Try.func19, Try.ntmps19
  go_wp2_with fail
  cases hg : good m
  · with_reducible refine (HBd.out hg).mono ?_
    rintro e w2 ⟨rfl, o⟩
    have O2 := Lib.hid o
    clear o
    go_wp2_with fail
    exact bodyPost_ret (v := .tuple #[.int .i64 0, .int .i64 3]) (by simp [results, Try.results19, go_sem]) rfl ⟨rfl, O1.out.trans O2.out⟩
  · with_reducible refine (HG.out hg).mono ?_
    rintro e w2 ⟨⟨nb, ncap, rfl, hns⟩, o⟩
    have O2 := Lib.hid o
    obtain ⟨c0, c1⟩ := (HB.out.keep o).cells
    have hi : inP 16777216 x y = false := by
      rcases HI.out with h | h
      · rw [hg] at h; cases h
      · exact h
    rw [hi] at HR
    clear o hns hi HI
    go_wp2_with fail
    with_reducible refine (HR.out _).mono ?_
    rintro e w3 ⟨rfl, o⟩
    have O3 := Lib.hid (O2.out.trans o)
    clear o
    go_wp2_with fail
    exact bodyPost_ret (v := .tuple #[.int .i64 0, .int .i64 3]) (by simp [results, Try.results19, go_sem]) rfl ⟨rfl, O1.out.trans O3.out⟩

theorem far_bad (x y p q : Int) (w : World) (hb : (inP 16777216 x y && inP 16777216 p q) = false) :
    Calls Try.prog 20 #[pt x y, pt p q] w fun e w' => e = .returned (.tuple #[.int .i64 0, .int .i64 3]) ∧ Only (fun _ => False) w w' := by
  have o1 : Only (fun _ => False) w ((w.alloc (.cells #[.int .i64 x, .int .i64 y] 23)).alloc (.cells #[.int .i64 p, .int .i64 q] 23)) := ((Only.refl _ w).alloc _).alloc _
  have hB := heap_alloc_new (w.alloc (.cells #[.int .i64 x, .int .i64 y] 23)) (.cells #[.int .i64 p, .int .i64 q] 23)
  rw [World.size_alloc] at hB
  have HB := Lib.hid (show Box _ (w.heap.size + 1) p q 23 from hB)
  have O1 := Lib.hid o1
  have HR := Lib.hid (right_any x y)
  have HR2 := Lib.hid (right_any p q)
  have HI := Lib.hid hb
  clear o1 hb hB
  go_enter Try.func20, Try.ntmps20
  go_wp2_with fail
  cases h1 : inP 16777216 x y
  · rw [h1] at HR
    with_reducible refine (HR.out _).mono ?_
    rintro e w2 ⟨rfl, o⟩
    have O2 := Lib.hid o
    clear o
    go_wp2_with fail
    exact bodyPost_ret (v := .tuple #[.int .i64 0, .int .i64 3]) (by simp [results, Try.results20, go_sem]) rfl ⟨rfl, O1.out.trans O2.out⟩
  · have h2 : inP 16777216 p q = false := by
      have := HI.out
      rw [h1] at this
      exact this
    rw [h1] at HR
    rw [h2] at HR2
    with_reducible refine (HR.out _).mono ?_
    rintro e w2 ⟨rfl, o⟩
    have O2 := Lib.hid o
    obtain ⟨c0, c1⟩ := (HB.out.keep o).cells
    clear o h1 h2
    go_wp2_with fail
    with_reducible refine (HR2.out _).mono ?_
    rintro e w3 ⟨rfl, o⟩
    have O3 := Lib.hid (O2.out.trans o)
    clear o
    go_wp2_with fail
    exact bodyPost_ret (v := .tuple #[.int .i64 0, .int .i64 3]) (by simp [results, Try.results20, go_sem]) rfl ⟨rfl, O1.out.trans O3.out⟩

theorem far_good (x y p q : Int) (w : World) (h1 : inP 16777216 x y = true) (h2 : inP 16777216 p q = true) :
    Calls Try.prog 20 #[pt x y, pt p q] w fun e w' => e = .returned (.tuple #[.int .i64 (far x y p q), .int .i64 0]) ∧ Only (fun _ => False) w w' := by
  have o1 : Only (fun _ => False) w ((w.alloc (.cells #[.int .i64 x, .int .i64 y] 23)).alloc (.cells #[.int .i64 p, .int .i64 q] 23)) := ((Only.refl _ w).alloc _).alloc _
  have hB := heap_alloc_new (w.alloc (.cells #[.int .i64 x, .int .i64 y] 23)) (.cells #[.int .i64 p, .int .i64 q] 23)
  rw [World.size_alloc] at hB
  have HB2 := Lib.hid (show Box _ (w.heap.size + 1) p q 23 from hB)
  have HB1 := Lib.hid (show Box ((w.alloc (.cells #[.int .i64 x, .int .i64 y] 23)).alloc (.cells #[.int .i64 p, .int .i64 q] 23)) w.heap.size x y 23 from (Below.heap_alloc _ _ _ (by simp)).trans (heap_alloc_new w _))
  have O1 := Lib.hid o1
  have HR := Lib.hid (right_any x y)
  have HR2 := Lib.hid (right_any p q)
  have HD := Lib.hid (number_det x y)
  have HD2 := Lib.hid (number_det p q)
  rw [h1] at HR
  rw [h2] at HR2
  obtain ⟨m0, m1⟩ := mids h1
  obtain ⟨m2, m3⟩ := mids h2
  obtain ⟨r, fr, hC⟩ := square_same (fl x) (fl y) (fl p) (fl q) x y p q (fl_mid m0) (fl_mid m1) (fl_mid m2) (fl_mid m3) m0 m1 m2 m3
  have cv := fun w => run_convert_float_int (P := Try.prog) w 74 3 .f64 .i64 r _ (by kernel_rfl) Try.underlying3 (int_fl fr (by have := sq_small m0 m2; have := sq_small m1 m3; rw [far]; omega))
  have HC := Lib.hid hC
  clear o1 hB h1 h2 m0 m1 m2 m3 fr hC
  go_enter Try.func20, Try.ntmps20
  go_wp2_with fail
  generalize (w.alloc (.cells #[.int .i64 x, .int .i64 y] 23)).alloc (.cells #[.int .i64 p, .int .i64 q] 23) = W1 at HB1 HB2 O1 ⊢
  generalize w.heap.size = B at HB1 HB2 ⊢
  with_reducible refine (HR.out _).mono ?_
  rintro e w2 ⟨rfl, o⟩
  have O2 := Lib.hid o
  obtain ⟨c0, c1⟩ := (HB2.out.keep o).cells
  clear o
  go_wp2_with fail
  with_reducible refine (HR2.out _).mono ?_
  rintro e w3 ⟨rfl, o⟩
  have O3 := Lib.hid (O2.out.trans o)
  have R := Lib.hid (O3.out.drew)
  clear o c0 c1
  obtain ⟨c0, c1⟩ := (HB1.out.keep O3.out).cells
  obtain ⟨c2, c3⟩ := (HB2.out.keep O3.out).cells
  go_wp2_with fail
  go_region_held3 (fun w' => w'.cell? ⟨B, 0, none⟩ = some (.int .i64 x) ∧ w'.cell? ⟨B, 1, none⟩ = some (.int .i64 y) ∧ w'.cell? ⟨B + 1, 0, none⟩ = some (.int .i64 p) ∧ w'.cell? ⟨B + 1, 1, none⟩ = some (.int .i64 q)) (first | exact ⟨(HB1.out.keep R.out).cells.1, (HB1.out.keep R.out).cells.2, (HB2.out.keep R.out).cells.1, (HB2.out.keep R.out).cells.2⟩)
    (first
      | (go_at_call_of 27 x; (with_reducible refine Calls.mono (HD.out _) ?_); rintro e w7 ⟨rfl, o'⟩; have R := Lib.hid (R.out.trans o'); clear o')
      | (go_at_call_of 27 p; (with_reducible refine Calls.mono (HD2.out _) ?_); rintro e w7 ⟨rfl, o'⟩; have R := Lib.hid (R.out.trans o'); clear o')
      | (go_at_call 34; (with_reducible refine Calls.mono (HC.out _) ?_); rintro e w7 ⟨rfl, rfl⟩))
  all_goals
    go_wp2_with fail
    exact bodyPost_ret (v := .tuple #[.int .i64 (far x y p q), .int .i64 0]) (by simp [results, Try.results20, go_sem]) rfl ⟨rfl, O1.out.trans R.out⟩
end Go.Proofs.Ytmkpdnjdengcfaa.skyK
