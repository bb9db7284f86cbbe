/- SkyNearest's walk. -/
import Derived.Test.YtmkpdnjdengcfaaSkyL
namespace Go.Proofs.Ytmkpdnjdengcfaa.skyM
open Go.RowKit Go.Lib Go.Proofs.Ytmkpdnjdengcfaa.kit Go.Proofs.Ytmkpdnjdengcfaa.floA Go.Proofs.Ytmkpdnjdengcfaa.skyA Go.Proofs.Ytmkpdnjdengcfaa.skyB Go.Proofs.Ytmkpdnjdengcfaa.skyC Go.Proofs.Ytmkpdnjdengcfaa.skyD Go.Proofs.Ytmkpdnjdengcfaa.skyE Go.Proofs.Ytmkpdnjdengcfaa.skyF Go.Proofs.Ytmkpdnjdengcfaa.skyK Go.Proofs.Ytmkpdnjdengcfaa.skyL
set_option linter.unusedVariables false
set_option linter.unusedSimpArgs false

theorem nearest_all (a : Option Addr) (cap : Nat) (m : List (Int × Int)) (x y : Int) (w : World) (h : Pts w a m) (hl : m.length ≤ 1000) (N E : Int) (hN : (good m = true ∧ inP 16777216 x y = true ∧ N = (best m x y m.length : Nat) ∧ E = 0) ∨ ((good m = false ∨ inP 16777216 x y = false) ∧ N = 0 ∧ E = 3)) :
    Calls Try.prog 19 #[.slice a m.length cap, pt x y] w fun e w' => e = .returned (.tuple #[.int .i64 N, .int .i64 E]) ∧ Only (fun _ => False) w w' := by
  rcases hN with ⟨h1, h2, rfl, rfl⟩ | ⟨h1, rfl, rfl⟩
  · exact nearest_good a cap m x y w h h1 h2
  · exact nearest_bad a cap m x y w h hl h1

theorem far_all (x y p q : Int) (w : World) (D F : Int) (hD : (inP 16777216 x y = true ∧ inP 16777216 p q = true ∧ D = far x y p q ∧ F = 0) ∨ ((inP 16777216 x y && inP 16777216 p q) = false ∧ D = 0 ∧ F = 3)) :
    Calls Try.prog 20 #[pt x y, pt p q] w fun e w' => e = .returned (.tuple #[.int .i64 D, .int .i64 F]) ∧ Only (fun _ => False) w w' := by
  rcases hD with ⟨h1, h2, rfl, rfl⟩ | ⟨h1, rfl, rfl⟩
  · exact far_good x y p q w h1 h2
  · exact far_bad x y p q w h1

set_option maxHeartbeats 1600000 in
theorem near_walk (a : Option Addr) (cap : Nat) (m : List (Int × Int)) (x y p q : Int) (w : World) (h : Pts w a m) :
    Calls Try.prog 4 #[.slice a m.length cap, pt x y, pt p q] w fun e w' => e = .returned (.bool true) ∧ Only (fun _ => False) w w' := by
  have o1 : Only (fun _ => False) w ((w.alloc (.cells #[.int .i64 x, .int .i64 y] 23)).alloc (.cells #[.int .i64 p, .int .i64 q] 23)) := ((Only.refl _ w).alloc _).alloc _
  have hB := heap_alloc_new (w.alloc (.cells #[.int .i64 x, .int .i64 y] 23)) (.cells #[.int .i64 p, .int .i64 q] 23)
  rw [World.size_alloc] at hB
  have HB2 := Lib.hid (show Box _ (w.heap.size + 1) p q 23 from hB)
  have HB1 := Lib.hid (show Box ((w.alloc (.cells #[.int .i64 x, .int .i64 y] 23)).alloc (.cells #[.int .i64 p, .int .i64 q] 23)) w.heap.size x y 23 from (Below.heap_alloc _ _ _ (by simp)).trans (heap_alloc_new w _))
  have HP := Lib.hid (h.keep o1)
  have O1 := Lib.hid o1
  have A := Lib.hid awake_true
  clear o1 hB h
  go_enter Try.func4, Try.ntmps4
  go_wp2_with fail
  generalize (w.alloc (.cells #[.int .i64 x, .int .i64 y] 23)).alloc (.cells #[.int .i64 p, .int .i64 q] 23) = W1 at HB1 HB2 HP O1 ⊢
  generalize w.heap.size = B at HB1 HB2 ⊢
  with_reducible refine (A.out _).mono ?_
  rintro e w1 ⟨rfl, o⟩
  have O := Lib.hid o
  clear o A
  by_cases g : 70 < m.length
  · have t1 : ((70 : Int) < (m.length : Int)) = True := eq_true (by omega)
    go_wp2_with fail
    go_ret
    exact ⟨rfl, O1.out.trans O.out⟩
  have t1 : ((70 : Int) < (m.length : Int)) = False := eq_false (by omega)
  have HL := Lib.hid g
  clear g
  obtain ⟨N, E, hN⟩ : ∃ N E : Int, (good m = true ∧ inP 16777216 x y = true ∧ N = (best m x y m.length : Nat) ∧ E = 0) ∨ ((good m = false ∨ inP 16777216 x y = false) ∧ N = 0 ∧ E = 3) := by
    cases h1 : good m
    · exact ⟨0, 3, .inr ⟨.inl rfl, rfl, rfl⟩⟩
    · cases h2 : inP 16777216 x y
      · exact ⟨0, 3, .inr ⟨.inr rfl, rfl, rfl⟩⟩
      · exact ⟨_, 0, .inl ⟨rfl, rfl, rfl, rfl⟩⟩
  obtain ⟨D, F, hD⟩ : ∃ D F : Int, (inP 16777216 x y = true ∧ inP 16777216 p q = true ∧ D = far x y p q ∧ F = 0) ∨ ((inP 16777216 x y && inP 16777216 p q) = false ∧ D = 0 ∧ F = 3) := by
    cases h1 : inP 16777216 x y
    · exact ⟨0, 3, .inr ⟨rfl, rfl, rfl⟩⟩
    · cases h2 : inP 16777216 p q
      · exact ⟨0, 3, .inr ⟨rfl, rfl, rfl⟩⟩
      · exact ⟨_, 0, .inl ⟨rfl, rfl, rfl, rfl⟩⟩
  have NA := Lib.hid (nearest_all a cap m x y w1 (HP.out.keep O.out) (by have := HL.out; omega) N E hN)
  have FA := Lib.hid (fun w' => far_all x y p q w' D F hD)
  have HN := Lib.hid hN
  have HD := Lib.hid hD
  clear hN hD
  obtain ⟨c0, c1⟩ := (HB1.out.keep O.out).cells
  go_wp2_with fail
  with_reducible refine NA.out.mono ?_
  rintro e w2 ⟨rfl, o⟩
  have O := Lib.hid (O.out.trans o)
  clear o c0 c1 NA
  obtain ⟨c0, c1⟩ := (HB1.out.keep O.out).cells
  obtain ⟨c2, c3⟩ := (HB2.out.keep O.out).cells
  go_wp2_with fail
  with_reducible refine (FA.out _).mono ?_
  rintro e w3 ⟨rfl, o⟩
  have O := Lib.hid (O.out.trans o)
  clear o c0 c1 c2 c3 FA
  have PA := Lib.hid (points_any a cap m w3 (HP.out.keep O.out) (by have := HL.out; omega))
  go_wp2_with fail
  with_reducible refine PA.out.mono ?_
  rintro e w4 ⟨⟨a', cap', rfl, hp⟩, o⟩
  have HQ := Lib.hid hp
  have O4 := Lib.hid (O.out.trans o)
  have R := Lib.hid (Only.refl (fun _ => False) w4)
  have HB1 := Lib.hid (HB1.out.keep O4.out)
  have HB2 := Lib.hid (HB2.out.keep O4.out)
  clear o hp PA O
  have HOf := Lib.hid of_any
  have HRR := Lib.hid refright_any
  have HM := Lib.hid (fun (w' : World) (o : Only (fun _ => False) w4 w') => masts_any a' cap' m w' (HQ.out.keep o))
  have HF := Lib.hid (reffar_any x y p q)
  obtain ⟨c0, c1⟩ := (HB1.out.keep R.out).cells
  go_wp2_with fail
  with_reducible refine (HOf.out _ _ _).mono ?_
  rintro e w5 ⟨rfl, o⟩
  have R := Lib.hid (R.out.trans o)
  clear o c0 c1
  go_wp2_with fail
  with_reducible refine (HRR.out _ _ _).mono ?_
  rintro e w6 ⟨rfl, o⟩
  have R := Lib.hid (R.out.trans o)
  clear o
  obtain ⟨c2, c3⟩ := (HB2.out.keep R.out).cells
  cases h1 : inP 16777216 x y
  · obtain ⟨rfl, rfl⟩ : D = 0 ∧ F = 3 := by
      rcases HD.out with ⟨q1, _⟩ | ⟨_, q2⟩
      · rw [h1] at q1; cases q1
      · exact q2
    obtain ⟨rfl, rfl⟩ : N = 0 ∧ E = 3 := by
      rcases HN.out with ⟨_, q1, _⟩ | ⟨_, q2⟩
      · rw [h1] at q1; cases q1
      · exact q2
    go_wp2_with fail
    with_reducible refine (HM.out _ R.out).mono ?_
    rintro e w7 ⟨rfl, o⟩
    have R := Lib.hid (R.out.trans o)
    clear o c2 c3
    obtain ⟨c0, c1⟩ := (HB1.out.keep R.out).cells
    cases hg : good m
    · go_wp2_with fail
      go_ret
      exact ⟨rfl, O1.out.trans (O4.out.trans R.out)⟩
    · go_wp2_with fail
      with_reducible refine (HOf.out _ _ _).mono ?_
      rintro e w8 ⟨rfl, o⟩
      have R := Lib.hid (R.out.trans o)
      clear o c0 c1
      go_wp2_with fail
      have HRx := Lib.hid (refright_any x y)
      rw [h1] at HRx
      with_reducible refine (HRx.out _).mono ?_
      rintro e w9 ⟨rfl, o⟩
      have R := Lib.hid (R.out.trans o)
      clear o
      go_wp2_with fail
      go_ret
      exact ⟨rfl, O1.out.trans (O4.out.trans R.out)⟩
  go_wp2_with fail
  with_reducible refine (HOf.out _ _ _).mono ?_
  rintro e w7 ⟨rfl, o⟩
  have R := Lib.hid (R.out.trans o)
  clear o c2 c3
  go_wp2_with fail
  with_reducible refine (HRR.out _ _ _).mono ?_
  rintro e w8 ⟨rfl, o⟩
  have R := Lib.hid (R.out.trans o)
  clear o
  cases h2 : inP 16777216 p q
  · obtain ⟨rfl, rfl⟩ : D = 0 ∧ F = 3 := by
      rcases HD.out with ⟨_, q1, _⟩ | ⟨_, q2⟩
      · rw [h2] at q1; cases q1
      · exact q2
    cases hg : good m
    · obtain ⟨rfl, rfl⟩ : N = 0 ∧ E = 3 := by
        rcases HN.out with ⟨q1, _⟩ | ⟨_, q2⟩
        · rw [hg] at q1; cases q1
        · exact q2
      go_wp2_with fail
      with_reducible refine (HM.out _ R.out).mono ?_
      rintro e w9 ⟨rfl, o⟩
      have R := Lib.hid (R.out.trans o)
      clear o
      go_wp2_with fail
      go_ret
      exact ⟨rfl, O1.out.trans (O4.out.trans R.out)⟩
    · obtain ⟨rfl, rfl⟩ : N = (best m x y m.length : Nat) ∧ E = 0 := by
        rcases HN.out with ⟨_, _, q2⟩ | ⟨q1, _⟩
        · exact q2
        · rcases q1 with q1 | q1
          · rw [hg] at q1; cases q1
          · rw [h1] at q1; cases q1
      have hgg : ok m = true ∧ 1 ≤ m.length ∧ m.length ≤ 64 := by
        have hg' := hg
        simp [good] at hg'
        exact ⟨hg'.1, by omega, by omega⟩
      have HRN := Lib.hid (fun (w' : World) (o : Only (fun _ => False) w4 w') => refnearest_any a' cap' m x y w' (HQ.out.keep o) (mids h1).1 (mids h1).2 hgg.1 hgg.2.1 hgg.2.2)
      generalize best m x y m.length = nb at HRN ⊢
      clear hgg
      go_wp2_with fail
      with_reducible refine (HM.out _ R.out).mono ?_
      rintro e w9 ⟨rfl, o⟩
      have R := Lib.hid (R.out.trans o)
      clear o
      obtain ⟨c0, c1⟩ := (HB1.out.keep R.out).cells
      go_wp2_with fail
      with_reducible refine (HOf.out _ _ _).mono ?_
      rintro e w10 ⟨rfl, o⟩
      have R := Lib.hid (R.out.trans o)
      clear o c0 c1
      have HRx := Lib.hid (refright_any x y)
      rw [h1] at HRx
      go_wp2_with fail
      with_reducible refine (HRx.out _).mono ?_
      rintro e w11 ⟨rfl, o⟩
      have R := Lib.hid (R.out.trans o)
      clear o HRx
      obtain ⟨c0, c1⟩ := (HB1.out.keep R.out).cells
      go_wp2_with fail
      with_reducible refine (HOf.out _ _ _).mono ?_
      rintro e w12 ⟨rfl, o⟩
      have R := Lib.hid (R.out.trans o)
      clear o c0 c1
      go_wp2_with fail
      with_reducible refine (HRN.out _ R.out).mono ?_
      rintro e w13 ⟨rfl, o⟩
      have R := Lib.hid (R.out.trans o)
      clear o
      go_wp2_with fail
      go_ret
      exact ⟨rfl, O1.out.trans (O4.out.trans R.out)⟩
  · obtain ⟨rfl, rfl⟩ : D = far x y p q ∧ F = 0 := by
      rcases HD.out with ⟨_, _, q2⟩ | ⟨q1, _⟩
      · exact q2
      · rw [h1, h2] at q1; cases q1
    have HF' := Lib.hid (fun w' => HF.out (mids h1).1 (mids h1).2 (mids h2).1 (mids h2).2 w')
    have K := Lib.hid (R.out.drew)
    have HOx := Lib.hid (of_any x y)
    have HOp := Lib.hid (of_any p q)
    obtain ⟨c0, c1⟩ := (HB1.out.keep R.out).cells
    obtain ⟨c2, c3⟩ := (HB2.out.keep R.out).cells
    generalize far x y p q = D at HF' ⊢
    go_wp2_with fail
    go_region_held3 (fun w' => w'.cell? ⟨B, 0, none⟩ = some (.int .i64 x) ∧ w'.cell? ⟨B, 1, none⟩ = some (.int .i64 y) ∧ w'.cell? ⟨B + 1, 0, none⟩ = some (.int .i64 p) ∧ w'.cell? ⟨B + 1, 1, none⟩ = some (.int .i64 q)) (first | exact ⟨(HB1.out.keep K.out).cells.1, (HB1.out.keep K.out).cells.2, (HB2.out.keep K.out).cells.1, (HB2.out.keep K.out).cells.2⟩)
      (first
        | (go_at_call_of 9 x; (with_reducible refine Calls.mono (HOx.out _) ?_); rintro e w9 ⟨rfl, o'⟩; have K := Lib.hid (K.out.trans o'); clear o')
        | (go_at_call_of 9 p; (with_reducible refine Calls.mono (HOp.out _) ?_); rintro e w9 ⟨rfl, o'⟩; have K := Lib.hid (K.out.trans o'); clear o')
        | (go_at_call 22; (with_reducible refine Calls.mono (HF'.out _) ?_); rintro e w9 ⟨rfl, o'⟩; have K := Lib.hid (K.out.trans o'); clear o'))
    all_goals
      have R := K
      clear K c0 c1 c2 c3
      cases hg : good m
      · obtain ⟨rfl, rfl⟩ : N = 0 ∧ E = 3 := by
          rcases HN.out with ⟨q1, _⟩ | ⟨_, q2⟩
          · rw [hg] at q1; cases q1
          · exact q2
        go_wp2_with fail
        with_reducible refine (HM.out _ R.out).mono ?_
        rintro e w9 ⟨rfl, o⟩
        have R := Lib.hid (R.out.trans o)
        clear o
        go_wp2_with fail
        go_ret
        exact ⟨rfl, O1.out.trans (O4.out.trans R.out)⟩
      · obtain ⟨rfl, rfl⟩ : N = (best m x y m.length : Nat) ∧ E = 0 := by
          rcases HN.out with ⟨_, _, q2⟩ | ⟨q1, _⟩
          · exact q2
          · rcases q1 with q1 | q1
            · rw [hg] at q1; cases q1
            · rw [h1] at q1; cases q1
        have hgg : ok m = true ∧ 1 ≤ m.length ∧ m.length ≤ 64 := by
          have hg' := hg
          simp [good] at hg'
          exact ⟨hg'.1, by omega, by omega⟩
        have HRN := Lib.hid (fun (w' : World) (o : Only (fun _ => False) w4 w') => refnearest_any a' cap' m x y w' (HQ.out.keep o) (mids h1).1 (mids h1).2 hgg.1 hgg.2.1 hgg.2.2)
        generalize best m x y m.length = nb at HRN ⊢
        clear hgg
        go_wp2_with fail
        with_reducible refine (HM.out _ R.out).mono ?_
        rintro e w9 ⟨rfl, o⟩
        have R := Lib.hid (R.out.trans o)
        clear o
        obtain ⟨c0, c1⟩ := (HB1.out.keep R.out).cells
        go_wp2_with fail
        with_reducible refine (HOf.out _ _ _).mono ?_
        rintro e w10 ⟨rfl, o⟩
        have R := Lib.hid (R.out.trans o)
        clear o c0 c1
        have HRx := Lib.hid (refright_any x y)
        rw [h1] at HRx
        go_wp2_with fail
        with_reducible refine (HRx.out _).mono ?_
        rintro e w11 ⟨rfl, o⟩
        have R := Lib.hid (R.out.trans o)
        clear o HRx
        obtain ⟨c0, c1⟩ := (HB1.out.keep R.out).cells
        go_wp2_with fail
        with_reducible refine (HOf.out _ _ _).mono ?_
        rintro e w12 ⟨rfl, o⟩
        have R := Lib.hid (R.out.trans o)
        clear o c0 c1
        go_wp2_with fail
        with_reducible refine (HRN.out _ R.out).mono ?_
        rintro e w13 ⟨rfl, o⟩
        have R := Lib.hid (R.out.trans o)
        clear o
        go_wp2_with fail
        go_ret
        exact ⟨rfl, O1.out.trans (O4.out.trans R.out)⟩
end Go.Proofs.Ytmkpdnjdengcfaa.skyM
