/- SkyAt's walk. -/
import Derived.Test.YtmkpdnjdengcfaaSkyU
namespace Go.Proofs.Ytmkpdnjdengcfaa.skyW
open Go.RowKit Go.Lib Go.Proofs.Ytmkpdnjdengcfaa.kit Go.Proofs.Ytmkpdnjdengcfaa.floA Go.Proofs.Ytmkpdnjdengcfaa.skyA Go.Proofs.Ytmkpdnjdengcfaa.skyB Go.Proofs.Ytmkpdnjdengcfaa.skyC Go.Proofs.Ytmkpdnjdengcfaa.skyD Go.Proofs.Ytmkpdnjdengcfaa.skyE Go.Proofs.Ytmkpdnjdengcfaa.skyF Go.Proofs.Ytmkpdnjdengcfaa.skyG Go.Proofs.Ytmkpdnjdengcfaa.skyH Go.Proofs.Ytmkpdnjdengcfaa.skyI Go.Proofs.Ytmkpdnjdengcfaa.skyL Go.Proofs.Ytmkpdnjdengcfaa.skyO Go.Proofs.Ytmkpdnjdengcfaa.skyP Go.Proofs.Ytmkpdnjdengcfaa.skyQ Go.Proofs.Ytmkpdnjdengcfaa.skyR Go.Proofs.Ytmkpdnjdengcfaa.skyS Go.Proofs.Ytmkpdnjdengcfaa.skyT Go.Proofs.Ytmkpdnjdengcfaa.skyU Go.Proofs.Ytmkpdnjdengcfaa.skyV
set_option linter.unusedVariables false
set_option linter.unusedSimpArgs false

set_option maxHeartbeats 3200000 in
theorem at_walk (x y : Int) (a : Option Addr) (cap : Nat) (l : List Leg3) (t q : Int) (w : World) (h : Lgs w a l) (hc : l.length ≤ cap) (h63 : t ≤ 9223372036854775807) :
    Calls Try.prog 3 #[rt x y a l.length cap, .int .i64 t, .int .i64 q] w fun e w' => e = .returned (.bool true) ∧ Only (fun _ => False) w w' := by
  have o1 : Only (fun _ => False) w (w.alloc (.cells #[.int .i64 x, .int .i64 y, .slice a l.length cap] 26)) := (Only.refl _ w).alloc _
  have HB := Lib.hid (show BoxR (w.alloc (.cells #[.int .i64 x, .int .i64 y, .slice a l.length cap] 26)) w.heap.size x y (.slice a l.length cap) from heap_alloc_new w _)
  have HP := Lib.hid (h.keep o1)
  have O1 := Lib.hid o1
  have HC := Lib.hid hc
  have H63 := Lib.hid h63
  have A := Lib.hid awake_true
  clear h o1 hc h63
  go_enter Try.func3, Try.ntmps3
  go_wp2_with fail
  generalize w.alloc (.cells #[.int .i64 x, .int .i64 y, .slice a l.length cap] 26) = W1 at HB HP O1 ⊢
  generalize w.heap.size = B at HB ⊢
  with_reducible refine (A.out _).mono ?_
  rintro e w2 ⟨rfl, o⟩
  have O := Lib.hid o
  clear o A
  obtain ⟨c0, c1, c2⟩ := (HB.out.keep O.out).cells
  by_cases g : 70 < l.length
  · have t1 : ((70 : Int) < (l.length : Int)) = True := eq_true (by omega)
    go_wp2_with fail
    go_ret
    exact ⟨rfl, O1.out.trans O.out⟩
  have t1 : ((70 : Int) < (l.length : Int)) = False := eq_false (by omega)
  have H70 := Lib.hid g
  have LA := Lib.hid (legs_any x y a cap l w2 (HP.out.keep O.out) (by omega))
  clear g
  go_wp2_with fail
  with_reducible refine LA.out.mono ?_
  rintro e w3 ⟨⟨a2, cap2, rfl, hl2⟩, o⟩
  have HL2 := Lib.hid hl2
  have O3 := Lib.hid o
  have O := Lib.hid (O.out.trans o)
  clear o hl2 LA c0 c1 c2
  obtain ⟨c0, c1, c2⟩ := (HB.out.keep O.out).cells
  go_wp2_with fail
  with_reducible refine (of_any x y _).mono ?_
  rintro e w4 ⟨rfl, o⟩
  have O := Lib.hid (O.out.trans o)
  have HL2 := Lib.hid (HL2.out.keep o)
  clear o c0 c1 c2 O3
  have RR := Lib.hid (refroutes_any x y a2 cap2 l w4 HL2.out (by have := H70.out; omega))
  go_wp2_with fail
  with_reducible refine RR.out.mono ?_
  rintro e w5 ⟨rfl, o⟩
  have O := Lib.hid (O.out.trans o)
  have HL2 := Lib.hid (HL2.out.keep o)
  clear o RR
  obtain ⟨c0, c1, c2⟩ := (HB.out.keep O.out).cells
  cases hr : routeOk x y l
  · have AF := Lib.hid (at_form x y a cap l t w5 (HP.out.keep O.out) (by have := H70.out; omega) hr)
    go_wp2_with fail
    with_reducible refine AF.out.mono ?_
    rintro e w6 ⟨rfl, o⟩
    have O := Lib.hid (O.out.trans o)
    clear o c0 c1 c2 AF
    have HP9 := Lib.hid (show Box (w6.alloc (.cells #[.int .i64 0, .int .i64 0] 23)) w6.heap.size 0 0 23 from heap_alloc_new w6 _)
    have O := Lib.hid (O.out.alloc (.cells #[.int .i64 0, .int .i64 0] 23))
    obtain ⟨c0, c1, c2⟩ := (HB.out.keep O.out).cells
    have TF := Lib.hid (turned_form x y a cap l q _ (HP.out.keep O.out) (by have := H70.out; omega) hr)
    go_wp2_with fail
    generalize w6.alloc (.cells #[.int .i64 0, .int .i64 0] 23) = w7 at HP9 O TF c0 c1 c2 ⊢
    generalize w6.heap.size = P9 at HP9 ⊢
    with_reducible refine TF.out.mono ?_
    rintro e w8 ⟨rfl, o⟩
    have O := Lib.hid (O.out.trans o)
    have HP9 := Lib.hid (HP9.out.keep o)
    clear o c0 c1 c2 TF
    have HP11 := Lib.hid (show BoxR (w8.alloc (.cells #[.int .i64 0, .int .i64 0, .slice none 0 0] 26)) w8.heap.size 0 0 (.slice none 0 0) from heap_alloc_new w8 _)
    have oa : Only (fun _ => False) w8 (w8.alloc (.cells #[.int .i64 0, .int .i64 0, .slice none 0 0] 26)) := (Only.refl _ w8).alloc _
    have O := Lib.hid (O.out.trans oa)
    have HP9 := Lib.hid (HP9.out.keep oa)
    clear oa
    go_wp2_with fail
    generalize w8.alloc (.cells #[.int .i64 0, .int .i64 0, .slice none 0 0] 26) = w9 at HP9 HP11 O ⊢
    generalize w8.heap.size = P11 at HP11 ⊢
    obtain ⟨c0, c1, c2⟩ := (HB.out.keep O.out).cells
    have R := Lib.hid (Only.drew (Only.refl (fun _ => False) w9))
    have E1 := Lib.hid (fun (w' : World) (o : Only (fun _ => False) w9 w') => routeright_any x y a cap l w' (HP.out.keep (O.out.trans o)) (by have := H70.out; omega))
    have E2 := Lib.hid (right_any x y)
    have E3 := Lib.hid (of_any x y)
    have E4 := Lib.hid (refright_any x y)
    rw [hr] at E1
    generalize inP 16777216 x y = bI at E2 E4
    go_region_held3 (fun w' => w'.cell? ⟨B, 0, none⟩ = some (.int .i64 x) ∧ w'.cell? ⟨B, 1, none⟩ = some (.int .i64 y) ∧ w'.cell? ⟨B, 2, none⟩ = some (.slice a l.length cap)) (first | exact (HB.out.keep (O.out.trans R.out)).cells)
      (first
        | (go_at_call 12; (with_reducible refine Calls.mono (E1.out _ R.out) ?_); rintro e w' ⟨rfl, o'⟩; have R := Lib.hid (R.out.trans o'); clear o')
        | (go_at_call 13; (with_reducible refine Calls.mono (E2.out _) ?_); rintro e w' ⟨rfl, o'⟩; have R := Lib.hid (R.out.trans o'); clear o')
        | (go_at_call 9; (with_reducible refine Calls.mono (E3.out _) ?_); rintro e w' ⟨rfl, o'⟩; have R := Lib.hid (R.out.trans o'); clear o')
        | (go_at_call 14; (with_reducible refine Calls.mono (E4.out _) ?_); rintro e w' ⟨rfl, o'⟩; have R := Lib.hid (R.out.trans o'); clear o'))
    all_goals
      clear c0 c1 c2
      obtain ⟨c0, c1, c2⟩ := (HB.out.keep (O.out.trans R.out)).cells
      obtain ⟨d0, d1⟩ := (HP9.out.keep R.out).cells
      obtain ⟨f0, f1, f2⟩ := (HP11.out.keep R.out).cells
      have LB := Lib.hid (length_bad x y a cap l _ (HP.out.keep (O.out.trans R.out)) (by have := H70.out; omega) hr)
      go_wp2_with fail
      with_reducible refine LB.out.mono ?_
      rintro e w' ⟨rfl, o'⟩
      have R := Lib.hid (R.out.trans o')
      clear o'
      go_wp2_with fail
      go_ret
      exact ⟨rfl, O1.out.trans (O.out.trans R.out)⟩
  · obtain ⟨N, hN⟩ : ∃ N, N = qn q := ⟨_, rfl⟩
    obtain ⟨PX, hPX⟩ : ∃ P, P = if t < 0 then 0 else posX x l t := ⟨_, rfl⟩
    obtain ⟨PY, hPY⟩ : ∃ P, P = if t < 0 then 0 else posY y l t := ⟨_, rfl⟩
    obtain ⟨EC, hEC⟩ : ∃ E : Int, E = if t < 0 then 2 else 0 := ⟨_, rfl⟩
    obtain ⟨X0, hX0⟩ : ∃ X, X = (tX x y N).1 := ⟨_, rfl⟩
    obtain ⟨Y0, hY0⟩ : ∃ Y, Y = (tX x y N).2 := ⟨_, rfl⟩
    have AG : Calls Try.prog 10 #[rt x y a l.length cap, .int .i64 t] w5 fun e w' => e = .returned (.tuple #[pt PX PY, .int .i64 EC]) ∧ Only (fun _ => False) w5 w' := by
      by_cases g : t < 0
      · rw [hPX, hPY, hEC, if_pos g, if_pos g, if_pos g]
        exact at_arg x y a cap l t w5 (HP.out.keep O.out) hr g
      · rw [hPX, hPY, hEC, if_neg g, if_neg g, if_neg g]
        exact at_good x y a cap l t w5 (HP.out.keep O.out) HC.out hr (by omega) H63.out
    have AG := Lib.hid AG
    have HPE := Lib.hid (And.intro hPX (And.intro hPY hEC))
    have TG := Lib.hid (fun (w' : World) (o : Only (fun _ => False) w5 w') => turned_good x y a cap l q w' (HP.out.keep (O.out.trans o)) hr)
    rw [← hN, ← hX0, ← hY0] at TG
    have HTR : Hid (routeOk X0 Y0 (tlegs N l) = true) := Lib.hid (by rw [hX0, hY0, route_turn]; exact hr)
    have HPT : Hid (posX X0 (tlegs N l) t = (tX (posX x l t) (posY y l t) N).1 ∧ posY Y0 (tlegs N l) t = (tX (posX x l t) (posY y l t) N).2) := Lib.hid (by rw [hX0, hY0]; exact pos_turn N x y l t)
    have HRT := Lib.hid hr
    have HNq := Lib.hid hN
    clear hPX hPY hEC hX0 hY0 hN
    go_wp2_with fail
    with_reducible refine AG.out.mono ?_
    rintro e w6 ⟨rfl, o⟩
    have OA := Lib.hid o
    clear o c0 c1 c2 AG
    have HP9 := Lib.hid (show Box (w6.alloc (.cells #[.int .i64 PX, .int .i64 PY] 23)) w6.heap.size PX PY 23 from heap_alloc_new w6 _)
    have OA := Lib.hid (OA.out.alloc (.cells #[.int .i64 PX, .int .i64 PY] 23))
    obtain ⟨c0, c1, c2⟩ := (HB.out.keep (O.out.trans OA.out)).cells
    go_wp2_with fail
    generalize w6.alloc (.cells #[.int .i64 PX, .int .i64 PY] 23) = w7 at HP9 OA c0 c1 c2 ⊢
    generalize w6.heap.size = P9 at HP9 ⊢
    with_reducible refine (TG.out _ OA.out).mono ?_
    rintro e w8 ⟨⟨a3, cap3, rfl, hl3, hc3⟩, o⟩
    have HL2 := Lib.hid (HL2.out.keep (OA.out.trans o))
    have O := Lib.hid (O.out.trans (OA.out.trans o))
    have HP9 := Lib.hid (HP9.out.keep o)
    have HL3 := Lib.hid hl3
    have HC3 := Lib.hid hc3
    clear o c0 c1 c2 TG OA hl3 hc3
    have HP11 := Lib.hid (show BoxR (w8.alloc (.cells #[.int .i64 X0, .int .i64 Y0, .slice a3 l.length cap3] 26)) w8.heap.size X0 Y0 (.slice a3 l.length cap3) from heap_alloc_new w8 _)
    have oa : Only (fun _ => False) w8 (w8.alloc (.cells #[.int .i64 X0, .int .i64 Y0, .slice a3 l.length cap3] 26)) := (Only.refl _ w8).alloc _
    have O := Lib.hid (O.out.trans oa)
    have HP9 := Lib.hid (HP9.out.keep oa)
    have HL2 := Lib.hid (HL2.out.keep oa)
    have HL3 := Lib.hid (HL3.out.keep oa)
    clear oa
    go_wp2_with fail
    generalize w8.alloc (.cells #[.int .i64 X0, .int .i64 Y0, .slice a3 l.length cap3] 26) = w9 at HP9 HP11 HL2 HL3 O ⊢
    generalize w8.heap.size = P11 at HP11 ⊢
    obtain ⟨c0, c1, c2⟩ := (HB.out.keep O.out).cells
    have R := Lib.hid (Only.drew (Only.refl (fun _ => False) w9))
    have E1 := Lib.hid (fun (w' : World) (o : Only (fun _ => False) w9 w') => routeright_any x y a cap l w' (HP.out.keep (O.out.trans o)) (by have := H70.out; omega))
    have E2 := Lib.hid (right_any x y)
    have E3 := Lib.hid (of_any x y)
    have E4 := Lib.hid (refright_any x y)
    rw [hr] at E1
    generalize inP 16777216 x y = bI at E2 E4
    clear hr
    go_region_held3 (fun w' => w'.cell? ⟨B, 0, none⟩ = some (.int .i64 x) ∧ w'.cell? ⟨B, 1, none⟩ = some (.int .i64 y) ∧ w'.cell? ⟨B, 2, none⟩ = some (.slice a l.length cap)) (first | exact (HB.out.keep (O.out.trans R.out)).cells)
      (first
        | (go_at_call 12; (with_reducible refine Calls.mono (E1.out _ R.out) ?_); rintro e w' ⟨rfl, o'⟩; have R := Lib.hid (R.out.trans o'); clear o')
        | (go_at_call 13; (with_reducible refine Calls.mono (E2.out _) ?_); rintro e w' ⟨rfl, o'⟩; have R := Lib.hid (R.out.trans o'); clear o')
        | (go_at_call 9; (with_reducible refine Calls.mono (E3.out _) ?_); rintro e w' ⟨rfl, o'⟩; have R := Lib.hid (R.out.trans o'); clear o')
        | (go_at_call 14; (with_reducible refine Calls.mono (E4.out _) ?_); rintro e w' ⟨rfl, o'⟩; have R := Lib.hid (R.out.trans o'); clear o'))
    all_goals
      clear c0 c1 c2 E1 E2 E3 E4
      obtain ⟨c0, c1, c2⟩ := (HB.out.keep (O.out.trans R.out)).cells
      obtain ⟨f0, f1, f2⟩ := (HP11.out.keep R.out).cells
      go_wp2_with fail
      have E5 := Lib.hid (fun (w' : World) (o : Only (fun _ => False) w9 w') => length_good x y a cap l w' (HP.out.keep (O.out.trans o)) HRT.out)
      have E6 := Lib.hid (fun (w' : World) (o : Only (fun _ => False) w9 w') => length_good X0 Y0 a3 cap3 (tlegs N l) w' (HL3.out.keep o) HTR.out)
      rw [tlegs_len, sm_turn N l l.length (Nat.le_refl _)] at E6
      have E7 := Lib.hid (fun (w' : World) (o : Only (fun _ => False) w9 w') => reflength_any a2 cap2 x y l w' (HL2.out.keep o) HRT.out)
      have K := Lib.hid (Only.drew R.out)
      generalize sm l l.length = SL at E5 E6 E7
      go_region_held3 (fun w' => w'.cell? ⟨B, 0, none⟩ = some (.int .i64 x) ∧ w'.cell? ⟨B, 1, none⟩ = some (.int .i64 y) ∧ w'.cell? ⟨B, 2, none⟩ = some (.slice a l.length cap) ∧ w'.cell? ⟨P11, 0, none⟩ = some (.int .i64 X0) ∧ w'.cell? ⟨P11, 1, none⟩ = some (.int .i64 Y0) ∧ w'.cell? ⟨P11, 2, none⟩ = some (.slice a3 l.length cap3)) (first | exact ⟨(HB.out.keep (O.out.trans K.out)).cells.1, (HB.out.keep (O.out.trans K.out)).cells.2.1, (HB.out.keep (O.out.trans K.out)).cells.2.2, (HP11.out.keep K.out).cells⟩)
        (first
          | (go_at_call_of 15 x; (with_reducible refine Calls.mono (E5.out _ K.out) ?_); rintro e w' ⟨rfl, o'⟩; have K := Lib.hid (K.out.trans o'); clear o')
          | (go_at_call_of 15 X0; (with_reducible refine Calls.mono (E6.out _ K.out) ?_); rintro e w' ⟨rfl, o'⟩; have K := Lib.hid (K.out.trans o'); clear o')
          | (go_at_call 16; (with_reducible refine Calls.mono (E7.out _ K.out) ?_); rintro e w' ⟨rfl, o'⟩; have K := Lib.hid (K.out.trans o'); clear o'))
      all_goals
        clear c0 c1 c2 f0 f1 f2 E5 E6 E7 R
        by_cases g : t < 0
        · have t2 : (t < 0) = True := eq_true g
          obtain ⟨e1, e2, e3⟩ := HPE.out
          rw [if_pos g] at e1 e2 e3
          subst e1 e2 e3
          obtain ⟨d0, d1⟩ := (HP9.out.keep K.out).cells
          clear g
          go_wp2_with fail
          go_ret
          exact ⟨rfl, O1.out.trans (O.out.trans K.out)⟩
        · have t2 : (t < 0) = False := eq_false g
          obtain ⟨e1, e2, e3⟩ := HPE.out
          rw [if_neg g] at e1 e2 e3
          rw [← e1, ← e2] at HPT
          subst e3
          have hpm := pmid (route_parts HRT.out).1 (route_parts HRT.out).2.2 (show 0 ≤ t by omega) (Nat.le_refl l.length)
          rw [show pX x l t l.length = PX from e1.symm, show pY y l t l.length = PY from e2.symm] at hpm
          have TU := Lib.hid (turn_any PX PY q hpm.1 hpm.2)
          rw [← HNq.out, ← HPT.out.1, ← HPT.out.2] at TU
          obtain ⟨d0, d1⟩ := (HP9.out.keep K.out).cells
          obtain ⟨f0, f1, f2⟩ := (HP11.out.keep K.out).cells
          have AT := Lib.hid (at_good X0 Y0 a3 cap3 (tlegs N l) t _ (HL3.out.keep K.out) (by rw [tlegs_len]; exact HC3.out) HTR.out (by omega) H63.out)
          rw [tlegs_len] at AT
          generalize posX X0 (tlegs N l) t = QX at AT TU
          generalize posY Y0 (tlegs N l) t = QY at AT TU
          have RA := Lib.hid (fun (w' : World) (o : Only (fun _ => False) w9 w') => refat_any x y a2 cap2 l t w' (HL2.out.keep o) HRT.out (by omega) H63.out)
          rw [← e1, ← e2] at RA
          clear e1 e2 hpm g HPE HPT
          go_wp2_with fail
          with_reducible refine AT.out.mono ?_
          rintro e w10 ⟨rfl, o⟩
          have K := Lib.hid (K.out.trans o)
          have HQ := Lib.hid (show Box (w10.alloc (.cells #[.int .i64 QX, .int .i64 QY] 23)) w10.heap.size QX QY 23 from heap_alloc_new w10 _)
          have K := Lib.hid (K.out.alloc (.cells #[.int .i64 QX, .int .i64 QY] 23))
          clear o d0 d1 f0 f1 f2 AT
          obtain ⟨c0, c1, c2⟩ := (HB.out.keep (O.out.trans K.out)).cells
          go_wp2_with fail
          generalize w10.alloc (.cells #[.int .i64 QX, .int .i64 QY] 23) = w11 at HQ K c0 c1 c2 ⊢
          generalize w10.heap.size = P13 at HQ ⊢
          with_reducible refine (of_any x y _).mono ?_
          rintro e w12 ⟨rfl, o⟩
          have K := Lib.hid (K.out.trans o)
          have HQ := Lib.hid (HQ.out.keep o)
          clear o c0 c1 c2
          go_wp2_with fail
          with_reducible refine (RA.out _ K.out).mono ?_
          rintro e w13 ⟨rfl, o⟩
          have K := Lib.hid (K.out.trans o)
          have HQ := Lib.hid (HQ.out.keep o)
          have HW := Lib.hid (show Box (w13.alloc (.cells #[.int .i64 PX, .int .i64 PY] 31)) w13.heap.size PX PY 31 from heap_alloc_new w13 _)
          have oa : Only (fun _ => False) w13 (w13.alloc (.cells #[.int .i64 PX, .int .i64 PY] 31)) := (Only.refl _ w13).alloc _
          have K := Lib.hid (K.out.trans oa)
          have HQ := Lib.hid (HQ.out.keep oa)
          have HP9 := Lib.hid (HP9.out.keep K.out)
          clear o oa RA
          have F1 := Lib.hid (of_any PX PY)
          have F2 := Lib.hid (of_any QX QY)
          go_wp2_with fail
          generalize w13.alloc (.cells #[.int .i64 PX, .int .i64 PY] 31) = w14 at HQ HW HP9 K ⊢
          generalize w13.heap.size = P15 at HW ⊢
          have M := Lib.hid (Only.drew (Only.refl (fun _ => False) w14))
          go_region_held3 (fun w' => w'.cell? ⟨P9, 0, none⟩ = some (.int .i64 PX) ∧ w'.cell? ⟨P9, 1, none⟩ = some (.int .i64 PY) ∧ w'.cell? ⟨P13, 0, none⟩ = some (.int .i64 QX) ∧ w'.cell? ⟨P13, 1, none⟩ = some (.int .i64 QY) ∧ w'.cell? ⟨P15, 0, none⟩ = some (.int .i64 PX) ∧ w'.cell? ⟨P15, 1, none⟩ = some (.int .i64 PY)) (first | exact ⟨(HP9.out.keep M.out).cells.1, (HP9.out.keep M.out).cells.2, (HQ.out.keep M.out).cells.1, (HQ.out.keep M.out).cells.2, (HW.out.keep M.out).cells⟩)
            (first
              | (go_at_call_of 9 PX; (with_reducible refine Calls.mono (F1.out _) ?_); rintro e w' ⟨rfl, o'⟩; have M := Lib.hid (M.out.trans o'); clear o')
              | (go_at_call_of 9 QX; (with_reducible refine Calls.mono (F2.out _) ?_); rintro e w' ⟨rfl, o'⟩; have M := Lib.hid (M.out.trans o'); clear o')
              | (go_at_call 18; (with_reducible refine Calls.mono (TU.out _) ?_); rintro e w' ⟨rfl, o'⟩; have M := Lib.hid (M.out.trans o'); clear o'))
          all_goals
            go_wp2_with fail
            go_ret
            exact ⟨rfl, O1.out.trans (O.out.trans (K.out.trans M.out))⟩
end Go.Proofs.Ytmkpdnjdengcfaa.skyW
