/- RoamPlans: the law's walk. -/
import Derived.Test.YtklcanjlkmkmmaaRmS
import Derived.Test.YtklcanjlkmkmmaaRmN
import Derived.Test.YtklcanjlkmkmmaaRmM
import Derived.Test.YtklcanjlkmkmmaaRmF
import Derived.Deep.RegionHeld3
namespace Go.Proofs.Ytklcanjlkmkmmaa.rmS
open Go.RowKit Go.Lib Go.Proofs.Ytklcanjlkmkmmaa.kit Go.Proofs.Ytklcanjlkmkmmaa.floA Go.Proofs.Ytklcanjlkmkmmaa.skyA Go.Proofs.Ytklcanjlkmkmmaa.skyB Go.Proofs.Ytklcanjlkmkmmaa.skyC Go.Proofs.Ytklcanjlkmkmmaa.skyD Go.Proofs.Ytklcanjlkmkmmaa.skyE Go.Proofs.Ytklcanjlkmkmmaa.skyG Go.Proofs.Ytklcanjlkmkmmaa.rmA Go.Proofs.Ytklcanjlkmkmmaa.rmB Go.Proofs.Ytklcanjlkmkmmaa.rmC Go.Proofs.Ytklcanjlkmkmmaa.rmD Go.Proofs.Ytklcanjlkmkmmaa.rmF Go.Proofs.Ytklcanjlkmkmmaa.rmH Go.Proofs.Ytklcanjlkmkmmaa.rmK Go.Proofs.Ytklcanjlkmkmmaa.rmM Go.Proofs.Ytklcanjlkmkmmaa.rmN Go.Proofs.Ytklcanjlkmkmmaa.rmO Go.Proofs.Ytklcanjlkmkmmaa.rmQ
set_option linter.unusedVariables false
set_option linter.unusedSimpArgs false

set_option maxRecDepth 100000 in
set_option maxHeartbeats 1600000 in
theorem plans_none_good (ma : Option Addr) (mcap : Nat) (m : List (Int × Int)) (ra : Option Addr) (rcap : Nat) (rs : List Rt) (U h t : Int) (w : World) (hm : Pts w ma m) (hr : Rts w ra rs) (hcp : ∀ k, k < rs.length → (rr rs k).l.length ≤ (rr rs k).cap) (hU : U ≤ 60 ∨ 1000 < U) (ht : t ≤ 9223372036854775807) (hj : jOk m rs = true) (hh : h < 0 ∨ (rs.length : Int) ≤ h) (u : Nat) (hUu : U = u) (hu : u ≤ 1000) :
    Calls Try.prog 3 #[jn ma m.length mcap ra rs.length rcap, .int .i64 U, .int .i64 h, .int .i64 t] w (Done w) := by
  have o1 : Only (fun _ => False) w (w.alloc (.cells #[.slice ma m.length mcap, .slice ra rs.length rcap] 25)) := (Only.refl _ w).alloc _
  have HB := Lib.hid (show BoxJ (w.alloc (.cells #[.slice ma m.length mcap, .slice ra rs.length rcap] 25)) w.heap.size (.slice ma m.length mcap) (.slice ra rs.length rcap) from heap_alloc_new w _)
  have HR := Lib.hid (hr.keep o1)
  have HM := Lib.hid (hm.keep o1)
  have HC := Lib.hid hcp
  have HU := Lib.hid hU
  have HTt := Lib.hid ht
  have O1 := Lib.hid o1
  have AW := Lib.hid awake_true
  have a12 : (60 < U ∧ U ≤ 1000) = False := eq_false (by omega)
  have A1 : ((60 : Int) < U) = True ∨ ((60 : Int) < U) = False := by
    by_cases q : (60 : Int) < U
    · exact .inl (eq_true q)
    · exact .inr (eq_false q)
  have A2 : ((60 : Int) < U) = True → (U ≤ 1000) = False := fun q => eq_false (by have := of_eq_true q; omega)
  have AA := Lib.hid (And.intro A1 A2)
  clear hm hr hcp hU ht o1 a12 A1 A2
  have HJ := Lib.hid hj
  have HH := Lib.hid hh
  have HUU := Lib.hid hu
  subst hUu
  clear hj hh hu
  go_enter Try.func3, Try.ntmps3
  go_wp2_with fail
  generalize w.alloc (.cells #[.slice ma m.length mcap, .slice ra rs.length rcap] 25) = W1 at HB HR HM O1 ⊢
  generalize w.heap.size = B at HB ⊢
  (with_reducible refine (AW.out _).mono ?_)
  rintro e w2 ⟨rfl, hw⟩
  obtain rfl : W1 = w2 := hw.symm
  obtain ⟨c0, c1⟩ := HB.out.cells
  have HV := Lib.hid (heavy_any ma mcap m ra rcap rs W1 HR.out)
  clear AW
  go_wp2_with fail
  (with_reducible refine HV.out.mono ?_)
  rintro e w2 ⟨⟨b, rfl, hb⟩, o⟩
  have O2 := Lib.hid o
  have HBL := Lib.hid hb
  clear o hb c0 c1 HV
  cases b
  rotate_left
  · go_wp2_with fail
    go_ret
    exact ⟨rfl, O1.out.trans O2.out⟩
  obtain ⟨c0, c1⟩ := (HB.out.keep O2.out).cells
  have LT := Lib.hid (HBL.out rfl)
  have AS := Lib.hid (as_any ma mcap m ra rcap rs w2 (HM.out.keep O2.out) LT.out.1 (HR.out.keep O2.out) LT.out.2.1 LT.out.2.2)
  clear HBL
  obtain ⟨A1, A2⟩ := AA.out
  rcases A1 with a1 | a1
  rotate_left
  all_goals (first | have a2 := A2 a1 | skip)
  all_goals clear A2 AA
  all_goals go_wp2_with fail
  all_goals
    (with_reducible refine AS.out.mono ?_)
    rintro e w3 ⟨⟨ma', mcap', ra', rcap', rs', rfl, hm', hr', lk⟩, o⟩
    have hlen := lk.len
    have O3 := Lib.hid (O2.out.trans o)
    have L3 := Lib.hid (And.intro (show m.length ≤ 1000 by have := LT.out.1; omega) (And.intro (show rs.length ≤ 1000 by have := LT.out.2.1; omega) (show ∀ k, k < rs.length → (rr rs k).l.length ≤ 1000 from fun k hk => by have := LT.out.2.2 k hk; omega)))
    have L3' := Lib.hid (And.intro (show rs'.length ≤ 1000 by rw [hlen]; exact L3.out.2.1) (show ∀ k, k < rs'.length → (rr rs' k).l.length ≤ 1000 from fun k hk => by rw [(lk.all k).2.2]; exact L3.out.2.2 k (hlen ▸ hk)))
    have HM' := Lib.hid hm'
    have HR' := Lib.hid hr'
    have LK := Lib.hid lk
    have HLN := Lib.hid hlen
    have RR := Lib.hid (refjright_any ma' mcap' m ra' rcap' rs' w3 hm' hr' L3'.out.1 L3'.out.2)
    rw [lk.jOk m] at RR
    clear hm' hr' lk o AS c0 c1 hlen
    go_wp2_with fail
    (with_reducible refine RR.out.mono ?_)
    rintro e w4 ⟨rfl, o⟩
    have O4 := Lib.hid (O3.out.trans o)
    have o34 := o
    clear RR
    obtain ⟨c0, c1⟩ := (HB.out.keep O4.out).cells
    have HM4 := Lib.hid (HM'.out.keep o)
    have HR4 := Lib.hid (HR'.out.keep o)
    clear o o34
    have PP := Lib.hid (plan_good ma mcap m ra rcap rs u w4 (HM.out.keep O4.out) L3.out.1 (HR.out.keep O4.out) L3.out.2.1 L3.out.2.2 HJ.out HUU.out)
    go_wp2_with fail
    (with_reducible refine PP.out.mono ?_)
    rintro e w5 ⟨⟨v, rfl, own⟩, o⟩
    have O5 := Lib.hid (O4.out.trans o)
    have HM5 := Lib.hid (HM4.out.keep o)
    have HR5 := Lib.hid (HR4.out.keep o)
    clear o c0 c1 PP
    obtain ⟨c0, c1⟩ := (HB.out.keep O5.out).cells
    have OWP := Lib.hid own
    clear own
    have PM := Lib.hid (moves_good ma mcap m ra rcap rs u w5 (HM.out.keep O5.out) L3.out.1 (HR.out.keep O5.out) L3.out.2.1 L3.out.2.2 HJ.out HUU.out)
    go_wp2_with fail
    (with_reducible refine PM.out.mono ?_)
    rintro e w6 ⟨rfl, o⟩
    have O6 := Lib.hid (O5.out.trans o)
    have HM6 := Lib.hid (HM5.out.keep o)
    have HR6 := Lib.hid (HR5.out.keep o)
    have OWP := Lib.hid (owns_keep OWP.out o)
    clear o c0 c1 PM
    obtain ⟨c0, c1⟩ := (HB.out.keep O6.out).cells
    have PA := Lib.hid (jat_none ma mcap m ra rcap rs h t w6 (HM.out.keep O6.out) L3.out.1 (HR.out.keep O6.out) L3.out.2.1 L3.out.2.2 HJ.out HH.out)
    go_wp2_with fail
    (with_reducible refine PA.out.mono ?_)
    rintro e w7 ⟨rfl, o⟩
    have O7 := Lib.hid (O6.out.trans o)
    have HM7 := Lib.hid (HM6.out.keep o)
    have HR7 := Lib.hid (HR6.out.keep o)
    have OWP := Lib.hid (owns_keep OWP.out o)
    clear o c0 c1 PA
    obtain ⟨c0, c1⟩ := (HB.out.keep O7.out).cells
    have PR := Lib.hid (jright_any ma mcap m ra rcap rs w7 (HM.out.keep O7.out) L3.out.1 (HR.out.keep O7.out) L3.out.2.1 L3.out.2.2)
    go_wp2_with fail
    (with_reducible refine PR.out.mono ?_)
    rintro e w8 ⟨rfl, o⟩
    have O8 := Lib.hid (O7.out.trans o)
    have HM8 := Lib.hid (HM7.out.keep o)
    have HR8 := Lib.hid (HR7.out.keep o)
    have OWP := Lib.hid (owns_keep OWP.out o)
    clear o c0 c1 PR
    obtain ⟨c0, c1⟩ := (HB.out.keep O8.out).cells
    have hj := HJ.out
    have hl' : (rs'.length : Int) = (rs.length : Int) := by rw [HLN.out]
    have hc : (h < 0) = True ∨ ((h < 0) = False ∧ ((rs.length : Int) ≤ h) = True) := by
      by_cases q : h < 0
      · exact .inl (eq_true q)
      · exact .inr ⟨eq_false q, eq_true (by have := HH.out; omega)⟩
    have u0 : ((u : Int) < 0) = False := eq_false (by omega)
    have u1 : ((1000 : Int) < (u : Int)) = False := eq_false (by have := HUU.out; omega)
    rcases hc with hc | ⟨hc, hc2⟩
    all_goals
      have RP := Lib.hid (refplan_any ma' mcap' m ra' rcap' rs' u w8 HM8.out HR8.out (by rw [LK.out.jOk]; exact HJ.out) HUU.out)
      rw [LK.out.pl] at RP
      have PX := Lib.hid (RP.out)
      go_wp2_with fail
      (with_reducible refine PX.out.mono ?_)
      rintro e w9 ⟨⟨v2, rfl, own2⟩, o⟩
      have O9 := Lib.hid (O8.out.trans o)
      have HM9 := Lib.hid (HM8.out.keep o)
      have HR9 := Lib.hid (HR8.out.keep o)
      have OWP := Lib.hid (owns_keep OWP.out o)
      have OWR := Lib.hid own2
      clear own2
      clear o c0 c1 RP PX
      obtain ⟨c0, c1⟩ := (HB.out.keep O9.out).cells
      have LP := Lib.hid (pl_pos m rs (jOk_parts HJ.out).2.2.1 u)
      have LL := Lib.hid (Nat.le_trans (pl_len m rs (jOk_parts HJ.out).2.2.2 (u + 1)) (by have := HUU.out; omega : 9 * (u + 1) ≤ 10000))
      generalize pl m rs (u + 1) = Lp at OWP OWR LP LL ⊢
      obtain ⟨g, cap, rfl, _, _⟩ := OWP.out.form LP.out
      obtain ⟨g2, cap2, rfl, _, _⟩ := OWR.out.form LP.out
      clear c0 c1
      go_wp2_with fail
      go_loopw [19, 20] (fun mm i wr => ∃ k : Nat, k ≤ Lp.length ∧ i = .int .i64 k ∧ mm = .int .i64 (mvc Lp k) ∧ Only (fun _ => False) w9 wr) (fun _ i _ => Lp.length - (intOf i).toNat)
      case atStart => exact ⟨0, Nat.zero_le _, rfl, rfl, Only.refl _ _⟩
      case round =>
        obtain ⟨k, hk, rfl, rfl, o⟩ := hrel
        have R := Lib.hid o
        clear o
        by_cases hlt : k < Lp.length
        · have k1 : ((k : Int) < (Lp.length : Int)) = True := eq_true (by omega)
          have k1n : ((k : Int) < (Lp.length : Int)) := by omega
          have k0n : (0 : Int) ≤ (k : Int) := by omega
          have WK := Lib.hid (wrap_succ hlt (by have := LL.out; unfold maxLen; omega))
          have WM := Lib.hid (show wrap64 ((mvc Lp k : Int) + 1) = ((mvc Lp k + 1 : Nat) : Int) from (IntWalk.wrap64_in _ (by have := mvc_le Lp k; have := LL.out; omega)).trans (by omega))
          obtain ⟨d0, d1, d2, d3, d4⟩ := row_cellsE (owns_keep OWP.out R.out) hlt
          obtain ⟨X, hX⟩ : ∃ X, X = aa Lp k := ⟨_, rfl⟩
          rw [← hX] at d0 d1 d2 d3
          have HX := Lib.hid hX
          have BX := Lib.hid (show BoxA (wr.alloc (.cells #[.int .i64 X.k, .int .i64 X.a, .int .i64 X.n, .int .i64 X.f, .slice none 0 0] 45)) wr.heap.size X from heap_alloc_new wr _)
          have R2 := Lib.hid (R.out.alloc (.cells #[.int .i64 X.k, .int .i64 X.a, .int .i64 X.n, .int .i64 X.f, .slice none 0 0] 45))
          have RW := Lib.hid (owns_keep OWR.out R2.out)
          have HLT := Lib.hid hlt
          have SC := Lib.hid (same_any X)
          clear hlt hk hX
          go_wp2_with fail
          generalize wr.alloc (.cells #[.int .i64 X.k, .int .i64 X.a, .int .i64 X.n, .int .i64 X.f, .slice none 0 0] 45) = W6 at BX R2 RW ⊢
          generalize wr.heap.size = BB at BX ⊢
          clear d0 d1 d2 d3 d4
          obtain ⟨x0, x1, x2, x3, x4⟩ := boxA_all BX.out
          obtain ⟨d0, d1, d2, d3, d4⟩ := row_cellsE RW.out HLT.out
          rw [← HX.out] at d0 d1 d2 d3
          go_region_held3 (fun w' => w'.cell? ⟨BB, 0, none⟩ = some (.int .i64 X.k) ∧ w'.cell? ⟨BB, 1, none⟩ = some (.int .i64 X.a) ∧ w'.cell? ⟨BB, 2, none⟩ = some (.int .i64 X.n) ∧ w'.cell? ⟨BB, 3, none⟩ = some (.int .i64 X.f) ∧ w'.cell? ⟨BB, 4, none⟩ = some (.slice none 0 0) ∧ w'.cell? ⟨g2, k * 5, none⟩ = some (.int .i64 X.k) ∧ w'.cell? ⟨g2, k * 5 + 1, none⟩ = some (.int .i64 X.a) ∧ w'.cell? ⟨g2, k * 5 + 2, none⟩ = some (.int .i64 X.n) ∧ w'.cell? ⟨g2, k * 5 + 3, none⟩ = some (.int .i64 X.f) ∧ w'.cell? ⟨g2, k * 5 + 4, none⟩ = some (.slice none 0 0)) (first | go_keep | (obtain ⟨y0, y1, y2, y3, y4⟩ := boxA_all BY.out; obtain ⟨z0, z1, z2, z3, z4⟩ := row_cellsE RY.out HLT.out; rw [← HX.out] at z0 z1 z2 z3; exact ⟨y0, y1, y2, y3, y4, z0, z1, z2, z3, z4⟩))
            (first | (go_at_call 14; (with_reducible refine Calls.mono (SC.out _) ?_); rintro e w7 ⟨rfl, o⟩; have oo : Only (fun _ => False) W6 w7 := (by first | exact o | exact (Only.drew (Only.refl _ W6)).trans o | exact (Only.drewN (Only.refl _ W6) _).trans o); have BY := Lib.hid (boxA_keep BX.out oo); have RY := Lib.hid (owns_keep RW.out oo); have R3 := Lib.hid (R2.out.trans oo); clear o oo))
          clear d0 d1 d2 d3 d4 x0 x1 x2 x3 x4
          have x0 := (boxA_all BY.out).1
          have wk := WK.out
          have wm := WM.out
          by_cases h6 : X.k = 6
          · have b6 : (X.k == 6) = true := by rw [h6]; rfl
            have HMc := Lib.hid (show mvc Lp (k + 1) = mvc Lp k + 1 from if_pos (by rw [← HX.out]; exact h6))
            clear h6
            go_wp2_with fail
            clear wk wm
            go_roundw
            case rel => exact ⟨k + 1, HLT.out, by first | (rw [WK.out]; go_num) | go_num, by first | (rw [WM.out, HMc.out]) | rw [HMc.out], R3.out⟩
            case measure => first | exact meas WK.out HLT.out | exact meas rfl HLT.out
          · have b6 : (X.k == 6) = false := beq_false_of_ne h6
            have HMc := Lib.hid (show mvc Lp (k + 1) = mvc Lp k from if_neg (by rw [← HX.out]; exact h6))
            clear h6
            go_wp2_with fail
            clear wk wm
            go_roundw
            case rel => exact ⟨k + 1, HLT.out, by first | (rw [WK.out]; go_num) | go_num, by rw [HMc.out], R3.out⟩
            case measure => first | exact meas WK.out HLT.out | exact meas rfl HLT.out
        · have k1 : ((k : Int) < (Lp.length : Int)) = False := eq_false (by omega)
          have e : k = Lp.length := by omega
          subst e
          go_wp2_with fail
          go_ret
          exact ⟨by simp, O1.out.trans (O9.out.trans R.out)⟩
end Go.Proofs.Ytklcanjlkmkmmaa.rmS
