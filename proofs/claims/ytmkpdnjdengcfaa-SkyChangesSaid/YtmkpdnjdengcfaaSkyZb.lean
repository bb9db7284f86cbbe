/- SkyChanges' walk: its answers. -/
import Derived.Test.YtmkpdnjdengcfaaSkyZa
import Derived.BigQuiet
import Derived.Test.YtmkpdnjdengcfaaSkyW
namespace Go.Proofs.Ytmkpdnjdengcfaa.skyZb
open Go.RowKit Go.Lib Go.Proofs.Ytmkpdnjdengcfaa.kit Go.Proofs.Ytmkpdnjdengcfaa.floA Go.Proofs.Ytmkpdnjdengcfaa.skyA Go.Proofs.Ytmkpdnjdengcfaa.skyB Go.Proofs.Ytmkpdnjdengcfaa.skyC Go.Proofs.Ytmkpdnjdengcfaa.skyD Go.Proofs.Ytmkpdnjdengcfaa.skyE Go.Proofs.Ytmkpdnjdengcfaa.skyF Go.Proofs.Ytmkpdnjdengcfaa.skyG Go.Proofs.Ytmkpdnjdengcfaa.skyH Go.Proofs.Ytmkpdnjdengcfaa.skyI Go.Proofs.Ytmkpdnjdengcfaa.skyJ Go.Proofs.Ytmkpdnjdengcfaa.skyL Go.Proofs.Ytmkpdnjdengcfaa.skyO Go.Proofs.Ytmkpdnjdengcfaa.skyP Go.Proofs.Ytmkpdnjdengcfaa.skyQ Go.Proofs.Ytmkpdnjdengcfaa.skyR Go.Proofs.Ytmkpdnjdengcfaa.skyS Go.Proofs.Ytmkpdnjdengcfaa.skyT Go.Proofs.Ytmkpdnjdengcfaa.skyU Go.Proofs.Ytmkpdnjdengcfaa.skyV Go.Proofs.Ytmkpdnjdengcfaa.skyX Go.Proofs.Ytmkpdnjdengcfaa.skyZ
set_option linter.unusedVariables false
set_option linter.unusedSimpArgs false

/-- What is held between two seconds: how many changes were met, and which mast was nearest. -/
def Met (m : List (Int × Int)) (x y : Int) (l : List Leg3) (t n : Nat) (z : Int) : Prop := (t = 0 ∧ n = 0 ∧ z = -1) ∨ ∃ t', t = t' + 1 ∧ n = (chg m x y l t').length ∧ z = (near m x y l t' : Nat)

theorem Met.same {m : List (Int × Int)} {x y : Int} {l : List Leg3} {t n : Nat} {z : Int} (h : Met m x y l t n z) (e : ((near m x y l t : Nat) : Int) = z) : Met m x y l (t + 1) n z := by
  rcases h with ⟨rfl, rfl, rfl⟩ | ⟨t', rfl, rfl, rfl⟩
  · omega
  · have e' : near m x y l (t' + 1) = near m x y l t' := by omega
    exact .inr ⟨t' + 1, rfl, by rw [show chg m x y l (t' + 1) = chg m x y l t' from if_pos e'], by rw [e']⟩

theorem Met.next {m : List (Int × Int)} {x y : Int} {l : List Leg3} {t n U : Nat} {z : Int} (h : Met m x y l t n z) (e : ¬ ((near m x y l t : Nat) : Int) = z) (ht : t ≤ U) :
    n < (chg m x y l U).length ∧ px (chg m x y l U) n = (t : Int) ∧ py (chg m x y l U) n = (near m x y l t : Nat) ∧ Met m x y l (t + 1) (n + 1) (near m x y l t : Nat) := by
  rcases h with ⟨rfl, rfl, rfl⟩ | ⟨t', rfl, rfl, rfl⟩
  · obtain ⟨h1, h2, h3⟩ := chg_one m x y l U
    exact ⟨h1, h2, h3, .inr ⟨0, rfl, rfl, rfl⟩⟩
  · have e' : near m x y l (t' + 1) ≠ near m x y l t' := fun q => e (by rw [q])
    obtain ⟨h1, h2, h3, h4⟩ := chg_next m x y l ht e'
    exact ⟨h1, h2, h3, .inr ⟨t' + 1, rfl, h4.symm, rfl⟩⟩

theorem Met.len {m : List (Int × Int)} {x y : Int} {l : List Leg3} {t n : Nat} {z : Int} (h : Met m x y l t n z) : n ≤ t := by
  rcases h with ⟨rfl, rfl, rfl⟩ | ⟨t', rfl, rfl, rfl⟩
  · exact Nat.le_refl _
  · exact chg_len m x y l t'

theorem info23 : (Try.prog.info? 23).map (fun i => (i.zero, i.size, i.bytes)) = some (some (.agg #[.int .i64 0, .int .i64 0]), 2, 16) := by kernel_rfl

theorem wrap_nat {n : Nat} (h : n ≤ 1000) : wrap64 ((n : Int) + 1) = (n : Int) + 1 := IntWalk.wrap64_in _ (by omega)

set_option maxRecDepth 100000 in
set_option maxHeartbeats 4000000 in
theorem ch_good (ma : Option Addr) (mcap : Nat) (m : List (Int × Int)) (x y : Int) (a : Option Addr) (cap : Nat) (l : List Leg3) (U : Nat) (q : Int) (w : World) (hm : Pts w ma m) (hl : Lgs w a l) (hs : m.length ≤ 20 ∧ l.length ≤ 10) (hg : good m = true) (hr : routeOk x y l = true) (hU : U ≤ 200) :
    Calls Try.prog 5 #[.slice ma m.length mcap, rt x y a l.length cap, .int .i64 U, .int .i64 q] w fun e w' => e = .returned (.bool true) ∧ Only (fun _ => False) w w' := by
  have o1 : Only (fun _ => False) w (w.alloc (.cells #[.int .i64 x, .int .i64 y, .slice a l.length cap] 26)) := (Only.refl _ w).alloc _
  have HB := Lib.hid (show BoxR (w.alloc (.cells #[.int .i64 x, .int .i64 y, .slice a l.length cap] 26)) w.heap.size x y (.slice a l.length cap) from heap_alloc_new w _)
  have HP := Lib.hid (hl.keep o1)
  have HM := Lib.hid (hm.keep o1)
  have O1 := Lib.hid o1
  have A := Lib.hid awake_true
  clear hm hl o1
  have t1 : ((20 : Int) < (m.length : Int)) = False := eq_false (by omega)
  have t2 : ((10 : Int) < (l.length : Int)) = False := eq_false (by omega)
  have t3 : ((200 : Int) < (U : Int)) = False := eq_false (by omega)
  have t5 : ((U : Int) < 0) = False := eq_false (by omega)
  have t6 : ((100000 : Int) < (U : Int)) = False := eq_false (by omega)
  have HS := Lib.hid hs
  have HU := Lib.hid hU
  have HG := Lib.hid (And.intro hg hr)
  clear hs hU hg hr
  go_enter Try.func5, Try.ntmps5
  go_wp2_with fail
  generalize w.alloc (.cells #[.int .i64 x, .int .i64 y, .slice a l.length cap] 26) = W1 at HB HP HM O1 ⊢
  generalize w.heap.size = B at HB ⊢
  with_reducible refine (A.out _).mono ?_
  rintro e w2 ⟨rfl, o⟩
  have O := Lib.hid o
  clear o A
  obtain ⟨c0, c1, c2⟩ := (HB.out.keep O.out).cells
  have CH := Lib.hid (changes_good ma mcap m x y a cap l U w2 (HM.out.keep O.out) (HP.out.keep O.out) (by have := HS.out; omega) HG.out.1 HG.out.2 (by have := HU.out; omega))
  obtain ⟨cl, hcl⟩ : ∃ cl, cl = chg m x y l U := ⟨_, rfl⟩
  rw [← hcl] at CH
  have HCL := Lib.hid hcl
  clear hcl
  go_wp2_with fail
  with_reducible refine CH.out.mono ?_
  rintro e w3 ⟨⟨ca, ccap, rfl, hpc⟩, o⟩
  have HC := Lib.hid hpc
  clear hpc
  have O := Lib.hid (O.out.trans o)
  clear o c0 c1 c2 CH
  have PA := Lib.hid (points_any ma mcap m w3 (HM.out.keep O.out) (by have := HS.out; omega))
  go_wp2_with fail
  with_reducible refine PA.out.mono ?_
  rintro e w4 ⟨⟨a2, cap2, rfl, hp2⟩, o⟩
  have HM2 := Lib.hid hp2
  have O := Lib.hid (O.out.trans o)
  have HC := Lib.hid (HC.out.keep o)
  clear o hp2 PA
  obtain ⟨c0, c1, c2⟩ := (HB.out.keep O.out).cells
  have LA := Lib.hid (legs_any x y a cap l w4 (HP.out.keep O.out) (by have := HS.out; omega))
  go_wp2_with fail
  with_reducible refine LA.out.mono ?_
  rintro e w5 ⟨⟨a3, cap3, rfl, hl3⟩, o⟩
  have HL3 := Lib.hid hl3
  have O := Lib.hid (O.out.trans o)
  have HM2 := Lib.hid (HM2.out.keep o)
  have HC := Lib.hid (HC.out.keep o)
  clear o hl3 LA c0 c1 c2
  obtain ⟨c0, c1, c2⟩ := (HB.out.keep O.out).cells
  have MA := Lib.hid (masts_any a2 cap2 m w5 HM2.out)
  go_wp2_with fail
  rw [HG.out.1] at MA
  with_reducible refine MA.out.mono ?_
  rintro e w6 ⟨rfl, o⟩
  have O := Lib.hid (O.out.trans o)
  have HM2 := Lib.hid (HM2.out.keep o)
  have HL3 := Lib.hid (HL3.out.keep o)
  have HC := Lib.hid (HC.out.keep o)
  clear o c0 c1 c2 MA
  obtain ⟨c0, c1, c2⟩ := (HB.out.keep O.out).cells
  go_wp2_with fail
  with_reducible refine (of_any x y _).mono ?_
  rintro e w7 ⟨rfl, o⟩
  have O := Lib.hid (O.out.trans o)
  have HM2 := Lib.hid (HM2.out.keep o)
  have HL3 := Lib.hid (HL3.out.keep o)
  have HC := Lib.hid (HC.out.keep o)
  clear o c0 c1 c2
  have RR := Lib.hid (refroutes_any x y a3 cap3 l w7 HL3.out (by have := HS.out; omega))
  rw [HG.out.2] at RR
  go_wp2_with fail
  with_reducible refine RR.out.mono ?_
  rintro e w8 ⟨rfl, o⟩
  have O := Lib.hid (O.out.trans o)
  have HM2 := Lib.hid (HM2.out.keep o)
  have HL3 := Lib.hid (HL3.out.keep o)
  have HC := Lib.hid (HC.out.keep o)
  clear o RR
  have HB8 := Lib.hid (HB.out.keep O.out)
  have HP8 := Lib.hid (HP.out.keep O.out)
  have O8 := O
  have HGM := Lib.hid (show ok m = true ∧ 1 ≤ m.length ∧ m.length ≤ 64 by
    have hg := HG.out.1
    simp [good] at hg
    exact ⟨hg.1, by omega, by omega⟩)
  have hcln : cl.length ≤ 201 := by have := chg_len m x y l U; have := HU.out; rw [HCL.out]; omega
  have HCLN := Lib.hid hcln
  clear HB HP HM O hcln
  go_wp2_with fail
  go_loopw [13, 14, 15] (fun at' la s wr => ∃ (t n : Nat) (z : Int), t ≤ U + 1 ∧ s = .int .i64 t ∧ at' = .int .i64 n ∧ la = .int .i64 z ∧ Met m x y l t n z ∧ Only (fun _ => False) w8 wr) (fun _ _ s _ => U + 1 - (intOf s).toNat)
  case atStart => exact ⟨0, 0, -1, Nat.zero_le _, rfl, rfl, rfl, .inl ⟨rfl, rfl, rfl⟩, Only.refl _ _⟩
  case round =>
    obtain ⟨t, n, z, ht, rfl, rfl, rfl, hmet, o⟩ := hrel
    have R := Lib.hid o
    have ME := Lib.hid hmet
    clear o hmet
    by_cases hlt : t ≤ U
    · have k1 : ((t : Int) ≤ (U : Int)) = True := eq_true (by omega)
      obtain ⟨c0, c1, c2⟩ := (HB8.out.keep R.out).cells
      obtain ⟨p0, p1⟩ := pmid (route_parts HG.out.2).1 (route_parts HG.out.2).2.2 (show (0 : Int) ≤ (t : Int) by omega) (Nat.le_refl l.length)
      have RA := Lib.hid (fun (w' : World) (o : Only (fun _ => False) w8 w') => refat_any x y a3 cap3 l (t : Int) w' (HL3.out.keep o) HG.out.2 (by omega) (by have := HU.out; omega))
      have NE := Lib.hid (fun (w' : World) (o : Only (fun _ => False) w8 w') => refnearest_any a2 cap2 m (posX x l t) (posY y l t) w' (HM2.out.keep o) p0 p1 HGM.out.1 HGM.out.2.1 HGM.out.2.2)
      obtain ⟨n1, hn1⟩ : ∃ n1, n1 = near m x y l t := ⟨_, rfl⟩
      rw [show best m (posX x l t) (posY y l t) m.length = n1 from hn1.symm] at NE
      have HN1 := Lib.hid hn1
      generalize posX x l (t : Int) = PX at RA NE
      generalize posY y l (t : Int) = PY at RA NE
      clear p0 p1 hn1
      have WT := Lib.hid (wrap_nat (n := t) (by have := HU.out; omega))
      have WN := Lib.hid (wrap_nat (n := n) (by have := HU.out; have := ME.out.len; omega))
      have HLT := Lib.hid hlt
      clear hlt
      go_wp2_with fail
      with_reducible refine (of_any x y _).mono ?_
      rintro e w9 ⟨rfl, o⟩
      have R := Lib.hid (R.out.trans o)
      clear o c0 c1 c2
      go_wp2_with fail
      with_reducible refine (RA.out _ R.out).mono ?_
      rintro e w10 ⟨rfl, o⟩
      have R := Lib.hid (R.out.trans o)
      clear o
      go_wp2_with fail
      with_reducible refine (NE.out _ R.out).mono ?_
      rintro e w11 ⟨rfl, o⟩
      have R := Lib.hid (R.out.trans o)
      clear o RA NE
      by_cases e : (n1 : Int) = z
      · have eb : ((n1 : Int) == z) = true := by rw [e]; exact beq_self_eq_true z
        have HE := Lib.hid e
        clear e
        have wt := WT.out
        go_wp2_with fail
        clear wt
        go_roundw
        case rel => exact ⟨t + 1, n, z, by have := HLT.out; omega, by first | (rw [WT.out]; go_num) | go_num, rfl, rfl, ME.out.same (HN1.out ▸ HE.out), R.out⟩
        case measure => first | exact meas WT.out (Nat.lt_succ_of_le HLT.out) | exact meas rfl (Nat.lt_succ_of_le HLT.out)
      · have eb : ((n1 : Int) == z) = false := beq_false_of_ne e
        obtain ⟨h1, h2, h3, h4⟩ := ME.out.next (U := U) (HN1.out ▸ e) HLT.out
        rw [← HN1.out] at h3 h4
        rw [← HCL.out] at h1 h2 h3
        have HX := Lib.hid h4
        obtain ⟨cb, co, rfl, hcb, d0, d1⟩ := (HC.out.keep R.out).at h1
        rw [h2] at d0
        rw [h3] at d1
        have b1 : ((n : Int) == (cl.length : Int)) = false := beq_false_of_ne (by omega)
        have b2 : (n : Int) < (cl.length : Int) := by omega
        have b3 : (0 : Int) ≤ (n : Int) := by omega
        have b4 : n < cl.length := h1
        clear h1 h2 h3 h4 e hcb
        have wt := WT.out
        have wn := WN.out
        go_wp2_with fail
        clear wt wn b1 b2 b3 b4
        go_roundw
        case rel => exact ⟨t + 1, n + 1, _, by have := HLT.out; omega, by first | (rw [WT.out]; go_num) | go_num, by first | (rw [WN.out]; go_num) | go_num, rfl, HX.out, R.out⟩
        case measure => first | exact meas WT.out (Nat.lt_succ_of_le HLT.out) | exact meas rfl (Nat.lt_succ_of_le HLT.out)
    · have k1 : ((t : Int) ≤ (U : Int)) = False := eq_false (by omega)
      obtain ⟨rfl, hz⟩ : n = cl.length ∧ True := by
        rcases ME.out with ⟨h, _⟩ | ⟨t', h, h2, _⟩
        · omega
        · have : t' = U := by omega
          subst this
          exact ⟨by rw [HCL.out]; exact h2, trivial⟩
      clear ht hlt hz ME
      obtain ⟨N, hN⟩ : ∃ N, N = qn q := ⟨_, rfl⟩
      have HN := Lib.hid hN
      clear hN
      obtain ⟨W9, rfl⟩ : ∃ W, W = wr := ⟨_, rfl⟩
      have R9 := R
      have own0 : (W9.alloc (.cells #[] 23)).ownsRow W9.heap.size 23 2 (.slice (some ⟨W9.heap.size, 0, none⟩) 0 0) 0 (flat ((tpts N m).take 0)) :=
        ⟨rfl, .inr ⟨_, 0, _, rfl, Nat.le_refl _, heap_alloc_new W9 _, Nat.le_refl _, by decide, rfl, rfl⟩⟩
      have R0 := Lib.hid (And.intro ((Only.refl (fun _ => False) W9).alloc (.cells #[] 23)) own0)
      clear own0 R
      go_wp2_with fail
      go_loopw [17, 18] (fun v i ws => ∃ k : Nat, k ≤ m.length ∧ i = .int .i64 k ∧ Only (fun _ => False) W9 ws ∧ ws.ownsRow W9.heap.size 23 2 v k (flat ((tpts N m).take k))) (fun _ i _ => m.length - (intOf i).toNat)
      case atStart => exact ⟨0, Nat.zero_le _, rfl, R0.out.1, R0.out.2⟩
      case round =>
        obtain ⟨k, hk, rfl, o, hown⟩ := hrel
        have R := Lib.hid o
        have OW := Lib.hid hown
        clear o hown R0
        by_cases hlt : k < m.length
        · have k1 : ((k : Int) < (m.length : Int)) = True := eq_true (by omega)
          have k1n : ((k : Int) < (m.length : Int)) := by omega
          have WK := Lib.hid (wrap_nat (n := k) (by have := HS.out; omega))
          obtain ⟨b, off, rfl, hb, c0, c1⟩ := (HM2.out.keep (R9.out.trans R.out)).at hlt
          obtain ⟨m0, m1⟩ := mid_of HGM.out.1 hlt
          have TU := Lib.hid (turn_any (px m k) (py m k) q m0 m1)
          obtain ⟨g1, g2⟩ := tpts_get N m k hlt
          rw [← HN.out, ← g1, ← g2] at TU
          obtain ⟨TX, hTX⟩ : ∃ T, T = px (tpts N m) k := ⟨_, rfl⟩
          obtain ⟨TY, hTY⟩ : ∃ T, T = py (tpts N m) k := ⟨_, rfl⟩
          rw [← hTX, ← hTY] at TU
          have HT := Lib.hid (And.intro hTX hTY)
          have HLT := Lib.hid hlt
          clear m0 m1 g1 g2 hTX hTY hb
          go_wp2_with fail
          with_reducible refine (TU.out _).mono ?_
          rintro e w5 ⟨rfl, o⟩
          have bx : Box (w5.alloc (.cells #[.int .i64 TX, .int .i64 TY] 31)) w5.heap.size TX TY 31 := heap_alloc_new w5 _
          obtain ⟨d0, d1⟩ := bx.cells
          have oa : Only (fun _ => False) w5 (w5.alloc (.cells #[.int .i64 TX, .int .i64 TY] 31)) := (Only.refl _ w5).alloc _
          obtain ⟨v', w6, hrun, hown, o6⟩ := app (bytes := 16) (size := 2) Try.underlying44 info23 rfl (by decide) (by decide) ((R.out.trans o).trans oa) (owns_keep (owns_keep OW.out o) oa) [.int .i64 TX, .int .i64 TY] rfl (fun u hu => by simp at hu; rcases hu with rfl | rfl <;> rfl) (by have := HS.out; omega)
          rw [show (w5.alloc (.cells #[.int .i64 TX, .int .i64 TY] 31)).heap.size = w5.heap.size + 1 from World.size_alloc _ _] at hrun
          rw [HT.out.1, HT.out.2, ← flat_snoc (tpts N m) k (by rw [tpts_len]; exact hlt)] at hown
          have OW' := Lib.hid hown
          have O6 := Lib.hid o6
          clear o c0 c1 hown o6 bx oa hlt
          have wk := WK.out
          go_wp2_with (first | (at_builtin; refine Lib.wpList_append_run _ rfl (.tmp 148) (.tmp 154) 44 44 rfl _ _ rfl rfl _ _ hrun ?_))
          clear wk
          go_roundw
          case rel => exact ⟨k + 1, by have := HLT.out; omega, by first | (rw [WK.out]; go_num) | go_num, O6.out, OW'.out⟩
          case measure => first | exact meas WK.out HLT.out | exact meas rfl HLT.out
        · have k1 : ((k : Int) < (m.length : Int)) = False := eq_false (by omega)
          have e : k = m.length := by omega
          subst e
          have hown := OW.out
          rw [← tpts_len N m, List.take_length] at hown
          obtain ⟨a5, cap5, hv, hp5⟩ := pts_of_owns hown (by rw [tpts_len]; have := HS.out; unfold maxLen; omega)
          rw [tpts_len] at hv
          subst hv
          have HM5 := Lib.hid hp5
          have O9 := Lib.hid (R9.out.trans R.out)
          clear hown hp5 OW hk hlt R R9
          obtain ⟨W10, rfl⟩ : ∃ W, W = wr := ⟨_, rfl⟩
          obtain ⟨X0, hX0⟩ : ∃ X, X = (tX x y N).1 := ⟨_, rfl⟩
          obtain ⟨Y0, hY0⟩ : ∃ Y, Y = (tX x y N).2 := ⟨_, rfl⟩
          have TG := Lib.hid (turned_good x y a cap l q W10 (HP8.out.keep O9.out) HG.out.2)
          rw [← HN.out, ← hX0, ← hY0] at TG
          have CH2 := Lib.hid (fun (a6 : Option Addr) (cap6 : Nat) (w' : World) (o : Only (fun _ => False) W10 w') (h6 : Lgs w' a6 (tlegs N l)) => changes_good a5 cap5 (tpts N m) X0 Y0 a6 cap6 (tlegs N l) U w' (HM5.out.keep o) h6 (by rw [tlegs_len]; have := HS.out; omega) (by rw [good_turn]; exact HG.out.1) (by rw [hX0, hY0, route_turn]; exact HG.out.2) (by have := HU.out; omega))
          rw [tpts_len, tlegs_len, show chg (tpts N m) X0 Y0 (tlegs N l) U = cl by rw [hX0, hY0, chg_turn, ← HCL.out]] at CH2
          obtain ⟨c0, c1, c2⟩ := (HB8.out.keep O9.out).cells
          clear hX0 hY0
          go_wp2_with fail
          with_reducible refine TG.out.mono ?_
          rintro e w12 ⟨⟨a6, cap6, rfl, hl6, _⟩, o⟩
          have HB6 := Lib.hid (show BoxR (w12.alloc (.cells #[.int .i64 X0, .int .i64 Y0, .slice a6 l.length cap6] 26)) w12.heap.size X0 Y0 (.slice a6 l.length cap6) from heap_alloc_new w12 _)
          have oa : Only (fun _ => False) w12 (w12.alloc (.cells #[.int .i64 X0, .int .i64 Y0, .slice a6 l.length cap6] 26)) := (Only.refl _ w12).alloc _
          have R := Lib.hid (o.trans oa)
          have C2 := Lib.hid (CH2.out a6 cap6 _ (o.trans oa) (hl6.keep oa))
          obtain ⟨f0, f1, f2⟩ := HB6.out.cells
          clear o oa hl6 c0 c1 c2 TG CH2
          go_wp2_with fail
          with_reducible refine C2.out.mono ?_
          rintro e w13 ⟨⟨cd, dcap, rfl, hd⟩, o⟩
          have HD := Lib.hid hd
          have R := Lib.hid (O9.out.trans (R.out.trans o))
          have HC13 := Lib.hid (HC.out.keep R.out)
          clear o hd f0 f1 f2 C2
          go_wp2_with fail
          go_loopw [24] (fun i ws => ∃ k : Nat, k ≤ cl.length ∧ i = .int .i64 k ∧ Only (fun _ => False) w13 ws) (fun i _ => cl.length - (intOf i).toNat)
          case atStart => exact ⟨0, Nat.zero_le _, rfl, Only.refl _ _⟩
          case round =>
            obtain ⟨k, hk, rfl, o⟩ := hrel
            have S := Lib.hid o
            clear o
            by_cases hlt : k < cl.length
            · have k1 : ((k : Int) < (cl.length : Int)) = True := eq_true (by omega)
              have k1n : ((k : Int) < (cl.length : Int)) := by omega
              have k0n : (0 : Int) ≤ (k : Int) := by omega
              have WK := Lib.hid (wrap_nat (n := k) (by have := HCLN.out; omega))
              obtain ⟨b, off, rfl, hb, c0, c1⟩ := (HC13.out.keep S.out).at hlt
              obtain ⟨b', off', rfl, hb', d0, d1⟩ := (HD.out.keep S.out).at hlt
              have HLT := Lib.hid hlt
              clear hb hb'
              go_wp2_with fail
              go_quiet (fail)
              have wk := WK.out
              go_wp2_with fail
              clear wk
              go_roundw
              case rel => exact ⟨k + 1, by have := HLT.out; omega, by first | (rw [WK.out]; go_num) | go_num, S.out.drewN _⟩
              case measure => first | exact meas WK.out HLT.out | exact meas rfl HLT.out
            · have k1 : ((k : Int) < (cl.length : Int)) = False := eq_false (by omega)
              have e : k = cl.length := by omega
              subst e
              go_wp2_with fail
              go_ret
              exact ⟨rfl, O1.out.trans (O8.out.trans (R.out.trans S.out))⟩
end Go.Proofs.Ytmkpdnjdengcfaa.skyZb
