/- Roam: the plan. -/
import Derived.Test.YtklcanjlkmkmmaaRmI
import Derived.Test.YtklcanjlkmkmmaaRmJ
import Derived.Test.YtklcanjlkmkmmaaRmL
import Derived.Deep.RegionLaw
namespace Go.Proofs.Ytklcanjlkmkmmaa.rmK
open Go.RowKit Go.Proofs.Ytklcanjlkmkmmaa.kit Go.Proofs.Ytklcanjlkmkmmaa.floA Go.Proofs.Ytklcanjlkmkmmaa.skyA Go.Proofs.Ytklcanjlkmkmmaa.skyB Go.Proofs.Ytklcanjlkmkmmaa.skyC Go.Proofs.Ytklcanjlkmkmmaa.skyD Go.Proofs.Ytklcanjlkmkmmaa.skyE Go.Proofs.Ytklcanjlkmkmmaa.skyF Go.Proofs.Ytklcanjlkmkmmaa.skyG Go.Proofs.Ytklcanjlkmkmmaa.skyH Go.Proofs.Ytklcanjlkmkmmaa.skyI Go.Proofs.Ytklcanjlkmkmmaa.skyK Go.Proofs.Ytklcanjlkmkmmaa.skyO Go.Proofs.Ytklcanjlkmkmmaa.skyP Go.Proofs.Ytklcanjlkmkmmaa.skyQ Go.Proofs.Ytklcanjlkmkmmaa.skyT Go.Proofs.Ytklcanjlkmkmmaa.rmA Go.Proofs.Ytklcanjlkmkmmaa.rmB Go.Proofs.Ytklcanjlkmkmmaa.rmC Go.Proofs.Ytklcanjlkmkmmaa.rmD Go.Proofs.Ytklcanjlkmkmmaa.rmE Go.Proofs.Ytklcanjlkmkmmaa.rmG Go.Proofs.Ytklcanjlkmkmmaa.rmI Go.Proofs.Ytklcanjlkmkmmaa.rmJ Go.Proofs.Ytklcanjlkmkmmaa.rmL
set_option linter.unusedVariables false
set_option linter.unusedSimpArgs false

theorem rdy_here (m : List (Int × Int)) (rs : List Rt) (k t : Nat) : rdy m rs k t t = mv m rs t k := if_neg (Nat.lt_irrefl t)

theorem rdy_len (m : List (Int × Int)) (rs : List Rt) (k t : Nat) : (rdy m rs k t t).length ≤ k := by
  rw [rdy_here]
  exact mv_len m rs t k

theorem after {W1 w4 w5 W w9 : World} {Mb U : Nat} {vs : Nat → Value} {m : List (Int × Int)} {rs : List Rt} {k t n : Nat} (h : Inn W1 w4 w5 Mb U vs (rdy m rs k t) W) (hM : W1.heap.size ≤ Mb) (hM4 : Mb < w4.heap.size) (ht : t ≤ U) (hg : goes m rs t k = true) (hn : n = nr m rs k t) {obj : Obj} (g : (W.alloc obj).grownBy w9 (vs t).ownBlock) {gb cap : Nat}
    (hown : w9.ownsRow (Mb + 1) 45 5 (.slice (some ⟨gb, 0, none⟩) ((rdy m rs k t t).length + 1) cap) ((rdy m rs k t t).length + 1) (flatA (rdy m rs k t t) ++ [.int .i64 6, .int .i64 k, .int .i64 0, .int .i64 (8 * (n : Int) + k + 1), .slice none 0 0])) (hat : (vs t).ownBlock = some gb ∨ gb = (W.alloc obj).heap.size) :
    w9.cell? ⟨Mb, t, none⟩ = some (vs t) ∧ w9.frozen? ⟨Mb, t, none⟩ = false ∧ Inn W1 w4 w5 Mb U (upd vs t (.slice (some ⟨gb, 0, none⟩) ((rdy m rs k t t).length + 1) cap)) (rdy m rs k (t + 1)) (w9.setCell ⟨Mb, t, none⟩ (.slice (some ⟨gb, 0, none⟩) ((rdy m rs k t t).length + 1) cap)) := by
  have h' := h.keep ((Only.refl (fun _ => False) W).alloc obj)
  obtain ⟨⟨c, hc, h1⟩, _⟩ := h'.mvs.grown (w := W) ht g
  have e : rdy m rs k (t + 1) t = rdy m rs k t t ++ [moveA m rs t k] := by rw [rdy_put hg t, if_pos rfl]
  refine ⟨by rw [cell_of hc]; exact h1 t ht, free_of hc, h'.put hM hM4 ht g ?_ ?_ hat fun s _ hne => by rw [rdy_put hg s, if_neg hne]⟩
  · rw [e, flatA_snoc]
    have q : ac5 (moveA m rs t k) = [.int .i64 6, .int .i64 k, .int .i64 0, .int .i64 (8 * (n : Int) + k + 1), .slice none 0 0] := by rw [hn]; rfl
    rw [q]
    exact hown
  · rw [e, List.length_append]
    rfl

theorem box_grown {W w9 : World} {BD : Nat} {x y : Int} {ty : TypeId} {obj : Obj} {row : Option Nat} (h : Box W BD x y ty) (g : (W.alloc obj).grownBy w9 row) (hne : ∀ q, row = some q → q < BD) : Box w9 BD x y ty := by
  have h' : Box (W.alloc obj) BD x y ty := h.keep ((Only.refl (fun _ => False) W).alloc obj)
  exact (g.block BD (lt_of h') fun e => by
    have := hne BD e.symm
    omega).trans h'

set_option maxRecDepth 100000 in
set_option maxHeartbeats 1600000 in
theorem plan_good (ma : Option Addr) (mcap : Nat) (m : List (Int × Int)) (ra : Option Addr) (rcap : Nat) (rs : List Rt) (U : Nat) (w : World) (hm : Pts w ma m) (hml : m.length ≤ 1000) (hr : Rts w ra rs) (hrl : rs.length ≤ 1000) (hll : ∀ k, k < rs.length → (rr rs k).l.length ≤ 1000) (hj : jOk m rs = true) (hU : U ≤ 1000) :
    Calls Try.prog 8 #[jn ma m.length mcap ra rs.length rcap, .int .i64 U] w fun e w' => (∃ v, e = .returned (.tuple #[v, .int .i64 0]) ∧ w'.ownsRow w.heap.size 45 5 v (pl m rs (U + 1)).length (flatA (pl m rs (U + 1)))) ∧ Only (fun _ => False) w w' := by
  have o1 : Only (fun _ => False) w (w.alloc (.cells #[.slice ma m.length mcap, .slice ra rs.length rcap] 25)) := (Only.refl _ w).alloc _
  have HB := Lib.hid (show BoxJ (w.alloc (.cells #[.slice ma m.length mcap, .slice ra rs.length rcap] 25)) w.heap.size (.slice ma m.length mcap) (.slice ra rs.length rcap) from heap_alloc_new w _)
  have HR := Lib.hid (hr.keep o1)
  have HM := Lib.hid (hm.keep o1)
  have JR := Lib.hid (jright_any ma mcap m ra rcap rs _ (hm.keep o1) hml (hr.keep o1) hrl hll)
  have O1 := Lib.hid o1
  rw [hj] at JR
  have HJ := Lib.hid (jOk_parts hj)
  have HLL := Lib.hid hll
  have HU := Lib.hid hU
  clear hm hml hr hrl hll o1 hj hU
  have t1 : ((U : Int) < 0) = False := eq_false (by omega)
  have t2 : ((1000 : Int) < (U : Int)) = False := eq_false (by have := HU.out; omega)
  have wu : wrap64 ((U : Int) + 1) = (U : Int) + 1 := IntWalk.wrap64_in _ (by have := HU.out; omega)
  have hmk := run_mk U HU.out
  go_enter Try.func8, Try.ntmps8
  go_wp2_with fail
  generalize w.alloc (.cells #[.slice ma m.length mcap, .slice ra rs.length rcap] 25) = W1 at HB HR HM JR O1 ⊢
  generalize w.heap.size = B at HB ⊢
  with_reducible refine JR.out.mono ?_
  rintro e w2 ⟨rfl, o⟩
  have O := Lib.hid o
  obtain ⟨c0, c1⟩ := (HB.out.keep o).cells
  have oal := o.alloc (.cells (mk U) 33)
  obtain ⟨d0, d1⟩ := (HB.out.keep oal).cells
  have M0 := Lib.hid (And.intro oal (Mvs.made (w := w2) (U := U) fun s hs => mk_get hs))
  clear o oal JR
  go_wp2_with fail
  have M1 := Lib.hid (And.intro M0.out.1 (M0.out.2.same (f' := rdy m rs 0 0) fun s _ => by simp [rdy, mv]))
  have LB := Lib.hid O.out.size
  clear M0 hmk
  generalize w2.alloc (.cells (mk U) 33) = W3 at M1 d0 d1 ⊢
  generalize w2.heap.size = Mb at M1 LB ⊢
  clear c0 c1 d0 d1 t1 t2 wu
  go_loopw [33] (fun i wr => ∃ (k : Nat) (vs : Nat → Value), k ≤ rs.length ∧ i = .int .i64 k ∧ Mvs wr Mb U vs (rdy m rs k 0) ∧ Only (fun _ => False) W1 wr) (fun i _ => rs.length - (intOf i).toNat)
  case atStart => exact ⟨0, _, Nat.zero_le _, rfl, M1.out.2, M1.out.1⟩
  case round =>
    obtain ⟨k, vs, hk, rfl, hmv, o⟩ := hrel
    have R := Lib.hid o
    have MV := Lib.hid hmv
    clear o hmv M1
    by_cases hlt : k < rs.length
    · have k1 : ((k : Int) < (rs.length : Int)) = True := eq_true (by omega)
      have k1n : ((k : Int) < (rs.length : Int)) := by omega
      have k0n : (0 : Int) ≤ (k : Int) := by omega
      have WK := Lib.hid (wrap_succ hlt (by have := HJ.out.2.2.2; unfold maxLen; omega))
      obtain ⟨b, off, rfl, hb, d0, d1, d2, hl⟩ := (HR.out.keep R.out).at hlt
      have oal : Only (fun _ => False) wr (wr.alloc (.cells #[.int .i64 (rr rs k).x, .int .i64 (rr rs k).y, .slice (rr rs k).a (rr rs k).l.length (rr rs k).cap] 53)) := (Only.refl _ wr).alloc _
      have R4 := Lib.hid (R.out.trans oal)
      have MV4 := Lib.hid (MV.out.keep oal)
      have BR := Lib.hid (show BoxR (wr.alloc (.cells #[.int .i64 (rr rs k).x, .int .i64 (rr rs k).y, .slice (rr rs k).a (rr rs k).l.length (rr rs k).cap] 53)) wr.heap.size (rr rs k).x (rr rs k).y (.slice (rr rs k).a (rr rs k).l.length (rr rs k).cap) from heap_alloc_new wr _)
      have HLk := Lib.hid (hl.keep oal)
      have HLT := Lib.hid hlt
      clear hl oal hb hlt
      obtain ⟨c0, c1⟩ := (HB.out.keep R4.out).cells
      obtain ⟨r0, r1, r2⟩ := BR.out.cells
      go_wp2_with fail
      generalize wr.alloc (.cells #[.int .i64 (rr rs k).x, .int .i64 (rr rs k).y, .slice (rr rs k).a (rr rs k).l.length (rr rs k).cap] 53) = W4 at R4 MV4 BR HLk c0 c1 r0 r1 r2 ⊢
      generalize wr.heap.size = BL at BR r0 r1 r2 ⊢
      have CH := Lib.hid (changes_own ma mcap m (rr rs k).x (rr rs k).y (rr rs k).a (rr rs k).cap (rr rs k).l U W4 (HM.out.keep R4.out) HLk.out (HLL.out k HLT.out) HJ.out.1 (route_of HJ.out.2.1 HLT.out) (by have := HU.out; omega))
      have MB4 := Lib.hid (show Mb < W4.heap.size from lt_of MV4.out.blk.choose_spec.1)
      clear d0 d1 d2 HLk
      with_reducible refine CH.out.mono ?_
      rintro e w5 ⟨⟨a', cap', rfl, hp, hfr⟩, o⟩
      have IN0 := Lib.hid (Inn.start R4.out MV4.out o)
      have PT := Lib.hid (show Pts w5 a' (cg m rs k U) from hp)
      have FR := Lib.hid (fun (b o : Nat) (e : a' = some ⟨b, o, none⟩) => Nat.not_lt.2 (hfr b o e))
      clear hp hfr o CH MV4 c0 c1 r0 r1 r2
      go_wp2_with fail
      go_loopw [51] (fun i ws => ∃ (c t : Nat) (vs : Nat → Value), i = .int .i64 c ∧ c = cn m rs k t ∧ t ≤ U + 1 ∧ Inn W1 W4 w5 Mb U vs (rdy m rs k t) ws) (fun i _ => (cg m rs k U).length - (intOf i).toNat)
      case atStart => exact ⟨0, 0, vs, rfl, rfl, Nat.zero_le _, IN0.out⟩
      case round =>
        obtain ⟨c, t, vs, rfl, hc, ht, hin⟩ := hrel
        by_cases hlt : c < (cg m rs k U).length
        · have j1 : ((c : Int) < ((cg m rs k U).length : Int)) = True := eq_true (by omega)
          have j1n : ((c : Int) < ((cg m rs k U).length : Int)) := by omega
          have j0n : (0 : Int) ≤ (c : Int) := by omega
          have WC := Lib.hid (wrap_succ hlt PT.out.1)
          obtain ⟨t', g1, g2, g3, g4, g5, g6, g7⟩ := adv m rs k U (U + 1 - t) t (by omega) (by rw [← hc]; exact hlt)
          rw [← hc] at g5 g6 g7
          obtain ⟨b2, off2, rfl, hb2, e0, e1⟩ := (pts_keepP PT.out hin.o5 FR.out).at hlt
          rw [g6] at e0
          rw [g7] at e1
          have HN : nr m rs k t' < 64 := by
            have := best_le m (posX (rr rs k).x (rr rs k).l t') (posY (rr rs k).y (rr rs k).l t') m.length
            have := good_parts HJ.out.1
            show best m _ _ m.length < 64
            omega
          have AD := Lib.hid (address_good (k : Int) ((nr m rs k t' : Nat) : Int) (by have := HLT.out; have := HJ.out.2.2.2; omega) (by omega))
          obtain ⟨n, hn⟩ : ∃ n, n = nr m rs k t' := ⟨_, rfl⟩
          rw [← hn] at e1 AD HN
          have oal : Only (fun _ => False) wr (wr.alloc (.cells #[.int .i64 (t' : Int), .int .i64 (n : Int)] 69)) := (Only.refl _ wr).alloc _
          have BC := Lib.hid (show Box (wr.alloc (.cells #[.int .i64 (t' : Int), .int .i64 (n : Int)] 69)) wr.heap.size t' n 69 from heap_alloc_new wr _)
          have IN6 := Lib.hid (((hin.same (f' := rdy m rs k t') fun s _ => rdy_adv g1 g4 s)).keep oal)
          have NB := Lib.hid (fun (q : Nat) (hq : (vs t').ownBlock = some q) => ((hin.mvs.rows t' g2).lt q hq).2)
          have GG := Lib.hid (And.intro g2 (And.intro g3 (And.intro g5 hlt)))
          have HNn := Lib.hid hn
          clear hin g1 g2 g3 g4 g5 g6 g7 hb2 hlt hc ht oal HN IN0 hn
          obtain ⟨x0, x1⟩ := BC.out.cells
          go_wp2_with fail
          generalize wr.alloc (.cells #[.int .i64 (t' : Int), .int .i64 (n : Int)] 69) = W6 at BC IN6 x0 x1 ⊢
          generalize wr.heap.size = BD at BC x0 x1 NB ⊢
          with_reducible refine (AD.out _).mono ?_
          rintro e w7 ⟨rfl, rfl⟩
          clear e0 e1 AD
          go_wp2_with fail
          have IN7 := Lib.hid (IN6.out.keep (Only.drew (Only.refl _ w7)))
          have BC7 := Lib.hid (BC.out.keep (Only.drew (Only.refl _ w7)))
          clear IN6 BC x0 x1
          obtain ⟨x0, x1⟩ := BC7.out.cells
          have hsz : (rdy m rs k t' t').length ≤ 8 := by have := rdy_len m rs k t'; have := HJ.out.2.2.2; have := HLT.out; omega
          have oal : Only (fun _ => False) w7.drew (w7.drew.alloc (.cells #[.int .i64 6, .int .i64 k, .int .i64 0, .int .i64 (8 * (n : Int) + k + 1), .slice none 0 0] 45)) := (Only.refl _ _).alloc _
          have y0 : (w7.alloc (.cells #[.int .i64 6, .int .i64 k, .int .i64 0, .int .i64 (8 * (n : Int) + k + 1), .slice none 0 0] 45)).drew.cell? ⟨BD, 0, none⟩ = some (.int .i64 t') := (BC7.out.keep oal).cells.1
          have mC := IN7.out.mvs.cell GG.out.1
          have mC' : (w7.alloc (.cells #[.int .i64 6, .int .i64 k, .int .i64 0, .int .i64 (8 * (n : Int) + k + 1), .slice none 0 0] 45)).drew.cell? ⟨Mb, t', none⟩ = some (vs t') := (IN7.out.keep oal).mvs.cell GG.out.1
          have i1 : (t' : Int) < (U : Int) + 1 := by have := GG.out.1; omega
          have i0' : (0 : Int) ≤ (t' : Int) := by omega
          have hMW : Mb + 1 ≤ w7.heap.size := lt_of IN7.out.mvs.blk.choose_spec.1
          obtain ⟨i0, hi0, hz0, hz1, hz2⟩ := info_parts info45
          go_region_law (first
            | (refine step_append_lies _ (by rfl) _ _ _ (by rfl) (Mb + 1) 45 i0 _ 5 56 Try.underlying33 hi0 hz0 hz1 hz2 rfl (by omega) (vs t') (rdy m rs k t' t').length (flatA (rdy m rs k t' t')) (by rfl) ((IN7.out.keep oal).mvs.rows t' GG.out.1) ⟨_, 0, none⟩ 1 1 [.int .i64 6, .int .i64 k, .int .i64 0, .int .i64 (8 * (n : Int) + k + 1), .slice none 0 0] (by rfl) (by rfl) (World.news_of_block (cs := #[.int .i64 6, .int .i64 k, .int .i64 0, .int .i64 (8 * (n : Int) + k + 1), .slice none 0 0]) (t := 45) (fr := (0, 0)) (heap_alloc_new _ _)) (by simp [Value.oneCell']) (by omega) (by unfold maxLen; omega) (by omega) (by simp; omega) _ rfl ?_; intro g' cap9 w9 hown9 hgrow9 hat9 hlt9; obtain ⟨mC, fM, INx⟩ := after IN7.out LB.out MB4.out GG.out.1 GG.out.2.1 HNn.out hgrow9 hown9 hat9; have x0 := (box_grown BC7.out hgrow9 NB.out).cells.1; have IN9 := Lib.hid INx; clear INx hown9 hgrow9 hat9 hlt9))
          all_goals
            have hwk := WC.out
            clear mC fM x0 BC7 IN7 NB
            go_wp2_with fail
            clear hwk
            go_roundw
            case rel => exact ⟨c + 1, t' + 1, _, by first | (rw [WC.out]; go_num) | go_num, by rw [cn_step, if_pos GG.out.2.1, GG.out.2.2.1], by have := GG.out.1; omega, IN9.out⟩
            case measure => first | exact meas WC.out GG.out.2.2.2 | exact meas rfl GG.out.2.2.2
        · have j1 : ((c : Int) < ((cg m rs k U).length : Int)) = False := eq_false (by omega)
          have MVe := Lib.hid (And.intro (hin.mvs.same (f' := rdy m rs (k + 1) 0) fun s hs => (rdy_end (U := U) (by rw [← hc]; omega) hs).symm) hin.o1)
          clear hin hc ht hlt IN0
          have wk := WK.out
          go_wp2_with fail
          clear wk
          go_roundw
          case rel => exact ⟨k + 1, vs, HLT.out, by first | (rw [WK.out]; go_num) | go_num, MVe.out.1, MVe.out.2⟩
          case measure => first | exact meas WK.out HLT.out | exact meas rfl HLT.out
    · have k1 : ((k : Int) < (rs.length : Int)) = False := eq_false (by omega)
      have e : k = rs.length := by omega
      subst e
      have m0 := MV.out.cell (Nat.zero_le U)
      have i1 : (0 : Int) < (U : Int) + 1 := by omega
      have T0 := Lib.hid (show Tail W1 Mb U vs (fun s => mv m rs s rs.length) 0 (vs 0) (pl m rs (0 + 1)) wr from by
        have h := Tail.start (MV.out.same (f' := fun s => mv m rs s rs.length) fun s _ => by simp [rdy]) R.out
        have e : pl m rs (0 + 1) = mv m rs 0 rs.length := by simp [pl]
        rw [e]
        exact h)
      clear MV R
      go_wp2_with fail
      all_goals
        clear m0 i1
        go_loopw [15, 84] (fun v i wr => ∃ c : Nat, c ≤ U ∧ i = .int .i64 c ∧ Tail W1 Mb U vs (fun s => mv m rs s rs.length) c v (pl m rs (c + 1)) wr) (fun _ i _ => U - (intOf i).toNat)
        case atStart => exact ⟨0, Nat.zero_le _, rfl, T0.out⟩
        case round =>
          obtain ⟨c, hc, rfl, ht⟩ := hrel
          by_cases hlt : c < U
          · first
              | (exfalso; omega)
              | (have j1 : ((c : Int) < (U : Int)) = True := eq_true (by omega)
                 have j1n : (c : Int) < (U : Int) := by omega
                 have j0n : (0 : Int) ≤ (c : Int) := by omega
                 have WC := Lib.hid (wrap_succ hlt (by have := HU.out; unfold maxLen; omega))
                 have mc : wr.cell? ⟨Mb, 1 + c, none⟩ = some (vs (c + 1)) := by
                   obtain ⟨q, hq, hs⟩ := ht.blk
                   rw [cell_of hq, Nat.add_comm 1 c]
                   exact hs (c + 1) hlt
                 have l1 := pl_len m rs HJ.out.2.2.2 (c + 1)
                 have l2 := mv_len m rs (c + 1) rs.length
                 have l3 := HJ.out.2.2.2
                 have l4 := HU.out
                 obtain ⟨v1, x1, hrun1, T1⟩ := ht.wait LB.out waitA (by omega)
                 obtain ⟨v2, x2, hrun2, T2⟩ := T1.row LB.out hlt (by rw [List.length_append]; simp; omega) (by show (mv m rs (c + 1) rs.length).length ≤ 1000; omega)
                 have e : (pl m rs (c + 1) ++ [waitA]) ++ mv m rs (c + 1) rs.length = pl m rs (c + 1 + 1) := by
                   exact (congrArg (· ++ mv m rs (c + 1) rs.length) (if_pos (Nat.succ_pos c)).symm : _ = (if 0 < c + 1 then pl m rs (c + 1) ++ [waitA] else pl m rs (c + 1)) ++ mv m rs (c + 1) rs.length)
                 rw [e] at T2
                 have TN := Lib.hid T2
                 have HLT := Lib.hid hlt
                 clear T1 T2 ht e l1 l2 l3 l4 hlt hc T0
                 have hwk := WC.out
                 go_wp2_with (first | (at_builtin; refine Lib.wpList_append_run _ rfl (.tmp 88) (.tmp 90) 33 33 rfl _ _ rfl rfl _ _ hrun1 ?_) | (at_builtin; refine Lib.wpList_append_run _ rfl (.tmp 92) (.tmp 93) 33 33 rfl _ _ rfl rfl _ _ hrun2 ?_))
                 clear hwk
                 go_roundw
                 case rel => exact ⟨c + 1, HLT.out, by first | (rw [WC.out]; go_num) | go_num, TN.out⟩
                 case measure => first | exact meas WC.out HLT.out | exact meas rfl HLT.out)
          · have j1 : ((c : Int) < (U : Int)) = False := eq_false (by omega)
            have e : c = U := by omega
            subst e
            have TE := Lib.hid ht
            clear ht
            have LW := Lib.hid (Nat.le_trans O1.out.size LB.out)
            go_wp2_with fail
            exact bodyPost_ret (v := .tuple #[u15, .int .i64 0]) (by simp [results, Try.results8, go_sem]) rfl ⟨⟨u15, rfl, TE.out.own.mono (by have := LW.out; omega)⟩, O1.out.trans TE.out.o1⟩
end Go.Proofs.Ytklcanjlkmkmmaa.rmK
