/- Roam: a journey as the document's. -/
import Derived.Test.YtklcanjlkmkmmaaRmR
import Derived.Test.YtklcanjlkmkmmaaRmQm
import Derived.Deep.RegionLaw
import Derived.Deep.RegionHeld3
import Derived.Deep.AppendLies
namespace Go.Proofs.Ytklcanjlkmkmmaa.rmQ
open Go.RowKit Go.Lib Go.Proofs.Ytklcanjlkmkmmaa.kit Go.Proofs.Ytklcanjlkmkmmaa.floA Go.Proofs.Ytklcanjlkmkmmaa.skyA Go.Proofs.Ytklcanjlkmkmmaa.skyB Go.Proofs.Ytklcanjlkmkmmaa.skyC Go.Proofs.Ytklcanjlkmkmmaa.skyD Go.Proofs.Ytklcanjlkmkmmaa.skyE Go.Proofs.Ytklcanjlkmkmmaa.skyF Go.Proofs.Ytklcanjlkmkmmaa.skyG Go.Proofs.Ytklcanjlkmkmmaa.skyH Go.Proofs.Ytklcanjlkmkmmaa.skyI Go.Proofs.Ytklcanjlkmkmmaa.skyS Go.Proofs.Ytklcanjlkmkmmaa.rmA Go.Proofs.Ytklcanjlkmkmmaa.rmG Go.Proofs.Ytklcanjlkmkmmaa.rmO Go.Proofs.Ytklcanjlkmkmmaa.rmP Go.Proofs.Ytklcanjlkmkmmaa.rmR Go.Proofs.Ytklcanjlkmkmmaa.rmQm
set_option linter.unusedVariables false
set_option linter.unusedSimpArgs false

set_option maxHeartbeats 1600000 in
theorem as_any (ma : Option Addr) (mcap : Nat) (m : List (Int × Int)) (ra : Option Addr) (rcap : Nat) (rs : List Rt) (w : World) (hm : Pts w ma m) (hml : m.length ≤ 70) (hr : Rts w ra rs) (hrl : rs.length ≤ 10) (hll : ∀ k, k < rs.length → (rr rs k).l.length ≤ 70) :
    Calls Try.prog 6 #[jn ma m.length mcap ra rs.length rcap] w fun e w' => (∃ ma' mcap' ra' rcap' rs', e = .returned (.tuple #[.slice ma' m.length mcap', .slice ra' rs'.length rcap']) ∧ Pts w' ma' m ∧ Rts w' ra' rs' ∧ Like rs rs') ∧ Only (fun _ => False) w w' := by
  obtain ⟨i0, hi0, hz0, hz1, hz2⟩ := info_parts info54
  have HB := Lib.hid (show BoxJ (w.alloc (.cells #[.slice ma m.length mcap, .slice ra rs.length rcap] 25)) w.heap.size (.slice ma m.length mcap) (.slice ra rs.length rcap) from heap_alloc_new w _)
  have o1 : Only (fun _ => False) w (w.alloc (.cells #[.slice ma m.length mcap, .slice ra rs.length rcap] 25)) := (Only.refl _ w).alloc _
  have HR := Lib.hid (hr.keep o1)
  have HM := Lib.hid (hm.keep o1)
  have HL := Lib.hid (And.intro hml (And.intro hrl hll))
  have O1 := Lib.hid o1
  have hs1 : (w.alloc (.cells #[.slice ma m.length mcap, .slice ra rs.length rcap] 25)).heap.size = w.heap.size + 1 := World.size_alloc _ _
  clear hm hr hml hrl hll o1
  go_enter Try.func6, Try.ntmps6
  go_wp2_with fail
  generalize w.alloc (.cells #[.slice ma m.length mcap, .slice ra rs.length rcap] 25) = W1 at HB HR HM O1 hs1 ⊢
  generalize w.heap.size = B at HB hs1 ⊢
  have R0 := Lib.hid (And.intro ((Only.refl (fun _ => False) W1).alloc (.cells #[] 54)) (show (W1.alloc (.cells #[] 54)).ownsRow W1.heap.size 54 2 (.slice (some ⟨W1.heap.size, 0, none⟩) 0 0) 0 (flat (m.take 0)) from ⟨rfl, .inr ⟨_, 0, _, rfl, Nat.le_refl _, heap_alloc_new W1 _, Nat.le_refl _, by decide, rfl, rfl⟩⟩))
  generalize W1.alloc (.cells #[] 54) = W2 at R0 ⊢
  go_loopw [4, 5] (fun v i wr => ∃ k : Nat, k ≤ m.length ∧ i = .int .i64 k ∧ Only (fun _ => False) W1 wr ∧ wr.ownsRow W1.heap.size 54 2 v k (flat (m.take k))) (fun _ i _ => m.length - (intOf i).toNat)
  case atStart => exact ⟨0, Nat.zero_le _, rfl, R0.out.1, by rw [← hs1]; exact R0.out.2⟩
  case round =>
    obtain ⟨k, hk, rfl, o, hown⟩ := hrel
    have R := Lib.hid o
    have OW := Lib.hid hown
    clear o hown R0
    obtain ⟨c0, c1⟩ := (HB.out.keep R.out).cells
    by_cases hlt : k < m.length
    · have k1 : ((k : Int) < (m.length : Int)) = True := eq_true (by omega)
      have k1n : ((k : Int) < (m.length : Int)) := by omega
      have k0n : (0 : Int) ≤ (k : Int) := by omega
      have WK := Lib.hid (wrap_succ hlt (by have := HL.out.1; unfold maxLen; omega))
      have HLT := Lib.hid hlt
      have R7 := Lib.hid (Only.drew R.out)
      have OW7 := Lib.hid (owns_keep OW.out (Only.drew (Only.refl _ wr)))
      go_wp2_with fail
      clear c0 c1
      obtain ⟨c0, c1⟩ := (HB.out.keep R7.out).cells
      obtain ⟨b, off, rfl, hb, d0, d1⟩ := (HM.out.keep R7.out).at HLT.out
      have hsz : W1.heap.size ≤ wr.heap.size := R.out.size
      have hkk : k ≤ 70 := by have := HL.out.1; omega
      go_region_law (first
        | (refine step_append_lies _ (by rfl) _ _ _ (by rfl) W1.heap.size 54 i0 _ 2 16 Try.underlying28 hi0 hz0 hz1 hz2 rfl (by omega) u4 k (flat (m.take k)) (by rfl) (OW7.out.alloc _) ⟨_, 0, none⟩ 1 1 [.int .i64 (px m k), .int .i64 (py m k)] (by rfl) (by rfl) (World.news_of_block (cs := #[.int .i64 (px m k), .int .i64 (py m k)]) (t := 54) (fr := (0, 0)) (heap_alloc_new _ _)) (by simp [Value.oneCell']) (by omega) (by unfold maxLen; omega) (by omega) (by simp; omega) _ rfl ?_; intro g' cap9 w9 hown9 hgrow9 hat9 hlt9; have R9 := Lib.hid (Only.grownNew (R7.out.alloc _) hgrow9 fun q hq => (OW7.out.lt q hq).1); have OW9 := Lib.hid hown9; clear hown9 hgrow9 hat9 hlt9))
      all_goals
        have wk := WK.out
        go_wp2_with fail
        clear wk
        go_roundw
        case rel => exact ⟨k + 1, HLT.out, by first | (rw [WK.out]; go_num) | go_num, R9.out, by rw [flat_snoc m k HLT.out]; exact OW9.out⟩
        case measure => first | exact meas WK.out HLT.out | exact meas rfl HLT.out
    · have k1 : ((k : Int) < (m.length : Int)) = False := eq_false (by omega)
      have e : k = m.length := by omega
      subst e
      obtain ⟨W0, rfl⟩ : ∃ W, W = wr := ⟨_, rfl⟩
      have hown := OW.out
      rw [List.take_length] at hown
      obtain ⟨ma', mcap', rfl, hp⟩ := pts_of_owns hown (by have := HL.out.1; unfold maxLen; omega)
      have PM := Lib.hid hp
      have G0 := Lib.hid (And.intro ((Only.refl (fun _ => False) W0).alloc (.cells #[] 57)) (show RowG W0.heap.size rs [] 0 (.slice (some ⟨W0.heap.size, 0, none⟩) 0 0) (W0.alloc (.cells #[] 57)) from ⟨⟨rfl, .inr ⟨_, 0, _, rfl, Nat.le_refl _, heap_alloc_new W0 _, Nat.le_refl _, by decide, rfl, rfl⟩⟩, Got.nil _ _, fun j h => absurd h (Nat.not_lt_zero j)⟩))
      clear hown hp OW
      go_wp2_with fail
      clear c0 c1
      generalize W0.alloc (.cells #[] 57) = W5 at G0 ⊢
      go_loopw [6, 7] (fun v i wr => ∃ (k : Nat) (got : List Rt), k ≤ rs.length ∧ i = .int .i64 k ∧ RowG W0.heap.size rs got k v wr ∧ Only (fun _ => False) W0 wr) (fun _ i _ => rs.length - (intOf i).toNat)
      case atStart => exact ⟨0, [], Nat.zero_le _, rfl, G0.out.2, G0.out.1⟩
      case round =>
        obtain ⟨k, got, hk, rfl, hrg, o⟩ := hrel
        have Q := Lib.hid o
        have RG := Lib.hid hrg
        clear o hrg G0
        obtain ⟨c0, c1⟩ := (HB.out.keep (R.out.trans Q.out)).cells
        by_cases hlt : k < rs.length
        · have k1 : ((k : Int) < (rs.length : Int)) = True := eq_true (by omega)
          have k1n : ((k : Int) < (rs.length : Int)) := by omega
          have k0n : (0 : Int) ≤ (k : Int) := by omega
          have WK := Lib.hid (wrap_succ hlt (by have := HL.out.2.1; unfold maxLen; omega))
          have HLT := Lib.hid hlt
          go_wp2_with fail
          clear c0 c1
          have Q7 := Lib.hid (Only.drew Q.out)
          obtain ⟨b, off, rfl, hb, d0, d1, d2, hl⟩ := (HR.out.keep (R.out.trans Q.out)).at hlt
          have HLg := Lib.hid hl
          have KP := Lib.hid (fun (o : Obj) => (show (wr.alloc o).drew.cell? ⟨B, 1, none⟩ = some (.slice (some ⟨b, off, none⟩) rs.length rcap) ∧ (wr.alloc o).drew.cell? ⟨b, off + k * 3, none⟩ = some (.int .i64 (rr rs k).x) ∧ (wr.alloc o).drew.cell? ⟨b, off + k * 3 + 1, none⟩ = some (.int .i64 (rr rs k).y) from by
            have oal : Only (fun _ => False) wr (wr.alloc o).drew := Only.drew ((Only.refl _ _).alloc _)
            exact ⟨((HB.out.keep (R.out.trans Q.out)).keep oal).cells.2, (World.cell?_of_block (a := ⟨b, _, none⟩) (oal.block b hb id)).trans d0, (World.cell?_of_block (a := ⟨b, _, none⟩) (oal.block b hb id)).trans d1⟩))
          have c1 : wr.drew.cell? ⟨B, 1, none⟩ = some (.slice (some ⟨b, off, none⟩) rs.length rcap) := (HB.out.keep (R.out.trans Q7.out)).cells.2
          have e0 : wr.drew.cell? ⟨b, off + k * 3, none⟩ = some (.int .i64 (rr rs k).x) := d0
          have e1 : wr.drew.cell? ⟨b, off + k * 3 + 1, none⟩ = some (.int .i64 (rr rs k).y) := d1
          have HBb := Lib.hid hb
          clear d0 d1 d2 hl hb
          go_region_held3 (fun w' => w'.cell? ⟨B, 1, none⟩ = some (.slice (some ⟨b, off, none⟩) rs.length rcap) ∧ w'.cell? ⟨b, off + k * 3, none⟩ = some (.int .i64 (rr rs k).x) ∧ w'.cell? ⟨b, off + k * 3 + 1, none⟩ = some (.int .i64 (rr rs k).y)) (first | exact KP.out _ | go_keep) (fail)
          clear c1 e0 e1
          have hbq : BoxQ (wr.alloc (.cells #[.int .i64 (rr rs k).x, .int .i64 (rr rs k).y, .slice none 0 0] 57)).drew wr.heap.size (rr rs k).x (rr rs k).y (.slice none 0 0) := heap_alloc_new wr _
          have BQ := Lib.hid hbq
          have Q8 := Lib.hid (show Only (fun _ => False) wr (wr.alloc (.cells #[.int .i64 (rr rs k).x, .int .i64 (rr rs k).y, .slice none 0 0] 57)).drew from Only.drew ((Only.refl _ _).alloc _))
          have HSZ := Lib.hid (show W0.heap.size ≤ wr.heap.size from Q.out.size)
          have LL := Lib.hid (HL.out.2.2 k hlt)
          obtain ⟨n, hn⟩ : ∃ n, n = (rr rs k).l.length := ⟨_, rfl⟩
          have HN := Lib.hid hn
          clear hbq KP Q7 hn
          obtain ⟨Wo, rfl⟩ : ∃ W, W = wr := ⟨_, rfl⟩
          generalize (Wo.alloc (.cells #[.int .i64 (rr rs k).x, .int .i64 (rr rs k).y, .slice none 0 0] 57)).drew = W6 at BQ Q8 ⊢
          go_wp2_with fail
          go_loopw [9] (fun i wr => ∃ (j : Nat) (v : Value), j ≤ n ∧ i = .int .i64 j ∧ BoxQ wr Wo.heap.size (rr rs k).x (rr rs k).y v ∧ wr.ownsRow (Wo.heap.size + 1) 61 3 v j (flat3 ((rr rs k).l.take j)) ∧ Only (fun _ => False) Wo wr) (fun i _ => n - (intOf i).toNat)
          case atStart => exact ⟨0, _, Nat.zero_le _, rfl, BQ.out, World.ownsRow_nil _ _ _ _, Q8.out⟩
          case round =>
            obtain ⟨j, v, hj, rfl, hbq, hown, o⟩ := hrel
            have T := Lib.hid o
            have BQ := Lib.hid hbq
            have OWn := Lib.hid hown
            clear o hbq hown Q8
            have c1 := (HB.out.keep (R.out.trans (Q.out.trans T.out))).cells.2
            have d2 : wr.cell? ⟨b, off + k * 3 + 2, none⟩ = some (.slice (rr rs k).a n (rr rs k).cap) := by
              obtain ⟨b', off', hbe, hb', q0, q1, q2, q3⟩ := (HR.out.keep (R.out.trans (Q.out.trans T.out))).at HLT.out
              injection hbe with hbe
              injection hbe with x1 x2
              subst x1 x2
              rw [HN.out]
              exact q2
            by_cases hlt2 : j < n
            · have j1 : ((j : Int) < (n : Int)) = True := eq_true (by omega)
              have j1n : ((j : Int) < (n : Int)) := by omega
              have j0n : (0 : Int) ≤ (j : Int) := by omega
              have k1 : ((k : Int) < (rs.length : Int)) = True := eq_true (by have := HLT.out; omega)
              have k1n : ((k : Int) < (rs.length : Int)) := by have := HLT.out; omega
              have k0n : (0 : Int) ≤ (k : Int) := by omega
              have WJ := Lib.hid (wrap_succ hlt2 (by have := HN.out; have := LL.out; unfold maxLen; omega))
              have HJ := Lib.hid hlt2
              obtain ⟨lb, loff, hla, hlb, g0, g1, g2⟩ := (HLg.out.keep T.out).at (k := j) (by rw [← HN.out]; exact hlt2)
              rw [hla] at d2
              obtain ⟨g9, cp9, w9, hr, f9, c9, bq9, own9, o9⟩ := leg_put (o59 := .cells #[.int .i64 (lx (rr rs k).l j), .int .i64 (ly (rr rs k).l j), .int .i64 (ls (rr rs k).l j)] 59) (a := lx (rr rs k).l j) (b := ly (rr rs k).l j) (c := ls (rr rs k).l j) BQ.out OWn.out (by have := HN.out; have := LL.out; omega)
              have cO := BQ.out.cells.2.2
              have cO' := (BQ.out.keep ((Only.refl (fun _ => False) wr).alloc (.cells #[.int .i64 (lx (rr rs k).l j), .int .i64 (ly (rr rs k).l j), .int .i64 (ls (rr rs k).l j)] 59))).cells.2.2
              have s6 : (wr.alloc (.cells #[.int .i64 (lx (rr rs k).l j), .int .i64 (ly (rr rs k).l j), .int .i64 (ls (rr rs k).l j)] 59)).heap.size = wr.heap.size + 1 := World.size_alloc _ _
              have KK := Lib.hid (And.intro bq9 (And.intro own9 o9))
              have hr9 := hr
              have wj := WJ.out
              clear bq9 own9 o9 hr hlb hlt2
              go_wp2_with (at_builtin; refine Lib.wpList_append_run _ rfl (.tmp 80) (.tmp 90) 55 55 rfl _ _ rfl rfl _ _ hr9 ?_)
              clear wj
              go_roundw
              case rel => exact ⟨j + 1, _, HJ.out, by first | (rw [WJ.out]; go_num) | go_num, KK.out.1, by rw [flat3_snoc _ j (by rw [← HN.out]; exact HJ.out)]; exact KK.out.2.1, KK.out.2.2 Wo T.out (Nat.le_refl _)⟩
              case measure => first | exact meas WJ.out HJ.out | exact meas rfl HJ.out
            · have j1 : ((j : Int) < (n : Int)) = False := eq_false (by omega)
              have k1 : ((k : Int) < (rs.length : Int)) = True := eq_true (by have := HLT.out; omega)
              have k1n : ((k : Int) < (rs.length : Int)) := by have := HLT.out; omega
              have k0n : (0 : Int) ≤ (k : Int) := by omega
              have e : j = n := by omega
              subst e
              have hown := OWn.out
              have hnl := HN.out
              rw [hnl, List.take_length] at hown
              obtain ⟨la, lcap, rfl, hp⟩ := lgs_of_owns hown (by have := LL.out; unfold maxLen; omega)
              rw [← hnl] at BQ
              have hap : ∀ b' o', la = some ⟨b', o', none⟩ → u6.ownBlock ≠ some b' ∧ b' < wr.heap.size := fun b' o' q => by
                subst q
                have h1 := hown.lt b' rfl
                refine ⟨fun q => ?_, h1.2⟩
                have := (RG.out.own.lt b' q).2
                omega
              obtain ⟨v', w9, hr, rg9, o9⟩ := (RG.out.keep T.out).put (by have := HSZ.out; have := T.out.size; omega) (by have := HLT.out; have := HL.out.2.1; omega) (cap := lcap) hp hap
              rw [← hnl] at hr
              have KK := Lib.hid (And.intro rg9 (o9 W0 (Q.out.trans T.out) (Nat.le_refl _)))
              obtain ⟨q0, q1, q2⟩ := BQ.out.cells
              have hr9 := hr
              have wk := WK.out
              clear hown hnl hp hap hr rg9 o9
              go_wp2_with (at_builtin; refine Lib.wpList_append_run _ rfl (.tmp 93) (.tmp 95) 29 29 rfl _ _ rfl rfl _ _ hr9 ?_)
              clear wk
              go_roundw
              case rel => exact ⟨k + 1, _, HLT.out, by first | (rw [WK.out]; go_num) | go_num, KK.out.1, KK.out.2⟩
              case measure => first | exact meas WK.out HLT.out | exact meas rfl HLT.out
        · have k1 : ((k : Int) < (rs.length : Int)) = False := eq_false (by omega)
          have e : k = rs.length := by omega
          subst e
          have gl := RG.out.gt.len
          have hown := RG.out.own
          rw [← gl] at hown
          obtain ⟨ra', rcap', rfl, hp⟩ := rts_of_owns hown (by rw [gl]; have := HL.out.2.1; unfold maxLen; omega) (by rw [gl]; exact RG.out.gt.legs)
          have KK := Lib.hid (And.intro (PM.out.keep Q.out) (And.intro hp (And.intro RG.out.gt.like (O1.out.trans (R.out.trans Q.out)))))
          clear gl hown hp
          go_wp2_with fail
          go_ret2
          exact ⟨⟨_, _, _, _, got, rfl, KK.out.1, KK.out.2.1, KK.out.2.2.1⟩, KK.out.2.2.2⟩
end Go.Proofs.Ytklcanjlkmkmmaa.rmQ
