/- Roam: the document's journeys; where a host is. -/
import Derived.Test.YtklcanjlkmkmmaaRmA
namespace Go.Proofs.Ytklcanjlkmkmmaa.rmB
open Go.RowKit Go.Lib Go.Proofs.Ytklcanjlkmkmmaa.kit Go.Proofs.Ytklcanjlkmkmmaa.floA Go.Proofs.Ytklcanjlkmkmmaa.skyA Go.Proofs.Ytklcanjlkmkmmaa.skyB Go.Proofs.Ytklcanjlkmkmmaa.skyC Go.Proofs.Ytklcanjlkmkmmaa.skyD Go.Proofs.Ytklcanjlkmkmmaa.skyE Go.Proofs.Ytklcanjlkmkmmaa.skyF Go.Proofs.Ytklcanjlkmkmmaa.skyG Go.Proofs.Ytklcanjlkmkmmaa.skyH Go.Proofs.Ytklcanjlkmkmmaa.skyI Go.Proofs.Ytklcanjlkmkmmaa.skyK Go.Proofs.Ytklcanjlkmkmmaa.skyO Go.Proofs.Ytklcanjlkmkmmaa.skyP Go.Proofs.Ytklcanjlkmkmmaa.skyQ Go.Proofs.Ytklcanjlkmkmmaa.skyT Go.Proofs.Ytklcanjlkmkmmaa.rmA
set_option linter.unusedVariables false
set_option linter.unusedSimpArgs false

theorem jOk_parts {m : List (Int × Int)} {rs : List Rt} (h : jOk m rs = true) : good m = true ∧ rtsOk rs rs.length = true ∧ 1 ≤ rs.length ∧ rs.length ≤ 8 := by
  simp [jOk] at h
  exact ⟨h.1, h.2.1, by omega, by omega⟩

theorem good_parts {m : List (Int × Int)} (h : good m = true) : ok m = true ∧ 1 ≤ m.length ∧ m.length ≤ 64 := by
  simp [good] at h
  exact ⟨h.1, by omega, by omega⟩

set_option maxHeartbeats 800000 in
theorem refjright_any (ma : Option Addr) (mcap : Nat) (m : List (Int × Int)) (ra : Option Addr) (rcap : Nat) (rs : List Rt) (w : World) (hm : Pts w ma m) (hr : Rts w ra rs) (hrl : rs.length ≤ 1000) (hll : ∀ k, k < rs.length → (rr rs k).l.length ≤ 1000) :
    Calls Try.prog 7 #[.slice ma m.length mcap, .slice ra rs.length rcap] w fun e w' => e = .returned (.bool (jOk m rs)) ∧ Only (fun _ => False) w w' := by
  have HM := Lib.hid hm
  have HR := Lib.hid hr
  have HL := Lib.hid hrl
  have HLL := Lib.hid hll
  clear hm hr hrl hll
  go_enter Try.func7, Try.ntmps7
  go_wp2_with fail
  go_loopw [5] (fun i wr => ∃ k : Nat, k ≤ rs.length ∧ i = .int .i64 k ∧ rtsOk rs k = true ∧ Only (fun _ => False) w wr) (fun i _ => rs.length - (intOf i).toNat)
  case atStart => exact ⟨0, Nat.zero_le _, rfl, rfl, Only.refl _ _⟩
  case round =>
    obtain ⟨k, hk, rfl, hok, o⟩ := hrel
    have R := Lib.hid o
    have OK := Lib.hid hok
    clear o hok
    by_cases hlt : k < rs.length
    · have k1 : ((k : Int) < (rs.length : Int)) = True := eq_true (by omega)
      have k1n : ((k : Int) < (rs.length : Int)) := by omega
      have k0n : (0 : Int) ≤ (k : Int) := by omega
      have WK := Lib.hid (wrap_succ hlt (by have := HL.out; unfold maxLen; omega))
      obtain ⟨b, off, rfl, hb, d0, d1, d2, hl⟩ := (HR.out.keep R.out).at hlt
      have RA := Lib.hid (fun (w' : World) (o : Only (fun _ => False) wr w') => refroutes_any (rr rs k).x (rr rs k).y (rr rs k).a (rr rs k).cap (rr rs k).l w' (hl.keep o) (HLL.out k hlt))
      have HLT := Lib.hid hlt
      clear hl hb
      go_wp2_with fail
      go_still_tail 10, (by kernel_rfl)
      go_wp2_with fail
      with_reducible refine (RA.out _ (Only.drew (Only.refl _ _))).mono ?_
      rintro e w5 ⟨rfl, o⟩
      have R5 := Lib.hid ((Only.drew R.out).trans o)
      clear o d0 d1 d2 RA hlt
      cases hr : routeOk (rr rs k).x (rr rs k).y (rr rs k).l
      · go_wp2_with fail
        go_ret
        refine ⟨?_, R5.out⟩
        have : rtsOk rs rs.length = false := rtsOk_false (k := k + 1) (by simp [rtsOk, hr]) HLT.out
        simp [jOk, this]
      · have wk := WK.out
        go_wp2_with fail
        clear wk
        go_roundw
        case rel => exact ⟨k + 1, HLT.out, by first | (rw [WK.out]; go_num) | go_num, by simp [rtsOk, hr, OK.out], R5.out⟩
        case measure => first | exact meas WK.out HLT.out | exact meas rfl HLT.out
    · have k1 : ((k : Int) < (rs.length : Int)) = False := eq_false (by omega)
      have e : k = rs.length := by omega
      subst e
      have hok := OK.out
      have MA := Lib.hid (masts_any ma mcap m wr (HM.out.keep R.out))
      go_wp2_with fail
      with_reducible refine MA.out.mono ?_
      rintro e w5 ⟨rfl, o⟩
      have R5 := Lib.hid (R.out.trans o)
      clear o MA
      cases hg : good m
      · go_wp2_with fail
        go_ret
        exact ⟨by simp [jOk, hg], R5.out⟩
      by_cases g1 : 1 ≤ rs.length
      · have t1 : ((1 : Int) ≤ (rs.length : Int)) = True := eq_true (by omega)
        go_wp2_with fail
        go_ret
        exact ⟨by simp [jOk, hg, hok, t1], R5.out⟩
      · have t1 : ((1 : Int) ≤ (rs.length : Int)) = False := eq_false (by omega)
        go_wp2_with fail
        go_ret
        exact ⟨by simp [jOk, hg, hok, t1], R5.out⟩

theorem wraps3 {n h : Nat} (hn : n ≤ 63) (hh : h ≤ 7) : IntKind.i64.wrap (IntKind.i64.wrap (IntKind.i64.wrap (8 * (n : Int)) + (h : Int)) + 1) = 8 * (n : Int) + (h : Int) + 1 := by
  rw [IntWalk.i64_in (8 * (n : Int)) (by omega), IntWalk.i64_in (8 * (n : Int) + (h : Int)) (by omega), IntWalk.i64_in (8 * (n : Int) + (h : Int) + 1) (by omega)]

/-- The address of a host at a second. -/
def addr (m : List (Int × Int)) (rs : List Rt) (h : Nat) (t : Int) : Int := 8 * ((best m (posX (rr rs h).x (rr rs h).l t) (posY (rr rs h).y (rr rs h).l t) m.length : Nat) : Int) + h + 1

set_option maxHeartbeats 800000 in
theorem refjat_any (ma : Option Addr) (mcap : Nat) (m : List (Int × Int)) (ra : Option Addr) (rcap : Nat) (rs : List Rt) (h : Nat) (t : Int) (w : World) (hm : Pts w ma m) (hr : Rts w ra rs) (hj : jOk m rs = true) (hh : h < rs.length) (h0 : 0 ≤ t) (h63 : t ≤ 9223372036854775807) :
    Calls Try.prog 12 #[.slice ma m.length mcap, .slice ra rs.length rcap, .int .i64 h, .int .i64 t] w fun e w' => e = .returned (.int .i64 (addr m rs h t)) ∧ Only (fun _ => False) w w' := by
  obtain ⟨hg, hro, hl1, hl8⟩ := jOk_parts hj
  obtain ⟨g1, g2, g3⟩ := good_parts hg
  have hro' := route_of hro hh
  obtain ⟨p0, p1⟩ := pmid (route_parts hro').1 (route_parts hro').2.2 h0 (Nat.le_refl (rr rs h).l.length)
  obtain ⟨b, off, rfl, hb, d0, d1, d2, hl⟩ := hr.at hh
  have S := Lib.hid (fun (w' : World) (o : Only (fun _ => False) w w') => (⟨(World.cell?_of_block (a := ⟨b, _, none⟩) (o.block b hb id)).trans d0, (World.cell?_of_block (a := ⟨b, _, none⟩) (o.block b hb id)).trans d1, (World.cell?_of_block (a := ⟨b, _, none⟩) (o.block b hb id)).trans d2⟩ : w'.cell? ⟨b, off + h * 3, none⟩ = some (.int .i64 (rr rs h).x) ∧ w'.cell? ⟨b, off + h * 3 + 1, none⟩ = some (.int .i64 (rr rs h).y) ∧ w'.cell? ⟨b, off + h * 3 + 2, none⟩ = some (.slice (rr rs h).a (rr rs h).l.length (rr rs h).cap)))
  have RA := Lib.hid (fun (w' : World) (o : Only (fun _ => False) w w') => refat_any (rr rs h).x (rr rs h).y (rr rs h).a (rr rs h).cap (rr rs h).l t w' (hl.keep o) hro' h0 h63)
  have NE := Lib.hid (fun (w' : World) (o : Only (fun _ => False) w w') => refnearest_any ma mcap m _ _ w' (hm.keep o) p0 p1 g1 g2 g3)
  rw [show pX (rr rs h).x (rr rs h).l t (rr rs h).l.length = posX (rr rs h).x (rr rs h).l t from rfl, show pY (rr rs h).y (rr rs h).l t (rr rs h).l.length = posY (rr rs h).y (rr rs h).l t from rfl] at NE
  have hbe := best_le m (posX (rr rs h).x (rr rs h).l t) (posY (rr rs h).y (rr rs h).l t) m.length
  have ha : addr m rs h t = 8 * ((best m (posX (rr rs h).x (rr rs h).l t) (posY (rr rs h).y (rr rs h).l t) m.length : Nat) : Int) + h + 1 := rfl
  rw [ha]
  generalize best m (posX (rr rs h).x (rr rs h).l t) (posY (rr rs h).y (rr rs h).l t) m.length = n at NE hbe ⊢
  generalize posX (rr rs h).x (rr rs h).l t = PX at NE RA
  generalize posY (rr rs h).y (rr rs h).l t = PY at NE RA
  have W := Lib.hid (wraps3 (n := n) (h := h) (by omega) (by omega))
  have i1 : (h : Int) < (rs.length : Int) := by omega
  have i0 : (0 : Int) ≤ (h : Int) := by omega
  have R := Lib.hid (Only.drew (Only.refl (fun _ => False) w))
  clear hm hr hj h0 h63 hg hro hl1 hl8 g1 g2 g3 hro' p0 p1 hb hl hbe ha
  go_enter Try.func12, Try.ntmps12
  go_wp2_with fail
  go_region_held3 (fun w' => w'.cell? ⟨b, off + h * 3, none⟩ = some (.int .i64 (rr rs h).x) ∧ w'.cell? ⟨b, off + h * 3 + 1, none⟩ = some (.int .i64 (rr rs h).y) ∧ w'.cell? ⟨b, off + h * 3 + 2, none⟩ = some (.slice (rr rs h).a (rr rs h).l.length (rr rs h).cap)) (first | exact S.out _ R.out)
    (first
      | (go_at_call 23; (with_reducible refine Calls.mono (RA.out _ R.out) ?_); rintro e w' ⟨rfl, o'⟩; have R := Lib.hid (R.out.trans o'); clear o')
      | (go_at_call 22; (with_reducible refine Calls.mono (NE.out _ R.out) ?_); rintro e w' ⟨rfl, o'⟩; have R := Lib.hid (R.out.trans o'); clear o'))
  all_goals
    go_wp2_with fail
    go_ret
    refine ⟨?_, R.out⟩
    simp
    exact W.out
end Go.Proofs.Ytklcanjlkmkmmaa.rmB
