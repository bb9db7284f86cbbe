/- sky: the document's place at a second, and the document's turn. -/
import Derived.Test.YtklcanjlkmkmmaaSkyP
namespace Go.Proofs.Ytklcanjlkmkmmaa.skyQ
open Go.RowKit Go.Lib Go.Proofs.Ytklcanjlkmkmmaa.kit Go.Proofs.Ytklcanjlkmkmmaa.floA Go.Proofs.Ytklcanjlkmkmmaa.skyA Go.Proofs.Ytklcanjlkmkmmaa.skyB Go.Proofs.Ytklcanjlkmkmmaa.skyC Go.Proofs.Ytklcanjlkmkmmaa.skyD Go.Proofs.Ytklcanjlkmkmmaa.skyE Go.Proofs.Ytklcanjlkmkmmaa.skyF Go.Proofs.Ytklcanjlkmkmmaa.skyG Go.Proofs.Ytklcanjlkmkmmaa.skyH Go.Proofs.Ytklcanjlkmkmmaa.skyI Go.Proofs.Ytklcanjlkmkmmaa.skyO Go.Proofs.Ytklcanjlkmkmmaa.skyP
set_option linter.unusedVariables false
set_option linter.unusedSimpArgs false

/-- The leg of a second. -/
theorem leg_of {l : List Leg3} {n : Nat} (h : pos l n) {t : Int} (h0 : 0 ≤ t) : ∀ {k : Nat}, k ≤ n → t < sm l k → ∃ j i, j < k ∧ t = sm l j + i ∧ 0 ≤ i ∧ i ≤ ls l j
  | 0, _, ht => by simp [sm] at ht; omega
  | k + 1, hk, ht => by
    rcases Int.lt_or_le t (sm l k) with g | g
    · obtain ⟨j, i, h1, h2⟩ := leg_of h h0 (k := k) (by omega) g
      exact ⟨j, i, by omega, h2⟩
    · simp only [sm] at ht
      exact ⟨k, t - sm l k, by omega, by omega, by omega, by omega⟩

theorem pmid {x y : Int} {l : List Leg3} (hi : inP 16777216 x y = true) (hok : okR x y l l.length = true) {t : Int} (h0 : 0 ≤ t) {k : Nat} (hk : k ≤ l.length) : Mid (pX x l t k) ∧ Mid (pY y l t k) := by
  have hp := pos_of hok
  rcases Int.lt_or_le t (sm l k) with g | g
  · obtain ⟨j, i, h1, h2, h3, h4⟩ := leg_of hp h0 hk g
    rw [pX_in hp (n := l.length) (k := j) (by omega) h2 h3 h4 (by omega) hk, pY_in hp (n := l.length) (k := j) (by omega) h2 h3 h4 (by omega) hk]
    obtain ⟨m0, m1⟩ := mid_at hi (okR_le hok (k := j) (by omega))
    obtain ⟨n0, n1⟩ := mid_at hi (okR_le hok (k := j + 1) (by omega))
    exact ⟨mid_between m0 n0 h3 h4, mid_between m1 n1 h3 h4⟩
  · rw [pX_full h0 (fun i hi => hp i (by omega)) g, pY_full h0 (fun i hi => hp i (by omega)) g]
    exact mid_at hi (okR_le hok hk)

theorem step_small' {x s : Int} (hx : -1000 ≤ x ∧ x ≤ 1000) (hs : 0 ≤ s ∧ s ≤ 10000) : -100000000 ≤ x * s ∧ x * s ≤ 100000000 := by
  have px := natAbs_sq (x := x) (y := s) (B := 10000) (by omega) (by omega)
  have c1 : ((10000 : Int) * 10000).natAbs = 100000000 := rfl
  rw [c1] at px
  omega

theorem rem_in {l : List Leg3} {t : Int} (h0 : 0 ≤ t) {k : Nat} (h : pos l k) : 0 ≤ rem l t k ∧ rem l t k ≤ t := by
  have e := rem_eq h0 h
  have := sm_le h (Nat.zero_le k) (Nat.le_refl k)
  simp only [sm] at this
  omega

theorem wrap_at {X x n : Int} (hX : Mid X) (hx : -1000 ≤ x ∧ x ≤ 1000) (hs : 0 ≤ n ∧ n ≤ 10000) : wrap64 (x * n) = x * n ∧ wrap64 (X + x * n) = X + x * n := by
  have := step_small' hx hs
  exact ⟨IntWalk.wrap64_in _ (by omega), IntWalk.wrap64_in _ (by have := hX; omega)⟩

theorem wrap_rem {r n t : Int} (h : 0 ≤ r ∧ r ≤ t) (hn : 0 ≤ n ∧ n ≤ r) (ht : t ≤ 9223372036854775807) : wrap64 (r - n) = r - n := IntWalk.wrap64_in _ (by omega)

set_option maxHeartbeats 1600000 in
theorem refat_any (x y : Int) (a : Option Addr) (cap : Nat) (l : List Leg3) (t : Int) (w : World) (h : Lgs w a l) (hr : routeOk x y l = true) (h0 : 0 ≤ t) (h63 : t ≤ 9223372036854775807) :
    Calls Try.prog 23 #[pt x y, .slice a l.length cap, .int .i64 t] w fun e w' => e = .returned (pt (posX x l t) (posY y l t)) ∧ Only (fun _ => False) w w' := by
  obtain ⟨hi, h64, hok⟩ := route_parts hr
  have s1 : (w.alloc (.cells #[.int .i64 x, .int .i64 y] 54)).heap.size = w.heap.size + 1 := World.size_alloc _ _
  have s2 : ((w.alloc (.cells #[.int .i64 x, .int .i64 y] 54)).alloc (.cells #[.int .i64 0, .int .i64 0] 54)).heap.size = w.heap.size + 2 := by rw [World.size_alloc, s1]
  have b1 : Box ((w.alloc (.cells #[.int .i64 x, .int .i64 y] 54)).alloc (.cells #[.int .i64 0, .int .i64 0] 54)) (w.heap.size + 1) 0 0 54 := by
    have := heap_alloc_new (w.alloc (.cells #[.int .i64 x, .int .i64 y] 54)) (.cells #[.int .i64 0, .int .i64 0] 54)
    rwa [s1] at this
  have b2 := heap_alloc_new ((w.alloc (.cells #[.int .i64 x, .int .i64 y] 54)).alloc (.cells #[.int .i64 0, .int .i64 0] 54)) (.cells #[.int .i64 x, .int .i64 y] 54)
  rw [s2] at b2
  have HB1 := Lib.hid (skyE.Box.keep b1 ((Only.refl _ _).alloc (.cells #[.int .i64 x, .int .i64 y] 54)))
  have HB2 := Lib.hid (show Box _ (w.heap.size + 2) x y 54 from b2)
  have O1 := Lib.hid (((((Only.refl (fun _ => False) w).alloc (.cells #[.int .i64 x, .int .i64 y] 54))).alloc (.cells #[.int .i64 0, .int .i64 0] 54)).alloc (.cells #[.int .i64 x, .int .i64 y] 54))
  have HP := Lib.hid h
  have HI := Lib.hid (And.intro hi (And.intro h64 (And.intro hok (And.intro h0 h63))))
  clear h hr hi h64 hok h0 h63 b1 b2 s1 s2
  go_enter Try.func23, Try.ntmps23
  go_wp2_with fail
  generalize ((w.alloc (.cells #[.int .i64 x, .int .i64 y] 54)).alloc (.cells #[.int .i64 0, .int .i64 0] 54)).alloc (.cells #[.int .i64 x, .int .i64 y] 54) = W3 at HB1 HB2 O1 ⊢
  have hsz : w.heap.size ≤ w.heap.size := Nat.le_refl _
  generalize hB : w.heap.size = B at HB1 HB2 ⊢
  have HBw := Lib.hid hB
  clear hB hsz
  go_loopw [2, 8] (fun r i wr => ∃ k : Nat, k ≤ l.length ∧ i = .int .i64 k ∧ r = .int .i64 (rem l t k) ∧ Box wr (B + 2) (pX x l t k) (pY y l t k) 54 ∧ Box wr (B + 1) 0 0 54 ∧ Only (fun _ => False) w wr) (fun _ i _ => l.length - (intOf i).toNat)
  case atStart => exact ⟨0, Nat.zero_le _, rfl, rfl, HB2.out, HB1.out, O1.out⟩
  case round =>
    obtain ⟨k, hk, rfl, rfl, hbx, hb1, o⟩ := hrel
    have O := Lib.hid o
    have BX := Lib.hid hbx
    have BR := Lib.hid hb1
    clear o hbx hb1
    by_cases hlt : k < l.length
    · have k1 : ((k : Int) < (l.length : Int)) = True := eq_true (by omega)
      have k1n : ((k : Int) < (l.length : Int)) := by omega
      have k0n : (0 : Int) ≤ (k : Int) := by omega
      have WK := Lib.hid (wrap_succ hlt (by have := HI.out.2.1; unfold maxLen; omega))
      obtain ⟨b, off, rfl, hb, c0, c1, c2⟩ := (HP.out.keep O.out).at hlt
      obtain ⟨d0, d1⟩ := BX.out.cells
      have hq := legOk_iff.1 (legs_ok HI.out.2.2.1 k hlt)
      obtain ⟨m0, m1⟩ := pmid HI.out.1 HI.out.2.2.1 HI.out.2.2.2.1 (k := k) (by omega)
      have hrm := rem_in HI.out.2.2.2.1 (l := l) (k := k) (fun i hi => pos_of HI.out.2.2.1 i (by omega))
      obtain ⟨n, hn⟩ : ∃ n, n = min (ls l k) (rem l t k) := ⟨_, rfl⟩
      have hn0 : 0 ≤ n ∧ n ≤ 10000 ∧ n ≤ rem l t k := by omega
      have eX : pX x l t (k + 1) = pX x l t k + lx l k * n := by rw [hn]; rfl
      have eY : pY y l t (k + 1) = pY y l t k + ly l k * n := by rw [hn]; rfl
      have eR : rem l t (k + 1) = rem l t k - n := by rw [hn]; rfl
      have HW := Lib.hid (And.intro (wrap_at m0 ⟨hq.1.1, hq.1.2.1⟩ ⟨hn0.1, hn0.2.1⟩) (And.intro (wrap_at m1 hq.1.2.2 ⟨hn0.1, hn0.2.1⟩) (wrap_rem hrm ⟨hn0.1, hn0.2.2⟩ HI.out.2.2.2.2)))
      have EE := Lib.hid (And.intro eX (And.intro eY eR))
      have f0 := free_of (o := 0) BX.out
      have f1 := free_of (o := 1) BX.out
      have BN := Lib.hid (skyE.Box.keep (skyE.Box.put BX.out (x' := pX x l t k + lx l k * n) (y' := pY y l t k + ly l k * n)) (Only.drew (Only.refl _ _)))
      have BRN := Lib.hid (skyE.Box.keep (show Box ((wr.setCell ⟨B + 2, 0, none⟩ (.int .i64 (pX x l t k + lx l k * n))).setCell ⟨B + 2, 1, none⟩ (.int .i64 (pY y l t k + ly l k * n))) (B + 1) 0 0 54 from (heap_other (by omega)).trans ((heap_other (by omega)).trans BR.out)) (Only.drew (Only.refl _ _)) : Box (World.drew ((wr.setCell ⟨B + 2, 0, none⟩ (.int .i64 (pX x l t k + lx l k * n))).setCell ⟨B + 2, 1, none⟩ (.int .i64 (pY y l t k + ly l k * n)))) (B + 1) 0 0 54)
      have ON := Lib.hid (Only.drew (only_setNew (only_setNew O.out (b := B + 2) (o := 0) (v := .int .i64 (pX x l t k + lx l k * n)) (by rw [HBw.out]; omega)) (b := B + 2) (o := 1) (v := .int .i64 (pY y l t k + ly l k * n)) (by rw [HBw.out]; omega)))
      have hwk := WK.out
      by_cases g : rem l t k < ls l k
      · have en : n = rem l t k := by omega
        have g1 : (rem l t k < ls l k) = True := eq_true g
        rw [en] at HW EE BN BRN ON
        obtain ⟨⟨w1, w2⟩, ⟨w3, w4⟩, w5⟩ := HW.out
        clear hq m0 m1 hrm hn hn0 eX eY eR en
        go_wp2_with fail
        go_still_tail 21, (by kernel_rfl)
        go_wp2_with fail
        clear w1 w2 w3 w4 w5 hwk
        go_roundw
        case rel => exact ⟨k + 1, by omega, by rw [WK.out]; go_num, by rw [EE.out.2.2]; first | rfl | (simp; done) | (simp; exact HW.out.2.2), by rw [EE.out.1, EE.out.2.1]; exact BN.out, BRN.out, ON.out⟩
        case measure => first | exact meas WK.out hlt | exact meas rfl hlt
      · have en : n = ls l k := by omega
        have g1 : (rem l t k < ls l k) = False := eq_false g
        rw [en] at HW EE BN BRN ON
        obtain ⟨⟨w1, w2⟩, ⟨w3, w4⟩, w5⟩ := HW.out
        clear hq m0 m1 hrm hn hn0 eX eY eR en
        go_wp2_with fail
        go_still_tail 21, (by kernel_rfl)
        go_wp2_with fail
        clear w1 w2 w3 w4 w5 hwk
        go_roundw
        case rel => exact ⟨k + 1, by omega, by rw [WK.out]; go_num, by rw [EE.out.2.2]; first | rfl | (simp; done) | (simp; exact HW.out.2.2), by rw [EE.out.1, EE.out.2.1]; exact BN.out, BRN.out, ON.out⟩
        case measure => first | exact meas WK.out hlt | exact meas rfl hlt
    · have k1 : ((k : Int) < (l.length : Int)) = False := eq_false (by omega)
      have e : k = l.length := by omega
      subst e
      obtain ⟨d0, d1⟩ := BX.out.cells
      have f0 := free_of (o := 0) BR.out
      have f1 := free_of (o := 1) BR.out
      have BN := Lib.hid (skyE.Box.put BR.out (x' := pX x l t l.length) (y' := pY y l t l.length))
      have ON := Lib.hid (only_setNew (only_setNew O.out (b := B + 1) (o := 0) (v := .int .i64 (pX x l t l.length)) (by rw [HBw.out]; omega)) (b := B + 1) (o := 1) (v := .int .i64 (pY y l t l.length)) (by rw [HBw.out]; omega))
      obtain ⟨e0, e1⟩ := BR.out.cells
      go_wp2_with fail
      exact bodyPost_ret (results_cell_row (p := 6) (ty := 54) Try.results23 _ _ (B + 1) 54 _ (0, 0) _ rfl BN.out Try.underlying54 rfl (by kernel_rfl)) rfl ⟨rfl, ON.out⟩
end Go.Proofs.Ytklcanjlkmkmmaa.skyQ
