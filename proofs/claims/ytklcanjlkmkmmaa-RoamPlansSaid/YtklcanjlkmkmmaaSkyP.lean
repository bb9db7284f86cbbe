/- sky: the document's routes, by the document's rule. -/
import Derived.Test.YtklcanjlkmkmmaaSkyO
namespace Go.Proofs.Ytklcanjlkmkmmaa.skyP
open Go.RowKit Go.Lib Go.Proofs.Ytklcanjlkmkmmaa.kit Go.Proofs.Ytklcanjlkmkmmaa.floA Go.Proofs.Ytklcanjlkmkmmaa.skyA Go.Proofs.Ytklcanjlkmkmmaa.skyB Go.Proofs.Ytklcanjlkmkmmaa.skyC Go.Proofs.Ytklcanjlkmkmmaa.skyD Go.Proofs.Ytklcanjlkmkmmaa.skyE Go.Proofs.Ytklcanjlkmkmmaa.skyF Go.Proofs.Ytklcanjlkmkmmaa.skyG Go.Proofs.Ytklcanjlkmkmmaa.skyH Go.Proofs.Ytklcanjlkmkmmaa.skyI Go.Proofs.Ytklcanjlkmkmmaa.skyO
set_option linter.unusedVariables false
set_option linter.unusedSimpArgs false

theorem only_setNew {S : Nat → Prop} {a w : World} (h : Only S a w) {b o : Nat} {v : Value} (hb : a.heap.size ≤ b) : Only S a (w.setCell ⟨b, o, none⟩ v) :=
  ⟨h.os, h.tape, h.output, by simpa using h.size, fun k hk hs => (heap_other (by omega)).trans (h.block k hk hs)⟩

theorem _root_.Go.Proofs.Ytklcanjlkmkmmaa.skyE.Box.put {w : World} {B : Nat} {x y x' y' : Int} {t : TypeId} (h : Box w B x y t) : Box ((w.setCell ⟨B, 0, none⟩ (.int .i64 x')).setCell ⟨B, 1, none⟩ (.int .i64 y')) B x' y' t := heap_set (heap_set h)

def smallB (x : Int) : Bool := decide (-1000 ≤ x) && decide (x ≤ 1000)

theorem legOk_of {x y s : Int} (h1 : smallB x = true) (h2 : smallB y = true) (h3 : 1 ≤ s) (h4 : s ≤ 10000) : legOk x y s = true := by
  simp [smallB] at h1 h2
  simp [legOk, inP]
  omega

theorem legOk_not {x y s : Int} (h : smallB x = false ∨ smallB y = false ∨ s < 1 ∨ 10000 < s) : legOk x y s = false := by
  cases q : legOk x y s
  · rfl
  · have := legOk_iff.1 q
    simp [smallB] at h
    omega

theorem wrap_go {X x s : Int} (hX : Mid X) (hx : -1000 ≤ x ∧ x ≤ 1000) (hs : 1 ≤ s ∧ s ≤ 10000) : wrap64 (x * s) = x * s ∧ wrap64 (X + x * s) = X + x * s := by
  have := step_small hx hs
  exact ⟨IntWalk.wrap64_in _ (by omega), IntWalk.wrap64_in _ (by have := hX; omega)⟩

set_option maxHeartbeats 1600000 in
theorem refroutes_any (x y : Int) (a : Option Addr) (cap : Nat) (l : List Leg3) (w : World) (h : Lgs w a l) (hlen : l.length ≤ 1000) :
    Calls Try.prog 16 #[pt x y, .slice a l.length cap] w fun e w' => e = .returned (.bool (routeOk x y l)) ∧ Only (fun _ => False) w w' := by
  have o1 : Only (fun _ => False) w (w.alloc (.cells #[.int .i64 x, .int .i64 y] 54)) := (Only.refl _ w).alloc _
  have HR := Lib.hid refright_any
  have HS := Lib.hid small_any
  have HP := Lib.hid h
  have HL := Lib.hid hlen
  have HB := Lib.hid (show Box (w.alloc (.cells #[.int .i64 x, .int .i64 y] 54)) w.heap.size x y 54 from heap_alloc_new w _)
  have O1 := Lib.hid o1
  clear h hlen
  go_enter Try.func16, Try.ntmps16
  go_wp2_with fail
  generalize w.alloc (.cells #[.int .i64 x, .int .i64 y] 54) = W1 at HB o1 O1 ⊢
  clear o1
  generalize w.heap.size = B at HB ⊢
  with_reducible refine (HR.out _ _ _).mono ?_
  rintro e w2 ⟨rfl, o⟩
  have O2 := Lib.hid (O1.out.trans o)
  obtain ⟨c0, c1⟩ := (HB.out.keep o).cells
  clear o O1
  cases hr : inP 16777216 x y
  · go_wp2_with fail
    go_ret
    exact ⟨by simp [routeOk, hr], O2.out⟩
  by_cases g2 : 64 < l.length
  · have t2 : ((64 : Int) < (l.length : Int)) = True := eq_true (by omega)
    have t2' : ((l.length : Int) ≤ 64) = False := eq_false (by omega)
    go_wp2_with fail
    go_ret
    exact ⟨by simp [routeOk, hr, t2'], O2.out⟩
  have t2 : ((64 : Int) < (l.length : Int)) = False := eq_false (by omega)
  have T2 := Lib.hid g2
  have HB2 := Lib.hid (show Box (w2.alloc (.cells #[.int .i64 x, .int .i64 y] 54)) w2.heap.size x y 54 from heap_alloc_new w2 _)
  have O3 := Lib.hid (O2.out.alloc (.cells #[.int .i64 x, .int .i64 y] 54))
  have HZ := Lib.hid O2.out.size
  go_wp2_with fail
  generalize w2.alloc (.cells #[.int .i64 x, .int .i64 y] 54) = W3 at HB2 O3 ⊢
  generalize w2.heap.size = P at HB2 HZ ⊢
  clear g2 c0 c1 O2 HB
  go_loopw [6] (fun i wr => ∃ k : Nat, k ≤ l.length ∧ i = .int .i64 k ∧ Box wr P (atX x l k) (atY y l k) 54 ∧ okR x y l k = true ∧ Only (fun _ => False) w wr) (fun i _ => l.length - (intOf i).toNat)
  case atStart => exact ⟨0, Nat.zero_le _, rfl, HB2.out, rfl, O3.out⟩
  case round =>
    obtain ⟨k, hk, rfl, hbx, hok, o⟩ := hrel
    have O := Lib.hid o
    have OK := Lib.hid hok
    have BX := Lib.hid hbx
    clear o hok hbx
    by_cases hlt : k < l.length
    · have k1 : ((k : Int) < (l.length : Int)) = True := eq_true (by omega)
      have k1n : ((k : Int) < (l.length : Int)) := by omega
      have k0n : (0 : Int) ≤ (k : Int) := by omega
      have WK := Lib.hid (wrap_succ hlt (by have := HL.out; unfold maxLen; omega))
      obtain ⟨b, off, rfl, hb, c0, c1, c2⟩ := (HP.out.keep O.out).at hlt
      have H1 := Lib.hid (HS.out (lx l k))
      have H2 := Lib.hid (HS.out (ly l k))
      rw [show (decide (-1000 ≤ lx l k) && decide (lx l k ≤ 1000)) = smallB (lx l k) from rfl] at H1
      rw [show (decide (-1000 ≤ ly l k) && decide (ly l k ≤ 1000)) = smallB (ly l k) from rfl] at H2
      have bad : legOk (lx l k) (ly l k) (ls l k) = false → routeOk x y l = false := fun e => by
        have : okR x y l l.length = false := okR_false (k := k + 1) (by simp [okR, e]) (by omega)
        rw [routeOk, this]
        simp
      have BAD := Lib.hid bad
      clear bad
      go_wp2_with fail
      with_reducible refine (H1.out _).mono ?_
      rintro e w5 ⟨rfl, o⟩
      have O5 := Lib.hid (O.out.trans o)
      have BX5 := Lib.hid (BX.out.keep o)
      clear o c0 c1 c2 H1
      obtain ⟨_, _, e5, _, c0, c1, c2⟩ := (HP.out.keep O5.out).at hlt
      injection e5 with e5
      injection e5 with e5 e6
      subst e5 e6
      cases hs1 : smallB (lx l k)
      · go_wp2_with fail
        go_ret
        exact ⟨by rw [BAD.out (legOk_not (.inl hs1))]; rfl, O5.out⟩
      go_wp2_with fail
      with_reducible refine (H2.out _).mono ?_
      rintro e w6 ⟨rfl, o⟩
      have O6 := Lib.hid (O5.out.trans o)
      have BX6 := Lib.hid (BX5.out.keep o)
      clear o c0 c1 c2 H2
      obtain ⟨_, _, e5, _, c0, c1, c2⟩ := (HP.out.keep O6.out).at hlt
      injection e5 with e5
      injection e5 with e5 e6
      subst e5 e6
      cases hs2 : smallB (ly l k)
      · go_wp2_with fail
        go_ret
        exact ⟨by rw [BAD.out (legOk_not (.inr (.inl hs2)))]; rfl, O6.out⟩
      by_cases g3 : ls l k < 1
      · have t3 : (ls l k < 1) = True := eq_true g3
        go_wp2_with fail
        go_ret
        exact ⟨by rw [BAD.out (legOk_not (.inr (.inr (.inl g3))))]; rfl, O6.out⟩
      have t3 : (ls l k < 1) = False := eq_false g3
      by_cases g4 : 10000 < ls l k
      · have t4 : (10000 < ls l k) = True := eq_true g4
        go_wp2_with fail
        go_ret
        exact ⟨by rw [BAD.out (legOk_not (.inr (.inr (.inr g4))))]; rfl, O6.out⟩
      have t4 : (10000 < ls l k) = False := eq_false g4
      have hlo := legOk_of hs1 hs2 (by omega) (by omega) (x := lx l k) (y := ly l k) (s := ls l k)
      have hq := legOk_iff.1 hlo
      obtain ⟨m0, m1⟩ := mid_at hr OK.out
      obtain ⟨w1, w2⟩ := wrap_go m0 ⟨hq.1.1, hq.1.2.1⟩ hq.2
      obtain ⟨w3, w4⟩ := wrap_go m1 hq.1.2.2 hq.2
      have LO := Lib.hid hlo
      clear hlo hq m0 m1 g3 g4
      obtain ⟨d0, d1⟩ := BX6.out.cells
      have f0 := free_of (o := 0) BX6.out
      have f1 := free_of (o := 1) BX6.out
      have BN := skyE.Box.put BX6.out (x' := atX x l k + lx l k * ls l k) (y' := atY y l k + ly l k * ls l k)
      have ON := Lib.hid (Only.drew (only_setNew (only_setNew O6.out (o := 0) (v := .int .i64 (atX x l k + lx l k * ls l k)) HZ.out) (o := 1) (v := .int .i64 (atY y l k + ly l k * ls l k)) HZ.out))
      have BNH := Lib.hid (skyE.Box.keep BN (Only.drew (Only.refl _ _)))
      clear BN
      go_wp2_with fail
      go_still_tail 29, (by kernel_rfl)
      go_wp2_with fail
      clear w1 w2 w3 w4 d0 d1 f0 f1 c0 c1 c2
      generalize World.drew ((w6.setCell ⟨P, 0, none⟩ (.int .i64 (atX x l k + lx l k * ls l k))).setCell ⟨P, 1, none⟩ (.int .i64 (atY y l k + ly l k * ls l k))) = w7 at BNH ON ⊢
      with_reducible refine (HR.out _ _ _).mono ?_
      rintro e w8 ⟨rfl, o⟩
      have O8 := Lib.hid (ON.out.trans o)
      have BX8 := Lib.hid (BNH.out.keep o)
      clear o
      cases hp : inP 16777216 (atX x l k + lx l k * ls l k) (atY y l k + ly l k * ls l k)
      · go_wp2_with fail
        go_ret
        refine ⟨?_, O8.out⟩
        have : okR x y l l.length = false := okR_false (k := k + 1) (by simp [okR, atX, atY, hp]) (by omega)
        rw [routeOk, this]
        simp
      · have wk := WK.out
        go_wp2_with fail
        clear wk
        go_roundw
        case rel => exact ⟨k + 1, by omega, by rw [WK.out]; go_num, BX8.out, by simp [okR, atX, atY, hp, LO.out, OK.out], O8.out⟩
        case measure => first | exact meas WK.out hlt | exact meas rfl hlt
    · have k1 : ((k : Int) < (l.length : Int)) = False := eq_false (by omega)
      have e : k = l.length := by omega
      subst e
      go_wp2_with fail
      go_ret
      refine ⟨?_, O.out⟩
      have t3 : ((l.length : Int) ≤ 64) = True := eq_true (by have := T2.out; omega)
      rw [routeOk, OK.out, hr]
      simp [t3]
end Go.Proofs.Ytklcanjlkmkmmaa.skyP
