/- sky: which routes may be. -/
import Derived.Test.YtklcanjlkmkmmaaSkyG
namespace Go.Proofs.Ytklcanjlkmkmmaa.skyH
open Go.RowKit Go.Lib Go.Proofs.Ytklcanjlkmkmmaa.kit Go.Proofs.Ytklcanjlkmkmmaa.floA Go.Proofs.Ytklcanjlkmkmmaa.skyA Go.Proofs.Ytklcanjlkmkmmaa.skyB Go.Proofs.Ytklcanjlkmkmmaa.skyC Go.Proofs.Ytklcanjlkmkmmaa.skyD Go.Proofs.Ytklcanjlkmkmmaa.skyE Go.Proofs.Ytklcanjlkmkmmaa.skyF Go.Proofs.Ytklcanjlkmkmmaa.skyG
set_option linter.unusedVariables false
set_option linter.unusedSimpArgs false

/-- Where k legs lead. -/
def atX (x : Int) (l : List Leg3) : Nat → Int
  | 0 => x
  | k + 1 => atX x l k + lx l k * ls l k

def atY (y : Int) (l : List Leg3) : Nat → Int
  | 0 => y
  | k + 1 => atY y l k + ly l k * ls l k

/-- The first k legs may be. -/
def okR (x y : Int) (l : List Leg3) : Nat → Bool
  | 0 => true
  | k + 1 => okR x y l k && (legOk (lx l k) (ly l k) (ls l k) && inP 16777216 (atX x l (k + 1)) (atY y l (k + 1)))

/-- The route may be. -/
def routeOk (x y : Int) (l : List Leg3) : Bool := inP 16777216 x y && (decide ((l.length : Int) ≤ 64) && okR x y l l.length)

theorem okR_le {x y : Int} {l : List Leg3} {k n : Nat} (h : okR x y l n = true) (hk : k ≤ n) : okR x y l k = true := by
  induction hk with
  | refl => exact h
  | step _ ih => exact ih (by simp [okR] at h; exact h.1)

theorem okR_false {x y : Int} {l : List Leg3} {k n : Nat} (h : okR x y l k = false) (hk : k ≤ n) : okR x y l n = false := by
  cases q : okR x y l n
  · rfl
  · rw [okR_le q hk] at h; exact h

theorem mid_at {x y : Int} {l : List Leg3} (h0 : inP 16777216 x y = true) : ∀ {k : Nat}, okR x y l k = true → Mid (atX x l k) ∧ Mid (atY y l k)
  | 0, _ => by
    have := inP_iff.1 h0
    exact ⟨⟨this.1, this.2.1⟩, this.2.2⟩
  | k + 1, h => by
    simp only [okR, Bool.and_eq_true] at h
    have := inP_iff.1 h.2.2
    exact ⟨⟨this.1, this.2.1⟩, this.2.2⟩

theorem legOk_iff {x y s : Int} : legOk x y s = true ↔ (-1000 ≤ x ∧ x ≤ 1000 ∧ -1000 ≤ y ∧ y ≤ 1000) ∧ 1 ≤ s ∧ s ≤ 10000 := by
  rw [legOk, Bool.and_eq_true, inP_iff, Bool.and_eq_true, decide_eq_true_eq, decide_eq_true_eq]

theorem step_small {x s : Int} (hx : -1000 ≤ x ∧ x ≤ 1000) (hs : 1 ≤ s ∧ s ≤ 10000) : -100000000 ≤ x * s ∧ x * s ≤ 100000000 := by
  have px := natAbs_sq (x := x) (y := s) (B := 10000) (by omega) (by omega)
  have c1 : ((10000 : Int) * 10000).natAbs = 100000000 := rfl
  rw [c1] at px
  omega

abbrev rt (x y : Int) (a : Option Addr) (n cap : Nat) : Value := .agg #[.int .i64 x, .int .i64 y, .slice a n cap]

set_option maxHeartbeats 1600000 in
theorem routeright_any (x y : Int) (a : Option Addr) (cap : Nat) (l : List Leg3) (w : World) (h : Lgs w a l) (hlen : l.length ≤ 1000) :
    Calls Try.prog 21 #[rt x y a l.length cap] w fun e w' => e = .returned (.bool (routeOk x y l)) ∧ Only (fun _ => False) w w' := by
  have HR := Lib.hid right_any
  have HN := Lib.hid number_det
  have HLe := Lib.hid legright_any
  have HP := Lib.hid h
  have HL := Lib.hid hlen
  have HB := Lib.hid (show BoxR (w.alloc (.cells #[.int .i64 x, .int .i64 y, .slice a l.length cap] 53)) w.heap.size x y (.slice a l.length cap) from heap_alloc_new w _)
  have O1 := Lib.hid ((Only.refl (fun _ => False) w).alloc (.cells #[.int .i64 x, .int .i64 y, .slice a l.length cap] 53))
  clear h hlen
  go_enter Try.func21, Try.ntmps21
  go_wp2_with fail
  generalize w.alloc (.cells #[.int .i64 x, .int .i64 y, .slice a l.length cap] 53) = W1 at HB O1 ⊢
  generalize w.heap.size = B at HB ⊢
  with_reducible refine (HR.out _ _ _).mono ?_
  rintro e w2 ⟨rfl, o⟩
  have O2 := Lib.hid o
  obtain ⟨c0, c1, c2⟩ := (HB.out.keep o).cells
  clear o
  cases hr : inP 16777216 x y
  · go_wp2_with fail
    go_ret
    exact ⟨by simp [routeOk, hr], O1.out.trans O2.out⟩
  by_cases g2 : 64 < l.length
  · have t2 : ((64 : Int) < (l.length : Int)) = True := eq_true (by omega)
    have t2' : ((l.length : Int) ≤ 64) = False := eq_false (by omega)
    go_wp2_with fail
    go_ret
    exact ⟨by simp [routeOk, hr, t2'], O1.out.trans O2.out⟩
  have t2 : ((64 : Int) < (l.length : Int)) = False := eq_false (by omega)
  have T2 := Lib.hid g2
  go_wp2_with fail
  with_reducible refine (HN.out _ _ _).mono ?_
  rintro e w3 ⟨rfl, o⟩
  have O3 := Lib.hid (O2.out.trans o)
  obtain ⟨c0, c1, c2⟩ := (HB.out.keep O3.out).cells
  have F0 := Lib.hid (And.intro (fl_mid (x := x) (by have := inP_iff.1 hr; exact ⟨this.1, this.2.1⟩)) (fl_mid (x := y) (by have := inP_iff.1 hr; exact this.2.2)))
  clear o g2
  go_wp2_with fail
  go_loopw [3, 22] (fun v i wr => ∃ (k : Nat) (c d : Nat), k ≤ l.length ∧ i = .int .i64 k ∧ v = .complex .f64 c d ∧ Fl c (atX x l k) ∧ Fl d (atY y l k) ∧ okR x y l k = true ∧ Only (fun _ => False) W1 wr) (fun _ i _ => l.length - (intOf i).toNat)
  case atStart => exact ⟨0, _, _, Nat.zero_le _, rfl, rfl, F0.out.1, F0.out.2, rfl, O3.out⟩
  case round =>
    obtain ⟨k, c, d, hk, rfl, rfl, fc, fd, hok, o⟩ := hrel
    have O := Lib.hid o
    have OK := Lib.hid hok
    have FF := Lib.hid (And.intro fc fd)
    clear o hok fc fd c0 c1 c2
    by_cases hlt : k < l.length
    · have k1 : ((k : Int) < (l.length : Int)) = True := eq_true (by omega)
      have k1n : ((k : Int) < (l.length : Int)) := by omega
      have wk : wrap64 ((k : Int) + 1) = (k : Int) + 1 := wrap_succ hlt (by have := HL.out; unfold maxLen; omega)
      obtain ⟨b, off, rfl, hb, c0, c1, c2⟩ := (HP.out.keep (O1.out.trans O.out)).at hlt
      go_wp2_with fail
      with_reducible refine (HLe.out _ _ _ _).mono ?_
      rintro e w5 ⟨rfl, o⟩
      have bx : Box3 w5 wr.heap.size (lx l k) (ly l k) (ls l k) 59 := o.keep (heap_alloc_new wr _) id
      have o5 := (O.out.alloc (.cells #[.int .i64 (lx l k), .int .i64 (ly l k), .int .i64 (ls l k)] 59)).trans o
      obtain ⟨c3, c4, c5⟩ := bx.cells
      have O5 := Lib.hid o5
      have BX := Lib.hid bx
      clear o c0 c1 c2 bx o5
      cases hlr : legOk (lx l k) (ly l k) (ls l k)
      · go_wp2_with fail
        go_ret
        refine ⟨?_, O1.out.trans O5.out⟩
        have : okR x y l l.length = false := okR_false (k := k + 1) (by simp [okR, hlr]) (by omega)
        rw [routeOk, this]
        simp
      · have hq := legOk_iff.1 hlr
        obtain ⟨m0, m1⟩ := mid_at hr OK.out
        have HA := Lib.hid (after_any (lx l k) (ly l k) (ls l k) (ls l k) _ _ c d FF.out.1 FF.out.2 m0 m1 ⟨hq.1.1, hq.1.2.1⟩ hq.1.2.2 ⟨by omega, hq.2.2⟩)
        have hsx := step_small ⟨hq.1.1, hq.1.2.1⟩ hq.2
        have hsy := step_small hq.1.2.2 hq.2
        have M := Lib.hid (And.intro m0 (And.intro m1 (And.intro hsx hsy)))
        clear hq m0 m1 hsx hsy
        go_wp2_with fail
        with_reducible refine (HA.out _).mono ?_
        rintro e w6 ⟨⟨c', d', rfl, fc', fd'⟩, o⟩
        have O6 := Lib.hid (O5.out.trans o)
        have HPt := Lib.hid (point_any c' d' _ _ fc' fd' (by have := M.out; omega) (by have := M.out; omega))
        have FF' := Lib.hid (And.intro fc' fd')
        clear o c3 c4 c5 fc' fd'
        go_wp2_with fail
        with_reducible refine (HPt.out _).mono ?_
        rintro e w7 ⟨rfl, o⟩
        have O7 := Lib.hid (O6.out.trans o)
        clear o
        go_wp2_with fail
        with_reducible refine (HR.out _ _ _).mono ?_
        rintro e w8 ⟨rfl, o⟩
        have O8 := Lib.hid (O7.out.trans o)
        clear o
        cases hp : inP 16777216 (atX x l k + lx l k * ls l k) (atY y l k + ly l k * ls l k)
        · go_wp2_with fail
          go_ret
          refine ⟨?_, O1.out.trans O8.out⟩
          have : okR x y l l.length = false := okR_false (k := k + 1) (by simp [okR, atX, atY, hp]) (by omega)
          rw [routeOk, this]
          simp
        · go_wp2_with fail
          go_roundw
          case rel => exact ⟨k + 1, c', d', by omega, by go_num, rfl, FF'.out.1, FF'.out.2, by simp [okR, atX, atY, hp, hlr, OK.out], O8.out⟩
          case measure => first | exact meas wk hlt | exact meas rfl hlt
    · have k1 : ((k : Int) < (l.length : Int)) = False := eq_false (by omega)
      have e : k = l.length := by omega
      subst e
      go_wp2_with fail
      go_ret
      refine ⟨?_, O1.out.trans O.out⟩
      have t3 : ((l.length : Int) ≤ 64) = True := eq_true (by have := T2.out; omega)
      rw [routeOk, OK.out, hr]
      simp [t3]
end Go.Proofs.Ytklcanjlkmkmmaa.skyH
