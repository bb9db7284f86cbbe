/- sky: the lengths; the document's routes. -/
import Derived.Test.YtmkpdnjdengcfaaSkyL
import Derived.StillTailTactics
namespace Go.Proofs.Ytmkpdnjdengcfaa.skyO
open Go.RowKit Go.Lib Go.Proofs.Ytmkpdnjdengcfaa.kit Go.Proofs.Ytmkpdnjdengcfaa.floA Go.Proofs.Ytmkpdnjdengcfaa.skyA Go.Proofs.Ytmkpdnjdengcfaa.skyB Go.Proofs.Ytmkpdnjdengcfaa.skyC Go.Proofs.Ytmkpdnjdengcfaa.skyD Go.Proofs.Ytmkpdnjdengcfaa.skyE Go.Proofs.Ytmkpdnjdengcfaa.skyF Go.Proofs.Ytmkpdnjdengcfaa.skyG Go.Proofs.Ytmkpdnjdengcfaa.skyH Go.Proofs.Ytmkpdnjdengcfaa.skyI
set_option linter.unusedVariables false
set_option linter.unusedSimpArgs false

theorem route_parts {x y : Int} {l : List Leg3} (hr : routeOk x y l = true) : inP 16777216 x y = true ∧ l.length ≤ 64 ∧ okR x y l l.length = true := by
  simp [routeOk] at hr
  exact ⟨hr.1, by omega, hr.2.2⟩

theorem sm_small {x y : Int} {l : List Leg3} : ∀ {k : Nat}, okR x y l k = true → 0 ≤ sm l k ∧ sm l k ≤ 10000 * k
  | 0, _ => by simp [sm]
  | k + 1, h => by
    have h1 := (legOk_iff.1 (legs_ok h k (by omega))).2
    simp only [okR, Bool.and_eq_true] at h
    have ih := sm_small h.1
    simp only [sm]
    omega

theorem wrap_sm {x y : Int} {l : List Leg3} {k : Nat} (h : okR x y l l.length = true) (hl : l.length ≤ 64) (hk : k < l.length) : wrap64 (sm l k + ls l k) = sm l (k + 1) := by
  have := sm_small (okR_le h (k := k + 1) (by omega))
  refine (IntWalk.wrap64_in _ ?_).trans rfl
  simp only [sm] at this
  omega

theorem reflength_any (a : Option Addr) (cap : Nat) (x y : Int) (l : List Leg3) (w : World) (h : Lgs w a l) (hr : routeOk x y l = true) : Calls Try.prog 16 #[.slice a l.length cap] w fun e w' => e = .returned (.int .i64 (sm l l.length)) ∧ Only (fun _ => False) w w' := by
  obtain ⟨_, h64, hok⟩ := route_parts hr
  have HP := Lib.hid h
  have HL := Lib.hid h64
  have HK := Lib.hid hok
  clear h hr h64 hok
  go_enter Try.func16, Try.ntmps16
  go_wp2_with fail
  go_loopw [3, 4] (fun v i wr => ∃ k : Nat, k ≤ l.length ∧ i = .int .i64 k ∧ v = .int .i64 (sm l k) ∧ Only (fun _ => False) w wr) (fun _ i _ => l.length - (intOf i).toNat)
  case atStart => exact ⟨0, Nat.zero_le _, rfl, rfl, Only.refl _ w⟩
  case round =>
    obtain ⟨k, hk, rfl, rfl, o⟩ := hrel
    have O := Lib.hid o
    clear o
    by_cases hlt : k < l.length
    · have k1 : ((k : Int) < (l.length : Int)) = True := eq_true (by omega)
      have k1n : ((k : Int) < (l.length : Int)) := by omega
      obtain ⟨b, off, rfl, hb, c0, c1, c2⟩ := (HP.out.keep O.out).at hlt
      have hs := wrap_sm HK.out HL.out hlt
      have wk : wrap64 ((k : Int) + 1) = (k : Int) + 1 := wrap_succ hlt (by have := HL.out; unfold maxLen; omega)
      have W := Lib.hid (And.intro hs wk)
      go_wp2_with fail
      clear wk hs
      go_roundw
      case rel => exact ⟨k + 1, by omega, by rw [W.out.2]; go_num, by rw [W.out.1], O.out⟩
      case measure => first | exact meas W.out.2 hlt | exact meas rfl hlt
    · have k1 : ((k : Int) < (l.length : Int)) = False := eq_false (by omega)
      have e : k = l.length := by omega
      subst e
      go_wp2_with fail
      go_ret
      exact ⟨rfl, O.out⟩

theorem length_bad (x y : Int) (a : Option Addr) (cap : Nat) (l : List Leg3) (w : World) (h : Lgs w a l) (hl : l.length ≤ 1000) (hr : routeOk x y l = false) :
    Calls Try.prog 15 #[rt x y a l.length cap] w fun e w' => e = .returned (.int .i64 0) ∧ Only (fun _ => False) w w' := by
  have o1 : Only (fun _ => False) w (w.alloc (.cells #[.int .i64 x, .int .i64 y, .slice a l.length cap] 26)) := (Only.refl _ w).alloc _
  have HR := Lib.hid (routeright_any x y a cap l _ (h.keep o1) hl)
  have O1 := Lib.hid o1
  rw [hr] at HR
  clear h hr o1 hl
  go_enter Try.func15, Try.ntmps15
  go_wp2_with fail
  with_reducible refine HR.out.mono ?_
  rintro e w2 ⟨rfl, o⟩
  have O2 := Lib.hid o
  clear o
  go_wp2_with fail
  go_ret
  exact ⟨rfl, O1.out.trans O2.out⟩

theorem length_good (x y : Int) (a : Option Addr) (cap : Nat) (l : List Leg3) (w : World) (h : Lgs w a l) (hr : routeOk x y l = true) :
    Calls Try.prog 15 #[rt x y a l.length cap] w fun e w' => e = .returned (.int .i64 (sm l l.length)) ∧ Only (fun _ => False) w w' := by
  obtain ⟨_, h64, hok⟩ := route_parts hr
  have o1 : Only (fun _ => False) w (w.alloc (.cells #[.int .i64 x, .int .i64 y, .slice a l.length cap] 26)) := (Only.refl _ w).alloc _
  have HR := Lib.hid (routeright_any x y a cap l _ (h.keep o1) (by omega))
  have HB := Lib.hid (show BoxR (w.alloc (.cells #[.int .i64 x, .int .i64 y, .slice a l.length cap] 26)) w.heap.size x y (.slice a l.length cap) from heap_alloc_new w _)
  have HP := Lib.hid (h.keep o1)
  have O1 := Lib.hid o1
  have HL := Lib.hid h64
  have HK := Lib.hid hok
  rw [hr] at HR
  clear h hr o1 h64 hok
  go_enter Try.func15, Try.ntmps15
  go_wp2_with fail
  generalize w.alloc (.cells #[.int .i64 x, .int .i64 y, .slice a l.length cap] 26) = W1 at HR HB HP O1 ⊢
  generalize w.heap.size = B at HB ⊢
  with_reducible refine HR.out.mono ?_
  rintro e w2 ⟨rfl, o⟩
  have O2 := Lib.hid o
  obtain ⟨c0, c1, c2⟩ := (HB.out.keep o).cells
  clear o HR
  go_wp2_with fail
  clear c0 c1 c2
  go_loopw [3, 12] (fun v i wr => ∃ k : Nat, k ≤ l.length ∧ i = .int .i64 k ∧ v = .int .i64 (sm l k) ∧ Only (fun _ => False) W1 wr) (fun _ i _ => l.length - (intOf i).toNat)
  case atStart => exact ⟨0, Nat.zero_le _, rfl, rfl, O2.out⟩
  case round =>
    obtain ⟨k, hk, rfl, rfl, o⟩ := hrel
    have O := Lib.hid o
    clear o
    by_cases hlt : k < l.length
    · have k1 : ((k : Int) < (l.length : Int)) = True := eq_true (by omega)
      have k1n : ((k : Int) < (l.length : Int)) := by omega
      obtain ⟨b, off, rfl, hb, c0, c1, c2⟩ := (HP.out.keep O.out).at hlt
      have hs := wrap_sm HK.out HL.out hlt
      have wk : wrap64 ((k : Int) + 1) = (k : Int) + 1 := wrap_succ hlt (by have := HL.out; unfold maxLen; omega)
      have W := Lib.hid (And.intro hs wk)
      go_wp2_with fail
      clear wk hs
      go_roundw
      case rel => exact ⟨k + 1, by omega, by rw [W.out.2]; go_num, by rw [W.out.1], O.out.alloc _⟩
      case measure => first | exact meas W.out.2 hlt | exact meas rfl hlt
    · have k1 : ((k : Int) < (l.length : Int)) = False := eq_false (by omega)
      have e : k = l.length := by omega
      subst e
      go_wp2_with fail
      go_ret
      exact ⟨rfl, O1.out.trans O.out⟩
end Go.Proofs.Ytmkpdnjdengcfaa.skyO
