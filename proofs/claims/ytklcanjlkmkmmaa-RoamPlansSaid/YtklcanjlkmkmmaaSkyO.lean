/- sky: the lengths; the document's routes. -/
import Derived.Test.YtklcanjlkmkmmaaSkyJ
import Derived.StillTailTactics
namespace Go.Proofs.Ytklcanjlkmkmmaa.skyO
open Go.RowKit Go.Lib Go.Proofs.Ytklcanjlkmkmmaa.kit Go.Proofs.Ytklcanjlkmkmmaa.floA Go.Proofs.Ytklcanjlkmkmmaa.skyA Go.Proofs.Ytklcanjlkmkmmaa.skyB Go.Proofs.Ytklcanjlkmkmmaa.skyC Go.Proofs.Ytklcanjlkmkmmaa.skyD Go.Proofs.Ytklcanjlkmkmmaa.skyE Go.Proofs.Ytklcanjlkmkmmaa.skyF Go.Proofs.Ytklcanjlkmkmmaa.skyG Go.Proofs.Ytklcanjlkmkmmaa.skyH Go.Proofs.Ytklcanjlkmkmmaa.skyI
set_option linter.unusedVariables false
set_option linter.unusedSimpArgs false

theorem route_parts {x y : Int} {l : List Leg3} (hr : routeOk x y l = true) : inP 16777216 x y = true ∧ l.length ≤ 64 ∧ okR x y l l.length = true := by
  simp [routeOk] at hr
  exact ⟨hr.1, by omega, hr.2.2⟩

theorem sm_small {x y : Int} {l : List Leg3} : ∀ {k : Nat}, okR x y l k = true → 0 ≤ sm l k ∧ sm l k ≤ 10000 * k
  | 0, _ => by simp [sm]
  | k + 1, h => by
    have h1 := (legOk_iff.1 (legs_ok h k (by omega))).2
    simp only [okR, Bool.and_eq_true] at h
    have ih := sm_small h.1
    simp only [sm]
    omega

theorem wrap_sm {x y : Int} {l : List Leg3} {k : Nat} (h : okR x y l l.length = true) (hl : l.length ≤ 64) (hk : k < l.length) : wrap64 (sm l k + ls l k) = sm l (k + 1) := by
  have := sm_small (okR_le h (k := k + 1) (by omega))
  refine (IntWalk.wrap64_in _ ?_).trans rfl
  simp only [sm] at this
  omega
end Go.Proofs.Ytklcanjlkmkmmaa.skyO
