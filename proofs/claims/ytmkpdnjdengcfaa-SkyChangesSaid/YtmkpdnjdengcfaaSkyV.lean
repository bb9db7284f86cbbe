/- sky: a route turned is where the route is, turned. -/
import Derived.Test.YtmkpdnjdengcfaaSkyT
import Derived.Test.YtmkpdnjdengcfaaSkyR
namespace Go.Proofs.Ytmkpdnjdengcfaa.skyV
open Go.RowKit Go.Lib Go.Proofs.Ytmkpdnjdengcfaa.kit Go.Proofs.Ytmkpdnjdengcfaa.skyA Go.Proofs.Ytmkpdnjdengcfaa.skyG Go.Proofs.Ytmkpdnjdengcfaa.skyH Go.Proofs.Ytmkpdnjdengcfaa.skyI Go.Proofs.Ytmkpdnjdengcfaa.skyO Go.Proofs.Ytmkpdnjdengcfaa.skyR
set_option linter.unusedVariables false
set_option linter.unusedSimpArgs false

/-- A leg, turned. -/
def tleg (n : Nat) (g : Leg3) : Leg3 := ⟨(tX g.x g.y n).1, (tX g.x g.y n).2, g.s⟩

/-- Legs, turned. -/
def tlegs (n : Nat) (l : List Leg3) : List Leg3 := l.map (tleg n)

theorem tlegs_get (n : Nat) (l : List Leg3) (k : Nat) (h : k < l.length) : lx (tlegs n l) k = (tX (lx l k) (ly l k) n).1 ∧ ly (tlegs n l) k = (tX (lx l k) (ly l k) n).2 ∧ ls (tlegs n l) k = ls l k := by
  simp [lx, ly, ls, tlegs, tleg, h]

theorem tlegs_len (n : Nat) (l : List Leg3) : (tlegs n l).length = l.length := List.length_map ..

theorem tX_step (x y a b s : Int) : ∀ n, (tX (x + a * s) (y + b * s) n).1 = (tX x y n).1 + (tX a b n).1 * s ∧ (tX (x + a * s) (y + b * s) n).2 = (tX x y n).2 + (tX a b n).2 * s
  | 0 => ⟨rfl, rfl⟩
  | n + 1 => by
    obtain ⟨h1, h2⟩ := tX_step x y a b s n
    simp only [tX]
    rw [h1, h2]
    exact ⟨by rw [Int.neg_add, Int.neg_mul], rfl⟩

theorem inP_turn (m x y : Int) : ∀ n, inP m (tX x y n).1 (tX x y n).2 = inP m x y
  | 0 => rfl
  | n + 1 => by
    rw [← inP_turn m x y n]
    simp only [tX]
    generalize (tX x y n).1 = a
    generalize (tX x y n).2 = b
    rw [Bool.eq_iff_iff, inP_iff, inP_iff]
    omega

theorem rem_turn (n : Nat) (l : List Leg3) (t : Int) : ∀ k, k ≤ l.length → rem (tlegs n l) t k = rem l t k
  | 0, _ => rfl
  | k + 1, h => by
    have ih := rem_turn n l t k (by omega)
    simp only [rem]
    rw [ih, (tlegs_get n l k (by omega)).2.2]

theorem pX_turn (n : Nat) (x y : Int) (l : List Leg3) (t : Int) : ∀ k, k ≤ l.length → pX (tX x y n).1 (tlegs n l) t k = (tX (pX x l t k) (pY y l t k) n).1 ∧ pY (tX x y n).2 (tlegs n l) t k = (tX (pX x l t k) (pY y l t k) n).2
  | 0, _ => ⟨rfl, rfl⟩
  | k + 1, h => by
    obtain ⟨h1, h2⟩ := pX_turn n x y l t k (by omega)
    obtain ⟨g1, g2, g3⟩ := tlegs_get n l k (by omega)
    have hr := rem_turn n l t k (by omega)
    obtain ⟨s1, s2⟩ := tX_step (pX x l t k) (pY y l t k) (lx l k) (ly l k) (min (ls l k) (rem l t k)) n
    simp only [pX, pY]
    rw [h1, h2, g1, g2, g3, hr, s1, s2]
    exact ⟨rfl, rfl⟩

theorem pos_turn (n : Nat) (x y : Int) (l : List Leg3) (t : Int) : posX (tX x y n).1 (tlegs n l) t = (tX (posX x l t) (posY y l t) n).1 ∧ posY (tX x y n).2 (tlegs n l) t = (tX (posX x l t) (posY y l t) n).2 := by
  simp only [posX, posY, tlegs_len]
  exact pX_turn n x y l t l.length (Nat.le_refl _)

theorem at_turn (n : Nat) (x y : Int) (l : List Leg3) : ∀ k, k ≤ l.length → atX (tX x y n).1 (tlegs n l) k = (tX (atX x l k) (atY y l k) n).1 ∧ atY (tX x y n).2 (tlegs n l) k = (tX (atX x l k) (atY y l k) n).2
  | 0, _ => ⟨rfl, rfl⟩
  | k + 1, h => by
    obtain ⟨h1, h2⟩ := at_turn n x y l k (by omega)
    obtain ⟨g1, g2, g3⟩ := tlegs_get n l k (by omega)
    obtain ⟨s1, s2⟩ := tX_step (atX x l k) (atY y l k) (lx l k) (ly l k) (ls l k) n
    simp only [atX, atY]
    rw [h1, h2, g1, g2, g3, s1, s2]
    exact ⟨rfl, rfl⟩

theorem okR_turn (n : Nat) (x y : Int) (l : List Leg3) : ∀ k, k ≤ l.length → okR (tX x y n).1 (tX x y n).2 (tlegs n l) k = okR x y l k
  | 0, _ => rfl
  | k + 1, h => by
    obtain ⟨g1, g2, g3⟩ := tlegs_get n l k (by omega)
    obtain ⟨h1, h2⟩ := at_turn n x y l (k + 1) h
    simp only [okR]
    rw [okR_turn n x y l k (by omega), h1, h2, inP_turn, legOk, legOk, g1, g2, g3, inP_turn]

theorem route_turn (n : Nat) (x y : Int) (l : List Leg3) : routeOk (tX x y n).1 (tX x y n).2 (tlegs n l) = routeOk x y l := by
  rw [routeOk, routeOk, tlegs_len, inP_turn, okR_turn n x y l l.length (Nat.le_refl _)]

theorem sm_turn (n : Nat) (l : List Leg3) : ∀ k, k ≤ l.length → sm (tlegs n l) k = sm l k
  | 0, _ => rfl
  | k + 1, h => by
    simp only [sm]
    rw [sm_turn n l k (by omega), (tlegs_get n l k (by omega)).2.2]

theorem far_turn (x y p q : Int) : ∀ n, far (tX x y n).1 (tX x y n).2 (tX p q n).1 (tX p q n).2 = far x y p q
  | 0 => rfl
  | n + 1 => by
    rw [← far_turn x y p q n]
    simp only [tX, far]
    generalize (tX x y n).1 = a
    generalize (tX x y n).2 = b
    generalize (tX p q n).1 = c
    generalize (tX p q n).2 = d
    have e : -b - -d = -(b - d) := by omega
    rw [e, Int.neg_mul_neg, Int.add_comm]
end Go.Proofs.Ytmkpdnjdengcfaa.skyV
