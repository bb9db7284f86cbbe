/- sky: masts and route turned alike have the same changes; the changes up to a second begin the changes up to a later one. -/
import Derived.Test.YtmkpdnjdengcfaaSkyV
import Derived.Test.YtmkpdnjdengcfaaSkyX
namespace Go.Proofs.Ytmkpdnjdengcfaa.skyZ
open Go.RowKit Go.Lib Go.Proofs.Ytmkpdnjdengcfaa.kit Go.Proofs.Ytmkpdnjdengcfaa.skyA Go.Proofs.Ytmkpdnjdengcfaa.skyB Go.Proofs.Ytmkpdnjdengcfaa.skyD Go.Proofs.Ytmkpdnjdengcfaa.skyG Go.Proofs.Ytmkpdnjdengcfaa.skyH Go.Proofs.Ytmkpdnjdengcfaa.skyI Go.Proofs.Ytmkpdnjdengcfaa.skyR Go.Proofs.Ytmkpdnjdengcfaa.skyV
set_option linter.unusedVariables false
set_option linter.unusedSimpArgs false

/-- Points, turned. -/
def tpts (n : Nat) (m : List (Int × Int)) : List (Int × Int) := m.map fun p => tX p.1 p.2 n

theorem tpts_len (n : Nat) (m : List (Int × Int)) : (tpts n m).length = m.length := List.length_map ..

theorem tpts_get (n : Nat) (m : List (Int × Int)) (k : Nat) (h : k < m.length) : px (tpts n m) k = (tX (px m k) (py m k) n).1 ∧ py (tpts n m) k = (tX (px m k) (py m k) n).2 := by
  simp [px, py, tpts, h]

theorem okTo_turn (n : Nat) (m : List (Int × Int)) : ∀ k, k ≤ m.length → okTo (tpts n m) k = okTo m k
  | 0, _ => rfl
  | k + 1, h => by
    obtain ⟨h1, h2⟩ := tpts_get n m k (by omega)
    simp only [okTo]
    rw [okTo_turn n m k (by omega), h1, h2, inP_turn]

theorem good_turn (n : Nat) (m : List (Int × Int)) : good (tpts n m) = good m := by
  rw [good, good, ok, ok, tpts_len, okTo_turn n m m.length (Nat.le_refl _)]

theorem best_turn (n : Nat) (m : List (Int × Int)) (x y : Int) : ∀ k, k ≤ m.length → best (tpts n m) (tX x y n).1 (tX x y n).2 k = best m x y k
  | 0, _ => rfl
  | k + 1, h => by
    have ih := best_turn n m x y k (by omega)
    have hb := best_le m x y k
    obtain ⟨h1, h2⟩ := tpts_get n m k (by omega)
    obtain ⟨h3, h4⟩ := tpts_get n m (best m x y k) (by omega)
    simp only [best]
    rw [ih, h1, h2, h3, h4, far_turn, far_turn]

theorem near_turn (n : Nat) (m : List (Int × Int)) (x y : Int) (l : List Leg3) (t : Nat) : near (tpts n m) (tX x y n).1 (tX x y n).2 (tlegs n l) t = near m x y l t := by
  obtain ⟨h1, h2⟩ := pos_turn n x y l (t : Int)
  rw [near, near, h1, h2, tpts_len, best_turn n m _ _ m.length (Nat.le_refl _)]

theorem chg_turn (n : Nat) (m : List (Int × Int)) (x y : Int) (l : List Leg3) : ∀ t, chg (tpts n m) (tX x y n).1 (tX x y n).2 (tlegs n l) t = chg m x y l t
  | 0 => by simp only [chg, near_turn]
  | t + 1 => by simp only [chg, near_turn, chg_turn n m x y l t]

theorem chg_pre (m : List (Int × Int)) (x y : Int) (l : List Leg3) {t u : Nat} (h : t ≤ u) : ∃ s, chg m x y l u = chg m x y l t ++ s := by
  induction h with
  | refl => exact ⟨[], (List.append_nil _).symm⟩
  | @step u h ih =>
    obtain ⟨s, e⟩ := ih
    simp only [chg]
    split
    · exact ⟨s, e⟩
    · exact ⟨s ++ [_], by rw [e, List.append_assoc]⟩

theorem chg_one (m : List (Int × Int)) (x y : Int) (l : List Leg3) (u : Nat) : 0 < (chg m x y l u).length ∧ px (chg m x y l u) 0 = 0 ∧ py (chg m x y l u) 0 = (near m x y l 0 : Nat) := by
  obtain ⟨s, e⟩ := chg_pre m x y l (Nat.zero_le u)
  rw [e]
  simp [chg, px, py]

theorem chg_next (m : List (Int × Int)) (x y : Int) (l : List Leg3) {t u : Nat} (h : t + 1 ≤ u) (hn : near m x y l (t + 1) ≠ near m x y l t) :
    (chg m x y l t).length < (chg m x y l u).length ∧ px (chg m x y l u) (chg m x y l t).length = ((t + 1 : Nat) : Int) ∧ py (chg m x y l u) (chg m x y l t).length = (near m x y l (t + 1) : Nat) ∧ (chg m x y l (t + 1)).length = (chg m x y l t).length + 1 := by
  obtain ⟨s, e⟩ := chg_pre m x y l h
  have e1 : chg m x y l (t + 1) = chg m x y l t ++ [(((t + 1 : Nat) : Int), ((near m x y l (t + 1) : Nat) : Int))] := if_neg hn
  rw [e, e1]
  simp [px, py]
end Go.Proofs.Ytmkpdnjdengcfaa.skyZ
