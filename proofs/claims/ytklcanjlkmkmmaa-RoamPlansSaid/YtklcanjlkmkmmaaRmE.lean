/- Roam: a host's changes, second by second: arithmetic. -/
import Derived.Test.YtklcanjlkmkmmaaRmD
namespace Go.Proofs.Ytklcanjlkmkmmaa.rmE
open Go.RowKit Go.Proofs.Ytklcanjlkmkmmaa.kit Go.Proofs.Ytklcanjlkmkmmaa.skyB Go.Proofs.Ytklcanjlkmkmmaa.skyD Go.Proofs.Ytklcanjlkmkmmaa.skyG Go.Proofs.Ytklcanjlkmkmmaa.skyI Go.Proofs.Ytklcanjlkmkmmaa.rmA Go.Proofs.Ytklcanjlkmkmmaa.rmB Go.Proofs.Ytklcanjlkmkmmaa.rmD
set_option linter.unusedVariables false
set_option linter.unusedSimpArgs false

theorem chg_pre (m : List (Int × Int)) (x y : Int) (l : List Leg3) {t u : Nat} (h : t ≤ u) : ∃ s, chg m x y l u = chg m x y l t ++ s := by
  induction h with
  | refl => exact ⟨[], (List.append_nil _).symm⟩
  | @step u h ih =>
    obtain ⟨s, e⟩ := ih
    simp only [chg]
    split
    · exact ⟨s, e⟩
    · exact ⟨s ++ [_], by rw [e, List.append_assoc]⟩

theorem chg_one (m : List (Int × Int)) (x y : Int) (l : List Leg3) (u : Nat) : 0 < (chg m x y l u).length ∧ px (chg m x y l u) 0 = 0 ∧ py (chg m x y l u) 0 = (near m x y l 0 : Nat) := by
  obtain ⟨s, e⟩ := chg_pre m x y l (Nat.zero_le u)
  rw [e]
  simp [chg, px, py]

theorem chg_next (m : List (Int × Int)) (x y : Int) (l : List Leg3) {t u : Nat} (h : t + 1 ≤ u) (hn : near m x y l (t + 1) ≠ near m x y l t) :
    (chg m x y l t).length < (chg m x y l u).length ∧ px (chg m x y l u) (chg m x y l t).length = ((t + 1 : Nat) : Int) ∧ py (chg m x y l u) (chg m x y l t).length = (near m x y l (t + 1) : Nat) ∧ (chg m x y l (t + 1)).length = (chg m x y l t).length + 1 := by
  obtain ⟨s, e⟩ := chg_pre m x y l h
  have e1 : chg m x y l (t + 1) = chg m x y l t ++ [(((t + 1 : Nat) : Int), ((near m x y l (t + 1) : Nat) : Int))] := if_neg hn
  rw [e, e1]
  simp [px, py]

abbrev nr (m : List (Int × Int)) (rs : List Rt) (i t : Nat) : Nat := near m (rr rs i).x (rr rs i).y (rr rs i).l t
abbrev cg (m : List (Int × Int)) (rs : List Rt) (i t : Nat) : List (Int × Int) := chg m (rr rs i).x (rr rs i).y (rr rs i).l t

theorem addr_nr (m : List (Int × Int)) (rs : List Rt) (i t : Nat) : addr m rs i (t : Int) = 8 * ((nr m rs i t : Nat) : Int) + i + 1 := rfl

theorem goes_zero (m : List (Int × Int)) (rs : List Rt) (i : Nat) : goes m rs 0 i = true := by simp [goes]

theorem goes_succ (m : List (Int × Int)) (rs : List Rt) (i t : Nat) : goes m rs (t + 1) i = decide (¬ nr m rs i (t + 1) = nr m rs i t) := by
  have e : (((t + 1 : Nat) : Int) - 1) = ((t : Nat) : Int) := by omega
  rw [goes, e, addr_nr, addr_nr]
  rw [Bool.eq_iff_iff]
  simp only [Bool.or_eq_true, decide_eq_true_eq]
  omega

/-- How many changes the first seconds have. -/
def cn (m : List (Int × Int)) (rs : List Rt) (i : Nat) : Nat → Nat
  | 0 => 0
  | t + 1 => (cg m rs i t).length

theorem cn_step (m : List (Int × Int)) (rs : List Rt) (i : Nat) : ∀ t, cn m rs i (t + 1) = if goes m rs t i = true then cn m rs i t + 1 else cn m rs i t
  | 0 => by rw [goes_zero, if_pos rfl]; rfl
  | t + 1 => by
    rw [goes_succ]
    by_cases h : nr m rs i (t + 1) = nr m rs i t
    · rw [if_neg (by simp [h])]
      show (cg m rs i (t + 1)).length = (cg m rs i t).length
      rw [show cg m rs i (t + 1) = cg m rs i t from if_pos h]
    · rw [if_pos (by simp [h])]
      exact (chg_next m _ _ _ (Nat.le_refl (t + 1)) h).2.2.2

theorem cn_le (m : List (Int × Int)) (rs : List Rt) (i : Nat) {t u : Nat} (h : t ≤ u) : cn m rs i t ≤ cn m rs i u := by
  induction h with
  | refl => exact Nat.le_refl _
  | @step u h ih =>
    have := cn_step m rs i u
    show cn m rs i t ≤ cn m rs i (u + 1)
    split at this <;> omega

/-- The next change. -/
theorem adv (m : List (Int × Int)) (rs : List Rt) (i U : Nat) : ∀ (d t : Nat), t + d = U + 1 → cn m rs i t < (cg m rs i U).length →
    ∃ t', t ≤ t' ∧ t' ≤ U ∧ goes m rs t' i = true ∧ (∀ s, t ≤ s → s < t' → goes m rs s i = false) ∧ cn m rs i t' = cn m rs i t ∧ px (cg m rs i U) (cn m rs i t) = (t' : Int) ∧ py (cg m rs i U) (cn m rs i t) = (nr m rs i t' : Nat)
  | 0, t, ht, hc => by
    have e : t = U + 1 := by omega
    rw [e] at hc
    exact absurd hc (Nat.lt_irrefl _)
  | d + 1, t, ht, hc => by
    cases hg : goes m rs t i
    · have hs := cn_step m rs i t
      rw [hg, if_neg (by decide)] at hs
      rw [← hs] at hc
      obtain ⟨t', h1, h2, h3, h4, h5, h6, h7⟩ := adv m rs i U d (t + 1) (by omega) hc
      rw [hs] at h5 h6 h7
      exact ⟨t', by omega, h2, h3, fun s hs1 hs2 => by
        rcases Nat.eq_or_lt_of_le hs1 with e | e
        · rw [← e]; exact hg
        · exact h4 s e hs2, h5, h6, h7⟩
    · refine ⟨t, Nat.le_refl _, by omega, hg, fun s h1 h2 => by omega, rfl, ?_⟩
      cases t with
      | zero =>
        obtain ⟨_, q1, q2⟩ := chg_one m (rr rs i).x (rr rs i).y (rr rs i).l U
        exact ⟨q1, q2⟩
      | succ t =>
        rw [goes_succ] at hg
        obtain ⟨_, q1, q2, _⟩ := chg_next m (rr rs i).x (rr rs i).y (rr rs i).l (t := t) (u := U) (by omega) (of_decide_eq_true hg)
        exact ⟨q1, q2⟩

/-- Behind the last change. -/
theorem fin (m : List (Int × Int)) (rs : List Rt) (i U t : Nat) (hc : (cg m rs i U).length ≤ cn m rs i t) {s : Nat} (h1 : t ≤ s) (h2 : s ≤ U) : goes m rs s i = false := by
  cases hg : goes m rs s i
  · rfl
  · have hs := cn_step m rs i s
    rw [hg, if_pos rfl] at hs
    have a := cn_le m rs i h1
    have b := cn_le m rs i (show s + 1 ≤ U + 1 by omega)
    have e : cn m rs i (U + 1) = (cg m rs i U).length := rfl
    omega

/-- What lies ready for the seconds: of the hosts before i, and of host i up to the second t. -/
def rdy (m : List (Int × Int)) (rs : List Rt) (i t s : Nat) : List Ac := if s < t then mv m rs s (i + 1) else mv m rs s i

theorem mv_still {m : List (Int × Int)} {rs : List Rt} {s i : Nat} (h : goes m rs s i = false) : mv m rs s (i + 1) = mv m rs s i := if_neg (by rw [h]; decide)

theorem mv_goes {m : List (Int × Int)} {rs : List Rt} {s i : Nat} (h : goes m rs s i = true) : mv m rs s (i + 1) = mv m rs s i ++ [moveA m rs s i] := if_pos h

theorem rdy_adv {m : List (Int × Int)} {rs : List Rt} {i t t' : Nat} (h : t ≤ t') (hs : ∀ s, t ≤ s → s < t' → goes m rs s i = false) (s : Nat) : rdy m rs i t' s = rdy m rs i t s := by
  unfold rdy
  by_cases h1 : s < t
  · rw [if_pos h1, if_pos (by omega)]
  · rw [if_neg h1]
    by_cases h2 : s < t'
    · rw [if_pos h2, mv_still (hs s (by omega) h2)]
    · rw [if_neg h2]

theorem rdy_put {m : List (Int × Int)} {rs : List Rt} {i t : Nat} (h : goes m rs t i = true) (s : Nat) : rdy m rs i (t + 1) s = if s = t then rdy m rs i t s ++ [moveA m rs t i] else rdy m rs i t s := by
  unfold rdy
  by_cases e : s = t
  · subst e
    rw [if_pos (Nat.lt_succ_self s), if_pos rfl, if_neg (Nat.lt_irrefl s), mv_goes h]
  · rw [if_neg e]
    by_cases h1 : s < t
    · rw [if_pos h1, if_pos (by omega)]
    · rw [if_neg h1, if_neg (by omega)]

theorem rdy_end {m : List (Int × Int)} {rs : List Rt} {i U t : Nat} (hc : (cg m rs i U).length ≤ cn m rs i t) {s : Nat} (hs : s ≤ U) : rdy m rs i t s = rdy m rs (i + 1) 0 s := by
  unfold rdy
  rw [if_neg (Nat.not_lt_zero s)]
  by_cases h1 : s < t
  · rw [if_pos h1]
  · rw [if_neg h1, mv_still (fin m rs i U t hc (by omega) hs)]
end Go.Proofs.Ytklcanjlkmkmmaa.rmE
