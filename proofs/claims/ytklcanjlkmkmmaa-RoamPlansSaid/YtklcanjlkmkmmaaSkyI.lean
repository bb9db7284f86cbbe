/- sky: where a route is at a second, and which masts are nearest then. -/
import Derived.Test.YtklcanjlkmkmmaaSkyH
namespace Go.Proofs.Ytklcanjlkmkmmaa.skyI
open Go.RowKit Go.Lib Go.Proofs.Ytklcanjlkmkmmaa.kit Go.Proofs.Ytklcanjlkmkmmaa.floA Go.Proofs.Ytklcanjlkmkmmaa.skyA Go.Proofs.Ytklcanjlkmkmmaa.skyB Go.Proofs.Ytklcanjlkmkmmaa.skyC Go.Proofs.Ytklcanjlkmkmmaa.skyD Go.Proofs.Ytklcanjlkmkmmaa.skyE Go.Proofs.Ytklcanjlkmkmmaa.skyF Go.Proofs.Ytklcanjlkmkmmaa.skyG Go.Proofs.Ytklcanjlkmkmmaa.skyH
set_option linter.unusedVariables false
set_option linter.unusedSimpArgs false

/-- The seconds that k legs leave. -/
def rem (l : List Leg3) (t : Int) : Nat → Int
  | 0 => t
  | k + 1 => rem l t k - min (ls l k) (rem l t k)

/-- Where k legs lead in t seconds. -/
def pX (x : Int) (l : List Leg3) (t : Int) : Nat → Int
  | 0 => x
  | k + 1 => pX x l t k + lx l k * min (ls l k) (rem l t k)

def pY (y : Int) (l : List Leg3) (t : Int) : Nat → Int
  | 0 => y
  | k + 1 => pY y l t k + ly l k * min (ls l k) (rem l t k)

/-- The seconds of k legs. -/
def sm (l : List Leg3) : Nat → Int
  | 0 => 0
  | k + 1 => sm l k + ls l k

def pos (l : List Leg3) (n : Nat) : Prop := ∀ i, i < n → 1 ≤ ls l i

theorem sm_le {l : List Leg3} {n : Nat} (h : pos l n) : ∀ {m k : Nat}, k ≤ m → m ≤ n → sm l k ≤ sm l m := by
  intro m k hk
  induction hk with
  | refl => intro _; exact Int.le_refl _
  | @step m _ ih =>
    intro hm
    have := ih (by omega)
    have := h m (by omega)
    show sm l k ≤ sm l m + ls l m
    omega

theorem rem_eq {l : List Leg3} {t : Int} (ht : 0 ≤ t) : ∀ {k : Nat}, pos l k → rem l t k = max 0 (t - sm l k)
  | 0, _ => by simp only [rem, sm]; omega
  | k + 1, h => by
    have ih := rem_eq ht (k := k) fun i hi => h i (by omega)
    have := h k (by omega)
    simp only [rem, sm]
    rw [ih]
    omega

theorem pX_full {x : Int} {l : List Leg3} {t : Int} (ht : 0 ≤ t) : ∀ {k : Nat}, pos l k → sm l k ≤ t → pX x l t k = atX x l k
  | 0, _, _ => rfl
  | k + 1, h, hs => by
    have h' : pos l k := fun i hi => h i (by omega)
    have h1 := h k (by omega)
    simp only [sm] at hs
    have ih := pX_full (x := x) ht h' (by omega)
    have hr := rem_eq ht h'
    have e : min (ls l k) (rem l t k) = ls l k := by omega
    simp only [pX, atX, e, ih]

theorem pY_full {y : Int} {l : List Leg3} {t : Int} (ht : 0 ≤ t) : ∀ {k : Nat}, pos l k → sm l k ≤ t → pY y l t k = atY y l k
  | 0, _, _ => rfl
  | k + 1, h, hs => by
    have h' : pos l k := fun i hi => h i (by omega)
    have h1 := h k (by omega)
    simp only [sm] at hs
    have ih := pY_full (y := y) ht h' (by omega)
    have hr := rem_eq ht h'
    have e : min (ls l k) (rem l t k) = ls l k := by omega
    simp only [pY, atY, e, ih]

theorem min_in {l : List Leg3} {n k : Nat} {t j : Int} (h : pos l n) (hk : k < n) (ht : t = sm l k + j) (h0 : 0 ≤ t) (hj : 0 ≤ j) (hj' : j ≤ ls l k) : min (ls l k) (rem l t k) = j := by
  have hr := rem_eq h0 (k := k) fun i hi => h i (by omega)
  omega

theorem min_out {l : List Leg3} {n m : Nat} {t : Int} (h : pos l n) (hm : m < n) (h0 : 0 ≤ t) (ht : t ≤ sm l m) : min (ls l m) (rem l t m) = 0 := by
  have hr := rem_eq h0 (k := m) fun i hi => h i (by omega)
  have := h m hm
  omega

theorem sm_nonneg {l : List Leg3} {n k : Nat} (h : pos l n) (hk : k ≤ n) : 0 ≤ sm l k := sm_le h (Nat.zero_le k) hk

theorem pX_in {x : Int} {l : List Leg3} {n k : Nat} {t j : Int} (h : pos l n) (hk : k < n) (ht : t = sm l k + j) (hj : 0 ≤ j) (hj' : j ≤ ls l k) : ∀ {m : Nat}, k + 1 ≤ m → m ≤ n → pX x l t m = atX x l k + lx l k * j := by
  have h0 : 0 ≤ t := by have := sm_nonneg h (k := k) (by omega); omega
  intro m hm
  induction hm with
  | refl =>
    intro _
    have e := pX_full (x := x) h0 (k := k) (fun i hi => h i (by omega)) (by omega)
    simp only [pX, e, min_in h hk ht h0 hj hj']
  | @step m hm ih =>
    intro hmn
    have hs : t ≤ sm l m := by
      have := sm_le h (k := k + 1) (m := m) hm (by omega)
      simp only [sm] at this
      omega
    rw [pX, min_out h (by omega) h0 hs, Int.mul_zero, Int.add_zero]
    exact ih (by omega)

theorem pY_in {y : Int} {l : List Leg3} {n k : Nat} {t j : Int} (h : pos l n) (hk : k < n) (ht : t = sm l k + j) (hj : 0 ≤ j) (hj' : j ≤ ls l k) : ∀ {m : Nat}, k + 1 ≤ m → m ≤ n → pY y l t m = atY y l k + ly l k * j := by
  have h0 : 0 ≤ t := by have := sm_nonneg h (k := k) (by omega); omega
  intro m hm
  induction hm with
  | refl =>
    intro _
    have e := pY_full (y := y) h0 (k := k) (fun i hi => h i (by omega)) (by omega)
    simp only [pY, e, min_in h hk ht h0 hj hj']
  | @step m hm ih =>
    intro hmn
    have hs : t ≤ sm l m := by
      have := sm_le h (k := k + 1) (m := m) hm (by omega)
      simp only [sm] at this
      omega
    rw [pY, min_out h (by omega) h0 hs, Int.mul_zero, Int.add_zero]
    exact ih (by omega)

theorem legs_ok {x y : Int} {l : List Leg3} : ∀ {n : Nat}, okR x y l n = true → ∀ k, k < n → legOk (lx l k) (ly l k) (ls l k) = true
  | 0, _, k, hk => absurd hk (Nat.not_lt_zero _)
  | n + 1, h, k, hk => by
    simp only [okR, Bool.and_eq_true] at h
    rcases Nat.lt_or_ge k n with g | g
    · exact legs_ok h.1 k g
    · have : k = n := by omega
      subst this
      exact h.2.1

theorem pos_of {x y : Int} {l : List Leg3} {n : Nat} (h : okR x y l n = true) : pos l n := fun i hi => (legOk_iff.1 (legs_ok h i hi)).2.1

/-- Between two places that are right all are. -/
theorem mid_between {a x s j : Int} (h0 : Mid a) (h1 : Mid (a + x * s)) (hj : 0 ≤ j) (hs : j ≤ s) : Mid (a + x * j) := by
  rcases Int.le_total 0 x with g | g
  · have q1 := Int.mul_le_mul_of_nonneg_left hs g
    have q2 := Int.mul_nonneg g hj
    have := h0
    have := h1
    constructor <;> omega
  · have q1 := Int.mul_le_mul_of_nonpos_left g hs
    have q2 := Int.mul_nonpos_of_nonpos_of_nonneg g hj
    have := h0
    have := h1
    constructor <;> omega

/-- Where the route is at a second. -/
def posX (x : Int) (l : List Leg3) (t : Int) : Int := pX x l t l.length
def posY (y : Int) (l : List Leg3) (t : Int) : Int := pY y l t l.length

theorem pos_start (x : Int) (l : List Leg3) (h : pos l l.length) : posX x l 0 = x ∧ posY x l 0 = x := by
  rcases Nat.eq_zero_or_pos l.length with e | e
  · simp [posX, posY, e, pX, pY]
  · have h1 := h 0 e
    exact ⟨by rw [posX, pX_in h e (j := 0) (by simp [sm]) (by omega) (by omega) (by omega) (Nat.le_refl _)]; simp [atX], by rw [posY, pY_in h e (j := 0) (by simp [sm]) (by omega) (by omega) (by omega) (Nat.le_refl _)]; simp [atY]⟩

theorem pos_mid {x y : Int} {l : List Leg3} (h0 : inP 16777216 x y = true) (hok : okR x y l l.length = true) {k : Nat} (hk : k < l.length) {t j : Int} (ht : t = sm l k + j) (hj : 0 ≤ j) (hj' : j ≤ ls l k) : Mid (posX x l t) ∧ Mid (posY y l t) := by
  have hp := pos_of hok
  rw [posX, posY, pX_in hp hk ht hj hj' hk (Nat.le_refl _), pY_in hp hk ht hj hj' hk (Nat.le_refl _)]
  obtain ⟨m0, m1⟩ := mid_at h0 (okR_le hok (k := k) (by omega))
  obtain ⟨n0, n1⟩ := mid_at h0 (okR_le hok (k := k + 1) (by omega))
  exact ⟨mid_between m0 n0 hj hj', mid_between m1 n1 hj hj'⟩

theorem pos_step {x y : Int} {l : List Leg3} (hp : pos l l.length) {k : Nat} (hk : k < l.length) {t j : Int} (ht : t = sm l k + j) (hj : 0 ≤ j) (hj' : j < ls l k) : posX x l (t + 1) = posX x l t + lx l k * 1 ∧ posY y l (t + 1) = posY y l t + ly l k * 1 := by
  constructor
  · rw [posX, posX, pX_in hp hk ht hj (by omega) hk (Nat.le_refl _), pX_in hp hk (t := t + 1) (j := j + 1) (by omega) (by omega) (by omega) hk (Nat.le_refl _), Int.mul_add, Int.add_assoc]
  · rw [posY, posY, pY_in hp hk ht hj (by omega) hk (Nat.le_refl _), pY_in hp hk (t := t + 1) (j := j + 1) (by omega) (by omega) (by omega) hk (Nat.le_refl _), Int.mul_add, Int.add_assoc]

theorem pos_end {x y : Int} {l : List Leg3} (hp : pos l l.length) {t : Int} (h0 : 0 ≤ t) (ht : sm l l.length ≤ t) : posX x l t = atX x l l.length ∧ posY y l t = atY y l l.length :=
  ⟨pX_full h0 hp ht, pY_full h0 hp ht⟩

/-- The nearest mast at a second. -/
def near (m : List (Int × Int)) (x y : Int) (l : List Leg3) (t : Nat) : Nat := best m (posX x l t) (posY y l t) m.length

/-- The changes up to a second. -/
def chg (m : List (Int × Int)) (x y : Int) (l : List Leg3) : Nat → List (Int × Int)
  | 0 => [(0, ((near m x y l 0 : Nat) : Int))]
  | t + 1 => if near m x y l (t + 1) = near m x y l t then chg m x y l t else chg m x y l t ++ [(((t + 1 : Nat) : Int), ((near m x y l (t + 1) : Nat) : Int))]

theorem chg_len (m : List (Int × Int)) (x y : Int) (l : List Leg3) : ∀ t, (chg m x y l t).length ≤ t + 1
  | 0 => Nat.le_refl _
  | t + 1 => by
    have := chg_len m x y l t
    simp only [chg]
    split
    · omega
    · rw [List.length_append]
      simp
      omega

/-- Behind the route's end nothing changes. -/
theorem chg_end {m : List (Int × Int)} {x y : Int} {l : List Leg3} (hp : pos l l.length) {T : Nat} (hT : sm l l.length ≤ T) : ∀ {t : Nat}, T ≤ t → chg m x y l t = chg m x y l T := by
  intro t ht
  induction ht with
  | refl => rfl
  | @step t ht ih =>
    have ht' : T ≤ t := ht
    have e1 := pos_end (x := x) (y := y) hp (t := ((t + 1 : Nat) : Int)) (by omega) (by omega)
    have e2 := pos_end (x := x) (y := y) hp (t := (t : Int)) (by omega) (by omega)
    have e : near m x y l (t + 1) = near m x y l t := by rw [near, near, e1.1, e1.2, e2.1, e2.2]
    rw [chg, if_pos e, ih]
end Go.Proofs.Ytklcanjlkmkmmaa.skyI
