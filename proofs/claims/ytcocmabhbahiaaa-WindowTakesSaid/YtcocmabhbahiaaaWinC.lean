/- The window's numbers: what a window's blocks say of the list of what was taken. -/
import Derived.Test.YtcocmabhbahiaaaWinB
namespace Go.Proofs.Ytcocmabhbahiaaa.winC
open Go.RowKit Go.Lib Go.Proofs.Ytcocmabhbahiaaa.kit Go.Proofs.Ytcocmabhbahiaaa.numA Go.Proofs.Ytcocmabhbahiaaa.winA Go.Proofs.Ytcocmabhbahiaaa.winB
set_option linter.unusedVariables false
set_option linter.unusedSimpArgs false

def mx (l : List Nat) : Nat := l.foldl max 0

theorem foldl_max (l : List Nat) (a : Nat) : l.foldl max a = max a (mx l) := by
  induction l generalizing a with
  | nil => simp [mx]
  | cons x l ih => rw [mx, List.foldl_cons, List.foldl_cons, ih, ih (max 0 x)]; omega

theorem mx_snoc (l : List Nat) (c : Nat) : mx (l ++ [c]) = max (mx l) c := by
  rw [mx, List.foldl_append]; rfl

theorem mx_cons (x : Nat) (l : List Nat) : mx (x :: l) = max x (mx l) := by
  rw [mx, List.foldl_cons, foldl_max]; omega

theorem le_mx {l : List Nat} {c : Nat} (h : c ∈ l) : c ≤ mx l := by
  induction l with
  | nil => simp at h
  | cons x l ih =>
    rw [mx_cons]
    rcases List.mem_cons.1 h with rfl | h
    · omega
    · have := ih h; omega

/-- The document's code. -/
def rwd (l : List Nat) (c : Nat) : Int :=
  if 18446744073709543423 ≤ c then 10 else if l ≠ [] ∧ (c ∈ l ∨ c < mx l ∧ 2048 ≤ mx l - c) then 9 else 0

structure Tk (bs : Nat → Nat) (top : Nat) (any : Bool) (l : List Nat) : Prop where
  anyE : any = !l.isEmpty
  topE : top = mx l
  lt : ∀ c ∈ l, c < 18446744073709543423
  nodup : l.Nodup
  bit : ∀ c, c / 64 ≤ top / 64 → top / 64 ≤ c / 64 + 32 → (bs (c / 64 % 33)).testBit (c % 64) = decide (c ∈ l)

theorem inv_new : Tk (fun _ => 0) 0 false [] := ⟨rfl, rfl, by simp, by simp, by simp⟩

theorem wd_eq {bs : Nat → Nat} {top : Nat} {any : Bool} {l : List Nat} (h : Tk bs top any l) (c : Nat) : wd bs top any c = rwd l c := by
  rw [wd, rwd]
  by_cases h1 : 18446744073709543423 ≤ c
  · rw [if_pos h1, if_pos h1]
  rw [if_neg h1, if_neg h1]
  have ht := h.topE
  by_cases hl : l = []
  · subst hl
    have : any = false := h.anyE
    rw [if_pos (.inl this), if_neg (by simp)]
  have ha : ¬ any = false := by
    rw [h.anyE]
    cases l with
    | nil => exact absurd rfl hl
    | cons => simp
  by_cases h2 : top < c
  · rw [if_pos (.inr h2), if_neg]
    rintro ⟨-, hm | hm⟩
    · have := le_mx hm; omega
    · omega
  rw [if_neg (by rintro (q | q); exact ha q; exact h2 q)]
  by_cases h3 : 2048 ≤ top - c
  · rw [if_pos (.inl h3), if_pos ⟨hl, .inr (by omega)⟩]
  · have hb := h.bit c (Nat.div_le_div_right (by omega)) (by omega)
    rw [hb]
    by_cases hm : c ∈ l
    · rw [if_pos (.inr (by simpa using hm)), if_pos ⟨hl, .inl hm⟩]
    · rw [if_neg (by simp [h3, hm]), if_neg]
      rintro ⟨-, q | q⟩
      · exact hm q
      · omega

theorem clr_at (bs : Nat → Nat) (q j p : Nat) : clr bs q j p = if ∃ i, i < j ∧ (q - i) % 33 = p then 0 else bs p := by
  induction j with
  | zero => simp [clr]
  | succ j ih =>
    rw [clr, upd]
    by_cases h : p = (q - j) % 33
    · rw [if_pos h, if_pos ⟨j, by omega, h.symm⟩]
    · rw [if_neg h, ih]
      by_cases h2 : ∃ i, i < j ∧ (q - i) % 33 = p
      · rw [if_pos h2, if_pos]
        obtain ⟨i, hi, e⟩ := h2
        exact ⟨i, by omega, e⟩
      · rw [if_neg h2, if_neg]
        rintro ⟨i, hi, e⟩
        by_cases e2 : i = j
        · subst e2; exact h e.symm
        · exact h2 ⟨i, by omega, e⟩

/-- Behind forward: the new top's blocks say the same. -/
theorem fwd_bit {bs : Nat → Nat} {top : Nat} {any : Bool} {l : List Nat} (h : Tk bs top any l) (c : Nat) (x : Nat) (h1 : x / 64 ≤ max top c / 64) (h2 : max top c / 64 ≤ x / 64 + 32) :
    (fwd bs top c (x / 64 % 33)).testBit (x % 64) = decide (x ∈ l) := by
  rw [fwd]
  by_cases hc : top < c
  · have em : max top c = c := by omega
    rw [em] at h1 h2
    rw [if_pos hc, clr_at]
    have hd : top / 64 ≤ c / 64 := Nat.div_le_div_right (by omega)
    by_cases hx : x / 64 ≤ top / 64
    · rw [if_neg]
      · exact h.bit x hx (by omega)
      · rintro ⟨i, hi, e⟩
        have hs : steps top c ≤ 33 ∧ steps top c ≤ c / 64 - top / 64 := by rw [steps]; split <;> omega
        omega
    · rw [if_pos]
      · have : x ∉ l := by
          intro hm
          have a := le_mx hm
          have b := h.topE
          have : x / 64 ≤ top / 64 := Nat.div_le_div_right (by omega)
          omega
        simp [this]
      · refine ⟨c / 64 - x / 64, ?_, ?_⟩
        · rw [steps]; split <;> omega
        · have : c / 64 - (c / 64 - x / 64) = x / 64 := by omega
          rw [this]
  · have em : max top c = top := by omega
    rw [em] at h1 h2
    rw [if_neg hc]
    exact h.bit x h1 h2

theorem inv_take {bs : Nat → Nat} {top : Nat} {any : Bool} {l : List Nat} (h : Tk bs top any l) (c : Nat) (h0 : rwd l c = 0) : Tk (put (fwd bs top c) c) (max top c) true (l ++ [c]) := by
  have hlt : c < 18446744073709543423 := by
    rw [rwd] at h0
    split at h0
    · exact absurd h0 (by decide)
    · omega
  have hn : ¬ (l ≠ [] ∧ (c ∈ l ∨ c < mx l ∧ 2048 ≤ mx l - c)) := by
    intro q
    rw [rwd, if_neg (by omega), if_pos q] at h0
    exact absurd h0 (by decide)
  have hm : c ∉ l := fun q => hn ⟨fun e => by rw [e] at q; simp at q, .inl q⟩
  have hr : ¬ (c < mx l ∧ 2048 ≤ mx l - c) := by
    intro q
    refine hn ⟨fun e => ?_, .inr q⟩
    rw [e] at q
    simp [mx] at q
  have ht := h.topE
  refine ⟨by simp, by rw [mx_snoc, ← ht], ?_, ?_, ?_⟩
  · intro x hx
    rcases List.mem_append.1 hx with hx | hx
    · exact h.lt x hx
    · have : x = c := by simpa using hx
      omega
  · rw [List.nodup_append]
    refine ⟨h.nodup, by simp, ?_⟩
    intro a ha b hb e
    have : b = c := by simpa using hb
    exact hm (by rw [← this, ← e]; exact ha)
  · intro x h1 h2
    have hb := fwd_bit h c x h1 h2
    have hc1 : c / 64 ≤ max top c / 64 := Nat.div_le_div_right (by omega)
    have hc2 : max top c / 64 ≤ c / 64 + 32 := by omega
    rw [put, upd]
    by_cases e : x / 64 % 33 = c / 64 % 33
    · have e2 : x / 64 = c / 64 := by omega
      rw [if_pos e, Nat.testBit_or, ← e, hb, Nat.testBit_two_pow]
      by_cases e3 : x = c
      · simp [e3]
      · have : ¬ c % 64 = x % 64 := by omega
        simp [this, e3]
    · have e3 : x ≠ c := by
        intro q; rw [q] at e; exact e rfl
      rw [if_neg e, hb]
      simp [e3]

/-- How many of the first n. -/
def cnt (p : Nat → Bool) : Nat → Nat
  | 0 => 0
  | n + 1 => cnt p n + if p n then 1 else 0

theorem cnt_le (p : Nat → Bool) (n : Nat) : cnt p n ≤ n := by
  induction n with
  | zero => exact Nat.le_refl _
  | succ n ih => rw [cnt]; split <;> omega

theorem cnt_congr {p q : Nat → Bool} {n : Nat} (h : ∀ i, i < n → p i = q i) : cnt p n = cnt q n := by
  induction n with
  | zero => rfl
  | succ n ih => rw [cnt, cnt, ih (fun i hi => h i (by omega)), h n (by omega)]

theorem cnt_not (p : Nat → Bool) (n : Nat) : cnt (fun i => !p i) n + cnt p n = n := by
  induction n with
  | zero => rfl
  | succ n ih =>
    rw [cnt, cnt]
    cases p n <;> simp <;> omega

theorem cnt_or (p : Nat → Bool) (k n : Nat) (hk : p k = false) : cnt (fun i => decide (i = k) || p i) n = cnt p n + if k < n then 1 else 0 := by
  induction n with
  | zero => rfl
  | succ n ih =>
    rw [cnt, cnt, ih]
    by_cases e : n = k
    · subst e
      simp [hk]
    · have : (k < n + 1) = (k < n) := by apply propext; omega
      simp only [this]
      simp [e]
      omega

theorem cnt_list {l : List Nat} {top n : Nat} (hn : n ≤ top + 1) (hl : ∀ x ∈ l, x ≤ top) (hd : l.Nodup) : cnt (fun i => decide (top - i ∈ l)) n = (l.filter (fun x => decide (top - x < n))).length := by
  induction l with
  | nil =>
    have : ∀ m, cnt (fun i => decide (top - i ∈ ([] : List Nat))) m = 0 := by
      intro m
      induction m with
      | zero => rfl
      | succ m ih => rw [cnt, ih]; simp
    rw [this]; rfl
  | cons x l ih =>
    rw [List.nodup_cons] at hd
    have hx := hl x (by simp)
    have e1 : cnt (fun i => decide (top - i ∈ x :: l)) n = cnt (fun i => decide (i = top - x) || decide (top - i ∈ l)) n := by
      apply cnt_congr
      intro i hi
      have q : (top - i ∈ x :: l) ↔ (i = top - x ∨ top - i ∈ l) := by
        rw [List.mem_cons]
        constructor
        · rintro (h | h)
          · left; omega
          · right; exact h
        · rintro (h | h)
          · left; omega
          · right; exact h
      simp only [q]
      simp
    have e2 : top - (top - x) = x := by omega
    rw [e1, cnt_or _ _ _ (by rw [e2]; simpa using hd.1), ih (fun y hy => hl y (by simp [hy])) hd.2, List.filter_cons]
    by_cases h : top - x < n
    · simp [h]
    · simp [h]

/-- What is missing, as the document says. -/
def rmiss (l : List Nat) : Nat := if l = [] then 0 else (if mx l < 2048 then mx l + 1 else 2048) - (l.filter (fun x => decide (mx l - x < 2048))).length

def miss (bs : Nat → Nat) (top n : Nat) : Nat := cnt (fun i => !(bs ((top - i) / 64 % 33)).testBit ((top - i) % 64)) n

theorem miss_eq {bs : Nat → Nat} {top : Nat} {any : Bool} {l : List Nat} (h : Tk bs top any l) (hl : l ≠ []) : miss bs top (min top 2047 + 1) = rmiss l := by
  have ht := h.topE
  have e0 : min top 2047 + 1 = if mx l < 2048 then mx l + 1 else 2048 := by rw [ht]; split <;> omega
  have e1 : miss bs top (min top 2047 + 1) = cnt (fun i => !decide (top - i ∈ l)) (min top 2047 + 1) := by
    apply cnt_congr
    intro i hi
    rw [h.bit (top - i) (Nat.div_le_div_right (by omega)) (by omega)]
  have e2 := cnt_not (fun i => decide (top - i ∈ l)) (min top 2047 + 1)
  have e3 := cnt_list (l := l) (top := top) (n := min top 2047 + 1) (by omega) (fun x hx => by have := le_mx hx; omega) h.nodup
  rw [e1, rmiss, if_neg hl, ← e0]
  have e4 : (l.filter (fun x => decide (top - x < min top 2047 + 1))) = l.filter (fun x => decide (mx l - x < 2048)) := by
    apply List.filter_congr
    intro x hx
    rw [← ht]
    congr 1
    apply propext
    omega
  rw [e4] at e3
  omega
end Go.Proofs.Ytcocmabhbahiaaa.winC
