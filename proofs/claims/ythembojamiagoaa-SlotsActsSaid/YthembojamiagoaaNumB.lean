/- Plain facts on decimal and hexadecimal digits: lists of bytes, no program. -/
import Derived.Test.YthembojamiagoaaNumA
namespace Go.Proofs.Ythembojamiagoaa.numB
open Go.Proofs.Ythembojamiagoaa.numA

/-- The sign of a digit. -/
def sg (d : Nat) : UInt8 := UInt8.ofNat (48 + d)

/-- The digits of a number. -/
def dec (u : Nat) : List UInt8 := if u < 10 then [sg u] else dec (u / 10) ++ [sg (u % 10)]
termination_by u
decreasing_by omega

theorem dec_small {u : Nat} (h : u < 10) : dec u = [sg u] := by rw [dec, if_pos h]
theorem dec_big {u : Nat} (h : ¬ u < 10) : dec u = dec (u / 10) ++ [sg (u % 10)] := by rw [dec, if_neg h]

/-- The number of some digits. -/
def val (l : List UInt8) : Nat := l.foldl (fun n c => 10 * n + (c.toNat - 48)) 0

theorem val_snoc (l : List UInt8) (c : UInt8) : val (l ++ [c]) = 10 * val l + (c.toNat - 48) := by simp [val]

theorem toNat_dig {d : Nat} (h : d < 10) : (sg d).toNat = 48 + d := by
  rw [sg, UInt8.toNat_ofNat']
  omega

theorem val_dec (u : Nat) : val (dec u) = u := by
  induction u using Nat.strongRecOn with
  | _ u ih =>
    by_cases h : u < 10
    · rw [dec_small h]
      have := toNat_dig h
      simp [val, this]
    · rw [dec_big h, val_snoc, ih _ (by omega), toNat_dig (by omega)]
      omega

theorem dec_ne (u : Nat) : dec u ≠ [] := by
  by_cases h : u < 10
  · rw [dec_small h]; simp
  · rw [dec_big h]; simp

theorem dec_len (k : Nat) : ∀ u, u < 10 ^ (k + 1) → (dec u).length ≤ k + 1 := by
  induction k with
  | zero => intro u h; rw [dec_small (by simpa using h)]; simp
  | succ k ih =>
    intro u h
    by_cases h' : u < 10
    · rw [dec_small h']; simp
    · rw [dec_big h', List.length_append]
      have := ih (u / 10) (by rw [Nat.pow_succ] at h; omega)
      simp only [List.length_cons, List.length_nil]
      omega

theorem dig_ofNat {d : Nat} (h : d < 10) : dig (sg d) = true := by
  have := toNat_dig h
  simp only [dig, this, Bool.and_eq_true, decide_eq_true_eq]
  omega

theorem dec_all (u : Nat) : (dec u).all dig = true := by
  induction u using Nat.strongRecOn with
  | _ u ih =>
    by_cases h : u < 10
    · rw [dec_small h]
      simp [dig_ofNat h]
    · rw [dec_big h, List.all_append, ih _ (by omega)]
      simp [dig_ofNat (by omega : u % 10 < 10)]

theorem dec_head (u : Nat) (h : 0 < u) : (dec u).head? ≠ some 48 := by
  induction u using Nat.strongRecOn with
  | _ u ih =>
    by_cases h' : u < 10
    · rw [dec_small h']
      simp only [List.head?_cons, ne_eq, Option.some.injEq, ← UInt8.toNat_inj, toNat_dig h']
      intro e
      have : (48 : UInt8).toNat = 48 := rfl
      omega
    · rw [dec_big h', List.head?_append]
      have q := ih (u / 10) (by omega) (by omega)
      cases e : (dec (u / 10)).head? with
      | none => rw [List.head?_eq_none_iff] at e; exact absurd e (dec_ne _)
      | some a => rw [e] at q; simpa using q

theorem isNum_dec (u : Nat) : isNum (dec u) = true := by
  simp only [isNum, dec_all, Bool.true_and]
  by_cases h : u = 0
  · subst h
    rw [dec_small (by omega)]
    rfl
  · have a := dec_head u (by omega)
    have b := dec_ne u
    have c : ((dec u).head? == some 48) = false := by simpa using a
    have d : (dec u).isEmpty = false := by simpa using b
    rw [c, d]
    simp

theorem val_pos (l : List UInt8) : l.all dig = true → ∀ a t, l = a :: t → a ≠ 48 → 0 < val l := by
  intro hall a t hl ha
  have key : ∀ (t : List UInt8) (n : Nat), 0 < n → 0 < t.foldl (fun n c => 10 * n + (c.toNat - 48)) n := by
    intro t
    induction t with
    | nil => intro n h; exact h
    | cons c t ih => intro n h; exact ih _ (by show 0 < 10 * n + (c.toNat - 48); omega)
  subst hl
  simp only [val, List.foldl_cons]
  apply key
  have hd : dig a = true := by simp at hall; exact hall.1
  simp only [dig, Bool.and_eq_true, decide_eq_true_eq] at hd
  have : a.toNat ≠ 48 := fun e => ha (UInt8.toNat_inj.1 e)
  omega

theorem ofNat_dig {c : UInt8} (h : dig c = true) : sg (c.toNat - 48) = c := by
  simp only [dig, Bool.and_eq_true, decide_eq_true_eq] at h
  rw [sg, show 48 + (c.toNat - 48) = c.toNat by omega]
  simp

theorem dec_val (n : Nat) : ∀ l : List UInt8, l.length = n → isNum l = true → dec (val l) = l := by
  induction n with
  | zero =>
    intro l hl h
    have : l = [] := List.eq_nil_of_length_eq_zero hl
    subst this
    simp [isNum] at h
  | succ n ih =>
    intro l hl h
    rcases l.eq_nil_or_concat with rfl | ⟨l', c, rfl⟩
    · simp at hl
    rw [List.concat_eq_append] at *
    simp only [isNum, Bool.and_eq_true] at h
    obtain ⟨hall, hh⟩ := h
    simp only [List.all_append, Bool.and_eq_true, List.all_cons, List.all_nil, Bool.and_true] at hall
    obtain ⟨ha', hc⟩ := hall
    have hcn : c.toNat - 48 < 10 := by simp only [dig, Bool.and_eq_true, decide_eq_true_eq] at hc; omega
    cases l' with
    | nil =>
      rw [val_snoc]
      have : val [] = 0 := rfl
      rw [this, dec_small (by omega), Nat.mul_zero, Nat.zero_add, ofNat_dig hc]
      rfl
    | cons a t =>
      have hne : a ≠ 48 := by
        rintro rfl
        simp at hh
      have hnum : isNum (a :: t) = true := by
        simp only [isNum, ha', Bool.true_and]
        simp [hne]
      have hv := ih (a :: t) (by simpa using hl) hnum
      have hp := val_pos (a :: t) ha' a t rfl hne
      rw [val_snoc, dec_big (by omega), show (10 * val (a :: t) + (c.toNat - 48)) / 10 = val (a :: t) by omega, hv, show (10 * val (a :: t) + (c.toNat - 48)) % 10 = c.toNat - 48 by omega, ofNat_dig hc]

theorem val_le (l : List UInt8) : ∀ m : List UInt8, val l ≤ val (l ++ m) := by
  intro m
  simp only [val, List.foldl_append]
  have key : ∀ (t : List UInt8) (n : Nat), n ≤ t.foldl (fun n c => 10 * n + (c.toNat - 48)) n := by
    intro t
    induction t with
    | nil => intro n; exact Nat.le_refl _
    | cons c t ih => intro n; exact Nat.le_trans (by show n ≤ 10 * n + (c.toNat - 48); omega) (ih _)
  exact key m _

theorem val_take (l : List UInt8) (k : Nat) : val (l.take k) ≤ val l := by
  have := val_le (l.take k) (l.drop k)
  rwa [List.take_append_drop] at this
end Go.Proofs.Ythembojamiagoaa.numB
