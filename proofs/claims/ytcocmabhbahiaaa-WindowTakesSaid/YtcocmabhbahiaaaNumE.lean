/- Plain facts on hexadecimal digits, and the contracts of both functions that tell a digit's value. -/
import Derived.Test.YtcocmabhbahiaaaNumD
namespace Go.Proofs.Ytcocmabhbahiaaa.numE
open Go.RowKit Go.Proofs.Ytcocmabhbahiaaa.kit Go.Proofs.Ytcocmabhbahiaaa.numA
set_option linter.unusedVariables false

/-- The sign of a number below 16. -/
def hs (n : Nat) : UInt8 := UInt8.ofNat (if n < 10 then 48 + n else 87 + n)
def isHex (c : UInt8) : Bool := (decide (48 ≤ c.toNat) && decide (c.toNat ≤ 57)) || (decide (97 ≤ c.toNat) && decide (c.toNat ≤ 102))
def hvn (c : UInt8) : Nat := if c.toNat ≤ 57 then c.toNat - 48 else c.toNat - 87
def byte (a b : UInt8) : UInt8 := UInt8.ofNat (16 * hvn a + hvn b)

def hexs (l : List UInt8) : List UInt8 := l.flatMap fun b => [hs (b.toNat / 16), hs (b.toNat % 16)]
def unhex : List UInt8 → List UInt8
  | a :: b :: t => byte a b :: unhex t
  | _ => []

theorem hs_nat {n : Nat} (h : n < 16) : (hs n).toNat = if n < 10 then 48 + n else 87 + n := by
  rw [hs, UInt8.toNat_ofNat']
  split <;> omega

theorem hs_hex {n : Nat} (h : n < 16) : isHex (hs n) = true := by
  have := hs_nat h
  simp only [isHex, this, Bool.or_eq_true, Bool.and_eq_true, decide_eq_true_eq]
  split <;> omega

theorem hvn_hs {n : Nat} (h : n < 16) : hvn (hs n) = n := by
  have := hs_nat h
  by_cases c : n < 10
  · rw [if_pos c] at this
    rw [hvn, if_pos (by omega)]
    omega
  · rw [if_neg c] at this
    rw [hvn, if_neg (by omega)]
    omega

theorem hvn_lt {c : UInt8} (h : isHex c = true) : hvn c < 16 := by
  simp only [isHex, Bool.or_eq_true, Bool.and_eq_true, decide_eq_true_eq] at h
  simp only [hvn]
  split <;> omega

theorem hs_hvn {c : UInt8} (h : isHex c = true) : hs (hvn c) = c := by
  apply UInt8.toNat_inj.1
  rw [hs_nat (hvn_lt h)]
  simp only [isHex, Bool.or_eq_true, Bool.and_eq_true, decide_eq_true_eq] at h
  simp only [hvn]
  split <;> split at * <;> omega

theorem byte_nat {a b : UInt8} (ha : isHex a = true) (hb : isHex b = true) : (byte a b).toNat = 16 * hvn a + hvn b := by
  have := hvn_lt ha
  have := hvn_lt hb
  rw [byte, UInt8.toNat_ofNat']
  omega

theorem byte_hs (b : UInt8) : byte (hs (b.toNat / 16)) (hs (b.toNat % 16)) = b := by
  have hb := b.toNat_lt
  apply UInt8.toNat_inj.1
  rw [byte_nat (hs_hex (by omega)) (hs_hex (by omega)), hvn_hs (by omega), hvn_hs (by omega)]
  omega

theorem unhex_hexs (l : List UInt8) : unhex (hexs l) = l := by
  induction l with
  | nil => rfl
  | cons b t ih =>
    show byte (hs (b.toNat / 16)) (hs (b.toNat % 16)) :: unhex (hexs t) = b :: t
    rw [byte_hs, ih]

theorem hexs_all (l : List UInt8) : (hexs l).all isHex = true := by
  induction l with
  | nil => rfl
  | cons b t ih =>
    have hb := b.toNat_lt
    show (hs (b.toNat / 16) :: hs (b.toNat % 16) :: hexs t).all isHex = true
    simp [hs_hex (by omega : b.toNat / 16 < 16), hs_hex (by omega : b.toNat % 16 < 16), ih]

theorem hexs_len (l : List UInt8) : (hexs l).length = 2 * l.length := by
  induction l with
  | nil => rfl
  | cons b t ih =>
    show (hexs t).length + 1 + 1 = 2 * (t.length + 1)
    omega

theorem hexs_snoc (l : List UInt8) (b : UInt8) : hexs (l ++ [b]) = hexs l ++ [hs (b.toNat / 16), hs (b.toNat % 16)] := by simp [hexs]

theorem hexs_unhex (n : Nat) : ∀ l : List UInt8, l.length ≤ n → l.all isHex = true → l.length % 2 = 0 → hexs (unhex l) = l := by
  induction n with
  | zero =>
    intro l hl _ _
    have : l = [] := List.eq_nil_of_length_eq_zero (by omega)
    subst this
    rfl
  | succ n ih =>
    intro l hl ha he
    match l, hl, ha, he with
    | [], _, _, _ => rfl
    | [a], _, _, he => simp at he
    | a :: b :: t, hl, ha, he =>
      simp only [List.all_cons, Bool.and_eq_true] at ha
      obtain ⟨ha, hb, ht⟩ := ha
      have := ih t (by simp at hl; omega) ht (by simp at he; omega)
      have l1 := hvn_lt ha
      have l2 := hvn_lt hb
      show hs ((byte a b).toNat / 16) :: hs ((byte a b).toNat % 16) :: hexs (unhex t) = _
      rw [byte_nat ha hb, this, show (16 * hvn a + hvn b) / 16 = hvn a by omega, show (16 * hvn a + hvn b) % 16 = hvn b by omega, hs_hvn ha, hs_hvn hb]

theorem unhex_len (n : Nat) : ∀ l : List UInt8, l.length ≤ n → (unhex l).length = l.length / 2 := by
  induction n with
  | zero =>
    intro l hl
    have : l = [] := List.eq_nil_of_length_eq_zero (by omega)
    subst this
    rfl
  | succ n ih =>
    intro l hl
    match l, hl with
    | [], _ => rfl
    | [a], _ => simp [unhex]
    | a :: b :: t, hl =>
      have := ih t (by simp at hl; omega)
      simp only [unhex, List.length_cons, this]
      omega

theorem unhex_snoc (n : Nat) : ∀ l : List UInt8, l.length ≤ n → l.length % 2 = 0 → ∀ a b, unhex (l ++ [a, b]) = unhex l ++ [byte a b] := by
  induction n with
  | zero =>
    intro l hl _ a b
    have : l = [] := List.eq_nil_of_length_eq_zero (by omega)
    subst this
    rfl
  | succ n ih =>
    intro l hl he a b
    match l, hl, he with
    | [], _, _ => rfl
    | [c], _, he => simp at he
    | c :: d :: t, hl, he =>
      have := ih t (by simp at hl; omega) (by simp at he; omega) a b
      show byte c d :: unhex (t ++ [a, b]) = _
      rw [this]
      rfl

theorem unhex_odd (n : Nat) : ∀ l : List UInt8, l.length ≤ n → l.length % 2 = 0 → ∀ a, unhex (l ++ [a]) = unhex l := by
  induction n with
  | zero =>
    intro l hl _ a
    have : l = [] := List.eq_nil_of_length_eq_zero (by omega)
    subst this
    rfl
  | succ n ih =>
    intro l hl he a
    match l, hl, he with
    | [], _, _ => rfl
    | [c], _, he => simp at he
    | c :: d :: t, hl, he =>
      have := ih t (by simp at hl; omega) (by simp at he; omega) a
      show byte c d :: unhex (t ++ [a]) = _
      rw [this]
      rfl

theorem value_yes (c : UInt8) (w : World) (h : isHex c = true) : Calls Try.prog 69 #[.int .i32 (c.toNat : Int)] w fun e w' => e = .returned (.tuple #[.int .u8 (hvn c : Nat), .bool true]) ∧ w = w' := by
  simp only [isHex, Bool.or_eq_true, Bool.and_eq_true, decide_eq_true_eq] at h
  by_cases q : c.toNat ≤ 57
  · have e1 : ((hvn c : Nat) : Int) = (c.toNat : Int) - 48 := by simp only [hvn, if_pos q]; omega
    rw [e1]
    generalize c.toNat = n at *
    have h1 : (48 : Int) ≤ (n : Int) := by omega
    have h2 : (n : Int) ≤ 57 := by omega
    clear h q e1
    go_enter Try.func69, Try.ntmps69
    go_wp2
    go_ret2
    exact ⟨rfl, rfl⟩
  · have e1 : ((hvn c : Nat) : Int) = (c.toNat : Int) - 97 + 10 := by simp only [hvn, if_neg q]; omega
    rw [e1]
    generalize c.toNat = n at *
    have h1 : (97 : Int) ≤ (n : Int) := by omega
    have h2 : (n : Int) ≤ 102 := by omega
    clear h q e1
    go_enter Try.func69, Try.ntmps69
    go_wp2
    go_ret2
    exact ⟨rfl, rfl⟩

theorem value_no (r : Int) (w : World) (h0 : 0 ≤ r) (h : r < 48 ∨ (57 < r ∧ r < 97) ∨ 102 < r) : Calls Try.prog 69 #[.int .i32 r] w fun e w' => e = .returned (.tuple #[.int .u8 0, .bool false]) ∧ w = w' := by
  rcases h with h | ⟨h, h'⟩ | h
  · go_enter Try.func69, Try.ntmps69
    go_wp2
    go_ret2
    exact ⟨rfl, rfl⟩
  · have q : ¬ r ≤ 57 := by omega
    have q' : ¬ 97 ≤ r := by omega
    have q2 : 48 ≤ r := by omega
    go_enter Try.func69, Try.ntmps69
    go_wp2
    go_ret2
    exact ⟨rfl, rfl⟩
  · have q : ¬ r ≤ 57 := by omega
    have q' : ¬ r ≤ 102 := by omega
    have q2 : 48 ≤ r := by omega
    have q3 : 97 ≤ r := by omega
    go_enter Try.func69, Try.ntmps69
    go_wp2
    go_ret2
    exact ⟨rfl, rfl⟩

/-- What the document's function answers: 16 of no digit. -/
def hv16 (c : UInt8) : Int := if isHex c then (hvn c : Nat) else 16

theorem dg_hit (n : Nat) (c : UInt8) (hn : n < 16) : ((dg n == (c.toNat : Int)) = true ↔ c = hs n) := by
  have := hs_nat hn
  simp only [dg, beq_iff_eq]
  constructor
  · intro h
    apply UInt8.toNat_inj.1
    rw [this]
    split at h <;> split <;> omega
  · rintro rfl
    rw [this]
    split <;> split <;> omega

theorem value_ref (c : UInt8) (w : World) : Calls Try.prog 70 #[.int .u8 (c.toNat : Int)] w fun e w' => e = .returned (.int .u8 (hv16 c)) ∧ w = w' := by
  have hc := c.toNat_lt
  have hc' : (c.toNat : Int) < 256 := by omega
  go_enter Try.func70, Try.ntmps70
  go_wp2_with fail
  go_loop [3] (fun n => ∃ k : Nat, k ≤ 16 ∧ n = .int .u8 k ∧ Hid (∀ j, j < k → c ≠ hs j)) (fun n => 16 - (intOf n).toNat)
  case atStart => exact ⟨0, by omega, rfl, fun j hj => by omega⟩
  case round =>
    obtain ⟨k, hk, rfl, HN⟩ := hrel
    by_cases hlt : k < 16
    · have k1 : (k : Int) < 16 := by omega
      have k0 : (0 : Int) ≤ (k : Int) := by omega
      have D := digit_ref k w k0 k1
      by_cases hit : (dg k == (c.toNat : Int)) = true
      · have HF : Hid (hv16 c = (k : Int)) := by
          have e := (dg_hit k c hlt).1 hit
          exact (by rw [hv16, e, hs_hex hlt, if_pos rfl, hvn_hs hlt] : hv16 c = _)
        clear HN
        go_wp2_with fail
        refine D.mono ?_
        rintro e w' ⟨rfl, rfl⟩
        go_wp2_with fail
        go_ret
        exact ⟨by rw [HF.out]; rfl, rfl⟩
      · have hit' : (dg k == (c.toNat : Int)) = false := by simpa using hit
        have HN' : Hid (∀ j, j < k + 1 → c ≠ hs j) := by
          intro j hj
          by_cases q : j = k
          · subst q
            exact fun e => hit ((dg_hit j c hlt).2 e)
          · exact HN.out j (by omega)
        clear hit
        go_wp2_with fail
        refine D.mono ?_
        rintro e w' ⟨rfl, rfl⟩
        go_wp2_with fail
        go_round
        case rel => exact ⟨k + 1, by omega, by go_num, HN'⟩
        case measure => simp [intOf]; omega
    · obtain rfl : k = 16 := by omega
      have HF : Hid (hv16 c = 16) := by
        have q : isHex c = false := by
          cases e : isHex c with
          | false => rfl
          | true => exact absurd (hs_hvn e).symm (HN.out _ (hvn_lt e))
        exact (by simp [hv16, q] : hv16 c = 16)
      go_wp2_with fail
      go_ret
      exact ⟨by rw [HF.out]; rfl, rfl⟩
end Go.Proofs.Ytcocmabhbahiaaa.numE
