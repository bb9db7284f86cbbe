/- Addresses: bits of bytes; the small calls. -/
import Derived.Test.YtokbaknckagfmaaNumA
import Derived.Test.YtokbaknckagfmaaKit
import Derived.Test.YtokbaknckagfmaaProg
namespace Go.Proofs.Ytokbaknckagfmaa.adA
open Go.RowKit kit numA numB numD
set_option linter.unusedVariables false
set_option linter.unusedSimpArgs false

abbrev Txt := List UInt8
/-- Bit j of a byte, the highest first. -/
def bitN (x j : Nat) : Nat := x / 2 ^ (7 - j) % 2
def bitA (l : Txt) (i : Nat) : Nat := bitN (l.getD (i / 8) 0).toNat (i % 8)
/-- The first k bits of a byte, the others zero. -/
def top (x k : Nat) : Nat := x / 2 ^ (8 - k) * 2 ^ (8 - k)
theorem half (x k : Nat) (hk : k < 8) : x / 2 ^ (7 - k) = 2 * (x / 2 ^ (8 - k)) + bitN x k := by
  unfold bitN
  have e : 2 ^ (8 - k) = 2 ^ (7 - k) * 2 := by rw [← Nat.pow_succ]; congr 1; omega
  rw [e, ← Nat.div_div_eq_div_mul]
  omega
theorem div_bits (x y : Nat) (hx : x < 256) (hy : y < 256) : ∀ k, k ≤ 8 → (x / 2 ^ (8 - k) = y / 2 ^ (8 - k) ↔ ∀ j, j < k → bitN x j = bitN y j)
  | 0, _ => by
    rw [show 8 - 0 = 8 from rfl, show (2 : Nat) ^ 8 = 256 from rfl, Nat.div_eq_of_lt hx, Nat.div_eq_of_lt hy]
    simp
  | k + 1, h => by
    have ih := div_bits x y hx hy k (by omega)
    rw [show 8 - (k + 1) = 7 - k from by omega, half x k (by omega), half y k (by omega)]
    have hb : bitN x k < 2 := Nat.mod_lt _ (by decide)
    have hb2 : bitN y k < 2 := Nat.mod_lt _ (by decide)
    constructor
    · intro e j hj
      by_cases hjk : j = k
      · subst hjk; omega
      · exact ih.1 (by omega) j (by omega)
    · intro h2
      have := ih.2 (fun j hj => h2 j (by omega))
      have := h2 k (by omega)
      omega
theorem xor_top (x y k : Nat) : (x ^^^ y) >>> k = 0 ↔ x / 2 ^ k = y / 2 ^ k := by
  rw [Nat.shiftRight_xor_distrib, Nat.shiftRight_eq_div_pow, Nat.shiftRight_eq_div_pow]
  constructor
  · intro h
    apply Nat.eq_of_testBit_eq
    intro i
    have := congrArg (fun z => Nat.testBit z i) h
    simp only [Nat.testBit_xor, Nat.zero_testBit] at this
    revert this
    cases (x / 2 ^ k).testBit i <;> cases (y / 2 ^ k).testBit i <;> simp
  · intro h
    rw [h, Nat.xor_self]
/-- Whether two rows of bytes have the same first n bits, as the program asks. -/
def alk : Txt → Txt → Nat → Bool
  | x :: l, y :: m, n => if n < 8 then (x.toNat ^^^ y.toNat) >>> (8 - n) == 0 else if x = y then alk l m (n - 8) else false
  | _, _, _ => true
theorem bitA_low (x : UInt8) (l : Txt) (i : Nat) (h : i < 8) : bitA (x :: l) i = bitN x.toNat i := by
  unfold bitA
  rw [Nat.div_eq_of_lt h, Nat.mod_eq_of_lt h]
  rfl
theorem bitA_high (x : UInt8) (l : Txt) (i : Nat) : bitA (x :: l) (i + 8) = bitA l i := by
  unfold bitA
  rw [Nat.add_div_right _ (by decide), Nat.add_mod_right]
  rfl
theorem alk_iff : ∀ (l m : Txt) (n : Nat), l.length = m.length → n ≤ 8 * l.length → (alk l m n = true ↔ ∀ i, i < n → bitA m i = bitA l i)
  | [], m, n, _, hn => by
    have : n = 0 := by simpa using hn
    subst this
    cases m <;> simp [alk]
  | x :: l, [], n, h, _ => by simp at h
  | x :: l, y :: m, n, h, hn => by
    have hx := UInt8.toNat_lt x
    have hy := UInt8.toNat_lt y
    rw [alk]
    by_cases h8 : n < 8
    · rw [if_pos h8, beq_iff_eq, xor_top, div_bits _ _ hx hy n (by omega)]
      constructor
      · intro h2 i hi
        rw [bitA_low _ _ _ (by omega), bitA_low _ _ _ (by omega)]
        exact (h2 i hi).symm
      · intro h2 i hi
        have := h2 i hi
        rw [bitA_low _ _ _ (by omega), bitA_low _ _ _ (by omega)] at this
        exact this.symm
    · rw [if_neg h8]
      have d := div_bits _ _ hx hy 8 (by omega)
      rw [show 8 - 8 = 0 from rfl, Nat.pow_zero, Nat.div_one, Nat.div_one] at d
      by_cases hxy : x = y
      · rw [if_pos hxy, alk_iff l m (n - 8) (by simpa using h) (by simp at hn; omega)]
        subst hxy
        constructor
        · intro h2 i hi
          by_cases hi8 : i < 8
          · rw [bitA_low _ _ _ hi8, bitA_low _ _ _ hi8]
          · have := h2 (i - 8) (by omega)
            rw [← bitA_high x m, ← bitA_high x l, show i - 8 + 8 = i from by omega] at this
            exact this
        · intro h2 i hi
          have := h2 (i + 8) (by omega)
          rw [bitA_high, bitA_high] at this
          exact this
      · rw [if_neg hxy]
        simp only [Bool.false_eq_true, false_iff]
        intro h2
        apply hxy
        apply UInt8.toNat_inj.1
        refine d.2 fun j hj => ?_
        have := h2 j (by omega)
        rw [bitA_low _ _ _ hj, bitA_low _ _ _ hj] at this
        exact this.symm
/-- The plain row of bytes: the first n bits, zeros behind them. -/
def msk : Txt → Nat → Txt
  | [], _ => []
  | x :: l, n => UInt8.ofNat (top x.toNat (min n 8)) :: msk l (n - 8)
theorem top_le (x k : Nat) : top x k ≤ x := Nat.div_mul_le_self _ _
theorem top_step (x k : Nat) (hk : k < 8) : top x (k + 1) = top x k + bitN x k * 2 ^ (7 - k) := by
  unfold top
  rw [show 8 - (k + 1) = 7 - k from by omega, half x k hk, Nat.add_mul]
  congr 1
  have e : 2 ^ (8 - k) = 2 ^ (7 - k) * 2 := by rw [← Nat.pow_succ]; congr 1; omega
  rw [e, Nat.mul_comm 2, Nat.mul_assoc, Nat.mul_comm 2]
theorem and_top : ∀ k, k < 9 → ∀ x, x < 256 → x &&& (65280 / 2 ^ k % 256) = top x k := by decide +kernel
def U8 (l : List UInt8) : List Value := l.map fun c => .int .u8 (c.toNat : Int)
theorem U8_len (l : Txt) : (U8 l).length = l.length := by simp [U8]
theorem u8_get (l : Txt) (i : Nat) (h : i < l.length) : (U8 l).getD i undef = .int .u8 ((l.getD i 0).toNat : Int) := by
  simp [U8, h]
theorem sl_u8 {w : World} {S : Nat → Prop} {a : Option Addr} {n cap j : Nat} {l : Txt} (h : Sl w S (.slice a n cap) (U8 l)) (hj : j < l.length) : ∃ g o, a = some ⟨g, o, none⟩ ∧ w.cell? ⟨g, o + j, none⟩ = some (.int .u8 ((l.getD j 0).toNat : Int)) := by
  obtain ⟨-, a', cap', hv, hx⟩ := h
  injection hv with q1 q2 q3
  subst q1
  rcases hx with hx | ⟨g, o, rfl, -, -, hc⟩
  · have : l = [] := by simpa [U8] using hx
    subst this
    simp at hj
  · exact ⟨g, o, rfl, by rw [hc j (by rw [U8_len]; exact hj), u8_get _ _ hj]⟩
theorem conv_lst {w : World} {S : Nat → Prop} {v : Value} {xs : List UInt8} (h : Sl w S v (U8 xs)) : (convert 22 9 v).run Try.prog w = .ok (.string ⟨xs.toArray⟩) w := by
  have hl : (U8 xs).length = xs.length := by simp [U8]
  obtain ⟨hm, a, cap, rfl, hx | ⟨g, o, rfl, hS, hg, hc⟩⟩ := h
  · have : xs = [] := by rw [hx] at hl; exact List.eq_nil_of_length_eq_zero (by simpa using hl.symm)
    subst this
    cases a with
    | none => exact run_convert_bytes_nil (P := Try.prog) w 22 5 Try.underlying22 Try.underlying5 0 cap 9 Try.underlying9
    | some x => exact run_convert_bytes_back (P := Try.prog) w 22 9 5 x cap [] Try.underlying22 Try.underlying5 Try.underlying9 (fun j hj => by simp at hj)
  · rw [hl] at hc ⊢
    exact run_convert_bytes_back (P := Try.prog) w 22 9 5 ⟨g, o, none⟩ cap xs Try.underlying22 Try.underlying5 Try.underlying9 (fun j hj => by
      rw [Addr.add_lit, hc j hj, u8_get _ _ hj]
      simp [hj])
def rP (n : Nat) (b : Int) : Bool := (n == 4 || n == 16) && (decide (0 ≤ b) && decide (b ≤ 8 * n))
set_option maxRecDepth 100000 in
theorem isaddr_any (a : Option Addr) (n c : Nat) (w : World) : Calls Try.prog 16 #[.slice a n c] w (fun e w' => e = .returned (.bool (n == 4 || n == 16)) ∧ w = w') := by
  by_cases h4 : n = 4
  · subst h4
    go_enter Try.func16, Try.ntmps16
    go_wp2_with fail
    go_ret
    exact ⟨rfl, rfl⟩
  by_cases h16 : n = 16
  · subst h16
    clear h4
    go_enter Try.func16, Try.ntmps16
    go_wp2_with fail
    go_ret
    exact ⟨rfl, rfl⟩
  have k4 : ((n : Int) == 4) = false := by rw [beq_eq_false_iff_ne]; omega
  have k16 : ((n : Int) == 16) = false := by rw [beq_eq_false_iff_ne]; omega
  have E := Lib.hid (show (n == 4 || n == 16) = false from by rw [beq_eq_false_iff_ne.2 h4, beq_eq_false_iff_ne.2 h16]; rfl)
  clear h4 h16
  go_enter Try.func16, Try.ntmps16
  go_wp2_with fail
  go_ret
  exact ⟨by rw [E.out]; rfl, rfl⟩

set_option maxRecDepth 100000 in
theorem right_any (a : Option Addr) (n c : Nat) (b : Int) (w : World) : Calls Try.prog 7 #[.agg #[.slice a n c, .int .i64 b]] w (numA.Told w (.bool (rP n b))) := by
  have O := Lib.hid (show Only (fun _ => False) w (w.alloc (.cells #[.slice a n c, .int .i64 b] 24)) from (Only.refl _ w).alloc _)
  have CI := Lib.hid (fun W => isaddr_any a n c W)
  have HR := Lib.hid (show rP n b = ((n == 4 || n == 16) && (decide (0 ≤ b) && decide (b ≤ 8 * n))) from rfl)
  have HQ := Lib.hid (show (n == 4 || n == 16) = true → n ≤ 16 from by simp; omega)
  obtain ⟨q, hq⟩ : ∃ q, q = (n == 4 || n == 16) := ⟨_, rfl⟩
  rw [← hq] at HR CI HQ
  clear hq
  obtain ⟨r, hr⟩ : ∃ r, r = rP n b := ⟨_, rfl⟩
  rw [← hr] at HR ⊢
  clear hr
  go_enter Try.func7, Try.ntmps7
  go_wp2_with fail
  (with_reducible refine (CI.out _).mono ?_)
  rintro e w2 ⟨rfl, rfl⟩
  cases q
  · go_wp2_with fail
    go_ret
    exact ⟨by rw [HR.out]; rfl, O.out⟩
  · by_cases h0 : 0 ≤ b
    · have wn : wrap64 (8 * (n : Int)) = 8 * (n : Int) := IntWalk.wrap64_in _ (by have := HQ.out rfl; omega)
      have H0 := Lib.hid h0
      have k0 : ((0 : Int) ≤ b) = True := eq_true h0
      clear h0
      go_wp2_with fail
      go_ret
      exact ⟨by rw [HR.out, decide_eq_true (show (0 : Int) ≤ b from by have := H0.out; omega)]; rfl, O.out⟩
    · have H0 := Lib.hid h0
      have k0 : ((0 : Int) ≤ b) = False := eq_false h0
      clear h0
      go_wp2_with fail
      go_ret
      exact ⟨by rw [HR.out, decide_eq_false (show ¬ (0 : Int) ≤ b from by have := H0.out; omega)]; rfl, O.out⟩

set_option maxRecDepth 100000 in
theorem refright_any (a : Option Addr) (n c : Nat) (b : Int) (w : World) : Calls Try.prog 8 #[.agg #[.slice a n c, .int .i64 b]] w (numA.Told w (.bool (rP n b))) := by
  have O := Lib.hid (show Only (fun _ => False) w (w.alloc (.cells #[.slice a n c, .int .i64 b] 24)) from (Only.refl _ w).alloc _)
  have HR := Lib.hid (show rP n b = ((n == 4 || n == 16) && (decide (0 ≤ b) && decide (b ≤ 8 * n))) from rfl)
  obtain ⟨r, hr⟩ : ∃ r, r = rP n b := ⟨_, rfl⟩
  rw [← hr] at HR ⊢
  clear hr
  by_cases h4 : n = 4
  · subst h4
    by_cases h0 : 0 ≤ b
    · have H0 := Lib.hid h0
      have k0 : ((0 : Int) ≤ b) = True := eq_true h0
      clear h0
      go_enter Try.func8, Try.ntmps8
      go_wp2_with fail
      go_ret
      exact ⟨by rw [HR.out, decide_eq_true (show (0 : Int) ≤ b from by have := H0.out; omega)]; rfl, O.out⟩
    · have H0 := Lib.hid h0
      have k0 : ((0 : Int) ≤ b) = False := eq_false h0
      clear h0
      go_enter Try.func8, Try.ntmps8
      go_wp2_with fail
      go_ret
      exact ⟨by rw [HR.out, decide_eq_false (show ¬ (0 : Int) ≤ b from by have := H0.out; omega)]; rfl, O.out⟩
  by_cases h16 : n = 16
  · subst h16
    by_cases h0 : 0 ≤ b
    · have H0 := Lib.hid h0
      have k0 : ((0 : Int) ≤ b) = True := eq_true h0
      clear h0 h4
      go_enter Try.func8, Try.ntmps8
      go_wp2_with fail
      go_ret
      exact ⟨by rw [HR.out, decide_eq_true (show (0 : Int) ≤ b from by have := H0.out; omega)]; rfl, O.out⟩
    · have H0 := Lib.hid h0
      have k0 : ((0 : Int) ≤ b) = False := eq_false h0
      clear h0 h4
      go_enter Try.func8, Try.ntmps8
      go_wp2_with fail
      go_ret
      exact ⟨by rw [HR.out, decide_eq_false (show ¬ (0 : Int) ≤ b from by have := H0.out; omega)]; rfl, O.out⟩
  have k4 : ((n : Int) == 4) = false := by rw [beq_eq_false_iff_ne]; omega
  have k16 : ((n : Int) == 16) = false := by rw [beq_eq_false_iff_ne]; omega
  have E := Lib.hid (show (n == 4 || n == 16) = false from by rw [beq_eq_false_iff_ne.2 h4, beq_eq_false_iff_ne.2 h16]; rfl)
  clear h4 h16
  go_enter Try.func8, Try.ntmps8
  go_wp2_with fail
  go_ret
  exact ⟨by rw [HR.out, E.out]; rfl, O.out⟩

set_option maxRecDepth 100000 in
theorem bit_any (S : Nat → Prop) (a : Option Addr) (n c i : Nat) (l : Txt) (w : World) (hs : Sl w S (.slice a n c) (U8 l)) (hl : n = l.length) (hi : i < 8 * n) (hn : n ≤ 100000) : Calls Try.prog 18 #[.slice a n c, .int .i64 (i : Nat)] w (fun e w' => e = .returned (.int .u8 ((bitA l i : Nat) : Int)) ∧ w = w') := by
  obtain ⟨g, o, rfl, x0⟩ := sl_u8 hs (j := i / 8) (by omega)
  obtain ⟨x, hx⟩ : ∃ x, x = (l.getD (i / 8) 0).toNat := ⟨_, rfl⟩
  have HB := Lib.hid (show bitA l i = x / 2 ^ (7 - i % 8) % 2 from by rw [hx]; rfl)
  have hx8 : x < 256 := by rw [hx]; exact UInt8.toNat_lt _
  rw [← hx] at x0
  have k1 : (i : Int) / 8 = ((i / 8 : Nat) : Int) := by omega
  have k2 : (i : Int) % 8 = ((i % 8 : Nat) : Int) := by omega
  have k3 : wrap64 (7 - ((i % 8 : Nat) : Int)) = 7 - ((i % 8 : Nat) : Int) := IntWalk.wrap64_in _ (by omega)
  obtain ⟨m, hm⟩ : ∃ m, m = i % 8 := ⟨_, rfl⟩
  obtain ⟨d, hd⟩ : ∃ d, d = i / 8 := ⟨_, rfl⟩
  have hdn : (d : Int) < n := by omega
  have hm8 : m < 8 := by omega
  rw [← hm] at HB k2 k3
  rw [← hd] at k1 x0
  obtain ⟨s, hs7⟩ : ∃ s : Nat, s = 7 - m := ⟨_, rfl⟩
  have k4 : (7 : Int) - (m : Int) = (s : Int) := by omega
  rw [k4] at k3
  have HS := Lib.hid hs7
  have k5 : wrap64 (d : Int) = (d : Int) := IntWalk.wrap64_in _ (by omega)
  have k6 : wrap64 (m : Int) = (m : Int) := IntWalk.wrap64_in _ (by omega)
  clear hs hl hn hx hm hd hs7
  go_enter Try.func18, Try.ntmps18
  go_wp2_with fail
  go_ret
  refine ⟨?_, rfl⟩
  rw [HB.out, ← HS.out]
  have e : ((x : Int) / 2 ^ s).tmod 2 = ((x / 2 ^ s % 2 : Nat) : Int) := by
    rw [show ((x : Int) / 2 ^ s) = ((x / 2 ^ s : Nat) : Int) from by simp]
    rfl
  rw [← e]
  rfl


end Go.Proofs.Ytokbaknckagfmaa.adA
