/- Whole numbers of less than 53 bits as floats of 64 bits: what is added, taken away, multiplied and compared there is what the whole numbers are. No condition beside those that each theorem names. -/
import Derived.Laws.ComplexArith
namespace Go.Proofs.Ytklcanjlkmkmmaa.floA
open Ieee
set_option linter.unusedVariables false

/-- The bits b stand for the whole number n (a zero of either sign stands for 0). -/
def Fl (b : Nat) (n : Int) : Prop := ∃ s m d, double.read b = .number s m (-(d : Nat) : Int) ∧ signed s m 0 = n * (2 ^ d : Nat)

theorem signed_shift (s : Bool) (m u : Nat) : signed s m u = signed s m 0 * (2 ^ u : Nat) := by
  unfold signed
  cases s <;> simp [Nat.shiftLeft_eq, Int.natCast_pow, Int.neg_mul]

theorem signed_abs (s : Bool) (m : Nat) : (signed s m 0).natAbs = m := by
  unfold signed
  cases s <;> simp

theorem cut_zero (way : Toward) (neg : Bool) (n : Nat) : way.cut neg n 0 = n := by
  unfold Toward.cut
  cases way <;> simp [Nat.mod_one]

theorem two_pos (d : Nat) : 0 < 2 ^ d := Nat.two_pow_pos d

theorem cut_even (neg : Bool) (q drop : Nat) : Toward.even.cut neg (q * 2 ^ drop) drop = q := by
  unfold Toward.cut
  by_cases hq : q = 0
  · subst hq
    simp
  · have hlt : drop ≤ (q * 2 ^ drop).log2 + 2 := by
      have h0 : q * 2 ^ drop ≠ 0 := Nat.mul_ne_zero hq (Nat.pos_iff_ne_zero.1 (two_pos drop))
      have := (Nat.le_log2 h0 (k := drop)).2 (Nat.le_mul_of_pos_left _ (Nat.pos_of_ne_zero hq))
      omega
    rw [Nat.min_eq_left hlt, Nat.one_shiftLeft]
    have p := two_pos drop
    simp only [Nat.mul_div_cancel _ p, Nat.mul_mod_left]
    simp

theorem cut_low (neg : Bool) (q drop : Nat) : Toward.zero.cut neg (q * 2 ^ drop) drop = q := by
  unfold Toward.cut
  by_cases hq : q = 0
  · subst hq
    simp
  · have hlt : drop ≤ (q * 2 ^ drop).log2 + 2 := by
      have h0 : q * 2 ^ drop ≠ 0 := Nat.mul_ne_zero hq (Nat.pos_iff_ne_zero.1 (two_pos drop))
      have := (Nat.le_log2 h0 (k := drop)).2 (Nat.le_mul_of_pos_left _ (Nat.pos_of_ne_zero hq))
      omega
    rw [Nat.min_eq_left hlt, Nat.one_shiftLeft]
    have p := two_pos drop
    simp [Nat.mul_div_cancel _ p]

/-- The word of a whole number. -/
theorem read_word (neg : Bool) (L K : Nat) (hL : L ≤ 52) (h0 : 2 ^ 52 ≤ K) (h1 : K < 2 ^ 53) :
    double.read (double.word neg ((1022 + L) * 2 ^ 52 + K)) = .number neg K (-((52 - L : Nat) : Int)) := by
  have hs : double.signWeight = 2 ^ 63 := rfl
  have hb : double.binade = 2 ^ 52 := rfl
  have hi : double.infRung = 2047 * 2 ^ 52 := rfl
  have hp : double.leastPlace = -1074 := rfl
  have hr : ((1022 + L) * 2 ^ 52 + K) < 2 ^ 63 := by omega
  have e1 : (double.word neg ((1022 + L) * 2 ^ 52 + K)) / 2 ^ 63 % 2 = neg.toNat := by
    unfold Format.word
    rw [hs]
    cases neg <;> simp <;> omega
  have e2 : (double.word neg ((1022 + L) * 2 ^ 52 + K)) % 2 ^ 63 = (1022 + L) * 2 ^ 52 + K := by
    unfold Format.word
    rw [hs]
    cases neg <;> simp <;> omega
  unfold Format.read
  simp only [hs, hb, hi, hp, e1, e2]
  rw [if_neg (by omega), if_pos (by omega)]
  have e3 : ((1022 + L) * 2 ^ 52 + K) % 2 ^ 52 = K - 2 ^ 52 := by omega
  have e4 : ((1022 + L) * 2 ^ 52 + K) / 2 ^ 52 = 1023 + L := by omega
  rw [e3, e4]
  have e5 : 2 ^ 52 + (K - 2 ^ 52) = K := by omega
  have e6 : (-1074 + ((1023 + L - 1 : Nat) : Int)) = -((52 - L : Nat) : Int) := by omega
  rw [e5, e6]
  cases neg <;> rfl

theorem read_zero (neg : Bool) : double.read (double.word neg 0) = .number neg 0 (-((1074 : Nat) : Int)) := by
  cases neg <;> rfl

/-- A whole number of less than 53 bits is written exactly. -/
theorem nearest_fl (neg : Bool) (N d : Nat) (h : N < 2 ^ 53) : ∃ m e, double.read (double.nearest neg (N * 2 ^ d) (-(d : Int))) = .number neg m (-(e : Nat) : Int) ∧ m = N * 2 ^ e := by
  by_cases h0 : N = 0
  · subst h0
    obtain ⟨e, he⟩ : ∃ e : Nat, e = 1074 := ⟨_, rfl⟩
    refine ⟨0, e, ?_, (Nat.zero_mul _).symm⟩
    rw [Nat.zero_mul]
    unfold Format.nearest
    rw [if_pos rfl]
    rw [he]
    exact read_zero neg
  have hd := two_pos d
  have hne : N * 2 ^ d ≠ 0 := Nat.mul_ne_zero h0 (by omega)
  obtain ⟨L, hL⟩ : ∃ L, L = N.log2 := ⟨_, rfl⟩
  have hlog : (N * 2 ^ d).log2 = L + d := by
    rw [hL]
    apply Nat.le_antisymm
    · have : N * 2 ^ d < 2 ^ (N.log2 + d + 1) := by
        have q := (Nat.log2_lt h0 (k := N.log2 + 1)).1 (by omega)
        calc N * 2 ^ d < 2 ^ (N.log2 + 1) * 2 ^ d := Nat.mul_lt_mul_of_pos_right q hd
          _ = 2 ^ (N.log2 + d + 1) := by rw [← Nat.pow_add]; congr 1; omega
      have := (Nat.log2_lt hne).2 this
      omega
    · refine (Nat.le_log2 hne).2 ?_
      rw [Nat.pow_add]
      exact Nat.mul_le_mul_right _ (Nat.log2_self_le h0)
  have hL52 : L ≤ 52 := by
    have := (Nat.log2_lt h0 (k := 53)).2 h
    omega
  have k0 : 2 ^ 52 ≤ N * 2 ^ (52 - L) := by
    have q := Nat.log2_self_le h0
    calc 2 ^ 52 = 2 ^ L * 2 ^ (52 - L) := by rw [← Nat.pow_add]; congr 1; omega
      _ ≤ N * 2 ^ (52 - L) := Nat.mul_le_mul_right _ (hL ▸ q)
  have k1 : N * 2 ^ (52 - L) < 2 ^ 53 := by
    have q := (Nat.log2_lt h0 (k := L + 1)).1 (by omega)
    calc N * 2 ^ (52 - L) < 2 ^ (L + 1) * 2 ^ (52 - L) := Nat.mul_lt_mul_of_pos_right q (two_pos _)
      _ = 2 ^ 53 := by rw [← Nat.pow_add]; congr 1; omega
  have hp : double.leastPlace = -1074 := rfl
  have hf : (double.fractionBits : Int) = 52 := rfl
  have hlast : max ((-(d : Int)) + ((L + d : Nat) : Int) - 52) (-1074) = (L : Int) - 52 := by omega
  have hkept : Toward.even.cut neg ((N * 2 ^ d) <<< ((-(d : Int)) - ((L : Int) - 52)).toNat) (((L : Int) - 52) - (-(d : Int))).toNat = N * 2 ^ (52 - L) := by
    rcases Nat.le_total d (52 - L) with hc | hc
    · have e1 : ((-(d : Int)) - ((L : Int) - 52)).toNat = 52 - L - d := by omega
      have e2 : (((L : Int) - 52) - (-(d : Int))).toNat = 0 := by omega
      rw [e1, e2, cut_zero, Nat.shiftLeft_eq, Nat.mul_assoc, ← Nat.pow_add]
      congr 2
      omega
    · have e1 : ((-(d : Int)) - ((L : Int) - 52)).toNat = 0 := by omega
      have e2 : (((L : Int) - 52) - (-(d : Int))).toNat = d - (52 - L) := by omega
      have e3 : N * 2 ^ d = N * 2 ^ (52 - L) * 2 ^ (d - (52 - L)) := by
        rw [Nat.mul_assoc, ← Nat.pow_add]
        congr 2
        omega
      rw [e1, e2, Nat.shiftLeft_zero, e3, cut_even]
  refine ⟨N * 2 ^ (52 - L), 52 - L, ?_, rfl⟩
  rw [← read_word neg L _ hL52 k0 k1]
  congr 1
  unfold Format.nearest
  rw [if_neg hne]
  simp only [hlog, hp, hf, hlast, hkept]
  congr 1
  have hi : double.infRung = 2047 * 2 ^ 52 := rfl
  have hb : double.binade = 2 ^ 52 := rfl
  have e4 : ((L : Int) - 52 - -1074).toNat = 1022 + L := by omega
  rw [e4, hi, hb, Nat.min_eq_left (by omega)]

/-- Written: a number whose value is whole. -/
theorem write_fl {s : Bool} {m d : Nat} {n : Int} (h : signed s m 0 = n * (2 ^ d : Nat)) (hn : n.natAbs < 2 ^ 53) : Fl (double.write (.number s m (-(d : Nat) : Int))) n := by
  have hm : m = n.natAbs * 2 ^ d := by
    have := congrArg Int.natAbs h
    rw [signed_abs, Int.natAbs_mul, Int.natAbs_natCast] at this
    exact this
  obtain ⟨m', e, hr, hm'⟩ := nearest_fl s n.natAbs d hn
  refine ⟨s, m', e, ?_, ?_⟩
  · rw [← hr, hm]
    rfl
  · have hd := two_pos d
    subst hm' hm
    unfold signed at h ⊢
    cases s
    · simp only [Bool.false_eq_true, if_false, Nat.shiftLeft_zero, Int.natCast_mul] at h ⊢
      have q := Int.eq_of_mul_eq_mul_right (by omega) h
      rw [q]
    · simp only [if_true, Nat.shiftLeft_zero, Int.natCast_mul] at h ⊢
      rw [← Int.neg_mul] at h ⊢
      have q := Int.eq_of_mul_eq_mul_right (by omega) h
      rw [q]

theorem of_int (n : Int) (hn : n.natAbs < 2 ^ 53) : Fl (FloatKind.f64.nearest n) n := by
  refine write_fl (d := 0) ?_ hn
  unfold signed
  by_cases h : n < 0 <;> simp [h] <;> omega

/-- What is kept where two places meet. -/
theorem meet (d e : Nat) : (min (-(d : Int)) (-(e : Int)) = -((max d e : Nat) : Int)) ∧ ((-(d : Int)) - min (-(d : Int)) (-(e : Int))).toNat = max d e - d ∧ ((-(e : Int)) - min (-(d : Int)) (-(e : Int))).toNat = max d e - e := by
  refine ⟨?_, ?_, ?_⟩ <;> omega

theorem lift {s : Bool} {m d M : Nat} {n : Int} (h : signed s m 0 = n * (2 ^ d : Nat)) (hd : d ≤ M) : signed s m (M - d) = n * (2 ^ M : Nat) := by
  rw [signed_shift, h, Int.mul_assoc, ← Int.natCast_mul, ← Nat.pow_add]
  congr 3
  omega

theorem signed_of (t : Int) (b : Bool) (hb : t ≠ 0 → b = decide (t < 0)) : signed b t.natAbs 0 = t := by
  unfold signed
  by_cases h : t = 0
  · subst h; cases b <;> rfl
  · rw [hb h]
    by_cases h' : t < 0 <;> simp [h'] <;> omega

theorem sum_fl {s t : Bool} {m n d e : Nat} {x y : Int} (h1 : signed s m 0 = x * (2 ^ d : Nat)) (h2 : signed t n 0 = y * (2 ^ e : Nat)) :
    ∃ s' m' d', (Datum.number s m (-(d : Nat) : Int)).sum (.number t n (-(e : Nat) : Int)) = some (.number s' m' (-(d' : Nat) : Int)) ∧ signed s' m' 0 = (x + y) * (2 ^ d' : Nat) := by
  obtain ⟨e1, e2, e3⟩ := meet d e
  unfold Datum.sum
  simp only [e2, e3]
  rw [lift h1 (Nat.le_max_left d e), lift h2 (Nat.le_max_right d e), ← Int.add_mul, e1]
  refine ⟨_, _, _, rfl, signed_of _ _ fun hne => ?_⟩
  rw [if_neg hne]

theorem add_fl {a b : Nat} {x y : Int} (ha : Fl a x) (hb : Fl b y) (h : (x + y).natAbs < 2 ^ 53) : ∃ r, floatBits .add .f64 a b = some r ∧ Fl r (x + y) := by
  obtain ⟨s, m, d, r1, v1⟩ := ha
  obtain ⟨t, n, e, r2, v2⟩ := hb
  obtain ⟨s', m', d', hs, hv⟩ := sum_fl v1 v2
  refine ⟨_, ?_, write_fl hv h⟩
  show ((double.read a).sum (double.read b)).map double.write = _
  rw [r1, r2, hs]
  rfl

theorem opp {t : Bool} {n : Nat} {z : Int} (h : signed t n 0 = z) : signed (!t) n 0 = -z := by
  subst h
  unfold signed
  cases t <;> simp

theorem sub_fl {a b : Nat} {x y : Int} (ha : Fl a x) (hb : Fl b y) (h : (x - y).natAbs < 2 ^ 53) : ∃ r, floatBits .sub .f64 a b = some r ∧ Fl r (x - y) := by
  obtain ⟨s, m, d, r1, v1⟩ := ha
  obtain ⟨t, n, e, r2, v2⟩ := hb
  have v3 : signed (!t) n 0 = (-y) * (2 ^ e : Nat) := by rw [opp v2, Int.neg_mul]
  obtain ⟨s', m', d', hs, hv⟩ := sum_fl v1 v3
  rw [← Int.sub_eq_add_neg] at hv
  refine ⟨_, ?_, write_fl hv h⟩
  show ((double.read a).sum (double.read b).opposite).map double.write = _
  rw [r1, r2]
  show ((Datum.number s m (-(d : Nat) : Int)).sum (.number (!t) n (-(e : Nat) : Int))).map double.write = _
  rw [hs]
  rfl

theorem signed_mul (s t : Bool) (m n : Nat) : signed (s ^^ t) (m * n) 0 = signed s m 0 * signed t n 0 := by
  unfold signed
  cases s <;> cases t <;> simp [Int.natCast_mul, Int.neg_mul, Int.mul_neg]

theorem mul_fl {a b : Nat} {x y : Int} (ha : Fl a x) (hb : Fl b y) (h : (x * y).natAbs < 2 ^ 53) : ∃ r, floatBits .mul .f64 a b = some r ∧ Fl r (x * y) := by
  obtain ⟨s, m, d, r1, v1⟩ := ha
  obtain ⟨t, n, e, r2, v2⟩ := hb
  have hv : signed (s ^^ t) (m * n) 0 = (x * y) * (2 ^ (d + e) : Nat) := by
    rw [signed_mul, v1, v2, Nat.pow_add, Int.natCast_mul]
    ac_rfl
  refine ⟨_, ?_, write_fl hv h⟩
  show ((double.read a).product (double.read b)).map double.write = _
  rw [r1, r2]
  have : (-(d : Nat) : Int) + (-(e : Nat) : Int) = -((d + e : Nat) : Int) := by omega
  show some (double.write (.number (s ^^ t) (m * n) ((-(d : Nat) : Int) + (-(e : Nat) : Int)))) = _
  rw [this]

theorem order_fl {a b : Nat} {x y : Int} (ha : Fl a x) (hb : Fl b y) : double.order a b = some (compare x y) := by
  obtain ⟨s, m, d, r1, v1⟩ := ha
  obtain ⟨t, n, e, r2, v2⟩ := hb
  obtain ⟨e1, e2, e3⟩ := meet d e
  unfold Format.order
  rw [r1, r2]
  unfold Datum.order
  simp only [e2, e3]
  rw [lift v1 (Nat.le_max_left d e), lift v2 (Nat.le_max_right d e)]
  have hp : (0 : Int) < (2 ^ (max d e) : Nat) := by have := two_pos (max d e); omega
  have h1 : x * (2 ^ (max d e) : Nat) < y * (2 ^ (max d e) : Nat) ↔ x < y := Int.mul_lt_mul_right hp
  have h2 : x * (2 ^ (max d e) : Nat) = y * (2 ^ (max d e) : Nat) ↔ x = y := ⟨fun h => Int.eq_of_mul_eq_mul_right (by omega) h, fun h => by rw [h]⟩
  congr 1
  simp only [compare, compareOfLessAndEq, h1, h2]

theorem toInt_fl {a : Nat} {x : Int} (ha : Fl a x) : (FloatKind.f64.decode a).toInt .zero = some x := by
  obtain ⟨s, m, d, r1, v1⟩ := ha
  have hm : m = x.natAbs * 2 ^ d := by
    have := congrArg Int.natAbs v1
    rw [signed_abs, Int.natAbs_mul, Int.natAbs_natCast] at this
    exact this
  show (double.read a).toInt .zero = some x
  rw [r1]
  unfold Datum.toInt Datum.integral
  simp only
  have e1 : (-(d : Nat) : Int).toNat = 0 := by omega
  have e2 : (- -(d : Nat) : Int).toNat = d := by omega
  rw [e1, e2, Nat.shiftLeft_zero, hm, cut_low]
  have hd := two_pos d
  congr 1
  rw [hm] at v1
  unfold signed at v1 ⊢
  cases s
  · simp only [Bool.false_eq_true, if_false, Nat.shiftLeft_zero, Int.natCast_mul] at v1 ⊢
    exact Int.eq_of_mul_eq_mul_right (by omega) v1
  · simp only [if_true, Nat.shiftLeft_zero, Int.natCast_mul] at v1 ⊢
    rw [← Int.neg_mul] at v1
    exact Int.eq_of_mul_eq_mul_right (by omega) v1

theorem int_fl {a : Nat} {x : Int} (ha : Fl a x) (h : x.natAbs < 2 ^ 53) : floatToIntVal .f64 a .i64 = some x := by
  unfold floatToIntVal
  rw [toInt_fl ha]
  simp only
  rw [if_pos]
  simp [IntKind.min, IntKind.max, IntKind.signed, IntKind.bits]
  omega
end Go.Proofs.Ytklcanjlkmkmmaa.floA
