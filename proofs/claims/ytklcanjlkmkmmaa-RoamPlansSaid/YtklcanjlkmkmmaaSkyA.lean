/- The leaves of sky. -/
import Derived.Test.YtklcanjlkmkmmaaProg
import Derived.WalkKit
import Derived.BigQuiet
import Derived.OwnWalk
import Derived.Lib.Hide
import Derived.Test.YtklcanjlkmkmmaaKit
import Derived.Test.YtklcanjlkmkmmaaFloA
namespace Go.Proofs.Ytklcanjlkmkmmaa.skyA
open Go.RowKit Go.Lib Go.Proofs.Ytklcanjlkmkmmaa.kit Go.Proofs.Ytklcanjlkmkmmaa.floA
set_option linter.unusedVariables false
set_option linter.unusedSimpArgs false

/-- Both numbers are from -m to m. -/
def inP (m x y : Int) : Bool := decide (-m ≤ x) && decide (x ≤ m) && decide (-m ≤ y) && decide (y ≤ m)

theorem inP_iff {m x y : Int} : inP m x y = true ↔ -m ≤ x ∧ x ≤ m ∧ -m ≤ y ∧ y ≤ m := by
  simp [inP, and_assoc]

abbrev pt (x y : Int) : Value := .agg #[.int .i64 x, .int .i64 y]

def Cx (v : Value) (x y : Int) : Prop := ∃ a b, v = .complex .f64 a b ∧ Fl a x ∧ Fl b y

theorem within_any (x y m : Int) (h0 : 0 ≤ m) (h1 : m < 9007199254740992) (w : World) : Calls Try.prog 35 #[pt x y, .int .i64 m] w fun e w' => e = .returned (.bool (inP m x y)) ∧ Only (fun _ => False) w w' := by
  have wm : IntKind.i64.wrap (-m) = -m := IntWalk.i64_in _ (by omega)
  go_enter Try.func35, Try.ntmps35
  go_wp2_with fail
  all_goals
    go_ret
    exact ⟨by first | (simp [inP, *]; done) | (simp [inP, *]; intros; omega), ((Only.refl _ w).alloc _)⟩

theorem right_any (x y : Int) (w : World) : Calls Try.prog 31 #[pt x y] w fun e w' => e = .returned (.bool (inP 16777216 x y)) ∧ Only (fun _ => False) w w' := by
  have H := Lib.hid (within_any x y 16777216 (by decide) (by decide))
  go_enter Try.func31, Try.ntmps31
  go_wp2_with fail
  with_reducible refine (H.out _).mono ?_
  rintro e w' ⟨rfl, o⟩
  have O := Lib.hid (((Only.refl _ w).alloc _).trans o)
  clear o
  go_wp2_with fail
  go_ret
  exact ⟨rfl, O.out⟩

theorem refright_any (x y : Int) (w : World) : Calls Try.prog 24 #[pt x y] w fun e w' => e = .returned (.bool (inP 16777216 x y)) ∧ Only (fun _ => False) w w' := by
  go_enter Try.func24, Try.ntmps24
  go_wp2_with fail
  all_goals
    go_ret
    exact ⟨by first | (simp [inP, *]; done) | (simp [inP, *]; intros; omega), ((Only.refl _ w).alloc _)⟩

theorem small_any (x : Int) (w : World) : Calls Try.prog 25 #[.int .i64 x] w fun e w' => e = .returned (.bool (decide (-1000 ≤ x) && decide (x ≤ 1000))) ∧ Only (fun _ => False) w w' := by
  go_enter Try.func25, Try.ntmps25
  go_wp2_with fail
  all_goals
    go_ret
    exact ⟨by first | (simp [*]; done) | (simp [*]; intros; omega), Only.refl _ w⟩

theorem number_any (x y : Int) (hx : x.natAbs < 2 ^ 53) (hy : y.natAbs < 2 ^ 53) (w : World) : Calls Try.prog 27 #[pt x y] w fun e w' => (∃ v, e = .returned v ∧ Cx v x y) ∧ Only (fun _ => False) w w' := by
  have F := Lib.hid (And.intro (of_int x hx) (of_int y hy))
  clear hx hy
  go_enter Try.func27, Try.ntmps27
  go_wp2_with fail
  go_ret
  exact ⟨⟨_, rfl, _, _, rfl, F.out.1, F.out.2⟩, ((Only.refl _ w).alloc _)⟩

theorem point_any (a b : Nat) (x y : Int) (ha : Fl a x) (hb : Fl b y) (hx : x.natAbs < 2 ^ 53) (hy : y.natAbs < 2 ^ 53) (w : World) : Calls Try.prog 30 #[.complex .f64 a b] w fun e w' => e = .returned (pt x y) ∧ Only (fun _ => False) w w' := by
  have c1 := fun w => run_convert_float_int (P := Try.prog) w 86 3 .f64 .i64 a x (by kernel_rfl) Try.underlying3 (int_fl ha hx)
  have c2 := fun w => run_convert_float_int (P := Try.prog) w 86 3 .f64 .i64 b y (by kernel_rfl) Try.underlying3 (int_fl hb hy)
  clear ha hb hx hy
  have HH := Lib.hid (heap_alloc_new w (.cells #[.int .i64 x, .int .i64 y] 50))
  go_enter Try.func30, Try.ntmps30
  go_wp2_with fail
  exact bodyPost_ret (results_cell_row (p := 2) (ty := 50) Try.results30 _ _ w.heap.size 50 _ (0, 0) _ rfl HH.out Try.underlying50 rfl (by kernel_rfl)) rfl ⟨rfl, ((Only.refl _ w).alloc _)⟩

theorem natAbs_sq {x y B : Int} (h : -B ≤ x ∧ x ≤ B) (k : -B ≤ y ∧ y ≤ B) : (x * y).natAbs ≤ (B * B).natAbs := by
  rw [Int.natAbs_mul, Int.natAbs_mul]
  exact Nat.mul_le_mul (by omega) (by omega)

/-- The square of the distance. -/
def far (x y p q : Int) : Int := (x - p) * (x - p) + (y - q) * (y - q)

theorem sub_cx {a b c d : Nat} {x y p q : Int} (h1 : Fl a x) (h2 : Fl b y) (h3 : Fl c p) (h4 : Fl d q) (hx : (x - p).natAbs < 2 ^ 53) (hy : (y - q).natAbs < 2 ^ 53) : ∃ r i, cSumBits .sub .f64 a b c d = some (r, i) ∧ Fl r (x - p) ∧ Fl i (y - q) := by
  obtain ⟨r, hr, fr⟩ := sub_fl h1 h3 hx
  obtain ⟨i, hi, fi⟩ := sub_fl h2 h4 hy
  exact ⟨r, i, by simp [cSumBits, hr, hi], fr, fi⟩

theorem add_cx {a b c d : Nat} {x y p q : Int} (h1 : Fl a x) (h2 : Fl b y) (h3 : Fl c p) (h4 : Fl d q) (hx : (x + p).natAbs < 2 ^ 53) (hy : (y + q).natAbs < 2 ^ 53) : ∃ r i, cSumBits .add .f64 a b c d = some (r, i) ∧ Fl r (x + p) ∧ Fl i (y + q) := by
  obtain ⟨r, hr, fr⟩ := add_fl h1 h3 hx
  obtain ⟨i, hi, fi⟩ := add_fl h2 h4 hy
  exact ⟨r, i, by simp [cSumBits, hr, hi], fr, fi⟩

theorem mul_cx {a b c d : Nat} {x y p q : Int} (h1 : Fl a x) (h2 : Fl b y) (h3 : Fl c p) (h4 : Fl d q) (hac : (x * p).natAbs < 2 ^ 51) (hbd : (y * q).natAbs < 2 ^ 51) (had : (x * q).natAbs < 2 ^ 51) (hbc : (y * p).natAbs < 2 ^ 51) :
    ∃ r i, cMulBits a b c d = some (r, i) ∧ Fl r (x * p - y * q) ∧ Fl i (x * q + y * p) := by
  obtain ⟨r1, hr1, f1⟩ := mul_fl h1 h3 (by omega)
  obtain ⟨r2, hr2, f2⟩ := mul_fl h2 h4 (by omega)
  obtain ⟨r3, hr3, f3⟩ := sub_fl f1 f2 (by omega)
  obtain ⟨r4, hr4, f4⟩ := mul_fl h1 h4 (by omega)
  obtain ⟨r5, hr5, f5⟩ := mul_fl h2 h3 (by omega)
  obtain ⟨r6, hr6, f6⟩ := add_fl f4 f5 (by omega)
  exact ⟨r3, r6, by simp [cMulBits, hr1, hr2, hr3, hr4, hr5, hr6], f3, f6⟩

abbrev Mid (x : Int) : Prop := -16777216 ≤ x ∧ x ≤ 16777216

theorem sq_small {x p : Int} (h : Mid x) (k : Mid p) : ((x - p) * (x - p)).natAbs < 2 ^ 51 := by
  have := natAbs_sq (x := x - p) (y := x - p) (B := 33554432) (by have := h; have := k; omega) (by have := h; have := k; omega)
  simp at this ⊢
  omega

theorem square_any (a b c d : Nat) (x y p q : Int) (h1 : Fl a x) (h2 : Fl b y) (h3 : Fl c p) (h4 : Fl d q) (mx : Mid x) (my : Mid y) (mp : Mid p) (mq : Mid q) (w : World) :
    Calls Try.prog 34 #[.complex .f64 a b, .complex .f64 c d] w fun e w' => (∃ r, e = .returned (.float .f64 r) ∧ Fl r (far x y p q)) ∧ Only (fun _ => False) w w' := by
  obtain ⟨r, i, hs, fr, fi⟩ := sub_cx h1 h2 h3 h4 (by have := mx; have := mp; omega) (by have := my; have := mq; omega)
  obtain ⟨s, hr, fs⟩ := mul_fl fr fr (by have := sq_small mx mp; omega)
  obtain ⟨t, hi, ft⟩ := mul_fl fi fi (by have := sq_small my mq; omega)
  obtain ⟨u, hu, fu⟩ := add_fl fs ft (by have := sq_small mx mp; have := sq_small my mq; omega)
  have e1 := fun w => run_complex_sum (P := Try.prog) w .sub (.inr rfl) 80 .f64 a b c d r i hs
  have e2 := fun w => run_float_arith (P := Try.prog) w .mul 86 .f64 r r s hr
  have e3 := fun w => run_float_arith (P := Try.prog) w .mul 86 .f64 i i t hi
  have e4 := fun w => run_float_arith (P := Try.prog) w .add 86 .f64 s t u hu
  have FU := Lib.hid fu
  clear h1 h2 h3 h4 mx my mp mq hs fr fi hr fs hi ft hu fu
  go_enter Try.func34, Try.ntmps34
  go_wp2_with fail
  go_ret
  exact ⟨⟨_, rfl, FU.out⟩, Only.refl _ w⟩

theorem wrap_mid {x p : Int} (h : Mid x) (k : Mid p) : wrap64 (x - p) = x - p ∧ wrap64 ((x - p) * (x - p)) = (x - p) * (x - p) := by
  have := sq_small h k
  exact ⟨IntWalk.wrap64_in _ (by have := h; have := k; omega), IntWalk.wrap64_in _ (by omega)⟩

theorem reffar_any (x y p q : Int) (mx : Mid x) (my : Mid y) (mp : Mid p) (mq : Mid q) (w : World) : Calls Try.prog 33 #[pt x y, pt p q] w fun e w' => e = .returned (.int .i64 (far x y p q)) ∧ Only (fun _ => False) w w' := by
  obtain ⟨e1, e2⟩ := wrap_mid mx mp
  obtain ⟨e3, e4⟩ := wrap_mid my mq
  have e5 : wrap64 ((x - p) * (x - p) + (y - q) * (y - q)) = far x y p q := IntWalk.wrap64_in _ (by have := sq_small mx mp; have := sq_small my mq; omega)
  clear mx my mp mq
  go_enter Try.func33, Try.ntmps33
  go_wp2_with fail
  go_ret
  exact ⟨by simp [e1, e2, e3, e4, e5], (((Only.refl _ w).alloc _).alloc _)⟩
end Go.Proofs.Ytklcanjlkmkmmaa.skyA
