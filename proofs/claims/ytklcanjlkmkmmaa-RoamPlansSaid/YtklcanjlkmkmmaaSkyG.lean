/- sky: legs and routes. -/
import Derived.Test.YtklcanjlkmkmmaaSkyF
namespace Go.Proofs.Ytklcanjlkmkmmaa.skyG
open Go.RowKit Go.Lib Go.Proofs.Ytklcanjlkmkmmaa.kit Go.Proofs.Ytklcanjlkmkmmaa.floA Go.Proofs.Ytklcanjlkmkmmaa.skyA Go.Proofs.Ytklcanjlkmkmmaa.skyB Go.Proofs.Ytklcanjlkmkmmaa.skyC Go.Proofs.Ytklcanjlkmkmmaa.skyD Go.Proofs.Ytklcanjlkmkmmaa.skyE Go.Proofs.Ytklcanjlkmkmmaa.skyF
set_option linter.unusedVariables false
set_option linter.unusedSimpArgs false

structure Leg3 where
  x : Int
  y : Int
  s : Int
deriving Inhabited

abbrev nol : Leg3 := ⟨0, 0, 0⟩
def lx (l : List Leg3) (k : Nat) : Int := (l.getD k nol).x
def ly (l : List Leg3) (k : Nat) : Int := (l.getD k nol).y
def ls (l : List Leg3) (k : Nat) : Int := (l.getD k nol).s

/-- A slice of legs: its cells. -/
def Lgs (w : World) (a : Option Addr) (l : List Leg3) : Prop :=
  l.length ≤ maxLen ∧ (l.length = 0 ∨ ∃ b o, a = some ⟨b, o, none⟩ ∧ b < w.heap.size ∧ ∀ i, i < l.length → w.cell? ⟨b, o + i * 3, none⟩ = some (.int .i64 (lx l i)) ∧ w.cell? ⟨b, o + i * 3 + 1, none⟩ = some (.int .i64 (ly l i)) ∧ w.cell? ⟨b, o + i * 3 + 2, none⟩ = some (.int .i64 (ls l i)))

theorem Lgs.keep {w w' : World} {a : Option Addr} {l : List Leg3} (h : Lgs w a l) (o : Only (fun _ => False) w w') : Lgs w' a l := by
  refine ⟨h.1, ?_⟩
  rcases h.2 with h0 | ⟨b, off, rfl, hb, hc⟩
  · exact .inl h0
  · refine .inr ⟨b, off, rfl, Nat.lt_of_lt_of_le hb o.size, fun i hi => ?_⟩
    have e := o.block b hb id
    exact ⟨(World.cell?_of_block (a := ⟨b, _, none⟩) e).trans (hc i hi).1, (World.cell?_of_block (a := ⟨b, _, none⟩) e).trans (hc i hi).2.1, (World.cell?_of_block (a := ⟨b, _, none⟩) e).trans (hc i hi).2.2⟩

theorem Lgs.at {w : World} {a : Option Addr} {l : List Leg3} (h : Lgs w a l) {k : Nat} (hk : k < l.length) : ∃ b o, a = some ⟨b, o, none⟩ ∧ b < w.heap.size ∧ w.cell? ⟨b, o + k * 3, none⟩ = some (.int .i64 (lx l k)) ∧ w.cell? ⟨b, o + k * 3 + 1, none⟩ = some (.int .i64 (ly l k)) ∧ w.cell? ⟨b, o + k * 3 + 2, none⟩ = some (.int .i64 (ls l k)) := by
  rcases h.2 with h0 | ⟨b, off, rfl, hb, hc⟩
  · omega
  · exact ⟨b, off, rfl, hb, (hc k hk).1, (hc k hk).2.1, (hc k hk).2.2⟩

/-- A block holds a leg. -/
def Box3 (w : World) (B : Nat) (x y s : Int) (t : TypeId) : Prop := w.heap[B]? = some (.cells #[.int .i64 x, .int .i64 y, .int .i64 s] t (0, 0))

theorem Box3.cells {w : World} {B : Nat} {x y s : Int} {t : TypeId} (h : Box3 w B x y s t) : w.cell? ⟨B, 0, none⟩ = some (.int .i64 x) ∧ w.cell? ⟨B, 1, none⟩ = some (.int .i64 y) ∧ w.cell? ⟨B, 2, none⟩ = some (.int .i64 s) := ⟨cell_of h, cell_of h, cell_of h⟩

theorem Box3.keep {w w' : World} {B : Nat} {x y s : Int} {t : TypeId} (h : Box3 w B x y s t) (o : Only (fun _ => False) w w') : Box3 w' B x y s t := o.keep h id

/-- A block holds a route. -/
def BoxR (w : World) (B : Nat) (x y : Int) (v : Value) : Prop := w.heap[B]? = some (.cells #[.int .i64 x, .int .i64 y, v] 53 (0, 0))

theorem BoxR.cells {w : World} {B : Nat} {x y : Int} {v : Value} (h : BoxR w B x y v) : w.cell? ⟨B, 0, none⟩ = some (.int .i64 x) ∧ w.cell? ⟨B, 1, none⟩ = some (.int .i64 y) ∧ w.cell? ⟨B, 2, none⟩ = some v := ⟨cell_of h, cell_of h, cell_of h⟩

theorem BoxR.keep {w w' : World} {B : Nat} {x y : Int} {v : Value} (h : BoxR w B x y v) (o : Only (fun _ => False) w w') : BoxR w' B x y v := o.keep h id

/-- A leg may be. -/
def legOk (x y s : Int) : Bool := inP 1000 x y && (decide (1 ≤ s) && decide (s ≤ 10000))

theorem legright_any (x y s : Int) (w : World) : Calls Try.prog 32 #[.agg #[.int .i64 x, .int .i64 y, .int .i64 s]] w fun e w' => e = .returned (.bool (legOk x y s)) ∧ Only (fun _ => False) w w' := by
  have H := Lib.hid (within_any x y 1000 (by decide) (by decide))
  have HB := Lib.hid (show Box3 (w.alloc (.cells #[.int .i64 x, .int .i64 y, .int .i64 s] 59)) w.heap.size x y s 59 from heap_alloc_new w _)
  go_enter Try.func32, Try.ntmps32
  go_wp2_with fail
  with_reducible refine (H.out _).mono ?_
  rintro e w5 ⟨rfl, o⟩
  have O := Lib.hid (((Only.refl _ w).alloc (.cells #[.int .i64 x, .int .i64 y, .int .i64 s] 59)).trans o)
  obtain ⟨c0, c1, c2⟩ := (HB.out.keep o).cells
  clear o
  cases hr : inP 1000 x y
  · go_wp2_with fail
    go_ret
    exact ⟨by simp [legOk, hr], O.out⟩
  · go_wp2_with fail
    all_goals
      go_ret
      exact ⟨by first | (simp [legOk, hr, *]; done) | (simp [legOk, hr, *]; intros; omega), O.out⟩

theorem fl_zero : Fl 0 0 := of_int 0 (by decide)

/-- Where a leg leads. -/
theorem after_any (x y s n X Y : Int) (a b : Nat) (ha : Fl a X) (hb : Fl b Y) (mX : Mid X) (mY : Mid Y) (hx : -1000 ≤ x ∧ x ≤ 1000) (hy : -1000 ≤ y ∧ y ≤ 1000) (hn : 0 ≤ n ∧ n ≤ 10000) (w : World) :
    Calls Try.prog 29 #[.agg #[.int .i64 x, .int .i64 y, .int .i64 s], .complex .f64 a b, .int .i64 n] w fun e w' => (∃ c d, e = .returned (.complex .f64 c d) ∧ Fl c (X + x * n) ∧ Fl d (Y + y * n)) ∧ Only (fun _ => False) w w' := by
  have fx : Fl (fl x) x := of_int x (by omega)
  have fy : Fl (fl y) y := of_int y (by omega)
  have fn : Fl (fl n) n := of_int n (by omega)
  have f0 : Fl 0 0 := fl_zero
  have px := natAbs_sq (x := n) (y := x) (B := 10000) (by omega) (by omega)
  have py := natAbs_sq (x := n) (y := y) (B := 10000) (by omega) (by omega)
  have c1 : ((10000 : Int) * 10000).natAbs = 100000000 := rfl
  rw [c1] at px py
  obtain ⟨r, i, hm, fr, fi⟩ := mul_cx fn f0 fx fy (by omega) (by simp) (by omega) (by simp)
  rw [Int.zero_mul, Int.sub_zero, Int.mul_comm n x] at fr
  rw [Int.zero_mul, Int.add_zero, Int.mul_comm n y] at fi
  rw [Int.mul_comm n x] at px
  rw [Int.mul_comm n y] at py
  obtain ⟨r', i', hs, fr', fi'⟩ := add_cx ha hb fr fi (by have := mX; omega) (by have := mY; omega)
  have e1 := fun w => run_complex_mul (P := Try.prog) w 80 (floatOfInt .f64 n) 0 (fl x) (fl y) r i hm
  have e2 := fun w => run_complex_sum (P := Try.prog) w .add (.inl rfl) 80 .f64 a b r i r' i' hs
  have F := Lib.hid (And.intro fr' fi')
  have HN := Lib.hid (number_det x y)
  clear ha hb mX mY hx hy hn fx fy fn f0 px py c1 hm fr fi hs fr' fi'
  go_enter Try.func29, Try.ntmps29
  go_wp2_with fail
  with_reducible refine (HN.out _).mono ?_
  rintro e w5 ⟨rfl, o⟩
  have O := Lib.hid (((Only.refl _ w).alloc (.cells #[.int .i64 x, .int .i64 y, .int .i64 s] 59)).trans o)
  clear o
  go_wp2_with fail
  go_ret
  exact ⟨⟨_, _, rfl, F.out.1, F.out.2⟩, O.out⟩
end Go.Proofs.Ytklcanjlkmkmmaa.skyG
