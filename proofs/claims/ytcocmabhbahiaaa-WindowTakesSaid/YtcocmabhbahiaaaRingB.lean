/- Contracts of the ring's calls: a ring of 'room' places whose things are xs, in order. Condition: room from 1 to 4096. -/
import Derived.Test.YtcocmabhbahiaaaRingA
import Derived.Test.YtcocmabhbahiaaaKit
import Derived.Deep.OwnRows
import Derived.StillTailTactics
import Derived.Deep.QuietTactic
import Derived.BigQuiet
import Derived.Outline
namespace Go.Proofs.Ytcocmabhbahiaaa.ringB
open Go.RowKit Go.Proofs.Ytcocmabhbahiaaa.kit
set_option linter.unusedVariables false

/-- Blocks B (the ring) and R (its row) hold a ring of that room, its first place, its things. -/
structure RingAt (w : World) (B R room first : Nat) (xs : List Int) : Prop where
  head : w.heap[B]? = some (.cells #[.slice (some ⟨R, 0, none⟩) room room, .int .i64 first, .int .i64 xs.length] 111 (0, 0))
  row : ∃ g : Nat → Int, w.rowIs R 23 room (fun i => .int .u64 (g i)) ∧ ∀ i, i < xs.length → g ((first + i) % room) = xs.getD i 0
  ne : B ≠ R
  r1 : 1 ≤ room
  r2 : room ≤ 4096
  f2 : first < room
  l2 : xs.length ≤ room

def S2 (B R : Nat) : Nat → Prop := fun k => k = B ∨ k = R

/-- What a call on a ring leaves. -/
def Ret (w : World) (B R room : Nat) (v : Value) (f : Nat) (ys : List Int) (e : Ending) (w' : World) : Prop :=
  e = .returned v ∧ RingAt w' B R room f ys ∧ Only (S2 B R) w w'

theorem RingAt.of (w w' : World) (B R room first : Nat) (xs : List Int) (h : RingAt w B R room first xs) (hB : w'.heap[B]? = w.heap[B]?) (hR : w'.heap[R]? = w.heap[R]?) : RingAt w' B R room first xs :=
  ⟨hB.trans h.head, by obtain ⟨g, a, b⟩ := h.row; exact ⟨g, a.of_block hR, b⟩, h.ne, h.r1, h.r2, h.f2, h.l2⟩

/-- The facts that a walk wants. -/
theorem RingAt.facts {w : World} {B R room first : Nat} {xs : List Int} (h : RingAt w B R room first xs) :
    w.cell? ⟨B, 0, none⟩ = some (.slice (some ⟨R, 0, none⟩) room room) ∧ w.cell? ⟨B, 1, none⟩ = some (.int .i64 first) ∧ w.cell? ⟨B, 2, none⟩ = some (.int .i64 xs.length) ∧
    w.frozen? ⟨B, 0, none⟩ = false ∧ w.frozen? ⟨B, 1, none⟩ = false ∧ w.frozen? ⟨B, 2, none⟩ = false ∧ ∀ p, w.frozen? ⟨R, p, none⟩ = false := by
  obtain ⟨g, hr, _⟩ := h.row
  exact ⟨cell_of h.head, cell_of h.head, cell_of h.head, free_of h.head, free_of h.head, free_of h.head, fun p => hr.frozen p⟩

theorem pop_none (B R room first : Nat) (w : World) (h : RingAt w B R room first []) :
    Calls Try.prog 48 #[.pointer (some ⟨B, 0, none⟩)] w fun e w' => e = .returned (.tuple #[.int .u64 0, .bool false]) ∧ w = w' := by
  obtain ⟨h0, h1, h2, -, -, -, -⟩ := h.facts
  clear h
  go_enter Try.func48, Try.ntmps48
  go_wp2_with (go_at_call 51; (with_reducible refine (ringA.len_any B 0 _ h2).mono ?_); rintro e w' ⟨rfl, rfl⟩)
  go_ret2
  exact ⟨rfl, rfl⟩

/-- The store side of a Pop. -/
theorem popped {w : World} {B R room first : Nat} {x : Int} {xs : List Int} (h : RingAt w B R room first (x :: xs)) (n : Nat) :
    RingAt ((((w.setCell ⟨R, first, none⟩ (.int .u64 0)).setCell ⟨B, 2, none⟩ (.int .i64 ((x :: xs).length - 1 : Nat))).setCell ⟨B, 1, none⟩ (.int .i64 ((first + 1) % room : Nat))).drewN n) B R room ((first + 1) % room) xs := by
  obtain ⟨g, hr, hg⟩ := h.row
  refine ⟨?_, ⟨fun j => if j = first then 0 else g j, ?_, ?_⟩, h.ne, h.r1, h.r2, Nat.mod_lt _ (by have := h.r1; omega), by have := h.l2; simp at this; omega⟩
  · have e1 := heap_set (o := 1) (v := .int .i64 ((first + 1) % room : Nat)) (heap_set (o := 2) (v := .int .i64 ((x :: xs).length - 1 : Nat)) ((heap_other (w := w) (b := R) (o := first) (v := .int .u64 0) h.ne).trans h.head))
    rw [World.heap_drewN]
    simpa using e1
  · have e2 : (w.setCell ⟨R, first, none⟩ (.int .u64 0)).rowIs R 23 room (fun j => .int .u64 (if j = first then 0 else g j)) := (hr.set first (.int .u64 0)).congr fun i _ => by by_cases q : i = first <;> simp [q]
    exact ((e2.setOther (a := ⟨B, 2, none⟩) h.ne.symm _).setOther (a := ⟨B, 1, none⟩) h.ne.symm _).of_block rfl
  · intro i hi
    have l2 := h.l2
    have f2 := h.f2
    simp only [List.length_cons] at l2
    have q := hg (i + 1) (by simp; omega)
    have ne : ((first + 1) % room + i) % room ≠ first := by
      rcases Nat.lt_or_ge (first + 1) room with a | a
      · rw [Nat.mod_eq_of_lt a]
        rcases Nat.lt_or_ge (first + 1 + i) room with b | b
        · rw [Nat.mod_eq_of_lt b]; omega
        · rw [Nat.mod_eq_sub_mod b, Nat.mod_eq_of_lt (by omega)]; omega
      · have : first + 1 = room := by omega
        rw [this, Nat.mod_self, Nat.zero_add, Nat.mod_eq_of_lt (by omega)]; omega
    have eq : ((first + 1) % room + i) % room = (first + (i + 1)) % room := by rw [Nat.mod_add_mod]; congr 1; omega
    show (if ((first + 1) % room + i) % room = first then 0 else g (((first + 1) % room + i) % room)) = _
    rw [if_neg ne, eq, q]
    simp

theorem pop_some (B R room first : Nat) (x : Int) (xs : List Int) (w : World) (h : RingAt w B R room first (x :: xs)) :
    Calls Try.prog 48 #[.pointer (some ⟨B, 0, none⟩)] w (Ret w B R room (.tuple #[.int .u64 x, .bool true]) ((first + 1) % room) xs) := by
  obtain ⟨h0, h1, h2, f0, f1, f2, fR⟩ := h.facts
  obtain ⟨g, hr, hg⟩ := h.row
  have hx : w.cell? ⟨R, first, none⟩ = some (.int .u64 x) := by
    have a := hr.cell h.f2
    have b := hg 0 (by simp)
    simp only [Nat.add_zero, Nat.mod_eq_of_lt h.f2, List.getD_cons_zero] at b
    rw [a, b]
  have r1 := h.r1
  have r2 := h.r2
  have p2 := h.f2
  have l2 := h.l2
  have ne := h.ne
  have fRf := fR first
  have P := popped h
  have K1 := (((Only.refl (S2 B R) w).set (b := R) (o := first) (v := .int .u64 0) (.inr rfl)).set (b := B) (o := 2) (v := .int .i64 ((x :: xs).length - 1 : Nat)) (.inl rfl)).set (b := B) (o := 1) (v := .int .i64 ((first + 1) % room : Nat)) (.inl rfl)
  obtain ⟨n, hn⟩ : ∃ n, n = (x :: xs).length := ⟨_, rfl⟩
  have hn0 : 0 < n := by rw [hn]; simp
  rw [← hn] at h2 P K1 l2
  have hn1 : ((n : Int) == 0) = false := by simp; omega
  clear hn hg hr fR
  have HP := Lib.hid P
  clear P h
  have fp1 : (w.setCell ⟨R, first, none⟩ (.int .u64 0)).frozen? ⟨B, 1, none⟩ = false := by simpa using f1
  have hW : ∀ W : World, W = (w.setCell ⟨R, first, none⟩ (.int .u64 0)).setCell ⟨B, 2, none⟩ (.int .i64 (n - 1 : Nat)) → W.cell? ⟨B, 0, none⟩ = some (.slice (some ⟨R, 0, none⟩) room room) ∧ W.cell? ⟨B, 1, none⟩ = some (.int .i64 first) ∧ W.frozen? ⟨B, 1, none⟩ = false := by
    intro W hW
    subst hW
    have a : (⟨B, 2, none⟩ : Addr) ≠ ⟨B, 0, none⟩ := by simp
    have b : (⟨B, 2, none⟩ : Addr) ≠ ⟨B, 1, none⟩ := by simp
    have c : (⟨R, first, none⟩ : Addr) ≠ ⟨B, 0, none⟩ := fun q => ne (by injection q with q1; exact q1.symm)
    have d : (⟨R, first, none⟩ : Addr) ≠ ⟨B, 1, none⟩ := fun q => ne (by injection q with q1; exact q1.symm)
    rw [World.cell?_setCell_other _ _ _ _ a, World.cell?_setCell_other _ _ _ _ b, World.cell?_setCell_other _ _ _ _ c, World.cell?_setCell_other _ _ _ _ d]
    exact ⟨h0, h1, by simpa using f1⟩
  go_enter Try.func48, Try.ntmps48
  go_wp2_with fail
  refine (ringA.len_any B n _ h2).mono ?_
  rintro e w' ⟨rfl, rfl⟩
  go_wp2_with fail
  refine (ringA.take_any B R room n first x _ h0 h2 hx p2 r2 hn0 (by omega) f2 fRf ne).mono ?_
  rintro e w1 ⟨rfl, hw1⟩
  obtain ⟨c0, c1, cf⟩ := hW w1 hw1
  have HW := Lib.hid hw1
  clear hw1 hW
  go_wp2_with fail
  refine (ringA.place_any B R room first 1 _ c0 c1 (by omega) r2 (by omega) (by omega)).mono ?_
  rintro e w2 ⟨rfl, m, rfl⟩
  go_wp2_with fail
  go_ret2
  have ev : (((first + 1) % room : Nat) : Int) = ((first : Int) + 1) % (room : Int) := by simp
  refine ⟨rfl, ?_, ?_⟩
  · rw [← ev, HW.out]
    exact HP.out m
  · rw [← ev, HW.out]
    exact K1.drewN m
end Go.Proofs.Ytcocmabhbahiaaa.ringB
