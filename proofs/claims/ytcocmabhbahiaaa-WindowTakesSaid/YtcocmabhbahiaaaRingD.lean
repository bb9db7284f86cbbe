/- Contracts of the ring's New, Back, Clear. Condition: room from 1 to 4096. -/
import Derived.Test.YtcocmabhbahiaaaRingC
import Derived.LoopTactic
namespace Go.Proofs.Ytcocmabhbahiaaa.ringD
open Go.RowKit Go.Proofs.Ytcocmabhbahiaaa.kit Go.Proofs.Ytcocmabhbahiaaa.ringB
set_option linter.unusedVariables false

theorem info23 : (Try.prog.info? 23).map (fun i => (i.zero, i.size, i.bytes)) = some (some (.int .u64 0), 1, 8) := by kernel_rfl

/-- A new ring: its blocks are the next two of the heap. -/
def Made (w : World) (room : Nat) (e : Ending) (w' : World) : Prop :=
  e = .returned (.tuple #[.pointer (some ⟨w.heap.size + 1, 0, none⟩), .int .i64 0]) ∧ RingAt w' (w.heap.size + 1) w.heap.size room 0 [] ∧ Only (fun _ => False) w w' ∧ w'.heap.size = w.heap.size + 2

theorem new_bad (room : Int) (w : World) (h : room < 1 ∨ 4096 < room) :
    Calls Try.prog 45 #[.int .i64 room] w fun e w' => e = .returned (.tuple #[.pointer none, .int .i64 2]) ∧ w = w' := by
  by_cases a : room < 1
  · go_enter Try.func45, Try.ntmps45
    go_wp2
    go_ret2
    exact ⟨rfl, rfl⟩
  · have b : 4096 < room := by omega
    go_enter Try.func45, Try.ntmps45
    go_wp2
    go_ret2
    exact ⟨rfl, rfl⟩

theorem new_ok (room : Nat) (w : World) (r1 : 1 ≤ room) (r2 : room ≤ 4096) :
    Calls Try.prog 45 #[.int .i64 room] w (Made w room) := by
  have q1 : ¬ ((room : Int) < 1) := by omega
  have q2 : ¬ ((4096 : Int) < room) := by omega
  have hmk := run_make_row' (P := Try.prog) 47 23 (.int .u64 0) 8 Try.underlying47 info23 rfl .i64 .i64 room (by omega) (by omega) w
  go_enter Try.func45, Try.ntmps45
  go_wp2
  go_ret2
  refine ⟨rfl, ⟨?_, ⟨fun _ => 0, ?_, by simp⟩, by omega, r1, r2, by omega, by simp⟩, ?_, by simp⟩
  · have a := heap_alloc_new (w.alloc (.cells (madeCells #[.int .u64 0] room) 23)) (.cells #[.slice (some ⟨w.heap.size, 0, none⟩) room room, .int .i64 0, .int .i64 0] 111)
    rw [World.size_alloc] at a
    exact a
  · exact (World.rowIs_made w (.int .u64 0) room 23).alloc _
  · exact ((Only.refl _ w).alloc _).alloc _

theorem back_none (B R room first : Nat) (w : World) (h : RingAt w B R room first []) :
    Calls Try.prog 49 #[.pointer (some ⟨B, 0, none⟩)] w fun e w' => e = .returned (.tuple #[.int .u64 0, .bool false]) ∧ w = w' := by
  obtain ⟨h0, h1, h2, -, -, -, -⟩ := h.facts
  clear h
  go_enter Try.func49, Try.ntmps49
  go_wp2_with (go_at_call 51; (with_reducible refine (ringA.len_any B 0 _ h2).mono ?_); rintro e w' ⟨rfl, rfl⟩)
  go_ret2
  exact ⟨rfl, rfl⟩

/-- The store side of a Back. -/
theorem backed {w : World} {B R room first : Nat} {x : Int} {xs : List Int} (h : RingAt w B R room first (xs ++ [x])) :
    RingAt ((w.setCell ⟨R, (first + xs.length) % room, none⟩ (.int .u64 0)).setCell ⟨B, 2, none⟩ (.int .i64 (xs.length : Nat))) B R room first xs := by
  obtain ⟨g, hr, hg⟩ := h.row
  have l2 := h.l2
  simp only [List.length_append, List.length_cons, List.length_nil] at l2
  refine ⟨?_, ⟨fun j => if j = (first + xs.length) % room then 0 else g j, ?_, ?_⟩, h.ne, h.r1, h.r2, h.f2, by omega⟩
  · have e1 := heap_set (o := 2) (v := .int .i64 (xs.length : Nat)) ((heap_other (w := w) (b := R) (o := (first + xs.length) % room) (v := .int .u64 0) h.ne).trans h.head)
    simpa using e1
  · have e2 : (w.setCell ⟨R, (first + xs.length) % room, none⟩ (.int .u64 0)).rowIs R 23 room (fun j => .int .u64 (if j = (first + xs.length) % room then 0 else g j)) :=
      (hr.set ((first + xs.length) % room) (.int .u64 0)).congr fun i _ => by by_cases q : i = (first + xs.length) % room <;> simp [q]
    exact e2.setOther (a := ⟨B, 2, none⟩) h.ne.symm _
  · intro i hi
    have f2 := h.f2
    show (if (first + i) % room = (first + xs.length) % room then 0 else g ((first + i) % room)) = _
    have ne : (first + i) % room ≠ (first + xs.length) % room := by
      intro e
      rcases Nat.lt_or_ge (first + i) room with a | a
      · rw [Nat.mod_eq_of_lt a] at e
        rcases Nat.lt_or_ge (first + xs.length) room with b | b
        · rw [Nat.mod_eq_of_lt b] at e; omega
        · rw [Nat.mod_eq_sub_mod b, Nat.mod_eq_of_lt (by omega)] at e; omega
      · rw [Nat.mod_eq_sub_mod a, Nat.mod_eq_of_lt (by omega), Nat.mod_eq_sub_mod (by omega : first + xs.length ≥ room), Nat.mod_eq_of_lt (by omega)] at e
        omega
    rw [if_neg ne, hg i (by simp; omega)]
    simp only [List.getD_eq_getElem?_getD]
    rw [List.getElem?_append_left (by omega)]

theorem back_some (B R room first : Nat) (x : Int) (xs : List Int) (w : World) (h : RingAt w B R room first (xs ++ [x])) :
    Calls Try.prog 49 #[.pointer (some ⟨B, 0, none⟩)] w (Ret w B R room (.tuple #[.int .u64 x, .bool true]) first xs) := by
  obtain ⟨h0, h1, h2, f0, f1, f2, fR⟩ := h.facts
  obtain ⟨g, hr, hg⟩ := h.row
  have r1 := h.r1
  have r2 := h.r2
  have p2 := h.f2
  have l2 := h.l2
  have ne := h.ne
  have P := fun n : Nat => backed (RingAt.of w (w.drewN n) B R room first _ h rfl rfl)
  have K := fun n : Nat => (((Only.refl (S2 B R) w).drewN n).set (b := R) (o := (first + xs.length) % room) (v := .int .u64 0) (.inr rfl)).set (b := B) (o := 2) (v := .int .i64 (xs.length : Nat)) (.inl rfl)
  have hx : w.cell? ⟨R, (first + xs.length) % room, none⟩ = some (.int .u64 x) := by
    have a := hr.cell (i := (first + xs.length) % room) (Nat.mod_lt _ (by omega))
    have b := hg xs.length (by simp)
    rw [a, b]
    simp
  have fRp := fR ((first + xs.length) % room)
  have hp : (first + xs.length) % room < room := Nat.mod_lt _ (by omega)
  simp only [List.length_append, List.length_cons, List.length_nil, Nat.zero_add] at h2 l2
  obtain ⟨n, hn⟩ : ∃ n, n = xs.length := ⟨_, rfl⟩
  rw [← hn] at h2 P K l2 hx fRp hp
  obtain ⟨p, ep⟩ : ∃ p, p = (first + n) % room := ⟨_, rfl⟩
  have PL : ∀ W : World, W.cell? ⟨B, 0, none⟩ = some (.slice (some ⟨R, 0, none⟩) room room) → W.cell? ⟨B, 1, none⟩ = some (.int .i64 first) → Calls Try.prog 79 #[.pointer (some ⟨B, 0, none⟩), .int .i64 n] W fun e w' => e = .returned (.int .i64 p) ∧ ∃ n, w' = W.drewN n := by
    intro W a b
    have := ringA.place_any B R room first n W a b (by omega) r2 (by omega) (by omega)
    rwa [← ep] at this
  rw [← ep] at P K hx fRp hp
  have hn1 : (((n + 1 : Nat) : Int) == 0) = false := by simp; omega
  have HP := Lib.hid P
  have HK := Lib.hid K
  clear P K h hn ep hg hr fR
  have h3 : ((n + 1 : Nat) : Int) = (n : Int) + 1 := by omega
  rw [h3] at h2 hn1
  clear h3
  go_enter Try.func49, Try.ntmps49
  go_wp2_with fail
  refine (ringA.len_any B (n + 1) _ (by rw [h2]; rfl)).mono ?_
  rintro e w' ⟨rfl, rfl⟩
  go_wp2_with fail
  refine (PL _ h0 h1).mono ?_
  rintro e w1 ⟨rfl, m, rfl⟩
  go_wp2_with fail
  refine (ringA.take_any B R room (n + 1) p x (w.drewN m) h0 (by rw [World.cell?_drewN, h2]; rfl) hx hp r2 (by omega) (by omega) f2 fRp ne).mono ?_
  rintro e w1 ⟨rfl, hw1⟩
  have HW := Lib.hid hw1
  clear hw1
  go_wp2_with fail
  go_ret2
  refine ⟨rfl, ?_, ?_⟩
  · rw [HW.out]
    exact HP.out m
  · rw [HW.out]
    exact HK.out m
end Go.Proofs.Ytcocmabhbahiaaa.ringD
