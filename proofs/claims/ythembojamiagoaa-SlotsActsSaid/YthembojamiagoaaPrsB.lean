/- term.Kind of an Atom's text: the deferred closure, parse, Kind. -/
import Derived.Test.YthembojamiagoaaPrsA
namespace Go.Proofs.Ythembojamiagoaa.prsB
open Go.RowKit Go.Proofs.Ythembojamiagoaa.kit Go.Proofs.Ythembojamiagoaa.numA Go.Proofs.Ythembojamiagoaa.numB Go.Proofs.Ythembojamiagoaa.numC Go.Proofs.Ythembojamiagoaa.prsA
set_option linter.unusedVariables false
set_option linter.unusedSimpArgs false

theorem catch_idle (p q r : Addr) (w : World) :
    CallsD Try.prog 32 #[.pointer (some p), .pointer (some q), .pointer (some r)] .returning w fun e u' w' => e = .returned (.tuple #[]) ∧ u' = .returning ∧ w' = w := by
  refine callsD_of_wpS Try.func32 rfl fun c₀ cs hu => ?_
  apply wpS_seq
  apply wpS_region
  simp [wpOpsS, go_sem, recoverD, hu, Try.ntmps32, Exit.thenS]
  refine wpS_cond (t := false) (by simp [Act.eval, Array.replicate]) ?_
  simp only [Bool.false_eq_true, if_false]
  refine wpS_of_wp (wp_skip ?_)
  cases c₀
  simp_all [bodyPostS, results, Try.results32]

theorem Only.own {a w w' : World} {B : Nat} (h : Only (fun _ => False) a w) (k : Only (fun i => i = B) w w') (hB : a.heap.size ≤ B) : Only (fun _ => False) a w' :=
  ⟨k.os.trans h.os, k.tape.trans h.tape, k.output.trans h.output, Nat.le_trans h.size k.size, fun i hi hs => (k.block i (Nat.lt_of_lt_of_le hi h.size) (by show ¬ i = B; omega)).trans (h.block i hi id)⟩

set_option maxRecDepth 100000 in
set_option maxHeartbeats 1000000 in
theorem parse_atom (s : ByteArray) (n : Nat) (w : World) (h : AtomText s n) : Calls Try.prog 30 #[.string s, .bool false] w fun e w' => e = .returned (.tuple #[.int .i64 2, .int .u64 n, .slice none 0 0]) ∧ Only (fun _ => False) w w' := by
  have hmf : ∀ (fn : Fn) (first cap : Array Value) (w : World), (Instr.makeFunc fn first cap).run Try.prog w = .ok (.func fn first cap) w := fun _ _ _ _ => rfl
  have hs := h.small
  have k1 : ¬ ((65536 : Int) < (s.size : Int)) := by omega
  obtain ⟨W4, hW4⟩ : ∃ W4, W4 = (((w.alloc (.cells #[.int .i64 0] 3)).alloc (.cells #[.int .u64 0] 66)).alloc (.cells #[.slice none 0 0] 69)).alloc (.cells #[.string s, .int .i64 0, .map none] 79) := ⟨_, rfl⟩
  have hr : Rd W4 (w.heap.size + 1 + 1 + 1) s 0 := by
    rw [hW4]
    have := heap_alloc_new (((w.alloc (.cells #[.int .i64 0] 3)).alloc (.cells #[.int .u64 0] 66)).alloc (.cells #[.slice none 0 0] 69)) (.cells #[.string s, .int .i64 0, .map none] 79)
    rw [World.size_alloc, World.size_alloc, World.size_alloc] at this
    exact this
  have b0 : W4.heap[w.heap.size]? = some (.cells #[.int .i64 0] 3 (0, 0)) := by
    rw [hW4, Below.heap_alloc _ _ _ (by simp <;> omega), Below.heap_alloc _ _ _ (by simp <;> omega), Below.heap_alloc _ _ _ (by simp)]
    exact heap_alloc_new _ _
  have b1 : W4.heap[w.heap.size + 1]? = some (.cells #[.int .u64 0] 66 (0, 0)) := by
    rw [hW4, Below.heap_alloc _ _ _ (by simp), Below.heap_alloc _ _ _ (by simp)]
    have := heap_alloc_new (w.alloc (.cells #[.int .i64 0] 3)) (.cells #[.int .u64 0] 66)
    rw [World.size_alloc] at this
    exact this
  have b2 : W4.heap[w.heap.size + 1 + 1]? = some (.cells #[.slice none 0 0] 69 (0, 0)) := by
    rw [hW4, Below.heap_alloc _ _ _ (by simp)]
    have := heap_alloc_new ((w.alloc (.cells #[.int .i64 0] 3)).alloc (.cells #[.int .u64 0] 66)) (.cells #[.slice none 0 0] 69)
    rw [World.size_alloc, World.size_alloc] at this
    exact this
  have O4 : Only (fun _ => False) w W4 := by rw [hW4]; exact ((((Only.refl _ w).alloc _).alloc _).alloc _).alloc _
  have T := Lib.hid (term_atom (w.heap.size + 1 + 1 + 1) s n W4 h hr)
  rw [hW4] at T
  have HW := Lib.hid hW4
  have H4 := Lib.hid O4
  have B0 := Lib.hid b0
  have B1 := Lib.hid b1
  have B2 := Lib.hid b2
  clear h hr b0 b1 b2 O4 hW4
  go_enter_defers Try.func30, Try.ntmps30
  go_wp2_with fail
  refine T.out.mono ?_
  rintro e w5 ⟨rfl, hr5, o5⟩
  rw [← HW.out] at o5
  have c0 := (o5.block w.heap.size (lt_of B0.out) (by show ¬ w.heap.size = w.heap.size + 1 + 1 + 1; omega)).trans B0.out
  have c1 := (o5.block (w.heap.size + 1) (lt_of B1.out) (by show ¬ w.heap.size + 1 = w.heap.size + 1 + 1 + 1; omega)).trans B1.out
  have c2 := (o5.block (w.heap.size + 1 + 1) (lt_of B2.out) (by show ¬ w.heap.size + 1 + 1 = w.heap.size + 1 + 1 + 1; omega)).trans B2.out
  have z0 : w5.cell? ⟨w.heap.size, 0, none⟩ = some (.int .i64 0) := cell_of c0
  have z1 : w5.cell? ⟨w.heap.size + 1, 0, none⟩ = some (.int .u64 0) := cell_of c1
  have z2 : w5.cell? ⟨w.heap.size + 1 + 1, 0, none⟩ = some (.slice none 0 0) := cell_of c2
  have f0 : w5.frozen? ⟨w.heap.size, 0, none⟩ = false := free_of c0
  have f1 : w5.frozen? ⟨w.heap.size + 1, 0, none⟩ = false := free_of c1
  have f2 : w5.frozen? ⟨w.heap.size + 1 + 1, 0, none⟩ = false := free_of c2
  have z3 : w5.cell? ⟨w.heap.size + 1 + 1 + 1, 1, none⟩ = some (.int .i64 s.size) := cell_of hr5
  have O5 := Lib.hid o5
  have j1 : ((s.size : Int) < (s.size : Int)) = False := eq_false (by omega)
  have hw5 := o5.size
  have Z0 := Lib.hid c0
  have Z1 := Lib.hid c1
  have Z2 := Lib.hid c2
  clear c0 c1 c2 hr5 o5
  go_wp2_with fail
  go_region
  all_goals
    go_wp2_with fail
    have OF : Only (fun _ => False) w ((((((w5.setCell ⟨w.heap.size, 0, none⟩ (.int .i64 2)).setCell ⟨w.heap.size + 1, 0, none⟩ (.int .u64 n)).setCell ⟨w.heap.size, 0, none⟩ (.int .i64 2)).setCell ⟨w.heap.size + 1, 0, none⟩ (.int .u64 n)).setCell ⟨w.heap.size + 1 + 1, 0, none⟩ (.slice none 0 0)).drew) := by
      have o := Only.own H4.out O5.out (by omega)
      exact (numD.only_setNew (numD.only_setNew (numD.only_setNew (numD.only_setNew (numD.only_setNew o (by omega)) (by omega)) (by omega)) (by omega)) (by omega)).drew
    refine leaves_cons (f := 32) (args := #[.pointer (some ⟨w.heap.size, 0, none⟩), .pointer (some ⟨w.heap.size + 1, 0, none⟩), .pointer (some ⟨w.heap.size + 1 + 1, 0, none⟩)]) (by simp) (by simp [go_sem]) ?_
    refine (catch_idle ⟨w.heap.size, 0, none⟩ ⟨w.heap.size + 1, 0, none⟩ ⟨w.heap.size + 1 + 1, 0, none⟩ _).mono ?_
    rintro e u' w'' ⟨rfl, rfl, rfl⟩
    have q0 := Z0.out
    have q1 := Z1.out
    have q2 := Z2.out
    have g0 := heap_set (o := 0) (v := .int .i64 2) q0
    have g1 := (heap_other (w := w5) (b := w.heap.size) (o := 0) (k := w.heap.size + 1) (v := .int .i64 2) (by omega)).trans q1
    have g2 := (heap_other (w := w5) (b := w.heap.size) (o := 0) (k := w.heap.size + 1 + 1) (v := .int .i64 2) (by omega)).trans q2
    have h0 := (heap_other (w := w5.setCell ⟨w.heap.size, 0, none⟩ (.int .i64 2)) (b := w.heap.size + 1) (o := 0) (k := w.heap.size) (v := .int .u64 n) (by omega)).trans g0
    have h1 := heap_set (o := 0) (v := .int .u64 n) g1
    have h2 := (heap_other (w := w5.setCell ⟨w.heap.size, 0, none⟩ (.int .i64 2)) (b := w.heap.size + 1) (o := 0) (k := w.heap.size + 1 + 1) (v := .int .u64 n) (by omega)).trans g2
    clear q0 q1 q2 g0 g1 g2
    have i0 := heap_set (o := 0) (v := .int .i64 2) h0
    have i1 := (heap_other (b := w.heap.size) (o := 0) (v := .int .i64 2) (by omega)).trans h1
    have i2 := (heap_other (b := w.heap.size) (o := 0) (v := .int .i64 2) (by omega)).trans h2
    clear h0 h1 h2
    have k0 := (heap_other (b := w.heap.size + 1) (o := 0) (v := .int .u64 n) (by omega)).trans i0
    have k1 := heap_set (o := 0) (v := .int .u64 n) i1
    have k2 := (heap_other (b := w.heap.size + 1) (o := 0) (v := .int .u64 n) (by omega)).trans i2
    clear i0 i1 i2
    have l0 := (heap_other (b := w.heap.size + 1 + 1) (o := 0) (v := .slice none 0 0) (by omega)).trans k0
    have l1 := (heap_other (b := w.heap.size + 1 + 1) (o := 0) (v := .slice none 0 0) (by omega)).trans k1
    have l2 := heap_set (o := 0) (v := .slice none 0 0) k2
    clear k0 k1 k2
    generalize ((((((w5.setCell ⟨w.heap.size, 0, none⟩ (.int .i64 2)).setCell ⟨w.heap.size + 1, 0, none⟩ (.int .u64 n)).setCell ⟨w.heap.size, 0, none⟩ (.int .i64 2)).setCell ⟨w.heap.size + 1, 0, none⟩ (.int .u64 n)).setCell ⟨w.heap.size + 1 + 1, 0, none⟩ (.slice none 0 0))) = W9 at *
    have y0 : W9.cell? ⟨w.heap.size, 0, none⟩ = some (.int .i64 2) := (cell_of l0).trans (by simp)
    have y1 : W9.cell? ⟨w.heap.size + 1, 0, none⟩ = some (.int .u64 n) := (cell_of l1).trans (by simp)
    have y2 : W9.cell? ⟨w.heap.size + 1 + 1, 0, none⟩ = some (.slice none 0 0) := (cell_of l2).trans (by simp)
    have HOF := Lib.hid OF
    clear OF l0 l1 l2
    clear T HW H4 B0 B1 B2 O5 Z0 Z1 Z2
    simp [Leaves, settle, results, Try.results30, go_sem, y0, y1, y2]
    exact HOF.out
end Go.Proofs.Ythembojamiagoaa.prsB
