/- Contract of the document's Read of a packet. -/
import Derived.Test.YtcocmabhbahiaaaPacE
import Derived.RegionTactic
namespace Go.Proofs.Ytcocmabhbahiaaa.pacF
open Go.RowKit Go.Lib Go.Proofs.Ytcocmabhbahiaaa.kit Go.Proofs.Ytcocmabhbahiaaa.numA Go.Proofs.Ytcocmabhbahiaaa.numF Go.Proofs.Ytcocmabhbahiaaa.numG Go.Proofs.Ytcocmabhbahiaaa.pacA Go.Proofs.Ytcocmabhbahiaaa.pacD Go.Proofs.Ytcocmabhbahiaaa.pacE
set_option linter.unusedVariables false

/-- What a text of bytes that is no packet has for an answer. -/
def No (c : Int) : Value := .tuple #[header 0 (.slice none 0 0) (.slice none 0 0) 0, .int .i64 0, .int .i64 c]

set_option maxRecDepth 100000 in
theorem ref_empty (x : Value) (w : World) (h : By w x []) : Calls Try.prog 28 #[x] w (numA.Told w (No 4)) := by
  obtain ⟨a, cap, rfl, -⟩ := h
  go_enter Try.func28, Try.ntmps28
  go_wp2_with fail
  exact bodyPost_ret (v := .tuple #[header 0 (.slice none 0 0) (.slice none 0 0) 0, .int .i64 0, .int .i64 4]) (by simp [results, Try.results28, go_sem]) rfl ⟨rfl, by (repeat (first | (with_reducible refine numD.only_setNew ?_ (by omega)) | (with_reducible refine Only.alloc ?_ _) | (with_reducible refine Only.drewN ?_ _) | (with_reducible refine Only.drew ?_) | (with_reducible exact Only.refl _ _)))⟩

set_option maxRecDepth 100000 in
theorem ref_form (x : Value) (l : List UInt8) (w : World) (h : By w x l) (hl : 0 < l.length) (h4 : ¬ bt l 0 / 16 = 4) (h6 : ¬ bt l 0 / 16 = 6) : Calls Try.prog 28 #[x] w (numA.Told w (No 3)) := by
  obtain ⟨g, o, cap, rfl, hc, hm, hg, hcell⟩ := h.some hl
  have c0 : w.cell? ⟨g, o, none⟩ = some (.int .u8 ((bt l 0 : Nat) : Int)) := hcell 0 hl
  have b0 := bt_lt l 0
  generalize bt l 0 = x at *
  have n0 : (0 : Int) < (l.length : Int) := by omega
  have n1 : ((l.length : Int) == 0) = false := beq_eq_false_iff_ne.2 (by omega)
  have x0 : (0 : Int) ≤ (x : Int) := by omega
  have x1 : (x : Int) < 256 := by omega
  have t4 : ((x : Int) / 16 != 4) = true := by rw [bne_iff_ne]; omega
  have t6 : ((x : Int) / 16 != 6) = true := by rw [bne_iff_ne]; omega
  have hgs : g ≠ w.heap.size := by omega
  have hgs1 : g ≠ w.heap.size + 1 := by omega
  unfold maxLen at hm
  clear hcell h h4 h6
  go_enter Try.func28, Try.ntmps28
  go_wp2_with fail
  exact bodyPost_ret (v := .tuple #[header 0 (.slice none 0 0) (.slice none 0 0) 0, .int .i64 0, .int .i64 3]) (by simp [results, Try.results28, go_sem]) rfl ⟨rfl, by (repeat (first | (with_reducible refine numD.only_setNew ?_ (by omega)) | (with_reducible refine Only.alloc ?_ _) | (with_reducible refine Only.drewN ?_ _) | (with_reducible refine Only.drew ?_) | (with_reducible exact Only.refl _ _)))⟩

set_option maxRecDepth 100000 in
theorem ref6_short (x : Value) (l : List UInt8) (w : World) (h : By w x l) (hl : 0 < l.length) (h6 : bt l 0 / 16 = 6) (hs : l.length < 40) : Calls Try.prog 28 #[x] w (numA.Told w (No 4)) := by
  obtain ⟨g, o, cap, rfl, hc, hm, hg, hcell⟩ := h.some hl
  have c0 : w.cell? ⟨g, o, none⟩ = some (.int .u8 ((bt l 0 : Nat) : Int)) := hcell 0 hl
  have b0 := bt_lt l 0
  generalize bt l 0 = x at *
  have n0 : (0 : Int) < (l.length : Int) := by omega
  have n1 : ((l.length : Int) == 0) = false := beq_eq_false_iff_ne.2 (by omega)
  have n40 : (l.length : Int) < 40 := by omega
  have x0 : (0 : Int) ≤ (x : Int) := by omega
  have x1 : (x : Int) < 256 := by omega
  have t4 : ((x : Int) / 16 != 4) = true := by rw [bne_iff_ne]; omega
  have t6 : ((x : Int) / 16 != 6) = false := by rw [show (x : Int) / 16 = 6 by omega]; rfl
  have t6' : ((x : Int) / 16 == 6) = true := by rw [beq_iff_eq]; omega
  have hgs : g ≠ w.heap.size := by omega
  have hgs1 : g ≠ w.heap.size + 1 := by omega
  unfold maxLen at hm
  clear hcell h h6 hs
  go_enter Try.func28, Try.ntmps28
  go_wp2_with fail
  exact bodyPost_ret (v := .tuple #[header 0 (.slice none 0 0) (.slice none 0 0) 0, .int .i64 0, .int .i64 4]) (by simp [results, Try.results28, go_sem]) rfl ⟨rfl, by (repeat (first | (with_reducible refine numD.only_setNew ?_ (by omega)) | (with_reducible refine Only.alloc ?_ _) | (with_reducible refine Only.drewN ?_ _) | (with_reducible refine Only.drew ?_) | (with_reducible exact Only.refl _ _)))⟩

set_option maxRecDepth 100000 in
theorem ref6_long (x : Value) (l : List UInt8) (w : World) (h : By w x l) (h6 : bt l 0 / 16 = 6) (hs : 40 ≤ l.length) (hw : l.length < 40 + (256 * bt l 4 + bt l 5)) : Calls Try.prog 28 #[x] w (numA.Told w (No 4)) := by
  obtain ⟨g, o, cap, rfl, hc, hm, hg, hcell⟩ := h.some (by omega)
  have c0 : w.cell? ⟨g, o, none⟩ = some (.int .u8 ((bt l 0 : Nat) : Int)) := hcell 0 (by omega)
  have c4 := hcell 4 (by omega)
  have c5 := hcell 5 (by omega)
  have b0 := bt_lt l 0
  have b4 := bt_lt l 4
  have b5 := bt_lt l 5
  generalize bt l 0 = x at *
  generalize bt l 4 = p at *
  generalize bt l 5 = q at *
  have n0 : (0 : Int) < (l.length : Int) := by omega
  have n4 : (4 : Int) < (l.length : Int) := by omega
  have n5 : (5 : Int) < (l.length : Int) := by omega
  have n1 : ((l.length : Int) == 0) = false := beq_eq_false_iff_ne.2 (by omega)
  have n40 : ¬ ((l.length : Int) < 40) := by omega
  have x0 : (0 : Int) ≤ (x : Int) := by omega
  have x1 : (x : Int) < 256 := by omega
  have p1 : (p : Int) < 256 := by omega
  have q1 : (q : Int) < 256 := by omega
  have t4 : ((x : Int) / 16 != 4) = true := by rw [bne_iff_ne]; omega
  have t6 : ((x : Int) / 16 != 6) = false := by rw [show (x : Int) / 16 = 6 by omega]; rfl
  have t6' : ((x : Int) / 16 == 6) = true := by rw [beq_iff_eq]; omega
  have hgs : g ≠ w.heap.size := by omega
  have hgs1 : g ≠ w.heap.size + 1 := by omega
  have hn0 : 0 < l.length := by omega
  have tw : (l.length : Int) < 40 + 256 * (p : Int) + (q : Int) := by omega
  unfold maxLen at hm
  clear hcell h h6 hs hw
  go_enter Try.func28, Try.ntmps28
  go_wp2_with fail
  go_quiet (fail)
  go_wp2_with fail
  exact bodyPost_ret (v := .tuple #[header 0 (.slice none 0 0) (.slice none 0 0) 0, .int .i64 0, .int .i64 4]) (by simp [results, Try.results28, go_sem]) rfl ⟨rfl, by (repeat (first | (with_reducible refine numD.only_setNew ?_ (by omega)) | (with_reducible refine Only.alloc ?_ _) | (with_reducible refine Only.drewN ?_ _) | (with_reducible refine Only.drew ?_) | (with_reducible exact Only.refl _ _)))⟩

/-- A header, as the document's function answers it. -/
def RefHead (w : World) (v n : Int) (ls ld : List UInt8) (b : Int) (e : Ending) (w' : World) : Prop := ∃ s d, e = .returned (.tuple #[header v s d n, .int .i64 b, .int .i64 0]) ∧ By w' s ls ∧ By w' d ld ∧ Only (fun _ => False) w w'

set_option maxRecDepth 100000 in
set_option maxHeartbeats 1000000 in
theorem ref4_short (x : Value) (l : List UInt8) (w : World) (h : By w x l) (hl : 0 < l.length) (h4 : bt l 0 / 16 = 4) (hs : l.length < 20) : Calls Try.prog 28 #[x] w (numA.Told w (No 4)) := by
  obtain ⟨g, o, cap, rfl, hc, hm, hg, hcell⟩ := h.some hl
  have c0 : w.cell? ⟨g, o, none⟩ = some (.int .u8 ((bt l 0 : Nat) : Int)) := hcell 0 hl
  have b0 := bt_lt l 0
  generalize bt l 0 = x at *
  have n0 : (0 : Int) < (l.length : Int) := by omega
  have n1 : ((l.length : Int) == 0) = false := beq_eq_false_iff_ne.2 (by omega)
  have n20 : (l.length : Int) < 20 := by omega
  have x0 : (0 : Int) ≤ (x : Int) := by omega
  have x1 : (x : Int) < 256 := by omega
  have t4 : ((x : Int) / 16 != 4) = false := by rw [show (x : Int) / 16 = 4 by omega]; rfl
  have t6 : ((x : Int) / 16 == 6) = false := beq_eq_false_iff_ne.2 (by omega)
  have hgs : g ≠ w.heap.size := by omega
  have hgs1 : g ≠ w.heap.size + 1 := by omega
  unfold maxLen at hm
  clear hcell h h4 hs
  go_enter Try.func28, Try.ntmps28
  go_wp2_with fail
  exact bodyPost_ret (v := .tuple #[header 0 (.slice none 0 0) (.slice none 0 0) 0, .int .i64 0, .int .i64 4]) (by simp [results, Try.results28, go_sem]) rfl ⟨rfl, by (repeat (first | (with_reducible refine numD.only_setNew ?_ (by omega)) | (with_reducible refine Only.alloc ?_ _) | (with_reducible refine Only.drewN ?_ _) | (with_reducible refine Only.drew ?_) | (with_reducible exact Only.refl _ _)))⟩

set_option maxRecDepth 100000 in
set_option maxHeartbeats 1000000 in
theorem ref4_form1 (x : Value) (l : List UInt8) (w : World) (h : By w x l) (h4 : bt l 0 / 16 = 4) (hs : 20 ≤ l.length) (hw : 4 * (bt l 0 % 16) < 20) : Calls Try.prog 28 #[x] w (numA.Told w (No 3)) := by
  obtain ⟨g, o, cap, rfl, hc, hm, hg, hcell⟩ := h.some (by omega)
  have c0 : w.cell? ⟨g, o, none⟩ = some (.int .u8 ((bt l 0 : Nat) : Int)) := hcell 0 (by omega)
  have c4 := hcell 2 (by omega)
  have c5 := hcell 3 (by omega)
  have b0 := bt_lt l 0
  have b4 := bt_lt l 2
  have b5 := bt_lt l 3
  generalize bt l 0 = x at *
  generalize bt l 2 = p at *
  generalize bt l 3 = q at *
  have n0 : (0 : Int) < (l.length : Int) := by omega
  have n4 : (2 : Int) < (l.length : Int) := by omega
  have n5 : (3 : Int) < (l.length : Int) := by omega
  have n1 : ((l.length : Int) == 0) = false := beq_eq_false_iff_ne.2 (by omega)
  have n20 : ¬ ((l.length : Int) < 20) := by omega
  have x0 : (0 : Int) ≤ (x : Int) := by omega
  have x1 : (x : Int) < 256 := by omega
  have p1 : (p : Int) < 256 := by omega
  have q1 : (q : Int) < 256 := by omega
  have t4 : ((x : Int) / 16 != 4) = false := by rw [show (x : Int) / 16 = 4 by omega]; rfl
  have t6 : ((x : Int) / 16 == 6) = false := beq_eq_false_iff_ne.2 (by omega)
  have w1 : (x : Int).tmod 16 = (x : Int) % 16 := Int.tmod_eq_emod_of_nonneg (by omega)
  have hgs : g ≠ w.heap.size := by omega
  have hgs1 : g ≠ w.heap.size + 1 := by omega
  have hn0 : 0 < l.length := by omega
  have u1 : 4 * ((x : Int) % 16) < 20 := by omega
  unfold maxLen at hm
  clear hcell h h4 hs hw
  go_enter Try.func28, Try.ntmps28
  go_wp2_with fail
  go_quiet (fail)
  go_wp2_with fail
  exact bodyPost_ret (v := .tuple #[header 0 (.slice none 0 0) (.slice none 0 0) 0, .int .i64 0, .int .i64 3]) (by simp [results, Try.results28, go_sem]) rfl ⟨rfl, by (repeat (first | (with_reducible refine numD.only_setNew ?_ (by omega)) | (with_reducible refine Only.alloc ?_ _) | (with_reducible refine Only.drewN ?_ _) | (with_reducible refine Only.drew ?_) | (with_reducible exact Only.refl _ _)))⟩

set_option maxRecDepth 100000 in
set_option maxHeartbeats 1000000 in
theorem ref4_form2 (x : Value) (l : List UInt8) (w : World) (h : By w x l) (h4 : bt l 0 / 16 = 4) (hs : 20 ≤ l.length) (hw0 : ¬ 4 * (bt l 0 % 16) < 20) (hw : 256 * bt l 2 + bt l 3 < 4 * (bt l 0 % 16)) : Calls Try.prog 28 #[x] w (numA.Told w (No 3)) := by
  obtain ⟨g, o, cap, rfl, hc, hm, hg, hcell⟩ := h.some (by omega)
  have c0 : w.cell? ⟨g, o, none⟩ = some (.int .u8 ((bt l 0 : Nat) : Int)) := hcell 0 (by omega)
  have c4 := hcell 2 (by omega)
  have c5 := hcell 3 (by omega)
  have b0 := bt_lt l 0
  have b4 := bt_lt l 2
  have b5 := bt_lt l 3
  generalize bt l 0 = x at *
  generalize bt l 2 = p at *
  generalize bt l 3 = q at *
  have n0 : (0 : Int) < (l.length : Int) := by omega
  have n4 : (2 : Int) < (l.length : Int) := by omega
  have n5 : (3 : Int) < (l.length : Int) := by omega
  have n1 : ((l.length : Int) == 0) = false := beq_eq_false_iff_ne.2 (by omega)
  have n20 : ¬ ((l.length : Int) < 20) := by omega
  have x0 : (0 : Int) ≤ (x : Int) := by omega
  have x1 : (x : Int) < 256 := by omega
  have p1 : (p : Int) < 256 := by omega
  have q1 : (q : Int) < 256 := by omega
  have t4 : ((x : Int) / 16 != 4) = false := by rw [show (x : Int) / 16 = 4 by omega]; rfl
  have t6 : ((x : Int) / 16 == 6) = false := beq_eq_false_iff_ne.2 (by omega)
  have w1 : (x : Int).tmod 16 = (x : Int) % 16 := Int.tmod_eq_emod_of_nonneg (by omega)
  have hgs : g ≠ w.heap.size := by omega
  have hgs1 : g ≠ w.heap.size + 1 := by omega
  have hn0 : 0 < l.length := by omega
  have u1 : ¬ (4 * ((x : Int) % 16) < 20) := by omega
  have u2 : 256 * (p : Int) + (q : Int) < 4 * ((x : Int) % 16) := by omega
  unfold maxLen at hm
  clear hcell h h4 hs hw hw0
  go_enter Try.func28, Try.ntmps28
  go_wp2_with fail
  go_quiet (fail)
  go_wp2_with fail
  exact bodyPost_ret (v := .tuple #[header 0 (.slice none 0 0) (.slice none 0 0) 0, .int .i64 0, .int .i64 3]) (by simp [results, Try.results28, go_sem]) rfl ⟨rfl, by (repeat (first | (with_reducible refine numD.only_setNew ?_ (by omega)) | (with_reducible refine Only.alloc ?_ _) | (with_reducible refine Only.drewN ?_ _) | (with_reducible refine Only.drew ?_) | (with_reducible exact Only.refl _ _)))⟩

set_option maxRecDepth 100000 in
set_option maxHeartbeats 1000000 in
theorem ref4_long1 (x : Value) (l : List UInt8) (w : World) (h : By w x l) (h4 : bt l 0 / 16 = 4) (hs : 20 ≤ l.length) (hw0 : ¬ 4 * (bt l 0 % 16) < 20) (hw1 : ¬ 256 * bt l 2 + bt l 3 < 4 * (bt l 0 % 16)) (hw : l.length < 4 * (bt l 0 % 16)) : Calls Try.prog 28 #[x] w (numA.Told w (No 4)) := by
  obtain ⟨g, o, cap, rfl, hc, hm, hg, hcell⟩ := h.some (by omega)
  have c0 : w.cell? ⟨g, o, none⟩ = some (.int .u8 ((bt l 0 : Nat) : Int)) := hcell 0 (by omega)
  have c4 := hcell 2 (by omega)
  have c5 := hcell 3 (by omega)
  have b0 := bt_lt l 0
  have b4 := bt_lt l 2
  have b5 := bt_lt l 3
  generalize bt l 0 = x at *
  generalize bt l 2 = p at *
  generalize bt l 3 = q at *
  have n0 : (0 : Int) < (l.length : Int) := by omega
  have n4 : (2 : Int) < (l.length : Int) := by omega
  have n5 : (3 : Int) < (l.length : Int) := by omega
  have n1 : ((l.length : Int) == 0) = false := beq_eq_false_iff_ne.2 (by omega)
  have n20 : ¬ ((l.length : Int) < 20) := by omega
  have x0 : (0 : Int) ≤ (x : Int) := by omega
  have x1 : (x : Int) < 256 := by omega
  have p1 : (p : Int) < 256 := by omega
  have q1 : (q : Int) < 256 := by omega
  have t4 : ((x : Int) / 16 != 4) = false := by rw [show (x : Int) / 16 = 4 by omega]; rfl
  have t6 : ((x : Int) / 16 == 6) = false := beq_eq_false_iff_ne.2 (by omega)
  have w1 : (x : Int).tmod 16 = (x : Int) % 16 := Int.tmod_eq_emod_of_nonneg (by omega)
  have hgs : g ≠ w.heap.size := by omega
  have hgs1 : g ≠ w.heap.size + 1 := by omega
  have hn0 : 0 < l.length := by omega
  have u1 : ¬ (4 * ((x : Int) % 16) < 20) := by omega
  have u2 : ¬ (256 * (p : Int) + (q : Int) < 4 * ((x : Int) % 16)) := by omega
  have u3 : (l.length : Int) < 4 * ((x : Int) % 16) := by omega
  unfold maxLen at hm
  clear hcell h h4 hs hw hw0 hw1
  go_enter Try.func28, Try.ntmps28
  go_wp2_with fail
  go_quiet (fail)
  go_wp2_with fail
  exact bodyPost_ret (v := .tuple #[header 0 (.slice none 0 0) (.slice none 0 0) 0, .int .i64 0, .int .i64 4]) (by simp [results, Try.results28, go_sem]) rfl ⟨rfl, by (repeat (first | (with_reducible refine numD.only_setNew ?_ (by omega)) | (with_reducible refine Only.alloc ?_ _) | (with_reducible refine Only.drewN ?_ _) | (with_reducible refine Only.drew ?_) | (with_reducible exact Only.refl _ _)))⟩

set_option maxRecDepth 100000 in
set_option maxHeartbeats 1000000 in
theorem ref4_long2 (x : Value) (l : List UInt8) (w : World) (h : By w x l) (h4 : bt l 0 / 16 = 4) (hs : 20 ≤ l.length) (hw0 : ¬ 4 * (bt l 0 % 16) < 20) (hw1 : ¬ 256 * bt l 2 + bt l 3 < 4 * (bt l 0 % 16)) (hw2 : ¬ l.length < 4 * (bt l 0 % 16)) (hw : l.length < 256 * bt l 2 + bt l 3) : Calls Try.prog 28 #[x] w (numA.Told w (No 4)) := by
  obtain ⟨g, o, cap, rfl, hc, hm, hg, hcell⟩ := h.some (by omega)
  have c0 : w.cell? ⟨g, o, none⟩ = some (.int .u8 ((bt l 0 : Nat) : Int)) := hcell 0 (by omega)
  have c4 := hcell 2 (by omega)
  have c5 := hcell 3 (by omega)
  have b0 := bt_lt l 0
  have b4 := bt_lt l 2
  have b5 := bt_lt l 3
  generalize bt l 0 = x at *
  generalize bt l 2 = p at *
  generalize bt l 3 = q at *
  have n0 : (0 : Int) < (l.length : Int) := by omega
  have n4 : (2 : Int) < (l.length : Int) := by omega
  have n5 : (3 : Int) < (l.length : Int) := by omega
  have n1 : ((l.length : Int) == 0) = false := beq_eq_false_iff_ne.2 (by omega)
  have n20 : ¬ ((l.length : Int) < 20) := by omega
  have x0 : (0 : Int) ≤ (x : Int) := by omega
  have x1 : (x : Int) < 256 := by omega
  have p1 : (p : Int) < 256 := by omega
  have q1 : (q : Int) < 256 := by omega
  have t4 : ((x : Int) / 16 != 4) = false := by rw [show (x : Int) / 16 = 4 by omega]; rfl
  have t6 : ((x : Int) / 16 == 6) = false := beq_eq_false_iff_ne.2 (by omega)
  have w1 : (x : Int).tmod 16 = (x : Int) % 16 := Int.tmod_eq_emod_of_nonneg (by omega)
  have hgs : g ≠ w.heap.size := by omega
  have hgs1 : g ≠ w.heap.size + 1 := by omega
  have hn0 : 0 < l.length := by omega
  have u1 : ¬ (4 * ((x : Int) % 16) < 20) := by omega
  have u2 : ¬ (256 * (p : Int) + (q : Int) < 4 * ((x : Int) % 16)) := by omega
  have u3 : ¬ ((l.length : Int) < 4 * ((x : Int) % 16)) := by omega
  have u4 : (l.length : Int) < 256 * (p : Int) + (q : Int) := by omega
  unfold maxLen at hm
  clear hcell h h4 hs hw hw0 hw1 hw2
  go_enter Try.func28, Try.ntmps28
  go_wp2_with fail
  go_quiet (fail)
  go_wp2_with fail
  exact bodyPost_ret (v := .tuple #[header 0 (.slice none 0 0) (.slice none 0 0) 0, .int .i64 0, .int .i64 4]) (by simp [results, Try.results28, go_sem]) rfl ⟨rfl, by (repeat (first | (with_reducible refine numD.only_setNew ?_ (by omega)) | (with_reducible refine Only.alloc ?_ _) | (with_reducible refine Only.drewN ?_ _) | (with_reducible refine Only.drew ?_) | (with_reducible exact Only.refl _ _)))⟩

set_option maxRecDepth 100000 in
set_option maxHeartbeats 1000000 in
theorem ref6_ok (x : Value) (l : List UInt8) (w : World) (h : By w x l) (h6 : bt l 0 / 16 = 6) (hs : 40 ≤ l.length) (hw : ¬ l.length < 40 + (256 * bt l 4 + bt l 5)) : Calls Try.prog 28 #[x] w (RefHead w 6 (40 + (256 * bt l 4 + bt l 5) : Nat) ((l.take 24).drop 8) ((l.take 40).drop 24) 40) := by
  obtain ⟨g, o, cap, rfl, hc, hm, hg, hcell⟩ := h.some (by omega)
  have SS := h.sub 8 24 (by omega) (by omega)
  have SD := h.sub 24 40 (by omega) (by omega)
  have HS := Lib.hid SS
  have HD := Lib.hid SD
  clear SS SD
  have m8 : (8 : Int) < (cap : Int) := by omega
  have m24 : (24 : Int) < (cap : Int) := by omega
  have m40 : (40 : Int) ≤ (cap : Int) := by omega
  have m8' : ¬ (cap = 8) := by omega
  have m24' : ¬ (cap = 24) := by omega
  have c0 : w.cell? ⟨g, o, none⟩ = some (.int .u8 ((bt l 0 : Nat) : Int)) := hcell 0 (by omega)
  have c4 := hcell 4 (by omega)
  have c5 := hcell 5 (by omega)
  have b0 := bt_lt l 0
  have b4 := bt_lt l 4
  have b5 := bt_lt l 5
  generalize bt l 0 = x at *
  generalize bt l 4 = p at *
  generalize bt l 5 = q at *
  have n0 : (0 : Int) < (l.length : Int) := by omega
  have n4 : (4 : Int) < (l.length : Int) := by omega
  have n5 : (5 : Int) < (l.length : Int) := by omega
  have n1 : ((l.length : Int) == 0) = false := beq_eq_false_iff_ne.2 (by omega)
  have n40 : ¬ ((l.length : Int) < 40) := by omega
  have x0 : (0 : Int) ≤ (x : Int) := by omega
  have x1 : (x : Int) < 256 := by omega
  have p1 : (p : Int) < 256 := by omega
  have q1 : (q : Int) < 256 := by omega
  have t4 : ((x : Int) / 16 != 4) = true := by rw [bne_iff_ne]; omega
  have t6 : ((x : Int) / 16 != 6) = false := by rw [show (x : Int) / 16 = 6 by omega]; rfl
  have t6' : ((x : Int) / 16 == 6) = true := by rw [beq_iff_eq]; omega
  have hgs : g ≠ w.heap.size := by omega
  have hgs1 : g ≠ w.heap.size + 1 := by omega
  have hn0 : 0 < l.length := by omega
  have tw : ¬ ((l.length : Int) < 40 + 256 * (p : Int) + (q : Int)) := by omega
  unfold maxLen at hm
  clear hcell h h6 hs hw
  go_enter Try.func28, Try.ntmps28
  go_wp2_with fail
  go_quiet (fail)
  go_wp2_with fail
  go_region
  all_goals
    go_wp2_with fail
    refine bodyPost_ret (v := .tuple #[header 6 (.slice (some ⟨g, o + 8, none⟩) 16 (cap - 8)) (.slice (some ⟨g, o + 24, none⟩) 16 (cap - 24)) (40 + 256 * (p : Int) + (q : Int)), .int .i64 (40), .int .i64 0]) (by simp [results, Try.results28, go_sem]) rfl ?_
    refine (fun k => ⟨_, _, ?_, HS.out.keep k, HD.out.keep k, k⟩ : Only (fun _ => False) w _ → _) ?_
    · (repeat (first | (with_reducible refine numD.only_setNew ?_ (by omega)) | (with_reducible refine Only.alloc ?_ _) | (with_reducible refine Only.drewN ?_ _) | (with_reducible refine Only.drew ?_) | (with_reducible exact Only.refl _ _)))
    · rw [show ((40 + (256 * p + q) : Nat) : Int) = 40 + 256 * (p : Int) + (q : Int) by omega]

set_option maxRecDepth 100000 in
set_option maxHeartbeats 1000000 in
theorem ref4_ok (x : Value) (l : List UInt8) (w : World) (h : By w x l) (h4 : bt l 0 / 16 = 4) (hs : 20 ≤ l.length) (hw0 : ¬ 4 * (bt l 0 % 16) < 20) (hw1 : ¬ 256 * bt l 2 + bt l 3 < 4 * (bt l 0 % 16)) (hw2 : ¬ l.length < 4 * (bt l 0 % 16)) (hw : ¬ l.length < 256 * bt l 2 + bt l 3) : Calls Try.prog 28 #[x] w (RefHead w 4 (256 * bt l 2 + bt l 3 : Nat) ((l.take 16).drop 12) ((l.take 20).drop 16) (4 * (bt l 0 % 16) : Nat)) := by
  obtain ⟨g, o, cap, rfl, hc, hm, hg, hcell⟩ := h.some (by omega)
  have SS := h.sub 12 16 (by omega) (by omega)
  have SD := h.sub 16 20 (by omega) (by omega)
  have HS := Lib.hid SS
  have HD := Lib.hid SD
  clear SS SD
  have m8 : (12 : Int) < (cap : Int) := by omega
  have m24 : (16 : Int) < (cap : Int) := by omega
  have m40 : (20 : Int) ≤ (cap : Int) := by omega
  have m8' : ¬ (cap = 12) := by omega
  have m24' : ¬ (cap = 16) := by omega
  have c0 : w.cell? ⟨g, o, none⟩ = some (.int .u8 ((bt l 0 : Nat) : Int)) := hcell 0 (by omega)
  have c4 := hcell 2 (by omega)
  have c5 := hcell 3 (by omega)
  have b0 := bt_lt l 0
  have b4 := bt_lt l 2
  have b5 := bt_lt l 3
  generalize bt l 0 = x at *
  generalize bt l 2 = p at *
  generalize bt l 3 = q at *
  have n0 : (0 : Int) < (l.length : Int) := by omega
  have n4 : (2 : Int) < (l.length : Int) := by omega
  have n5 : (3 : Int) < (l.length : Int) := by omega
  have n1 : ((l.length : Int) == 0) = false := beq_eq_false_iff_ne.2 (by omega)
  have n20 : ¬ ((l.length : Int) < 20) := by omega
  have x0 : (0 : Int) ≤ (x : Int) := by omega
  have x1 : (x : Int) < 256 := by omega
  have p1 : (p : Int) < 256 := by omega
  have q1 : (q : Int) < 256 := by omega
  have t4 : ((x : Int) / 16 != 4) = false := by rw [show (x : Int) / 16 = 4 by omega]; rfl
  have t6 : ((x : Int) / 16 == 6) = false := beq_eq_false_iff_ne.2 (by omega)
  have w1 : (x : Int).tmod 16 = (x : Int) % 16 := Int.tmod_eq_emod_of_nonneg (by omega)
  have hgs : g ≠ w.heap.size := by omega
  have hgs1 : g ≠ w.heap.size + 1 := by omega
  have hn0 : 0 < l.length := by omega
  have u1 : ¬ (4 * ((x : Int) % 16) < 20) := by omega
  have u2 : ¬ (256 * (p : Int) + (q : Int) < 4 * ((x : Int) % 16)) := by omega
  have u3 : ¬ ((l.length : Int) < 4 * ((x : Int) % 16)) := by omega
  have u4 : ¬ ((l.length : Int) < 256 * (p : Int) + (q : Int)) := by omega
  unfold maxLen at hm
  clear hcell h h4 hs hw hw0 hw1 hw2
  go_enter Try.func28, Try.ntmps28
  go_wp2_with fail
  go_quiet (fail)
  go_wp2_with fail
  go_region
  all_goals
    go_wp2_with fail
    refine bodyPost_ret (v := .tuple #[header 4 (.slice (some ⟨g, o + 12, none⟩) 4 (cap - 12)) (.slice (some ⟨g, o + 16, none⟩) 4 (cap - 16)) (256 * (p : Int) + (q : Int)), .int .i64 (4 * ((x : Int) % 16)), .int .i64 0]) (by simp [results, Try.results28, go_sem]) rfl ?_
    refine (fun k => ⟨_, _, ?_, HS.out.keep k, HD.out.keep k, k⟩ : Only (fun _ => False) w _ → _) ?_
    · (repeat (first | (with_reducible refine numD.only_setNew ?_ (by omega)) | (with_reducible refine Only.alloc ?_ _) | (with_reducible refine Only.drewN ?_ _) | (with_reducible refine Only.drew ?_) | (with_reducible exact Only.refl _ _)))
    · rw [show ((256 * p + q : Nat) : Int) = 256 * (p : Int) + (q : Int) by omega, show ((4 * (x % 16) : Nat) : Int) = 4 * ((x : Int) % 16) by omega]
end Go.Proofs.Ytcocmabhbahiaaa.pacF
