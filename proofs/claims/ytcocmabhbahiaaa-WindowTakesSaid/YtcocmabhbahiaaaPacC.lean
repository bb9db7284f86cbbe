/- Contracts of packet's look, Trim and Data. -/
import Derived.Test.YtcocmabhbahiaaaPacB
namespace Go.Proofs.Ytcocmabhbahiaaa.pacC
open Go.RowKit Go.Lib Go.Proofs.Ytcocmabhbahiaaa.kit Go.Proofs.Ytcocmabhbahiaaa.numA Go.Proofs.Ytcocmabhbahiaaa.numF Go.Proofs.Ytcocmabhbahiaaa.numG Go.Proofs.Ytcocmabhbahiaaa.pacA
set_option linter.unusedVariables false

theorem lk4_form (l : List UInt8) : ∃ a b c d e f k : Int, lk4 l = .tuple #[form a b c d e f, .int .i64 k] := by
  unfold lk4
  split
  · exact ⟨_, _, _, _, _, _, _, rfl⟩
  · split
    · exact ⟨_, _, _, _, _, _, _, rfl⟩
    · split
      · exact ⟨_, _, _, _, _, _, _, rfl⟩
      · exact ⟨_, _, _, _, _, _, _, rfl⟩

theorem lk6_form (l : List UInt8) : ∃ a b c d e f k : Int, lk6 l = .tuple #[form a b c d e f, .int .i64 k] := by
  unfold lk6
  split
  · exact ⟨_, _, _, _, _, _, _, rfl⟩
  · split
    · exact ⟨_, _, _, _, _, _, _, rfl⟩
    · exact ⟨_, _, _, _, _, _, _, rfl⟩

set_option maxRecDepth 100000 in
set_option maxHeartbeats 1000000 in
theorem look_any (v : Value) (l : List UInt8) (w : World) (h : By w v l) : Calls Try.prog 73 #[v] w (numA.Told w (lk l)) := by
  by_cases h0 : l = []
  · have E : lk l = .tuple #[form 0 0 0 0 0 0, .int .i64 4] := by rw [lk, if_pos h0]
    subst h0
    obtain ⟨a, cap, rfl, -⟩ := h
    rw [E]
    clear E
    go_enter Try.func73, Try.ntmps73
    go_wp2_with fail
    exact bodyPost_ret (v := .tuple #[form 0 0 0 0 0 0, .int .i64 4]) (by simp [results, Try.results73, go_sem, form]) rfl ⟨rfl, by (repeat (first | (with_reducible refine numD.only_setNew ?_ (by omega)) | (with_reducible refine Only.alloc ?_ _) | (with_reducible refine Only.drewN ?_ _) | (with_reducible refine Only.drew ?_) | (with_reducible exact Only.refl _ _)))⟩
  · have hlen : 0 < l.length := List.length_pos_iff.2 h0
    obtain ⟨g, o, cap, rfl, hc, hm, hg, hcell⟩ := h.some hlen
    have c0 : w.cell? ⟨g, o, none⟩ = some (.int .u8 ((bt l 0 : Nat) : Int)) := hcell 0 hlen
    have b0 := bt_lt l 0
    obtain ⟨x, hx⟩ : ∃ x, x = bt l 0 := ⟨_, rfl⟩
    have E0 : lk l = if x / 16 = 4 then lk4 l else if x / 16 = 6 then lk6 l else .tuple #[form 0 0 0 0 0 0, .int .i64 3] := by rw [lk, if_neg h0, ← hx]
    rw [← hx] at c0 b0
    have n0 : (0 : Int) < (l.length : Int) := by omega
    have n1 : ((l.length : Int) == 0) = false := beq_eq_false_iff_ne.2 (by omega)
    have x0 : (0 : Int) ≤ (x : Int) := by omega
    have x1 : (x : Int) < 256 := by omega
    have hgs : g ≠ w.heap.size := by omega
    unfold maxLen at hm
    clear hx h0
    by_cases q4 : x / 16 = 4
    · have E : lk l = lk4 l := by rw [E0, if_pos q4]
      have t4 : ((x : Int) / 16 == 4) = true := by rw [beq_iff_eq]; omega
      clear E0 q4
      obtain ⟨k1, k2, k3, k4, k5, k6, kc, hk⟩ := lk4_form l
      have L := fun (W : World) (k : By W (.slice (some ⟨g, o, none⟩) l.length cap) l) => pacB.look4_any _ l W k
      rw [E, hk]
      rw [hk] at L
      have HB := Lib.hid h
      clear E hk h hcell
      go_enter Try.func73, Try.ntmps73
      go_wp2_with fail
      refine (L _ (HB.out.keep ((Only.refl _ w).alloc _))).mono ?_
      rintro e w3 ⟨rfl, o3⟩
      have hz : w3.heap[w.heap.size]? = some (.cells zeros 100) := (o3.block w.heap.size (by simp) id).trans (heap_alloc_new w _)
      have HO : Hid (Only (fun _ => False) w w3) := Only.trans ((Only.refl _ w).alloc _) o3
      obtain ⟨z0, z1, z2, z3, z4, z5, f0, f1, f2, f3, f4, f5⟩ := six hz
      clear hz o3
      go_wp2_with fail
      exact bodyPost_ret (v := .tuple #[form k1 k2 k3 k4 k5 k6, .int .i64 kc]) (by simp [results, Try.results73, go_sem, z0, z1, z2, z3, z4, z5]) rfl ⟨rfl, only_set6 HO.out (Nat.le_refl _) _ _ _ _ _ _⟩
    · have t4 : ((x : Int) / 16 == 4) = false := beq_eq_false_iff_ne.2 (by omega)
      by_cases q6 : x / 16 = 6
      · have E : lk l = lk6 l := by rw [E0, if_neg q4, if_pos q6]
        have t6 : ((x : Int) / 16 == 6) = true := by rw [beq_iff_eq]; omega
        clear E0 q4 q6
        obtain ⟨k1, k2, k3, k4, k5, k6, kc, hk⟩ := lk6_form l
        have L := fun (W : World) (k : By W (.slice (some ⟨g, o, none⟩) l.length cap) l) => look6_any _ l W k
        rw [E, hk]
        rw [hk] at L
        have HB := Lib.hid h
        clear E hk h hcell
        go_enter Try.func73, Try.ntmps73
        go_wp2_with fail
        refine (L _ (HB.out.keep ((Only.refl _ w).alloc _))).mono ?_
        rintro e w3 ⟨rfl, o3⟩
        have hz : w3.heap[w.heap.size]? = some (.cells zeros 100) := (o3.block w.heap.size (by simp) id).trans (heap_alloc_new w _)
        have HO : Hid (Only (fun _ => False) w w3) := Only.trans ((Only.refl _ w).alloc _) o3
        obtain ⟨z0, z1, z2, z3, z4, z5, f0, f1, f2, f3, f4, f5⟩ := six hz
        clear hz o3
        go_wp2_with fail
        exact bodyPost_ret (v := .tuple #[form k1 k2 k3 k4 k5 k6, .int .i64 kc]) (by simp [results, Try.results73, go_sem, z0, z1, z2, z3, z4, z5]) rfl ⟨rfl, only_set6 HO.out (Nat.le_refl _) _ _ _ _ _ _⟩
      · have E : lk l = .tuple #[form 0 0 0 0 0 0, .int .i64 3] := by rw [E0, if_neg q4, if_neg q6]
        have t6 : ((x : Int) / 16 == 6) = false := beq_eq_false_iff_ne.2 (by omega)
        rw [E]
        clear E0 E q4 q6 h hcell
        go_enter Try.func73, Try.ntmps73
        go_wp2_with fail
        exact bodyPost_ret (v := .tuple #[form 0 0 0 0 0 0, .int .i64 3]) (by simp [results, Try.results73, go_sem, form]) rfl ⟨rfl, by (repeat (first | (with_reducible refine numD.only_setNew ?_ (by omega)) | (with_reducible refine Only.alloc ?_ _) | (with_reducible refine Only.drewN ?_ _) | (with_reducible refine Only.drew ?_) | (with_reducible exact Only.refl _ _)))⟩
end Go.Proofs.Ytcocmabhbahiaaa.pacC
