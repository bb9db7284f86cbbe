/- Contracts of packet's look4, look, Read, Trim, Data. -/
import Derived.Test.YtcocmabhbahiaaaPacA
import Derived.Deep.RegionHeld3
namespace Go.Proofs.Ytcocmabhbahiaaa.pacB
open Go.RowKit Go.Lib Go.Proofs.Ytcocmabhbahiaaa.kit Go.Proofs.Ytcocmabhbahiaaa.numA Go.Proofs.Ytcocmabhbahiaaa.numF Go.Proofs.Ytcocmabhbahiaaa.numG Go.Proofs.Ytcocmabhbahiaaa.pacA
set_option linter.unusedVariables false

set_option maxRecDepth 100000 in
set_option maxHeartbeats 2000000 in
theorem look4_any (v : Value) (l : List UInt8) (w : World) (h : By w v l) : Calls Try.prog 85 #[v] w (numA.Told w (lk4 l)) := by
  by_cases h20 : l.length < 20
  · have HR : Hid (lk4 l = .tuple #[form 0 0 0 0 0 0, .int .i64 4]) := (by rw [lk4, if_pos h20] : lk4 l = _)
    obtain ⟨a, cap, rfl, -⟩ := h
    have hlt : (l.length : Int) < 20 := by omega
    clear h20
    go_enter Try.func85, Try.ntmps85
    go_wp2_with fail
    rw [HR.out]
    exact bodyPost_ret (v := .tuple #[form 0 0 0 0 0 0, .int .i64 4]) (by simp [results, Try.results85, go_sem, form]) rfl ⟨rfl, (Only.refl _ w).alloc _⟩
  · obtain ⟨g, o, cap, rfl, hc, hm, hg, hcell⟩ := h.some (by omega)
    have hlt : ¬ ((l.length : Int) < 20) := by omega
    have c0 : w.cell? ⟨g, o, none⟩ = some (.int .u8 ((bt l 0 : Nat) : Int)) := hcell 0 (by omega)
    have c2 := hcell 2 (by omega)
    have c3 := hcell 3 (by omega)
    have b0 := bt_lt l 0
    have b2 := bt_lt l 2
    have b3 := bt_lt l 3
    obtain ⟨x, hx⟩ : ∃ x, x = bt l 0 := ⟨_, rfl⟩
    obtain ⟨p, hp⟩ : ∃ p, p = bt l 2 := ⟨_, rfl⟩
    obtain ⟨q, hq⟩ : ∃ q, q = bt l 3 := ⟨_, rfl⟩
    obtain ⟨bg, hbg⟩ : ∃ bg, bg = 4 * (x % 16) := ⟨_, rfl⟩
    obtain ⟨wh, hwh⟩ : ∃ wh, wh = 256 * p + q := ⟨_, rfl⟩
    have E : lk4 l = if bg < 20 ∨ wh < bg then .tuple #[form 0 0 0 0 0 0, .int .i64 3] else if l.length < wh then .tuple #[form 0 0 0 0 0 0, .int .i64 4] else .tuple #[form 4 (bg : Nat) (wh : Nat) 12 16 4, .int .i64 0] := by
      rw [lk4, if_neg h20, ← hx, ← hp, ← hq, ← hbg, ← hwh]
    rw [← hx] at c0 b0
    rw [← hp] at c2 b2
    rw [← hq] at c3 b3
    have T := fun (W : World) (k0 : W.cell? ⟨g, o + 2, none⟩ = some (.int .u8 (p : Int))) (k1 : W.cell? ⟨g, o + 2 + 1, none⟩ = some (.int .u8 (q : Int))) => two_any g (o + 2) (l.length - 2) (cap - 2) p q W k0 k1 b2 b3 (by omega)
    rw [← hwh] at T
    have hwb : wh ≤ 65535 := by omega
    have hbb : bg ≤ 60 := by omega
    have n0 : (0 : Int) < (l.length : Int) := by omega
    have n2 : (2 : Int) ≤ (l.length : Int) := by omega
    have n2' : (2 : Int) < (cap : Int) := by omega
    have n2'' : ¬ (cap = 2) := by omega
    have x0 : (0 : Int) ≤ (x : Int) := by omega
    have x1 : (x : Int) < 256 := by omega
    have w1 : (x : Int).tmod 16 = (x : Int) % 16 := Int.tmod_eq_emod_of_nonneg (by omega)
    have w2 : IntKind.u8.wrap ((x : Int) % 16) = (x : Int) % 16 := IntWalk.u8_in _ (by omega)
    have w4 : IntKind.i64.wrap ((x : Int) % 16) = (x : Int) % 16 := IntWalk.i64_in _ (by omega)
    have w3 : IntKind.i64.wrap (4 * ((x : Int) % 16)) = (bg : Int) := by rw [IntWalk.i64_in _ (by omega)]; omega
    have c3' : w.cell? ⟨g, o + 2 + 1, none⟩ = some (.int .u8 (q : Int)) := c3
    have e0 := World.new_ne w ⟨g, o, none⟩ c0
    have e2 := World.new_ne w ⟨g, o + 2, none⟩ c2
    have e3 := World.new_ne w ⟨g, o + 2 + 1, none⟩ c3'
    have hgs : g ≠ w.heap.size := by omega
    have hn0 : 0 < l.length := by omega
    have hgs' : ¬ (w.heap.size = g) := by omega
    have hgs1' : ¬ (w.heap.size + 1 = g) := by omega
    have hgs1 : g ≠ w.heap.size + 1 := by omega
    unfold maxLen at hm
    clear hcell hx hp hq hbg hwh h20 h c3
    by_cases a1 : bg < 20
    · have HR : Hid (lk4 l = .tuple #[form 0 0 0 0 0 0, .int .i64 3]) := (by rw [E, if_pos (.inl a1)] : lk4 l = _)
      have t1 : (bg : Int) < 20 := by omega
      clear E a1
      go_enter Try.func85, Try.ntmps85
      go_wp2_with fail
      go_region_held3 (fun w' => w'.cell? ⟨g, o, none⟩ = some (.int .u8 (x : Int)) ∧ w'.cell? ⟨g, o + 2, none⟩ = some (.int .u8 (p : Int)) ∧ w'.cell? ⟨g, o + 2 + 1, none⟩ = some (.int .u8 (q : Int))) (first | go_keep)
        (first | (go_at_call 89; refine (T _ (by simp [*]) (by simp [*])).mono ?_; rintro e w' ⟨rfl, m, rfl⟩))
      all_goals
        go_wp2_with fail
        rw [HR.out]
        exact bodyPost_ret (v := .tuple #[form 0 0 0 0 0 0, .int .i64 3]) (by simp [results, Try.results85, go_sem]) rfl ⟨rfl, by (repeat (first | (with_reducible refine numD.only_setNew ?_ (by omega)) | (with_reducible refine Only.alloc ?_ _) | (with_reducible refine Only.drewN ?_ _) | (with_reducible refine Only.drew ?_) | (with_reducible exact Only.refl _ _)))⟩
    · have t1 : ¬ ((bg : Int) < 20) := by omega
      by_cases a2 : wh < bg
      · have HR : Hid (lk4 l = .tuple #[form 0 0 0 0 0 0, .int .i64 3]) := (by rw [E, if_pos (.inr a2)] : lk4 l = _)
        have t2 : (wh : Int) < (bg : Int) := by omega
        clear E a1 a2
        go_enter Try.func85, Try.ntmps85
        go_wp2_with fail
        go_region_held3 (fun w' => w'.cell? ⟨g, o, none⟩ = some (.int .u8 (x : Int)) ∧ w'.cell? ⟨g, o + 2, none⟩ = some (.int .u8 (p : Int)) ∧ w'.cell? ⟨g, o + 2 + 1, none⟩ = some (.int .u8 (q : Int))) (first | go_keep)
          (first | (go_at_call 89; refine (T _ (by simp [*]) (by simp [*])).mono ?_; rintro e w' ⟨rfl, m, rfl⟩))
        all_goals
          go_wp2_with fail
          rw [HR.out]
          exact bodyPost_ret (v := .tuple #[form 0 0 0 0 0 0, .int .i64 3]) (by simp [results, Try.results85, go_sem]) rfl ⟨rfl, by (repeat (first | (with_reducible refine numD.only_setNew ?_ (by omega)) | (with_reducible refine Only.alloc ?_ _) | (with_reducible refine Only.drewN ?_ _) | (with_reducible refine Only.drew ?_) | (with_reducible exact Only.refl _ _)))⟩
      · have t2 : ¬ ((wh : Int) < (bg : Int)) := by omega
        by_cases a3 : l.length < wh
        · have HR : Hid (lk4 l = .tuple #[form 0 0 0 0 0 0, .int .i64 4]) := (by rw [E, if_neg (by omega), if_pos a3] : lk4 l = _)
          have WI := fun (a : Option Addr) (W : World) => within_no 4 (bg : Int) (wh : Int) 12 16 4 a l.length cap W (by omega)
          clear E a1 a2 a3
          go_enter Try.func85, Try.ntmps85
          go_wp2_with fail
          go_region_held3 (fun w' => w'.cell? ⟨g, o, none⟩ = some (.int .u8 (x : Int)) ∧ w'.cell? ⟨g, o + 2, none⟩ = some (.int .u8 (p : Int)) ∧ w'.cell? ⟨g, o + 2 + 1, none⟩ = some (.int .u8 (q : Int))) (first | go_keep)
            (first | (go_at_call 89; refine (T _ (by simp [*]) (by simp [*])).mono ?_; rintro e w' ⟨rfl, m, rfl⟩))
          all_goals
            go_wp2_with fail
            refine (WI _ _).mono ?_
            rintro e w3 ⟨rfl, o3⟩
            have hz : w3.heap[w.heap.size]? = some (.cells zeros 100) := (o3.block w.heap.size (by simp; omega) id).trans (by (try simp only [World.heap_drewN]); repeat (first | (with_reducible refine (heap_other (by omega)).trans ?_) | (simp only [World.heap_drewN]) | (with_reducible exact heap_alloc_new w _) | (with_reducible refine (Below.heap_alloc _ _ _ (by simp)).trans ?_)))
            have HO : Hid (Only (fun _ => False) w w3) := Only.trans (by (repeat (first | (with_reducible refine numD.only_setNew ?_ (by omega)) | (with_reducible refine Only.alloc ?_ _) | (with_reducible refine Only.drewN ?_ _) | (with_reducible refine Only.drew ?_) | (with_reducible exact Only.refl _ _)))) o3
            obtain ⟨z0, z1, z2, z3, z4, z5, f0, f1, f2, f3, f4, f5⟩ := six hz
            clear hz o3
            go_wp2_with fail
            rw [HR.out]
            exact bodyPost_ret (v := .tuple #[form 0 0 0 0 0 0, .int .i64 4]) (by simp [results, Try.results85, go_sem, z0, z1, z2, z3, z4, z5]) rfl ⟨rfl, only_set6 HO.out (Nat.le_refl _) _ _ _ _ _ _⟩
        · have HR : Hid (lk4 l = .tuple #[form 4 (bg : Nat) (wh : Nat) 12 16 4, .int .i64 0]) := (by rw [E, if_neg (by omega), if_neg a3] : lk4 l = _)
          have WI := fun (a : Option Addr) (W : World) => within_ok 4 (bg : Int) (wh : Int) 12 16 4 a l.length cap W (by omega)
          clear E a1 a2 a3
          go_enter Try.func85, Try.ntmps85
          go_wp2_with fail
          go_region_held3 (fun w' => w'.cell? ⟨g, o, none⟩ = some (.int .u8 (x : Int)) ∧ w'.cell? ⟨g, o + 2, none⟩ = some (.int .u8 (p : Int)) ∧ w'.cell? ⟨g, o + 2 + 1, none⟩ = some (.int .u8 (q : Int))) (first | go_keep)
            (first | (go_at_call 89; refine (T _ (by simp [*]) (by simp [*])).mono ?_; rintro e w' ⟨rfl, m, rfl⟩))
          all_goals
            go_wp2_with fail
            refine (WI _ _).mono ?_
            rintro e w3 ⟨rfl, o3⟩
            have hz : w3.heap[w.heap.size]? = some (.cells zeros 100) := (o3.block w.heap.size (by simp; omega) id).trans (by (try simp only [World.heap_drewN]); repeat (first | (with_reducible refine (heap_other (by omega)).trans ?_) | (simp only [World.heap_drewN]) | (with_reducible exact heap_alloc_new w _) | (with_reducible refine (Below.heap_alloc _ _ _ (by simp)).trans ?_)))
            have HO : Hid (Only (fun _ => False) w w3) := Only.trans (by (repeat (first | (with_reducible refine numD.only_setNew ?_ (by omega)) | (with_reducible refine Only.alloc ?_ _) | (with_reducible refine Only.drewN ?_ _) | (with_reducible refine Only.drew ?_) | (with_reducible exact Only.refl _ _)))) o3
            obtain ⟨z0, z1, z2, z3, z4, z5, f0, f1, f2, f3, f4, f5⟩ := six hz
            clear hz o3
            go_wp2_with fail
            rw [HR.out]
            exact bodyPost_ret (v := .tuple #[form 4 (bg : Int) (wh : Int) 12 16 4, .int .i64 0]) (by simp [results, Try.results85, go_sem, z0, z1, z2, z3, z4, z5]) rfl ⟨rfl, only_set6 HO.out (Nat.le_refl _) _ _ _ _ _ _⟩
end Go.Proofs.Ytcocmabhbahiaaa.pacB
