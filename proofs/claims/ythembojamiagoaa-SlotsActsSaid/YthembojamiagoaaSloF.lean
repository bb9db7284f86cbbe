/- The document's slots: Shift, Begun, At, Count. -/
import Derived.Test.YthembojamiagoaaSloD
import Derived.Laws.Rows
namespace Go.Proofs.Ythembojamiagoaa.sloF
open Go.RowKit Go.Lib Go.Proofs.Ythembojamiagoaa.kit Go.Proofs.Ythembojamiagoaa.sloA Go.Proofs.Ythembojamiagoaa.sloB Go.Proofs.Ythembojamiagoaa.sloC Go.Proofs.Ythembojamiagoaa.sloD
set_option linter.unusedVariables false
set_option linter.unusedSimpArgs false

/-- The document's slots as a value. -/
def Tri (q1 q2 q3 : Int) : Value := .agg #[.int .i64 q1, .int .i64 q2, .int .i64 q3]

theorem ref_at1 (q1 q2 q3 : Int) (w : World) : Calls Try.prog 16 #[.agg #[.int .i64 q1, .int .i64 q2, .int .i64 q3], .int .i64 1] w fun e w' => e = .returned (.int .i64 q1) ∧ Only (fun _ => False) w w' := by
  go_enter Try.func16, Try.ntmps16
  go_wp2_with fail
  go_ret
  exact ⟨rfl, by only_close⟩
theorem ref_at2 (q1 q2 q3 : Int) (w : World) : Calls Try.prog 16 #[.agg #[.int .i64 q1, .int .i64 q2, .int .i64 q3], .int .i64 2] w fun e w' => e = .returned (.int .i64 q2) ∧ Only (fun _ => False) w w' := by
  go_enter Try.func16, Try.ntmps16
  go_wp2_with fail
  go_ret
  exact ⟨rfl, by only_close⟩
theorem ref_at3 (q1 q2 q3 : Int) (w : World) : Calls Try.prog 16 #[.agg #[.int .i64 q1, .int .i64 q2, .int .i64 q3], .int .i64 3] w fun e w' => e = .returned (.int .i64 q3) ∧ Only (fun _ => False) w w' := by
  go_enter Try.func16, Try.ntmps16
  go_wp2_with fail
  go_ret
  exact ⟨rfl, by only_close⟩
theorem ref_at0 (q1 q2 q3 : Int) (w : World) : Calls Try.prog 16 #[.agg #[.int .i64 q1, .int .i64 q2, .int .i64 q3], .int .i64 0] w fun e w' => e = .returned (.int .i64 (-1)) ∧ Only (fun _ => False) w w' := by
  go_enter Try.func16, Try.ntmps16
  go_wp2_with fail
  go_ret
  exact ⟨rfl, by only_close⟩
theorem ref_at4 (q1 q2 q3 : Int) (w : World) : Calls Try.prog 16 #[.agg #[.int .i64 q1, .int .i64 q2, .int .i64 q3], .int .i64 4] w fun e w' => e = .returned (.int .i64 (-1)) ∧ Only (fun _ => False) w w' := by
  go_enter Try.func16, Try.ntmps16
  go_wp2_with fail
  go_ret
  exact ⟨rfl, by only_close⟩

theorem ref_shift (q1 q2 q3 p : Int) (w : World) : Calls Try.prog 12 #[.agg #[.int .i64 q1, .int .i64 q2, .int .i64 q3], .int .i64 p] w fun e w' => e = .returned (.agg #[.int .i64 q2, .int .i64 p, .int .i64 (-1)]) ∧ Only (fun _ => False) w w' := by
  go_enter Try.func12, Try.ntmps12
  go_wp2_with fail
  refine bodyPost_ret (results_cell_row (p := 4) (ty := 28) Try.results12 _ _ (w.heap.size + 1) 28 _ (0, 0) _ rfl (by have := heap_alloc_new (w.alloc (.cells #[.int .i64 q1, .int .i64 q2, .int .i64 q3] 28)) (.cells #[.int .i64 q2, .int .i64 p, .int .i64 (-1)] 28); rwa [World.size_alloc] at this) Try.underlying28 rfl (by kernel_rfl)) rfl ⟨rfl, by only_close⟩

theorem ref_begun_next (q1 q2 q3 p : Int) (w : World) (h : 0 ≤ q3) : Calls Try.prog 9 #[.agg #[.int .i64 q1, .int .i64 q2, .int .i64 q3], .int .i64 p] w fun e w' => e = .returned (.agg #[.int .i64 q3, .int .i64 p, .int .i64 (-1)]) ∧ Only (fun _ => False) w w' := by
  have k1 : (0 ≤ q3) = True := eq_true h
  go_enter Try.func9, Try.ntmps9
  go_wp2_with fail
  refine bodyPost_ret (results_cell_row (p := 4) (ty := 28) Try.results9 _ _ (w.heap.size + 1) 28 _ (0, 0) _ rfl (by have := heap_alloc_new (w.alloc (.cells #[.int .i64 q1, .int .i64 q2, .int .i64 q3] 28)) (.cells #[.int .i64 q3, .int .i64 p, .int .i64 (-1)] 28); rwa [World.size_alloc] at this) Try.underlying28 rfl (by kernel_rfl)) rfl ⟨rfl, by only_close⟩

theorem ref_begun_none (q1 q2 q3 p : Int) (w : World) (h : q3 < 0) : Calls Try.prog 9 #[.agg #[.int .i64 q1, .int .i64 q2, .int .i64 q3], .int .i64 p] w fun e w' => e = .returned (.agg #[.int .i64 q2, .int .i64 p, .int .i64 (-1)]) ∧ Only (fun _ => False) w w' := by
  have k1 : (0 ≤ q3) = False := eq_false (by omega)
  have T := Lib.hid ref_shift
  have b1 : ((w.alloc (.cells #[.int .i64 q1, .int .i64 q2, .int .i64 q3] 28)).alloc (.cells #[.int .i64 0, .int .i64 0, .int .i64 0] 28)).heap[w.heap.size + 1]? = some (.cells #[.int .i64 0, .int .i64 0, .int .i64 0] 28 (0, 0)) := by
    have := heap_alloc_new (w.alloc (.cells #[.int .i64 q1, .int .i64 q2, .int .i64 q3] 28)) (.cells #[.int .i64 0, .int .i64 0, .int .i64 0] 28)
    rwa [World.size_alloc] at this
  have O4 : Only (fun _ => False) w ((w.alloc (.cells #[.int .i64 q1, .int .i64 q2, .int .i64 q3] 28)).alloc (.cells #[.int .i64 0, .int .i64 0, .int .i64 0] 28)) := ((Only.refl _ w).alloc _).alloc _
  have B1 := Lib.hid b1
  have H4 := Lib.hid O4
  clear b1 O4
  go_enter Try.func9, Try.ntmps9
  go_wp2_with fail
  with_reducible refine (T.out _ _ _ _ _).mono ?_
  rintro e w1 ⟨rfl, o⟩
  have b := o.keep B1.out id
  have c0 : w1.cell? ⟨w.heap.size + 1, 0, none⟩ = some (.int .i64 0) := cell_of b
  have c1 : w1.cell? ⟨w.heap.size + 1, 1, none⟩ = some (.int .i64 0) := cell_of b
  have c2 : w1.cell? ⟨w.heap.size + 1, 2, none⟩ = some (.int .i64 0) := cell_of b
  have f0 : w1.frozen? ⟨w.heap.size + 1, 0, none⟩ = false := free_of b
  have f1 : w1.frozen? ⟨w.heap.size + 1, 1, none⟩ = false := free_of b
  have f2 : w1.frozen? ⟨w.heap.size + 1, 2, none⟩ = false := free_of b
  have hh := Lib.hid (heap_set (o := 2) (v := .int .i64 (-1)) (heap_set (o := 1) (v := .int .i64 p) (heap_set (o := 0) (v := .int .i64 q2) b)))
  have O1 := Lib.hid (H4.out.trans o)
  clear o b
  go_wp2_with fail
  refine bodyPost_ret (results_cell_row (p := 4) (ty := 28) Try.results9 _ _ (w.heap.size + 1) 28 _ (0, 0) _ rfl hh.out Try.underlying28 rfl (by kernel_rfl)) rfl ⟨rfl, ?_⟩
  exact numD.only_setNew (numD.only_setNew (numD.only_setNew O1.out (by omega)) (by omega)) (by omega)

def has (q : Int) : Int := if 0 ≤ q then 1 else 0
def cn (q1 q2 q3 : Int) : Int := has q1 + has q2 + has q3

set_option maxRecDepth 100000 in
theorem ref_count (q1 q2 q3 : Int) (w : World) : Calls Try.prog 14 #[.agg #[.int .i64 q1, .int .i64 q2, .int .i64 q3]] w fun e w' => e = .returned (.int .i64 (cn q1 q2 q3)) ∧ Only (fun _ => False) w w' := by
  have T1 := Lib.hid (ref_at1 q1 q2 q3)
  have T2 := Lib.hid (ref_at2 q1 q2 q3)
  have T3 := Lib.hid (ref_at3 q1 q2 q3)
  have b0 := heap_alloc_new w (.cells #[.int .i64 q1, .int .i64 q2, .int .i64 q3] 28)
  have B0 := Lib.hid b0
  have O0 := Lib.hid ((Only.refl (fun _ => False) w).alloc (.cells #[.int .i64 q1, .int .i64 q2, .int .i64 q3] 28))
  clear b0
  have hv : ∀ a b c : Int, has q1 = a → has q2 = b → has q3 = c → cn q1 q2 q3 = a + b + c := fun a b c h1 h2 h3 => by rw [cn, h1, h2, h3]
  have hy : ∀ q : Int, 0 ≤ q → has q = 1 := fun q h => if_pos h
  have hn : ∀ q : Int, ¬ 0 ≤ q → has q = 0 := fun q h => if_neg h
  rcases Classical.em (0 ≤ q1) with g1 | g1 <;> rcases Classical.em (0 ≤ q2) with g2 | g2 <;> rcases Classical.em (0 ≤ q3) with g3 | g3
  all_goals
    have V := Lib.hid (hv _ _ _ (by first | exact hy q1 g1 | exact hn q1 g1) (by first | exact hy q2 g2 | exact hn q2 g2) (by first | exact hy q3 g3 | exact hn q3 g3))
    have k1 : (0 ≤ q1) = (if 0 ≤ q1 then True else False) := by simp
    have k2 : (0 ≤ q2) = (if 0 ≤ q2 then True else False) := by simp
    have k3 : (0 ≤ q3) = (if 0 ≤ q3 then True else False) := by simp
    first | rw [if_pos g1] at k1 | rw [if_neg g1] at k1
    first | rw [if_pos g2] at k2 | rw [if_neg g2] at k2
    first | rw [if_pos g3] at k3 | rw [if_neg g3] at k3
    clear hv hy hn g1 g2 g3
    go_enter Try.func14, Try.ntmps14
    go_wp2_with fail
    refine wp_loop_rounds 4 ?_
    rw [rounds_succ]
    go_wp2_with fail
    with_reducible refine (T1.out _).mono ?_
    rintro e w1 ⟨rfl, o⟩
    have b1 := o.keep B0.out id
    have c10 : w1.cell? ⟨w.heap.size, 0, none⟩ = some (.int .i64 q1) := cell_of b1
    have c11 : w1.cell? ⟨w.heap.size, 1, none⟩ = some (.int .i64 q2) := cell_of b1
    have c12 : w1.cell? ⟨w.heap.size, 2, none⟩ = some (.int .i64 q3) := cell_of b1
    have B1 := Lib.hid b1
    have O1 := Lib.hid (O0.out.trans o)
    clear o b1
    go_wp2_with fail
    rw [rounds_succ]
    go_wp2_with fail
    with_reducible refine (T2.out _).mono ?_
    rintro e w2 ⟨rfl, o⟩
    have b1 := o.keep B1.out id
    have c20 : w2.cell? ⟨w.heap.size, 0, none⟩ = some (.int .i64 q1) := cell_of b1
    have c21 : w2.cell? ⟨w.heap.size, 1, none⟩ = some (.int .i64 q2) := cell_of b1
    have c22 : w2.cell? ⟨w.heap.size, 2, none⟩ = some (.int .i64 q3) := cell_of b1
    have B2 := Lib.hid b1
    have O2 := Lib.hid (O1.out.trans o)
    clear o b1
    go_wp2_with fail
    rw [rounds_succ]
    go_wp2_with fail
    with_reducible refine (T3.out _).mono ?_
    rintro e w3 ⟨rfl, o⟩
    have O3 := Lib.hid (O2.out.trans o)
    clear o
    go_wp2_with fail
    rw [rounds_succ]
    go_wp2_with fail
    go_ret
    exact ⟨by rw [V.out]; rfl, O3.out⟩
end Go.Proofs.Ythembojamiagoaa.sloF
