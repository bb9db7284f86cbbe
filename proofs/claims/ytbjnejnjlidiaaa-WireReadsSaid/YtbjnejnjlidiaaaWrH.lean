/- Wire: the document's With. -/
import Derived.Test.YtbjnejnjlidiaaaWrE
import Derived.Deep.Cut
import Derived.Test.YtbjnejnjlidiaaaTrE
import Derived.Deep.RegionHeld3
namespace Go.Proofs.Ytbjnejnjlidiaaa.wrH
open Go.RowKit kit numA numC numD tmA tmD trA trB prR prS prW prX wrA wrB wrC wrD wrE wrF wrG
set_option linter.unusedVariables false
set_option linter.unusedSimpArgs false

/-- What of a message is of its kind. -/
def keepM (m : Msg) : Msg := if m.k = 1 then ⟨1, m.s, 0, 0, fun i => if i = 4 ∨ i = 5 ∨ i = 6 ∨ i = 11 ∨ i = 12 then m.t i else ⟨#[]⟩⟩ else if m.k = 2 then ⟨2, m.s, m.r, 0, fun i => if i = 4 ∨ i = 7 ∨ i = 11 ∨ i = 12 then m.t i else ⟨#[]⟩⟩ else if m.k = 3 then ⟨3, 0, m.r, 0, fun i => if i = 8 ∨ i = 9 then m.t i else ⟨#[]⟩⟩ else ⟨4, 0, m.r, m.c, fun i => if i = 10 then m.t i else ⟨#[]⟩⟩

theorem set13 {W : World} {B : Nat} (hb : W.heap[B]? = some (.cells (zeroM 0).row 61 (0, 0))) (v0 v1 v2 v3 v4 v5 v6 v7 v8 v9 v10 v11 v12 : Value) : (((((((((((((W.setCell ⟨B, 0, none⟩ v0).setCell ⟨B, 1, none⟩ v1).setCell ⟨B, 2, none⟩ v2).setCell ⟨B, 3, none⟩ v3).setCell ⟨B, 4, none⟩ v4).setCell ⟨B, 5, none⟩ v5).setCell ⟨B, 6, none⟩ v6).setCell ⟨B, 7, none⟩ v7).setCell ⟨B, 8, none⟩ v8).setCell ⟨B, 9, none⟩ v9).setCell ⟨B, 10, none⟩ v10).setCell ⟨B, 11, none⟩ v11).setCell ⟨B, 12, none⟩ v12).heap[B]? = some (.cells #[v0, v1, v2, v3, v4, v5, v6, v7, v8, v9, v10, v11, v12] 61 (0, 0)) := by
  have h0 := heap_set (o := 0) (v := v0) hb
  have h1 := heap_set (o := 1) (v := v1) h0
  have h2 := heap_set (o := 2) (v := v2) h1
  have h3 := heap_set (o := 3) (v := v3) h2
  have h4 := heap_set (o := 4) (v := v4) h3
  have h5 := heap_set (o := 5) (v := v5) h4
  have h6 := heap_set (o := 6) (v := v6) h5
  have h7 := heap_set (o := 7) (v := v7) h6
  have h8 := heap_set (o := 8) (v := v8) h7
  have h9 := heap_set (o := 9) (v := v9) h8
  have h10 := heap_set (o := 10) (v := v10) h9
  have h11 := heap_set (o := 11) (v := v11) h10
  have h12 := heap_set (o := 12) (v := v12) h11
  refine h12.trans ?_
  simp [Msg.row, zeroM]

theorem only13 {S : Nat → Prop} {a W : World} {B : Nat} (h : Only S a W) (hb : S B) (v0 v1 v2 v3 v4 v5 v6 v7 v8 v9 v10 v11 v12 : Value) : Only S a (((((((((((((W.setCell ⟨B, 0, none⟩ v0).setCell ⟨B, 1, none⟩ v1).setCell ⟨B, 2, none⟩ v2).setCell ⟨B, 3, none⟩ v3).setCell ⟨B, 4, none⟩ v4).setCell ⟨B, 5, none⟩ v5).setCell ⟨B, 6, none⟩ v6).setCell ⟨B, 7, none⟩ v7).setCell ⟨B, 8, none⟩ v8).setCell ⟨B, 9, none⟩ v9).setCell ⟨B, 10, none⟩ v10).setCell ⟨B, 11, none⟩ v11).setCell ⟨B, 12, none⟩ v12) := by
  have h0 := Only.set (b := B) (o := 0) (v := v0) h hb
  have h1 := Only.set (b := B) (o := 1) (v := v1) h0 hb
  have h2 := Only.set (b := B) (o := 2) (v := v2) h1 hb
  have h3 := Only.set (b := B) (o := 3) (v := v3) h2 hb
  have h4 := Only.set (b := B) (o := 4) (v := v4) h3 hb
  have h5 := Only.set (b := B) (o := 5) (v := v5) h4 hb
  have h6 := Only.set (b := B) (o := 6) (v := v6) h5 hb
  have h7 := Only.set (b := B) (o := 7) (v := v7) h6 hb
  have h8 := Only.set (b := B) (o := 8) (v := v8) h7 hb
  have h9 := Only.set (b := B) (o := 9) (v := v9) h8 hb
  have h10 := Only.set (b := B) (o := 10) (v := v10) h9 hb
  have h11 := Only.set (b := B) (o := 11) (v := v11) h10 hb
  have h12 := Only.set (b := B) (o := 12) (v := v12) h11 hb
  exact h12

set_option maxRecDepth 100000 in
set_option maxHeartbeats 1600000 in
theorem with_1 (m : Msg) (w : World) (g o c : Nat) (hg : g < w.heap.size) (hc : ∀ i, i < 5 → w.cell? ⟨g, o + i, none⟩ = some (.string ([m.t 4, m.t 5, m.t 6, m.t 11, m.t 12].getD i ⟨#[]⟩))) : Calls Try.prog 74 #[.int .i64 1, .int .u32 m.s, .int .u32 m.r, .int .u64 m.c, .slice (some ⟨g, o, none⟩) 5 c] w (fun e w' => Only (fun _ => False) w w' ∧ e = .returned (.agg #[.int .i64 1, .int .u32 m.s, .int .u32 0, .int .u64 0, .string (m.t 4), .string (m.t 5), .string (m.t 6), .string ⟨#[]⟩, .string ⟨#[]⟩, .string ⟨#[]⟩, .string ⟨#[]⟩, .string (m.t 11), .string (m.t 12)])) := by
  obtain ⟨W, hW⟩ : ∃ W, W = w.alloc (.cells (zeroM 0).row 61) := ⟨_, rfl⟩
  have y0 : (w.alloc (.cells (zeroM 0).row 61)).cell? ⟨g, o, none⟩ = some (.string (m.t 4)) := (World.cell?_of_block (w := w) (a := ⟨g, o, none⟩) (Below.heap_alloc _ _ _ hg)).trans (hc 0 (by decide))
  have y1 : (w.alloc (.cells (zeroM 0).row 61)).cell? ⟨g, o + 1, none⟩ = some (.string (m.t 5)) := (World.cell?_of_block (w := w) (a := ⟨g, o + 1, none⟩) (Below.heap_alloc _ _ _ hg)).trans (hc 1 (by decide))
  have y2 : (w.alloc (.cells (zeroM 0).row 61)).cell? ⟨g, o + 2, none⟩ = some (.string (m.t 6)) := (World.cell?_of_block (w := w) (a := ⟨g, o + 2, none⟩) (Below.heap_alloc _ _ _ hg)).trans (hc 2 (by decide))
  have y3 : (w.alloc (.cells (zeroM 0).row 61)).cell? ⟨g, o + 3, none⟩ = some (.string (m.t 11)) := (World.cell?_of_block (w := w) (a := ⟨g, o + 3, none⟩) (Below.heap_alloc _ _ _ hg)).trans (hc 3 (by decide))
  have y4 : (w.alloc (.cells (zeroM 0).row 61)).cell? ⟨g, o + 4, none⟩ = some (.string (m.t 12)) := (World.cell?_of_block (w := w) (a := ⟨g, o + 4, none⟩) (Below.heap_alloc _ _ _ hg)).trans (hc 4 (by decide))
  rw [← hW] at y0 y1 y2 y3 y4
  have OW := Lib.hid (show Only (fun _ => False) w W from by rw [hW]; exact (Only.refl _ w).alloc _)
  have HB := Lib.hid (show W.heap[w.heap.size]? = some (.cells (zeroM 0).row 61 (0, 0)) from by rw [hW]; exact heap_alloc_new w _)
  have hW' := hW
  simp only [Msg.row, zeroM] at hW'
  obtain ⟨B, hB⟩ : ∃ B, B = w.heap.size := ⟨_, rfl⟩
  have HBE := Lib.hid hB
  rw [← hB] at HB
  clear hc hg hW
  have fB0 : W.frozen? ⟨B, 0, none⟩ = false := free_of HB.out
  have qB0 : W.cell? ⟨B, 0, none⟩ = some (.int .i64 0) := cell_of HB.out
  have fB1 : W.frozen? ⟨B, 1, none⟩ = false := free_of HB.out
  have qB1 : W.cell? ⟨B, 1, none⟩ = some (.int .u32 0) := cell_of HB.out
  have fB2 : W.frozen? ⟨B, 2, none⟩ = false := free_of HB.out
  have qB2 : W.cell? ⟨B, 2, none⟩ = some (.int .u32 0) := cell_of HB.out
  have fB3 : W.frozen? ⟨B, 3, none⟩ = false := free_of HB.out
  have qB3 : W.cell? ⟨B, 3, none⟩ = some (.int .u64 0) := cell_of HB.out
  have fB4 : W.frozen? ⟨B, 4, none⟩ = false := free_of HB.out
  have qB4 : W.cell? ⟨B, 4, none⟩ = some (.string ⟨#[]⟩) := cell_of HB.out
  have fB5 : W.frozen? ⟨B, 5, none⟩ = false := free_of HB.out
  have qB5 : W.cell? ⟨B, 5, none⟩ = some (.string ⟨#[]⟩) := cell_of HB.out
  have fB6 : W.frozen? ⟨B, 6, none⟩ = false := free_of HB.out
  have qB6 : W.cell? ⟨B, 6, none⟩ = some (.string ⟨#[]⟩) := cell_of HB.out
  have fB7 : W.frozen? ⟨B, 7, none⟩ = false := free_of HB.out
  have qB7 : W.cell? ⟨B, 7, none⟩ = some (.string ⟨#[]⟩) := cell_of HB.out
  have fB8 : W.frozen? ⟨B, 8, none⟩ = false := free_of HB.out
  have qB8 : W.cell? ⟨B, 8, none⟩ = some (.string ⟨#[]⟩) := cell_of HB.out
  have fB9 : W.frozen? ⟨B, 9, none⟩ = false := free_of HB.out
  have qB9 : W.cell? ⟨B, 9, none⟩ = some (.string ⟨#[]⟩) := cell_of HB.out
  have fB10 : W.frozen? ⟨B, 10, none⟩ = false := free_of HB.out
  have qB10 : W.cell? ⟨B, 10, none⟩ = some (.string ⟨#[]⟩) := cell_of HB.out
  have fB11 : W.frozen? ⟨B, 11, none⟩ = false := free_of HB.out
  have qB11 : W.cell? ⟨B, 11, none⟩ = some (.string ⟨#[]⟩) := cell_of HB.out
  have fB12 : W.frozen? ⟨B, 12, none⟩ = false := free_of HB.out
  have qB12 : W.cell? ⟨B, 12, none⟩ = some (.string ⟨#[]⟩) := cell_of HB.out
  go_enter Try.func74, Try.ntmps74
  go_wp2_with fail
  rw [← hW', ← hB]
  clear hW' hB
  go_region
  have HZ := Lib.hid (set13 HB.out (.int .i64 1) (.int .u32 m.s) (.int .u32 0) (.int .u64 0) (.string (m.t 4)) (.string (m.t 5)) (.string (m.t 6)) (.string ⟨#[]⟩) (.string ⟨#[]⟩) (.string ⟨#[]⟩) (.string ⟨#[]⟩) (.string (m.t 11)) (.string (m.t 12)))
  have OZ := Lib.hid (only13 (S := fun k => w.heap.size ≤ k) (B := B) (OW.out.mono fun _ h => h.elim) (Nat.le_of_eq HBE.out.symm) (.int .i64 1) (.int .u32 m.s) (.int .u32 0) (.int .u64 0) (.string (m.t 4)) (.string (m.t 5)) (.string (m.t 6)) (.string ⟨#[]⟩) (.string ⟨#[]⟩) (.string ⟨#[]⟩) (.string ⟨#[]⟩) (.string (m.t 11)) (.string (m.t 12)))
  clear fB0 qB0 fB1 qB1 fB2 qB2 fB3 qB3 fB4 qB4 fB5 qB5 fB6 qB6 fB7 qB7 fB8 qB8 fB9 qB9 fB10 qB10 fB11 qB11 fB12 qB12 y0 y1 y2 y3 y4
  generalize (((((((((((((W.setCell ⟨B, 0, none⟩ (.int .i64 1)).setCell ⟨B, 1, none⟩ (.int .u32 m.s)).setCell ⟨B, 2, none⟩ (.int .u32 0)).setCell ⟨B, 3, none⟩ (.int .u64 0)).setCell ⟨B, 4, none⟩ (.string (m.t 4))).setCell ⟨B, 5, none⟩ (.string (m.t 5))).setCell ⟨B, 6, none⟩ (.string (m.t 6))).setCell ⟨B, 7, none⟩ (.string ⟨#[]⟩)).setCell ⟨B, 8, none⟩ (.string ⟨#[]⟩)).setCell ⟨B, 9, none⟩ (.string ⟨#[]⟩)).setCell ⟨B, 10, none⟩ (.string ⟨#[]⟩)).setCell ⟨B, 11, none⟩ (.string (m.t 11))).setCell ⟨B, 12, none⟩ (.string (m.t 12))) = Z at HZ OZ ⊢
  have HD := Lib.hid (show Z.drew.heap[B]? = _ from HZ.out)
  have OD := Lib.hid (OZ.out.drew)
  go_wp2_with fail
  exact bodyPost_ret (results_cell_row (p := 10) (ty := 61) Try.results74 _ _ B 61 _ (0, 0) _ rfl HD.out Try.underlying61 rfl (by kernel_rfl)) rfl ⟨Only.old OD.out, rfl⟩

set_option maxRecDepth 100000 in
set_option maxHeartbeats 1600000 in
theorem with_2 (m : Msg) (w : World) (g o c : Nat) (hg : g < w.heap.size) (hc : ∀ i, i < 4 → w.cell? ⟨g, o + i, none⟩ = some (.string ([m.t 4, m.t 7, m.t 11, m.t 12].getD i ⟨#[]⟩))) : Calls Try.prog 74 #[.int .i64 2, .int .u32 m.s, .int .u32 m.r, .int .u64 m.c, .slice (some ⟨g, o, none⟩) 4 c] w (fun e w' => Only (fun _ => False) w w' ∧ e = .returned (.agg #[.int .i64 2, .int .u32 m.s, .int .u32 m.r, .int .u64 0, .string (m.t 4), .string ⟨#[]⟩, .string ⟨#[]⟩, .string (m.t 7), .string ⟨#[]⟩, .string ⟨#[]⟩, .string ⟨#[]⟩, .string (m.t 11), .string (m.t 12)])) := by
  obtain ⟨W, hW⟩ : ∃ W, W = w.alloc (.cells (zeroM 0).row 61) := ⟨_, rfl⟩
  have y0 : (w.alloc (.cells (zeroM 0).row 61)).cell? ⟨g, o, none⟩ = some (.string (m.t 4)) := (World.cell?_of_block (w := w) (a := ⟨g, o, none⟩) (Below.heap_alloc _ _ _ hg)).trans (hc 0 (by decide))
  have y1 : (w.alloc (.cells (zeroM 0).row 61)).cell? ⟨g, o + 1, none⟩ = some (.string (m.t 7)) := (World.cell?_of_block (w := w) (a := ⟨g, o + 1, none⟩) (Below.heap_alloc _ _ _ hg)).trans (hc 1 (by decide))
  have y2 : (w.alloc (.cells (zeroM 0).row 61)).cell? ⟨g, o + 2, none⟩ = some (.string (m.t 11)) := (World.cell?_of_block (w := w) (a := ⟨g, o + 2, none⟩) (Below.heap_alloc _ _ _ hg)).trans (hc 2 (by decide))
  have y3 : (w.alloc (.cells (zeroM 0).row 61)).cell? ⟨g, o + 3, none⟩ = some (.string (m.t 12)) := (World.cell?_of_block (w := w) (a := ⟨g, o + 3, none⟩) (Below.heap_alloc _ _ _ hg)).trans (hc 3 (by decide))
  rw [← hW] at y0 y1 y2 y3
  have OW := Lib.hid (show Only (fun _ => False) w W from by rw [hW]; exact (Only.refl _ w).alloc _)
  have HB := Lib.hid (show W.heap[w.heap.size]? = some (.cells (zeroM 0).row 61 (0, 0)) from by rw [hW]; exact heap_alloc_new w _)
  have hW' := hW
  simp only [Msg.row, zeroM] at hW'
  obtain ⟨B, hB⟩ : ∃ B, B = w.heap.size := ⟨_, rfl⟩
  have HBE := Lib.hid hB
  rw [← hB] at HB
  clear hc hg hW
  have fB0 : W.frozen? ⟨B, 0, none⟩ = false := free_of HB.out
  have qB0 : W.cell? ⟨B, 0, none⟩ = some (.int .i64 0) := cell_of HB.out
  have fB1 : W.frozen? ⟨B, 1, none⟩ = false := free_of HB.out
  have qB1 : W.cell? ⟨B, 1, none⟩ = some (.int .u32 0) := cell_of HB.out
  have fB2 : W.frozen? ⟨B, 2, none⟩ = false := free_of HB.out
  have qB2 : W.cell? ⟨B, 2, none⟩ = some (.int .u32 0) := cell_of HB.out
  have fB3 : W.frozen? ⟨B, 3, none⟩ = false := free_of HB.out
  have qB3 : W.cell? ⟨B, 3, none⟩ = some (.int .u64 0) := cell_of HB.out
  have fB4 : W.frozen? ⟨B, 4, none⟩ = false := free_of HB.out
  have qB4 : W.cell? ⟨B, 4, none⟩ = some (.string ⟨#[]⟩) := cell_of HB.out
  have fB5 : W.frozen? ⟨B, 5, none⟩ = false := free_of HB.out
  have qB5 : W.cell? ⟨B, 5, none⟩ = some (.string ⟨#[]⟩) := cell_of HB.out
  have fB6 : W.frozen? ⟨B, 6, none⟩ = false := free_of HB.out
  have qB6 : W.cell? ⟨B, 6, none⟩ = some (.string ⟨#[]⟩) := cell_of HB.out
  have fB7 : W.frozen? ⟨B, 7, none⟩ = false := free_of HB.out
  have qB7 : W.cell? ⟨B, 7, none⟩ = some (.string ⟨#[]⟩) := cell_of HB.out
  have fB8 : W.frozen? ⟨B, 8, none⟩ = false := free_of HB.out
  have qB8 : W.cell? ⟨B, 8, none⟩ = some (.string ⟨#[]⟩) := cell_of HB.out
  have fB9 : W.frozen? ⟨B, 9, none⟩ = false := free_of HB.out
  have qB9 : W.cell? ⟨B, 9, none⟩ = some (.string ⟨#[]⟩) := cell_of HB.out
  have fB10 : W.frozen? ⟨B, 10, none⟩ = false := free_of HB.out
  have qB10 : W.cell? ⟨B, 10, none⟩ = some (.string ⟨#[]⟩) := cell_of HB.out
  have fB11 : W.frozen? ⟨B, 11, none⟩ = false := free_of HB.out
  have qB11 : W.cell? ⟨B, 11, none⟩ = some (.string ⟨#[]⟩) := cell_of HB.out
  have fB12 : W.frozen? ⟨B, 12, none⟩ = false := free_of HB.out
  have qB12 : W.cell? ⟨B, 12, none⟩ = some (.string ⟨#[]⟩) := cell_of HB.out
  go_enter Try.func74, Try.ntmps74
  go_wp2_with fail
  rw [← hW', ← hB]
  clear hW' hB
  go_region
  have HZ := Lib.hid (set13 HB.out (.int .i64 2) (.int .u32 m.s) (.int .u32 m.r) (.int .u64 0) (.string (m.t 4)) (.string ⟨#[]⟩) (.string ⟨#[]⟩) (.string (m.t 7)) (.string ⟨#[]⟩) (.string ⟨#[]⟩) (.string ⟨#[]⟩) (.string (m.t 11)) (.string (m.t 12)))
  have OZ := Lib.hid (only13 (S := fun k => w.heap.size ≤ k) (B := B) (OW.out.mono fun _ h => h.elim) (Nat.le_of_eq HBE.out.symm) (.int .i64 2) (.int .u32 m.s) (.int .u32 m.r) (.int .u64 0) (.string (m.t 4)) (.string ⟨#[]⟩) (.string ⟨#[]⟩) (.string (m.t 7)) (.string ⟨#[]⟩) (.string ⟨#[]⟩) (.string ⟨#[]⟩) (.string (m.t 11)) (.string (m.t 12)))
  clear fB0 qB0 fB1 qB1 fB2 qB2 fB3 qB3 fB4 qB4 fB5 qB5 fB6 qB6 fB7 qB7 fB8 qB8 fB9 qB9 fB10 qB10 fB11 qB11 fB12 qB12 y0 y1 y2 y3
  generalize (((((((((((((W.setCell ⟨B, 0, none⟩ (.int .i64 2)).setCell ⟨B, 1, none⟩ (.int .u32 m.s)).setCell ⟨B, 2, none⟩ (.int .u32 m.r)).setCell ⟨B, 3, none⟩ (.int .u64 0)).setCell ⟨B, 4, none⟩ (.string (m.t 4))).setCell ⟨B, 5, none⟩ (.string ⟨#[]⟩)).setCell ⟨B, 6, none⟩ (.string ⟨#[]⟩)).setCell ⟨B, 7, none⟩ (.string (m.t 7))).setCell ⟨B, 8, none⟩ (.string ⟨#[]⟩)).setCell ⟨B, 9, none⟩ (.string ⟨#[]⟩)).setCell ⟨B, 10, none⟩ (.string ⟨#[]⟩)).setCell ⟨B, 11, none⟩ (.string (m.t 11))).setCell ⟨B, 12, none⟩ (.string (m.t 12))) = Z at HZ OZ ⊢
  have HD := Lib.hid (show Z.drew.heap[B]? = _ from HZ.out)
  have OD := Lib.hid (OZ.out.drew)
  go_wp2_with fail
  exact bodyPost_ret (results_cell_row (p := 10) (ty := 61) Try.results74 _ _ B 61 _ (0, 0) _ rfl HD.out Try.underlying61 rfl (by kernel_rfl)) rfl ⟨Only.old OD.out, rfl⟩

set_option maxRecDepth 100000 in
set_option maxHeartbeats 1600000 in
theorem with_3 (m : Msg) (w : World) (g o c : Nat) (hg : g < w.heap.size) (hc : ∀ i, i < 2 → w.cell? ⟨g, o + i, none⟩ = some (.string ([m.t 8, m.t 9].getD i ⟨#[]⟩))) : Calls Try.prog 74 #[.int .i64 3, .int .u32 m.s, .int .u32 m.r, .int .u64 m.c, .slice (some ⟨g, o, none⟩) 2 c] w (fun e w' => Only (fun _ => False) w w' ∧ e = .returned (.agg #[.int .i64 3, .int .u32 0, .int .u32 m.r, .int .u64 0, .string ⟨#[]⟩, .string ⟨#[]⟩, .string ⟨#[]⟩, .string ⟨#[]⟩, .string (m.t 8), .string (m.t 9), .string ⟨#[]⟩, .string ⟨#[]⟩, .string ⟨#[]⟩])) := by
  obtain ⟨W, hW⟩ : ∃ W, W = w.alloc (.cells (zeroM 0).row 61) := ⟨_, rfl⟩
  have y0 : (w.alloc (.cells (zeroM 0).row 61)).cell? ⟨g, o, none⟩ = some (.string (m.t 8)) := (World.cell?_of_block (w := w) (a := ⟨g, o, none⟩) (Below.heap_alloc _ _ _ hg)).trans (hc 0 (by decide))
  have y1 : (w.alloc (.cells (zeroM 0).row 61)).cell? ⟨g, o + 1, none⟩ = some (.string (m.t 9)) := (World.cell?_of_block (w := w) (a := ⟨g, o + 1, none⟩) (Below.heap_alloc _ _ _ hg)).trans (hc 1 (by decide))
  rw [← hW] at y0 y1
  have OW := Lib.hid (show Only (fun _ => False) w W from by rw [hW]; exact (Only.refl _ w).alloc _)
  have HB := Lib.hid (show W.heap[w.heap.size]? = some (.cells (zeroM 0).row 61 (0, 0)) from by rw [hW]; exact heap_alloc_new w _)
  have hW' := hW
  simp only [Msg.row, zeroM] at hW'
  obtain ⟨B, hB⟩ : ∃ B, B = w.heap.size := ⟨_, rfl⟩
  have HBE := Lib.hid hB
  rw [← hB] at HB
  clear hc hg hW
  have fB0 : W.frozen? ⟨B, 0, none⟩ = false := free_of HB.out
  have qB0 : W.cell? ⟨B, 0, none⟩ = some (.int .i64 0) := cell_of HB.out
  have fB1 : W.frozen? ⟨B, 1, none⟩ = false := free_of HB.out
  have qB1 : W.cell? ⟨B, 1, none⟩ = some (.int .u32 0) := cell_of HB.out
  have fB2 : W.frozen? ⟨B, 2, none⟩ = false := free_of HB.out
  have qB2 : W.cell? ⟨B, 2, none⟩ = some (.int .u32 0) := cell_of HB.out
  have fB3 : W.frozen? ⟨B, 3, none⟩ = false := free_of HB.out
  have qB3 : W.cell? ⟨B, 3, none⟩ = some (.int .u64 0) := cell_of HB.out
  have fB4 : W.frozen? ⟨B, 4, none⟩ = false := free_of HB.out
  have qB4 : W.cell? ⟨B, 4, none⟩ = some (.string ⟨#[]⟩) := cell_of HB.out
  have fB5 : W.frozen? ⟨B, 5, none⟩ = false := free_of HB.out
  have qB5 : W.cell? ⟨B, 5, none⟩ = some (.string ⟨#[]⟩) := cell_of HB.out
  have fB6 : W.frozen? ⟨B, 6, none⟩ = false := free_of HB.out
  have qB6 : W.cell? ⟨B, 6, none⟩ = some (.string ⟨#[]⟩) := cell_of HB.out
  have fB7 : W.frozen? ⟨B, 7, none⟩ = false := free_of HB.out
  have qB7 : W.cell? ⟨B, 7, none⟩ = some (.string ⟨#[]⟩) := cell_of HB.out
  have fB8 : W.frozen? ⟨B, 8, none⟩ = false := free_of HB.out
  have qB8 : W.cell? ⟨B, 8, none⟩ = some (.string ⟨#[]⟩) := cell_of HB.out
  have fB9 : W.frozen? ⟨B, 9, none⟩ = false := free_of HB.out
  have qB9 : W.cell? ⟨B, 9, none⟩ = some (.string ⟨#[]⟩) := cell_of HB.out
  have fB10 : W.frozen? ⟨B, 10, none⟩ = false := free_of HB.out
  have qB10 : W.cell? ⟨B, 10, none⟩ = some (.string ⟨#[]⟩) := cell_of HB.out
  have fB11 : W.frozen? ⟨B, 11, none⟩ = false := free_of HB.out
  have qB11 : W.cell? ⟨B, 11, none⟩ = some (.string ⟨#[]⟩) := cell_of HB.out
  have fB12 : W.frozen? ⟨B, 12, none⟩ = false := free_of HB.out
  have qB12 : W.cell? ⟨B, 12, none⟩ = some (.string ⟨#[]⟩) := cell_of HB.out
  go_enter Try.func74, Try.ntmps74
  go_wp2_with fail
  rw [← hW', ← hB]
  clear hW' hB
  go_region
  have HZ := Lib.hid (set13 HB.out (.int .i64 3) (.int .u32 0) (.int .u32 m.r) (.int .u64 0) (.string ⟨#[]⟩) (.string ⟨#[]⟩) (.string ⟨#[]⟩) (.string ⟨#[]⟩) (.string (m.t 8)) (.string (m.t 9)) (.string ⟨#[]⟩) (.string ⟨#[]⟩) (.string ⟨#[]⟩))
  have OZ := Lib.hid (only13 (S := fun k => w.heap.size ≤ k) (B := B) (OW.out.mono fun _ h => h.elim) (Nat.le_of_eq HBE.out.symm) (.int .i64 3) (.int .u32 0) (.int .u32 m.r) (.int .u64 0) (.string ⟨#[]⟩) (.string ⟨#[]⟩) (.string ⟨#[]⟩) (.string ⟨#[]⟩) (.string (m.t 8)) (.string (m.t 9)) (.string ⟨#[]⟩) (.string ⟨#[]⟩) (.string ⟨#[]⟩))
  clear fB0 qB0 fB1 qB1 fB2 qB2 fB3 qB3 fB4 qB4 fB5 qB5 fB6 qB6 fB7 qB7 fB8 qB8 fB9 qB9 fB10 qB10 fB11 qB11 fB12 qB12 y0 y1
  generalize (((((((((((((W.setCell ⟨B, 0, none⟩ (.int .i64 3)).setCell ⟨B, 1, none⟩ (.int .u32 0)).setCell ⟨B, 2, none⟩ (.int .u32 m.r)).setCell ⟨B, 3, none⟩ (.int .u64 0)).setCell ⟨B, 4, none⟩ (.string ⟨#[]⟩)).setCell ⟨B, 5, none⟩ (.string ⟨#[]⟩)).setCell ⟨B, 6, none⟩ (.string ⟨#[]⟩)).setCell ⟨B, 7, none⟩ (.string ⟨#[]⟩)).setCell ⟨B, 8, none⟩ (.string (m.t 8))).setCell ⟨B, 9, none⟩ (.string (m.t 9))).setCell ⟨B, 10, none⟩ (.string ⟨#[]⟩)).setCell ⟨B, 11, none⟩ (.string ⟨#[]⟩)).setCell ⟨B, 12, none⟩ (.string ⟨#[]⟩)) = Z at HZ OZ ⊢
  have HD := Lib.hid (show Z.drew.heap[B]? = _ from HZ.out)
  have OD := Lib.hid (OZ.out.drew)
  go_wp2_with fail
  exact bodyPost_ret (results_cell_row (p := 10) (ty := 61) Try.results74 _ _ B 61 _ (0, 0) _ rfl HD.out Try.underlying61 rfl (by kernel_rfl)) rfl ⟨Only.old OD.out, rfl⟩

set_option maxRecDepth 100000 in
set_option maxHeartbeats 1600000 in
theorem with_4 (m : Msg) (w : World) (g o c : Nat) (hg : g < w.heap.size) (hc : ∀ i, i < 1 → w.cell? ⟨g, o + i, none⟩ = some (.string ([m.t 10].getD i ⟨#[]⟩))) : Calls Try.prog 74 #[.int .i64 4, .int .u32 m.s, .int .u32 m.r, .int .u64 m.c, .slice (some ⟨g, o, none⟩) 1 c] w (fun e w' => Only (fun _ => False) w w' ∧ e = .returned (.agg #[.int .i64 4, .int .u32 0, .int .u32 m.r, .int .u64 m.c, .string ⟨#[]⟩, .string ⟨#[]⟩, .string ⟨#[]⟩, .string ⟨#[]⟩, .string ⟨#[]⟩, .string ⟨#[]⟩, .string (m.t 10), .string ⟨#[]⟩, .string ⟨#[]⟩])) := by
  obtain ⟨W, hW⟩ : ∃ W, W = w.alloc (.cells (zeroM 0).row 61) := ⟨_, rfl⟩
  have y0 : (w.alloc (.cells (zeroM 0).row 61)).cell? ⟨g, o, none⟩ = some (.string (m.t 10)) := (World.cell?_of_block (w := w) (a := ⟨g, o, none⟩) (Below.heap_alloc _ _ _ hg)).trans (hc 0 (by decide))
  rw [← hW] at y0
  have OW := Lib.hid (show Only (fun _ => False) w W from by rw [hW]; exact (Only.refl _ w).alloc _)
  have HB := Lib.hid (show W.heap[w.heap.size]? = some (.cells (zeroM 0).row 61 (0, 0)) from by rw [hW]; exact heap_alloc_new w _)
  have hW' := hW
  simp only [Msg.row, zeroM] at hW'
  obtain ⟨B, hB⟩ : ∃ B, B = w.heap.size := ⟨_, rfl⟩
  have HBE := Lib.hid hB
  rw [← hB] at HB
  clear hc hg hW
  have fB0 : W.frozen? ⟨B, 0, none⟩ = false := free_of HB.out
  have qB0 : W.cell? ⟨B, 0, none⟩ = some (.int .i64 0) := cell_of HB.out
  have fB1 : W.frozen? ⟨B, 1, none⟩ = false := free_of HB.out
  have qB1 : W.cell? ⟨B, 1, none⟩ = some (.int .u32 0) := cell_of HB.out
  have fB2 : W.frozen? ⟨B, 2, none⟩ = false := free_of HB.out
  have qB2 : W.cell? ⟨B, 2, none⟩ = some (.int .u32 0) := cell_of HB.out
  have fB3 : W.frozen? ⟨B, 3, none⟩ = false := free_of HB.out
  have qB3 : W.cell? ⟨B, 3, none⟩ = some (.int .u64 0) := cell_of HB.out
  have fB4 : W.frozen? ⟨B, 4, none⟩ = false := free_of HB.out
  have qB4 : W.cell? ⟨B, 4, none⟩ = some (.string ⟨#[]⟩) := cell_of HB.out
  have fB5 : W.frozen? ⟨B, 5, none⟩ = false := free_of HB.out
  have qB5 : W.cell? ⟨B, 5, none⟩ = some (.string ⟨#[]⟩) := cell_of HB.out
  have fB6 : W.frozen? ⟨B, 6, none⟩ = false := free_of HB.out
  have qB6 : W.cell? ⟨B, 6, none⟩ = some (.string ⟨#[]⟩) := cell_of HB.out
  have fB7 : W.frozen? ⟨B, 7, none⟩ = false := free_of HB.out
  have qB7 : W.cell? ⟨B, 7, none⟩ = some (.string ⟨#[]⟩) := cell_of HB.out
  have fB8 : W.frozen? ⟨B, 8, none⟩ = false := free_of HB.out
  have qB8 : W.cell? ⟨B, 8, none⟩ = some (.string ⟨#[]⟩) := cell_of HB.out
  have fB9 : W.frozen? ⟨B, 9, none⟩ = false := free_of HB.out
  have qB9 : W.cell? ⟨B, 9, none⟩ = some (.string ⟨#[]⟩) := cell_of HB.out
  have fB10 : W.frozen? ⟨B, 10, none⟩ = false := free_of HB.out
  have qB10 : W.cell? ⟨B, 10, none⟩ = some (.string ⟨#[]⟩) := cell_of HB.out
  have fB11 : W.frozen? ⟨B, 11, none⟩ = false := free_of HB.out
  have qB11 : W.cell? ⟨B, 11, none⟩ = some (.string ⟨#[]⟩) := cell_of HB.out
  have fB12 : W.frozen? ⟨B, 12, none⟩ = false := free_of HB.out
  have qB12 : W.cell? ⟨B, 12, none⟩ = some (.string ⟨#[]⟩) := cell_of HB.out
  go_enter Try.func74, Try.ntmps74
  go_upto_region 8 with fail
  rw [← hW', ← hB]
  clear hW' hB
  go_wp2_with fail
  have HZ := Lib.hid (set13 HB.out (.int .i64 4) (.int .u32 0) (.int .u32 m.r) (.int .u64 m.c) (.string ⟨#[]⟩) (.string ⟨#[]⟩) (.string ⟨#[]⟩) (.string ⟨#[]⟩) (.string ⟨#[]⟩) (.string ⟨#[]⟩) (.string (m.t 10)) (.string ⟨#[]⟩) (.string ⟨#[]⟩))
  have OZ := Lib.hid (only13 (S := fun k => w.heap.size ≤ k) (B := B) (OW.out.mono fun _ h => h.elim) (Nat.le_of_eq HBE.out.symm) (.int .i64 4) (.int .u32 0) (.int .u32 m.r) (.int .u64 m.c) (.string ⟨#[]⟩) (.string ⟨#[]⟩) (.string ⟨#[]⟩) (.string ⟨#[]⟩) (.string ⟨#[]⟩) (.string ⟨#[]⟩) (.string (m.t 10)) (.string ⟨#[]⟩) (.string ⟨#[]⟩))
  exact bodyPost_ret (results_cell_row (p := 10) (ty := 61) Try.results74 _ _ B 61 _ (0, 0) _ rfl HZ.out Try.underlying61 rfl (by kernel_rfl)) rfl ⟨Only.old OZ.out, rfl⟩

end Go.Proofs.Ytbjnejnjlidiaaa.wrH
namespace Go.Proofs.Ytbjnejnjlidiaaa.wrI
open Go.RowKit kit numA numC numD tmA tmD trA trB prR prS prW prX wrA wrB wrC wrD wrE wrF wrG wrH
set_option linter.unusedVariables false
set_option linter.unusedSimpArgs false

/-- The document's word on a message. -/
def rightM (m : Msg) : Bool := decide (1 ≤ m.k ∧ m.k ≤ 4) && ((rterms m).all fitB && eqM (keepM m) m)

def C13 (W : World) (A : Nat) (m : Msg) (k : Int) : Prop := W.cell? ⟨A, 0, none⟩ = some (.int .i64 k) ∧ W.cell? ⟨A, 1, none⟩ = some (.int .u32 m.s) ∧ W.cell? ⟨A, 2, none⟩ = some (.int .u32 m.r) ∧ W.cell? ⟨A, 3, none⟩ = some (.int .u64 m.c) ∧ W.cell? ⟨A, 4, none⟩ = some (.string (m.t 4)) ∧ W.cell? ⟨A, 5, none⟩ = some (.string (m.t 5)) ∧ W.cell? ⟨A, 6, none⟩ = some (.string (m.t 6)) ∧ W.cell? ⟨A, 7, none⟩ = some (.string (m.t 7)) ∧ W.cell? ⟨A, 8, none⟩ = some (.string (m.t 8)) ∧ W.cell? ⟨A, 9, none⟩ = some (.string (m.t 9)) ∧ W.cell? ⟨A, 10, none⟩ = some (.string (m.t 10)) ∧ W.cell? ⟨A, 11, none⟩ = some (.string (m.t 11)) ∧ W.cell? ⟨A, 12, none⟩ = some (.string (m.t 12))
theorem c13 {W : World} {A : Nat} {m : Msg} {k : Int} (h : MsgAt W A m) (hk : m.k = k) : C13 W A m k := by
  subst hk
  exact MsgAt.cells h

set_option maxRecDepth 100000 in
theorem laid_eqlM (m n : Msg) (W : World) : (binOp .eql 61 (mval m) (mval n)).run Try.prog W = .ok (.bool (eqM m n)) W := run_eqlM m n W

theorem bytes_mk (b : ByteArray) : (⟨b.data.toList.toArray⟩ : ByteArray) = b := by simp

theorem fitB_is {s : ByteArray} : fitB s.data.toList = (decide (s.size ≤ 65535) && isT s.data.toList) := by
  unfold fitB
  rw [tl_size]

theorem all_till {ps : List Txt} (h : ∀ q, q < ps.length → fitB (ps.getD q []) = true) : ps.all fitB = true := by
  rw [List.all_eq_true]
  intro p hp
  obtain ⟨q, hq, rfl⟩ := List.getElem_of_mem hp
  have := h q hq
  simpa [List.getD_eq_getElem?_getD, hq] using this
theorem all_not {ps : List Txt} {q : Nat} (hq : q < ps.length) (h : fitB (ps.getD q []) = false) : ps.all fitB = false := by
  rw [List.all_eq_false]
  refine ⟨ps[q], List.getElem_mem hq, ?_⟩
  have e : ps.getD q [] = ps[q] := by simp [List.getD_eq_getElem?_getD, hq]
  rw [e] at h
  rw [h]
  decide

set_option maxRecDepth 100000 in
set_option maxHeartbeats 3200000 in
theorem right_1 (m : Msg) (w : World) (hk : m.k = 1) (ht : ∀ i, (m.t i).size ≤ 100000000) : Calls Try.prog 56 #[mval m] w (numA.Told w (.bool (rightM m))) := by
  have HA := Lib.hid (show MsgAt (w.alloc (.cells m.row 61)) w.heap.size m from heap_alloc_new w _)
  have oW := Lib.hid (show Only (fun _ => False) w (w.alloc (.cells m.row 61)) from (Only.refl _ w).alloc _)
  have CR := Lib.hid (refterms_any m (w.alloc (.cells m.row 61)))
  have KK := Lib.hid hk
  obtain ⟨ps, hps⟩ : ∃ ps, ps = rterms m := ⟨_, rfl⟩
  have HPS := Lib.hid (show ps = ([m.t 4, m.t 5, m.t 6, m.t 11, m.t 12] : List ByteArray).map (·.data.toList) from by rw [hps]; unfold rterms rtexts; rw [hk]; rfl)
  have HLEN := Lib.hid (show ps.length = 5 from by rw [HPS.out]; rfl)
  have HRM := Lib.hid (show rightM m = (ps.all fitB && eqM (keepM m) m) from by rw [rightM, decide_eq_true (by rw [hk]; decide), Bool.true_and, hps])
  have HPL := Lib.hid (show ∀ q, q < ps.length → (ps.getD q []).length ≤ 100000000 from by
    intro q hq
    rw [HLEN.out] at hq
    rw [HPS.out]
    rcases (by omega : q = 0 ∨ q = 1 ∨ q = 2 ∨ q = 3 ∨ q = 4) with rfl | rfl | rfl | rfl | rfl
    all_goals exact Nat.le_trans (Nat.le_of_eq (tl_size _)) (ht _))
  have HKEEP := Lib.hid (show mval (keepM m) = .agg #[.int .i64 1, .int .u32 m.s, .int .u32 0, .int .u64 0, .string (m.t 4), .string (m.t 5), .string (m.t 6), .string ⟨#[]⟩, .string ⟨#[]⟩, .string ⟨#[]⟩, .string ⟨#[]⟩, .string (m.t 11), .string (m.t 12)] from by unfold keepM; rw [if_pos hk]; rfl)
  obtain ⟨d0, d1, d2, d3, d4, d5, d6, d7, d8, d9, d10, d11, d12⟩ := MsgAt.cells HA.out
  simp only [mval, Msg.row] at CR d0 d1 d2 d3 d4 d5 d6 d7 d8 d9 d10 d11 d12
  rw [← hps] at CR
  rw [hk] at CR d0
  unfold mval
  rw [hk]
  clear ht hk hps
  go_enter Try.func56, Try.ntmps56
  go_wp2_with fail
  (with_reducible refine CR.out.mono ?_)
  rintro e W2 ⟨o, a, c, rfl, hc1, hc2, hsl⟩
  have O2 := Lib.hid (show Only (fun _ => False) (w.alloc (.cells m.row 61)) W2 from by rw [show m.row = #[.int .i64 1, .int .u32 m.s, .int .u32 m.r, .int .u64 m.c, .string (m.t 4), .string (m.t 5), .string (m.t 6), .string (m.t 7), .string (m.t 8), .string (m.t 9), .string (m.t 10), .string (m.t 11), .string (m.t 12)] from by rw [Msg.row, KK.out]]; exact o)
  have HA2 := Lib.hid (MsgAt.keep HA.out O2.out id)
  obtain ⟨g, o', c', hv, hS, hg, hcc⟩ := sl_lits hsl (by rw [HLEN.out]; decide)
  obtain rfl : a = some ⟨g, o', none⟩ := by injection hv
  have HSL := Lib.hid hcc
  have HG := Lib.hid hg
  have CW := Lib.hid (fun W' (oo : Only (fun _ => False) W2 W') => with_1 m W' g o' c (Nat.lt_of_lt_of_le hg oo.size) (fun i hi => by
    refine (World.cell?_of_block (w := W2) (a := ⟨g, o' + i, none⟩) (oo.block g hg id)).trans ((hcc i (by rw [HLEN.out]; exact hi)).trans ?_)
    rw [HPS.out]
    rcases (by omega : i = 0 ∨ i = 1 ∨ i = 2 ∨ i = 3 ∨ i = 4) with rfl | rfl | rfl | rfl | rfl
    all_goals exact congrArg (fun x => some (Value.string x)) (bytes_mk _)))
  have hl := HLEN.out
  rw [hl]
  clear o CR d0 d1 d2 d3 d4 d5 d6 d7 d8 d9 d10 d11 d12 hv hS hg hcc hsl hc1 hc2 hl
  go_wp2_with fail
  obtain ⟨A, hA⟩ : ∃ A, A = w.heap.size := ⟨_, rfl⟩
  rw [← hA] at HA HA2 ⊢
  clear hA
  go_loopw [2, 4] (fun r i wr => ∃ j : Nat, i = .int .i64 j ∧ j ≤ 5 ∧ (∀ q, q < j → fitB (ps.getD q []) = true) ∧ Only (fun _ => False) W2 wr) (fun _ i _ => 5 - (Lib.intOf i).toNat)
  case atStart => exact ⟨0, rfl, Nat.zero_le _, fun q h => by omega, Only.refl _ _⟩
  case round =>
    obtain ⟨j, rfl, hj, hq, ho⟩ := hrel
    have HQ := Lib.hid hq
    have HO := Lib.hid ho
    have wj : wrap64 ((j : Int) + 1) = (j : Int) + 1 := IntWalk.wrap64_in _ (by omega)
    by_cases hjn : j < 5
    · obtain ⟨s, hs⟩ : ∃ s : ByteArray, s = ⟨(ps.getD j []).toArray⟩ := ⟨_, rfl⟩
      have HS := Lib.hid (show s.data.toList = ps.getD j [] from by rw [hs])
      have x0 : wr.cell? ⟨g, o' + j, none⟩ = some (.string s) := by rw [hs]; exact (World.cell?_of_block (w := W2) (a := ⟨g, o' + j, none⟩) (ho.block g HG.out id)).trans (HSL.out j (by rw [HLEN.out]; exact hjn))
      have HSZ := Lib.hid (show s.size ≤ 100000000 from by rw [← tl_size, HS.out]; exact HPL.out j (by rw [HLEN.out]; exact hjn))
      have IS := Lib.hid (fun W => trJ.is_any s W HSZ.out)
      have k0 : (0 : Int) ≤ (j : Int) := by omega
      have k1 : (j : Int) < 5 := by omega
      have k1' : ((j : Int) < 5) = True := eq_true k1
      have HJ := Lib.hid hjn
      clear hq ho hs hjn hj
      by_cases hz : s.size ≤ 65535
      · have g1 : ((65535 : Int) < (s.size : Int)) = False := eq_false (by omega)
        have HZ := Lib.hid hz
        clear hz
        go_wp2_with fail
        (with_reducible refine (IS.out _).mono ?_)
        rintro e w7 ⟨rfl, o7⟩
        have O7 := Lib.hid (HO.out.trans o7)
        clear o7
        cases hb : trJ.isT s.data.toList with
        | false =>
          have HB := Lib.hid (show rightM m = false from by
            rw [HRM.out, all_not (q := j) (by rw [HLEN.out]; exact HJ.out) (by rw [← HS.out, fitB_is, show isT s.data.toList = false from hb, Bool.and_false])]
            rfl)
          clear hb
          go_wp2_with fail
          go_ret
          exact ⟨by rw [HB.out]; rfl, (oW.out.trans O2.out).trans O7.out⟩
        | true =>
          have HB := Lib.hid (show fitB (ps.getD j []) = true from by rw [← HS.out, fitB_is, decide_eq_true HZ.out, show isT s.data.toList = true from hb]; rfl)
          clear hb
          go_wp2_with fail
          go_roundw
          case rel => exact ⟨j + 1, by first | rfl | (rw [wj]; rfl), HJ.out, fun q hq => by
            rcases Nat.lt_succ_iff_lt_or_eq.1 hq with h | rfl
            · exact HQ.out q h
            · exact HB.out, O7.out⟩
          case measure =>
            try rw [wj]
            have := HJ.out
            simp only [Lib.intOf]
            omega
      · have g1 : ((65535 : Int) < (s.size : Int)) = True := eq_true (by omega)
        have HB := Lib.hid (show rightM m = false from by
          rw [HRM.out, all_not (q := j) (by rw [HLEN.out]; exact HJ.out) (by rw [← HS.out, fitB_is, decide_eq_false hz]; rfl)]
          rfl)
        clear hz
        go_wp2_with fail
        go_ret
        exact ⟨by rw [HB.out]; rfl, (oW.out.trans O2.out).trans HO.out⟩
    · obtain rfl : j = 5 := by omega
      have HALL := Lib.hid (show ps.all fitB = true from all_till (by rw [HLEN.out]; exact HQ.out))
      have R := Lib.hid (HO.out.drew)
      have hEq := fun W => laid_eqlM (keepM m) m W
      rw [HKEEP.out, show mval m = .agg #[.int .i64 1, .int .u32 m.s, .int .u32 m.r, .int .u64 m.c, .string (m.t 4), .string (m.t 5), .string (m.t 6), .string (m.t 7), .string (m.t 8), .string (m.t 9), .string (m.t 10), .string (m.t 11), .string (m.t 12)] from by unfold mval; rw [KK.out]] at hEq
      obtain ⟨z, hz⟩ : ∃ z, z = eqM (keepM m) m := ⟨_, rfl⟩
      rw [← hz] at hEq
      have HZ := Lib.hid (show rightM m = z from by rw [HRM.out, HALL.out, Bool.true_and, hz])
      obtain ⟨e0, e1, e2, e3, e4, e5, e6, e7, e8, e9, e10, e11, e12⟩ := c13 (MsgAt.keep HA2.out HO.out id) KK.out
      clear hq ho hjn hj hz
      go_wp2_with fail
      go_region_held3 (fun w' => w'.cell? ⟨A, 0, none⟩ = some (.int .i64 1) ∧ w'.cell? ⟨A, 1, none⟩ = some (.int .u32 m.s) ∧ w'.cell? ⟨A, 2, none⟩ = some (.int .u32 m.r) ∧ w'.cell? ⟨A, 3, none⟩ = some (.int .u64 m.c) ∧ w'.cell? ⟨A, 4, none⟩ = some (.string (m.t 4)) ∧ w'.cell? ⟨A, 5, none⟩ = some (.string (m.t 5)) ∧ w'.cell? ⟨A, 6, none⟩ = some (.string (m.t 6)) ∧ w'.cell? ⟨A, 7, none⟩ = some (.string (m.t 7)) ∧ w'.cell? ⟨A, 8, none⟩ = some (.string (m.t 8)) ∧ w'.cell? ⟨A, 9, none⟩ = some (.string (m.t 9)) ∧ w'.cell? ⟨A, 10, none⟩ = some (.string (m.t 10)) ∧ w'.cell? ⟨A, 11, none⟩ = some (.string (m.t 11)) ∧ w'.cell? ⟨A, 12, none⟩ = some (.string (m.t 12))) (first | exact c13 (MsgAt.keep HA2.out R.out id) KK.out)
        (first
          | (go_at_call 74; (with_reducible refine Calls.mono (CW.out _ R.out) ?_); rintro e w7 ⟨o', rfl⟩; have R := Lib.hid (R.out.trans o'); clear o'))
      all_goals
        go_wp2_with fail
        go_ret
        exact ⟨by rw [HZ.out]; rfl, (oW.out.trans O2.out).trans R.out⟩

set_option maxRecDepth 100000 in
set_option maxHeartbeats 3200000 in
theorem right_2 (m : Msg) (w : World) (hk : m.k = 2) (ht : ∀ i, (m.t i).size ≤ 100000000) : Calls Try.prog 56 #[mval m] w (numA.Told w (.bool (rightM m))) := by
  have HA := Lib.hid (show MsgAt (w.alloc (.cells m.row 61)) w.heap.size m from heap_alloc_new w _)
  have oW := Lib.hid (show Only (fun _ => False) w (w.alloc (.cells m.row 61)) from (Only.refl _ w).alloc _)
  have CR := Lib.hid (refterms_any m (w.alloc (.cells m.row 61)))
  have KK := Lib.hid hk
  obtain ⟨ps, hps⟩ : ∃ ps, ps = rterms m := ⟨_, rfl⟩
  have HPS := Lib.hid (show ps = ([m.t 4, m.t 7, m.t 11, m.t 12] : List ByteArray).map (·.data.toList) from by rw [hps]; unfold rterms rtexts; rw [hk]; rfl)
  have HLEN := Lib.hid (show ps.length = 4 from by rw [HPS.out]; rfl)
  have HRM := Lib.hid (show rightM m = (ps.all fitB && eqM (keepM m) m) from by rw [rightM, decide_eq_true (by rw [hk]; decide), Bool.true_and, hps])
  have HPL := Lib.hid (show ∀ q, q < ps.length → (ps.getD q []).length ≤ 100000000 from by
    intro q hq
    rw [HLEN.out] at hq
    rw [HPS.out]
    rcases (by omega : q = 0 ∨ q = 1 ∨ q = 2 ∨ q = 3) with rfl | rfl | rfl | rfl
    all_goals exact Nat.le_trans (Nat.le_of_eq (tl_size _)) (ht _))
  have HKEEP := Lib.hid (show mval (keepM m) = .agg #[.int .i64 2, .int .u32 m.s, .int .u32 m.r, .int .u64 0, .string (m.t 4), .string ⟨#[]⟩, .string ⟨#[]⟩, .string (m.t 7), .string ⟨#[]⟩, .string ⟨#[]⟩, .string ⟨#[]⟩, .string (m.t 11), .string (m.t 12)] from by unfold keepM; rw [if_neg (by omega), if_pos hk]; rfl)
  obtain ⟨d0, d1, d2, d3, d4, d5, d6, d7, d8, d9, d10, d11, d12⟩ := MsgAt.cells HA.out
  simp only [mval, Msg.row] at CR d0 d1 d2 d3 d4 d5 d6 d7 d8 d9 d10 d11 d12
  rw [← hps] at CR
  rw [hk] at CR d0
  unfold mval
  rw [hk]
  clear ht hk hps
  go_enter Try.func56, Try.ntmps56
  go_wp2_with fail
  (with_reducible refine CR.out.mono ?_)
  rintro e W2 ⟨o, a, c, rfl, hc1, hc2, hsl⟩
  have O2 := Lib.hid (show Only (fun _ => False) (w.alloc (.cells m.row 61)) W2 from by rw [show m.row = #[.int .i64 2, .int .u32 m.s, .int .u32 m.r, .int .u64 m.c, .string (m.t 4), .string (m.t 5), .string (m.t 6), .string (m.t 7), .string (m.t 8), .string (m.t 9), .string (m.t 10), .string (m.t 11), .string (m.t 12)] from by rw [Msg.row, KK.out]]; exact o)
  have HA2 := Lib.hid (MsgAt.keep HA.out O2.out id)
  obtain ⟨g, o', c', hv, hS, hg, hcc⟩ := sl_lits hsl (by rw [HLEN.out]; decide)
  obtain rfl : a = some ⟨g, o', none⟩ := by injection hv
  have HSL := Lib.hid hcc
  have HG := Lib.hid hg
  have CW := Lib.hid (fun W' (oo : Only (fun _ => False) W2 W') => with_2 m W' g o' c (Nat.lt_of_lt_of_le hg oo.size) (fun i hi => by
    refine (World.cell?_of_block (w := W2) (a := ⟨g, o' + i, none⟩) (oo.block g hg id)).trans ((hcc i (by rw [HLEN.out]; exact hi)).trans ?_)
    rw [HPS.out]
    rcases (by omega : i = 0 ∨ i = 1 ∨ i = 2 ∨ i = 3) with rfl | rfl | rfl | rfl
    all_goals exact congrArg (fun x => some (Value.string x)) (bytes_mk _)))
  have hl := HLEN.out
  rw [hl]
  clear o CR d0 d1 d2 d3 d4 d5 d6 d7 d8 d9 d10 d11 d12 hv hS hg hcc hsl hc1 hc2 hl
  go_wp2_with fail
  obtain ⟨A, hA⟩ : ∃ A, A = w.heap.size := ⟨_, rfl⟩
  rw [← hA] at HA HA2 ⊢
  clear hA
  go_loopw [2, 4] (fun r i wr => ∃ j : Nat, i = .int .i64 j ∧ j ≤ 4 ∧ (∀ q, q < j → fitB (ps.getD q []) = true) ∧ Only (fun _ => False) W2 wr) (fun _ i _ => 4 - (Lib.intOf i).toNat)
  case atStart => exact ⟨0, rfl, Nat.zero_le _, fun q h => by omega, Only.refl _ _⟩
  case round =>
    obtain ⟨j, rfl, hj, hq, ho⟩ := hrel
    have HQ := Lib.hid hq
    have HO := Lib.hid ho
    have wj : wrap64 ((j : Int) + 1) = (j : Int) + 1 := IntWalk.wrap64_in _ (by omega)
    by_cases hjn : j < 4
    · obtain ⟨s, hs⟩ : ∃ s : ByteArray, s = ⟨(ps.getD j []).toArray⟩ := ⟨_, rfl⟩
      have HS := Lib.hid (show s.data.toList = ps.getD j [] from by rw [hs])
      have x0 : wr.cell? ⟨g, o' + j, none⟩ = some (.string s) := by rw [hs]; exact (World.cell?_of_block (w := W2) (a := ⟨g, o' + j, none⟩) (ho.block g HG.out id)).trans (HSL.out j (by rw [HLEN.out]; exact hjn))
      have HSZ := Lib.hid (show s.size ≤ 100000000 from by rw [← tl_size, HS.out]; exact HPL.out j (by rw [HLEN.out]; exact hjn))
      have IS := Lib.hid (fun W => trJ.is_any s W HSZ.out)
      have k0 : (0 : Int) ≤ (j : Int) := by omega
      have k1 : (j : Int) < 4 := by omega
      have k1' : ((j : Int) < 4) = True := eq_true k1
      have HJ := Lib.hid hjn
      clear hq ho hs hjn hj
      by_cases hz : s.size ≤ 65535
      · have g1 : ((65535 : Int) < (s.size : Int)) = False := eq_false (by omega)
        have HZ := Lib.hid hz
        clear hz
        go_wp2_with fail
        (with_reducible refine (IS.out _).mono ?_)
        rintro e w7 ⟨rfl, o7⟩
        have O7 := Lib.hid (HO.out.trans o7)
        clear o7
        cases hb : trJ.isT s.data.toList with
        | false =>
          have HB := Lib.hid (show rightM m = false from by
            rw [HRM.out, all_not (q := j) (by rw [HLEN.out]; exact HJ.out) (by rw [← HS.out, fitB_is, show isT s.data.toList = false from hb, Bool.and_false])]
            rfl)
          clear hb
          go_wp2_with fail
          go_ret
          exact ⟨by rw [HB.out]; rfl, (oW.out.trans O2.out).trans O7.out⟩
        | true =>
          have HB := Lib.hid (show fitB (ps.getD j []) = true from by rw [← HS.out, fitB_is, decide_eq_true HZ.out, show isT s.data.toList = true from hb]; rfl)
          clear hb
          go_wp2_with fail
          go_roundw
          case rel => exact ⟨j + 1, by first | rfl | (rw [wj]; rfl), HJ.out, fun q hq => by
            rcases Nat.lt_succ_iff_lt_or_eq.1 hq with h | rfl
            · exact HQ.out q h
            · exact HB.out, O7.out⟩
          case measure =>
            try rw [wj]
            have := HJ.out
            simp only [Lib.intOf]
            omega
      · have g1 : ((65535 : Int) < (s.size : Int)) = True := eq_true (by omega)
        have HB := Lib.hid (show rightM m = false from by
          rw [HRM.out, all_not (q := j) (by rw [HLEN.out]; exact HJ.out) (by rw [← HS.out, fitB_is, decide_eq_false hz]; rfl)]
          rfl)
        clear hz
        go_wp2_with fail
        go_ret
        exact ⟨by rw [HB.out]; rfl, (oW.out.trans O2.out).trans HO.out⟩
    · obtain rfl : j = 4 := by omega
      have HALL := Lib.hid (show ps.all fitB = true from all_till (by rw [HLEN.out]; exact HQ.out))
      have R := Lib.hid (HO.out.drew)
      have hEq := fun W => laid_eqlM (keepM m) m W
      rw [HKEEP.out, show mval m = .agg #[.int .i64 2, .int .u32 m.s, .int .u32 m.r, .int .u64 m.c, .string (m.t 4), .string (m.t 5), .string (m.t 6), .string (m.t 7), .string (m.t 8), .string (m.t 9), .string (m.t 10), .string (m.t 11), .string (m.t 12)] from by unfold mval; rw [KK.out]] at hEq
      obtain ⟨z, hz⟩ : ∃ z, z = eqM (keepM m) m := ⟨_, rfl⟩
      rw [← hz] at hEq
      have HZ := Lib.hid (show rightM m = z from by rw [HRM.out, HALL.out, Bool.true_and, hz])
      obtain ⟨e0, e1, e2, e3, e4, e5, e6, e7, e8, e9, e10, e11, e12⟩ := c13 (MsgAt.keep HA2.out HO.out id) KK.out
      clear hq ho hjn hj hz
      go_wp2_with fail
      go_region_held3 (fun w' => w'.cell? ⟨A, 0, none⟩ = some (.int .i64 2) ∧ w'.cell? ⟨A, 1, none⟩ = some (.int .u32 m.s) ∧ w'.cell? ⟨A, 2, none⟩ = some (.int .u32 m.r) ∧ w'.cell? ⟨A, 3, none⟩ = some (.int .u64 m.c) ∧ w'.cell? ⟨A, 4, none⟩ = some (.string (m.t 4)) ∧ w'.cell? ⟨A, 5, none⟩ = some (.string (m.t 5)) ∧ w'.cell? ⟨A, 6, none⟩ = some (.string (m.t 6)) ∧ w'.cell? ⟨A, 7, none⟩ = some (.string (m.t 7)) ∧ w'.cell? ⟨A, 8, none⟩ = some (.string (m.t 8)) ∧ w'.cell? ⟨A, 9, none⟩ = some (.string (m.t 9)) ∧ w'.cell? ⟨A, 10, none⟩ = some (.string (m.t 10)) ∧ w'.cell? ⟨A, 11, none⟩ = some (.string (m.t 11)) ∧ w'.cell? ⟨A, 12, none⟩ = some (.string (m.t 12))) (first | exact c13 (MsgAt.keep HA2.out R.out id) KK.out)
        (first
          | (go_at_call 74; (with_reducible refine Calls.mono (CW.out _ R.out) ?_); rintro e w7 ⟨o', rfl⟩; have R := Lib.hid (R.out.trans o'); clear o'))
      all_goals
        go_wp2_with fail
        go_ret
        exact ⟨by rw [HZ.out]; rfl, (oW.out.trans O2.out).trans R.out⟩

set_option maxRecDepth 100000 in
set_option maxHeartbeats 3200000 in
theorem right_3 (m : Msg) (w : World) (hk : m.k = 3) (ht : ∀ i, (m.t i).size ≤ 100000000) : Calls Try.prog 56 #[mval m] w (numA.Told w (.bool (rightM m))) := by
  have HA := Lib.hid (show MsgAt (w.alloc (.cells m.row 61)) w.heap.size m from heap_alloc_new w _)
  have oW := Lib.hid (show Only (fun _ => False) w (w.alloc (.cells m.row 61)) from (Only.refl _ w).alloc _)
  have CR := Lib.hid (refterms_any m (w.alloc (.cells m.row 61)))
  have KK := Lib.hid hk
  obtain ⟨ps, hps⟩ : ∃ ps, ps = rterms m := ⟨_, rfl⟩
  have HPS := Lib.hid (show ps = ([m.t 8, m.t 9] : List ByteArray).map (·.data.toList) from by rw [hps]; unfold rterms rtexts; rw [hk]; rfl)
  have HLEN := Lib.hid (show ps.length = 2 from by rw [HPS.out]; rfl)
  have HRM := Lib.hid (show rightM m = (ps.all fitB && eqM (keepM m) m) from by rw [rightM, decide_eq_true (by rw [hk]; decide), Bool.true_and, hps])
  have HPL := Lib.hid (show ∀ q, q < ps.length → (ps.getD q []).length ≤ 100000000 from by
    intro q hq
    rw [HLEN.out] at hq
    rw [HPS.out]
    rcases (by omega : q = 0 ∨ q = 1) with rfl | rfl
    all_goals exact Nat.le_trans (Nat.le_of_eq (tl_size _)) (ht _))
  have HKEEP := Lib.hid (show mval (keepM m) = .agg #[.int .i64 3, .int .u32 0, .int .u32 m.r, .int .u64 0, .string ⟨#[]⟩, .string ⟨#[]⟩, .string ⟨#[]⟩, .string ⟨#[]⟩, .string (m.t 8), .string (m.t 9), .string ⟨#[]⟩, .string ⟨#[]⟩, .string ⟨#[]⟩] from by unfold keepM; rw [if_neg (by omega), if_neg (by omega), if_pos hk]; rfl)
  obtain ⟨d0, d1, d2, d3, d4, d5, d6, d7, d8, d9, d10, d11, d12⟩ := MsgAt.cells HA.out
  simp only [mval, Msg.row] at CR d0 d1 d2 d3 d4 d5 d6 d7 d8 d9 d10 d11 d12
  rw [← hps] at CR
  rw [hk] at CR d0
  unfold mval
  rw [hk]
  clear ht hk hps
  go_enter Try.func56, Try.ntmps56
  go_wp2_with fail
  (with_reducible refine CR.out.mono ?_)
  rintro e W2 ⟨o, a, c, rfl, hc1, hc2, hsl⟩
  have O2 := Lib.hid (show Only (fun _ => False) (w.alloc (.cells m.row 61)) W2 from by rw [show m.row = #[.int .i64 3, .int .u32 m.s, .int .u32 m.r, .int .u64 m.c, .string (m.t 4), .string (m.t 5), .string (m.t 6), .string (m.t 7), .string (m.t 8), .string (m.t 9), .string (m.t 10), .string (m.t 11), .string (m.t 12)] from by rw [Msg.row, KK.out]]; exact o)
  have HA2 := Lib.hid (MsgAt.keep HA.out O2.out id)
  obtain ⟨g, o', c', hv, hS, hg, hcc⟩ := sl_lits hsl (by rw [HLEN.out]; decide)
  obtain rfl : a = some ⟨g, o', none⟩ := by injection hv
  have HSL := Lib.hid hcc
  have HG := Lib.hid hg
  have CW := Lib.hid (fun W' (oo : Only (fun _ => False) W2 W') => with_3 m W' g o' c (Nat.lt_of_lt_of_le hg oo.size) (fun i hi => by
    refine (World.cell?_of_block (w := W2) (a := ⟨g, o' + i, none⟩) (oo.block g hg id)).trans ((hcc i (by rw [HLEN.out]; exact hi)).trans ?_)
    rw [HPS.out]
    rcases (by omega : i = 0 ∨ i = 1) with rfl | rfl
    all_goals exact congrArg (fun x => some (Value.string x)) (bytes_mk _)))
  have hl := HLEN.out
  rw [hl]
  clear o CR d0 d1 d2 d3 d4 d5 d6 d7 d8 d9 d10 d11 d12 hv hS hg hcc hsl hc1 hc2 hl
  go_wp2_with fail
  obtain ⟨A, hA⟩ : ∃ A, A = w.heap.size := ⟨_, rfl⟩
  rw [← hA] at HA HA2 ⊢
  clear hA
  go_loopw [2, 4] (fun r i wr => ∃ j : Nat, i = .int .i64 j ∧ j ≤ 2 ∧ (∀ q, q < j → fitB (ps.getD q []) = true) ∧ Only (fun _ => False) W2 wr) (fun _ i _ => 2 - (Lib.intOf i).toNat)
  case atStart => exact ⟨0, rfl, Nat.zero_le _, fun q h => by omega, Only.refl _ _⟩
  case round =>
    obtain ⟨j, rfl, hj, hq, ho⟩ := hrel
    have HQ := Lib.hid hq
    have HO := Lib.hid ho
    have wj : wrap64 ((j : Int) + 1) = (j : Int) + 1 := IntWalk.wrap64_in _ (by omega)
    by_cases hjn : j < 2
    · obtain ⟨s, hs⟩ : ∃ s : ByteArray, s = ⟨(ps.getD j []).toArray⟩ := ⟨_, rfl⟩
      have HS := Lib.hid (show s.data.toList = ps.getD j [] from by rw [hs])
      have x0 : wr.cell? ⟨g, o' + j, none⟩ = some (.string s) := by rw [hs]; exact (World.cell?_of_block (w := W2) (a := ⟨g, o' + j, none⟩) (ho.block g HG.out id)).trans (HSL.out j (by rw [HLEN.out]; exact hjn))
      have HSZ := Lib.hid (show s.size ≤ 100000000 from by rw [← tl_size, HS.out]; exact HPL.out j (by rw [HLEN.out]; exact hjn))
      have IS := Lib.hid (fun W => trJ.is_any s W HSZ.out)
      have k0 : (0 : Int) ≤ (j : Int) := by omega
      have k1 : (j : Int) < 2 := by omega
      have k1' : ((j : Int) < 2) = True := eq_true k1
      have HJ := Lib.hid hjn
      clear hq ho hs hjn hj
      by_cases hz : s.size ≤ 65535
      · have g1 : ((65535 : Int) < (s.size : Int)) = False := eq_false (by omega)
        have HZ := Lib.hid hz
        clear hz
        go_wp2_with fail
        (with_reducible refine (IS.out _).mono ?_)
        rintro e w7 ⟨rfl, o7⟩
        have O7 := Lib.hid (HO.out.trans o7)
        clear o7
        cases hb : trJ.isT s.data.toList with
        | false =>
          have HB := Lib.hid (show rightM m = false from by
            rw [HRM.out, all_not (q := j) (by rw [HLEN.out]; exact HJ.out) (by rw [← HS.out, fitB_is, show isT s.data.toList = false from hb, Bool.and_false])]
            rfl)
          clear hb
          go_wp2_with fail
          go_ret
          exact ⟨by rw [HB.out]; rfl, (oW.out.trans O2.out).trans O7.out⟩
        | true =>
          have HB := Lib.hid (show fitB (ps.getD j []) = true from by rw [← HS.out, fitB_is, decide_eq_true HZ.out, show isT s.data.toList = true from hb]; rfl)
          clear hb
          go_wp2_with fail
          go_roundw
          case rel => exact ⟨j + 1, by first | rfl | (rw [wj]; rfl), HJ.out, fun q hq => by
            rcases Nat.lt_succ_iff_lt_or_eq.1 hq with h | rfl
            · exact HQ.out q h
            · exact HB.out, O7.out⟩
          case measure =>
            try rw [wj]
            have := HJ.out
            simp only [Lib.intOf]
            omega
      · have g1 : ((65535 : Int) < (s.size : Int)) = True := eq_true (by omega)
        have HB := Lib.hid (show rightM m = false from by
          rw [HRM.out, all_not (q := j) (by rw [HLEN.out]; exact HJ.out) (by rw [← HS.out, fitB_is, decide_eq_false hz]; rfl)]
          rfl)
        clear hz
        go_wp2_with fail
        go_ret
        exact ⟨by rw [HB.out]; rfl, (oW.out.trans O2.out).trans HO.out⟩
    · obtain rfl : j = 2 := by omega
      have HALL := Lib.hid (show ps.all fitB = true from all_till (by rw [HLEN.out]; exact HQ.out))
      have R := Lib.hid (HO.out.drew)
      have hEq := fun W => laid_eqlM (keepM m) m W
      rw [HKEEP.out, show mval m = .agg #[.int .i64 3, .int .u32 m.s, .int .u32 m.r, .int .u64 m.c, .string (m.t 4), .string (m.t 5), .string (m.t 6), .string (m.t 7), .string (m.t 8), .string (m.t 9), .string (m.t 10), .string (m.t 11), .string (m.t 12)] from by unfold mval; rw [KK.out]] at hEq
      obtain ⟨z, hz⟩ : ∃ z, z = eqM (keepM m) m := ⟨_, rfl⟩
      rw [← hz] at hEq
      have HZ := Lib.hid (show rightM m = z from by rw [HRM.out, HALL.out, Bool.true_and, hz])
      obtain ⟨e0, e1, e2, e3, e4, e5, e6, e7, e8, e9, e10, e11, e12⟩ := c13 (MsgAt.keep HA2.out HO.out id) KK.out
      clear hq ho hjn hj hz
      go_wp2_with fail
      go_region_held3 (fun w' => w'.cell? ⟨A, 0, none⟩ = some (.int .i64 3) ∧ w'.cell? ⟨A, 1, none⟩ = some (.int .u32 m.s) ∧ w'.cell? ⟨A, 2, none⟩ = some (.int .u32 m.r) ∧ w'.cell? ⟨A, 3, none⟩ = some (.int .u64 m.c) ∧ w'.cell? ⟨A, 4, none⟩ = some (.string (m.t 4)) ∧ w'.cell? ⟨A, 5, none⟩ = some (.string (m.t 5)) ∧ w'.cell? ⟨A, 6, none⟩ = some (.string (m.t 6)) ∧ w'.cell? ⟨A, 7, none⟩ = some (.string (m.t 7)) ∧ w'.cell? ⟨A, 8, none⟩ = some (.string (m.t 8)) ∧ w'.cell? ⟨A, 9, none⟩ = some (.string (m.t 9)) ∧ w'.cell? ⟨A, 10, none⟩ = some (.string (m.t 10)) ∧ w'.cell? ⟨A, 11, none⟩ = some (.string (m.t 11)) ∧ w'.cell? ⟨A, 12, none⟩ = some (.string (m.t 12))) (first | exact c13 (MsgAt.keep HA2.out R.out id) KK.out)
        (first
          | (go_at_call 74; (with_reducible refine Calls.mono (CW.out _ R.out) ?_); rintro e w7 ⟨o', rfl⟩; have R := Lib.hid (R.out.trans o'); clear o'))
      all_goals
        go_wp2_with fail
        go_ret
        exact ⟨by rw [HZ.out]; rfl, (oW.out.trans O2.out).trans R.out⟩

set_option maxRecDepth 100000 in
set_option maxHeartbeats 3200000 in
theorem right_4 (m : Msg) (w : World) (hk : m.k = 4) (ht : ∀ i, (m.t i).size ≤ 100000000) : Calls Try.prog 56 #[mval m] w (numA.Told w (.bool (rightM m))) := by
  have HA := Lib.hid (show MsgAt (w.alloc (.cells m.row 61)) w.heap.size m from heap_alloc_new w _)
  have oW := Lib.hid (show Only (fun _ => False) w (w.alloc (.cells m.row 61)) from (Only.refl _ w).alloc _)
  have CR := Lib.hid (refterms_any m (w.alloc (.cells m.row 61)))
  have KK := Lib.hid hk
  obtain ⟨ps, hps⟩ : ∃ ps, ps = rterms m := ⟨_, rfl⟩
  have HPS := Lib.hid (show ps = ([m.t 10] : List ByteArray).map (·.data.toList) from by rw [hps]; unfold rterms rtexts; rw [hk]; rfl)
  have HLEN := Lib.hid (show ps.length = 1 from by rw [HPS.out]; rfl)
  have HRM := Lib.hid (show rightM m = (ps.all fitB && eqM (keepM m) m) from by rw [rightM, decide_eq_true (by rw [hk]; decide), Bool.true_and, hps])
  have HPL := Lib.hid (show ∀ q, q < ps.length → (ps.getD q []).length ≤ 100000000 from by
    intro q hq
    rw [HLEN.out] at hq
    rw [HPS.out]
    rcases (by omega : q = 0) with rfl
    all_goals exact Nat.le_trans (Nat.le_of_eq (tl_size _)) (ht _))
  have HKEEP := Lib.hid (show mval (keepM m) = .agg #[.int .i64 4, .int .u32 0, .int .u32 m.r, .int .u64 m.c, .string ⟨#[]⟩, .string ⟨#[]⟩, .string ⟨#[]⟩, .string ⟨#[]⟩, .string ⟨#[]⟩, .string ⟨#[]⟩, .string (m.t 10), .string ⟨#[]⟩, .string ⟨#[]⟩] from by unfold keepM; rw [if_neg (by omega), if_neg (by omega), if_neg (by omega)]; rfl)
  obtain ⟨d0, d1, d2, d3, d4, d5, d6, d7, d8, d9, d10, d11, d12⟩ := MsgAt.cells HA.out
  simp only [mval, Msg.row] at CR d0 d1 d2 d3 d4 d5 d6 d7 d8 d9 d10 d11 d12
  rw [← hps] at CR
  rw [hk] at CR d0
  unfold mval
  rw [hk]
  clear ht hk hps
  go_enter Try.func56, Try.ntmps56
  go_wp2_with fail
  (with_reducible refine CR.out.mono ?_)
  rintro e W2 ⟨o, a, c, rfl, hc1, hc2, hsl⟩
  have O2 := Lib.hid (show Only (fun _ => False) (w.alloc (.cells m.row 61)) W2 from by rw [show m.row = #[.int .i64 4, .int .u32 m.s, .int .u32 m.r, .int .u64 m.c, .string (m.t 4), .string (m.t 5), .string (m.t 6), .string (m.t 7), .string (m.t 8), .string (m.t 9), .string (m.t 10), .string (m.t 11), .string (m.t 12)] from by rw [Msg.row, KK.out]]; exact o)
  have HA2 := Lib.hid (MsgAt.keep HA.out O2.out id)
  obtain ⟨g, o', c', hv, hS, hg, hcc⟩ := sl_lits hsl (by rw [HLEN.out]; decide)
  obtain rfl : a = some ⟨g, o', none⟩ := by injection hv
  have HSL := Lib.hid hcc
  have HG := Lib.hid hg
  have CW := Lib.hid (fun W' (oo : Only (fun _ => False) W2 W') => with_4 m W' g o' c (Nat.lt_of_lt_of_le hg oo.size) (fun i hi => by
    refine (World.cell?_of_block (w := W2) (a := ⟨g, o' + i, none⟩) (oo.block g hg id)).trans ((hcc i (by rw [HLEN.out]; exact hi)).trans ?_)
    rw [HPS.out]
    rcases (by omega : i = 0) with rfl
    all_goals exact congrArg (fun x => some (Value.string x)) (bytes_mk _)))
  have hl := HLEN.out
  rw [hl]
  clear o CR d0 d1 d2 d3 d4 d5 d6 d7 d8 d9 d10 d11 d12 hv hS hg hcc hsl hc1 hc2 hl
  go_wp2_with fail
  obtain ⟨A, hA⟩ : ∃ A, A = w.heap.size := ⟨_, rfl⟩
  rw [← hA] at HA HA2 ⊢
  clear hA
  go_loopw [2, 4] (fun r i wr => ∃ j : Nat, i = .int .i64 j ∧ j ≤ 1 ∧ (∀ q, q < j → fitB (ps.getD q []) = true) ∧ Only (fun _ => False) W2 wr) (fun _ i _ => 1 - (Lib.intOf i).toNat)
  case atStart => exact ⟨0, rfl, Nat.zero_le _, fun q h => by omega, Only.refl _ _⟩
  case round =>
    obtain ⟨j, rfl, hj, hq, ho⟩ := hrel
    have HQ := Lib.hid hq
    have HO := Lib.hid ho
    have wj : wrap64 ((j : Int) + 1) = (j : Int) + 1 := IntWalk.wrap64_in _ (by omega)
    by_cases hjn : j < 1
    · obtain ⟨s, hs⟩ : ∃ s : ByteArray, s = ⟨(ps.getD j []).toArray⟩ := ⟨_, rfl⟩
      have HS := Lib.hid (show s.data.toList = ps.getD j [] from by rw [hs])
      have x0 : wr.cell? ⟨g, o' + j, none⟩ = some (.string s) := by rw [hs]; exact (World.cell?_of_block (w := W2) (a := ⟨g, o' + j, none⟩) (ho.block g HG.out id)).trans (HSL.out j (by rw [HLEN.out]; exact hjn))
      have HSZ := Lib.hid (show s.size ≤ 100000000 from by rw [← tl_size, HS.out]; exact HPL.out j (by rw [HLEN.out]; exact hjn))
      have IS := Lib.hid (fun W => trJ.is_any s W HSZ.out)
      have k0 : (0 : Int) ≤ (j : Int) := by omega
      have k1 : (j : Int) < 1 := by omega
      have k1' : ((j : Int) < 1) = True := eq_true k1
      have HJ := Lib.hid hjn
      clear hq ho hs hjn hj
      by_cases hz : s.size ≤ 65535
      · have g1 : ((65535 : Int) < (s.size : Int)) = False := eq_false (by omega)
        have HZ := Lib.hid hz
        clear hz
        go_wp2_with fail
        (with_reducible refine (IS.out _).mono ?_)
        rintro e w7 ⟨rfl, o7⟩
        have O7 := Lib.hid (HO.out.trans o7)
        clear o7
        cases hb : trJ.isT s.data.toList with
        | false =>
          have HB := Lib.hid (show rightM m = false from by
            rw [HRM.out, all_not (q := j) (by rw [HLEN.out]; exact HJ.out) (by rw [← HS.out, fitB_is, show isT s.data.toList = false from hb, Bool.and_false])]
            rfl)
          clear hb
          go_wp2_with fail
          go_ret
          exact ⟨by rw [HB.out]; rfl, (oW.out.trans O2.out).trans O7.out⟩
        | true =>
          have HB := Lib.hid (show fitB (ps.getD j []) = true from by rw [← HS.out, fitB_is, decide_eq_true HZ.out, show isT s.data.toList = true from hb]; rfl)
          clear hb
          go_wp2_with fail
          go_roundw
          case rel => exact ⟨j + 1, by first | rfl | (rw [wj]; rfl), HJ.out, fun q hq => by
            rcases Nat.lt_succ_iff_lt_or_eq.1 hq with h | rfl
            · exact HQ.out q h
            · exact HB.out, O7.out⟩
          case measure =>
            try rw [wj]
            have := HJ.out
            simp only [Lib.intOf]
            omega
      · have g1 : ((65535 : Int) < (s.size : Int)) = True := eq_true (by omega)
        have HB := Lib.hid (show rightM m = false from by
          rw [HRM.out, all_not (q := j) (by rw [HLEN.out]; exact HJ.out) (by rw [← HS.out, fitB_is, decide_eq_false hz]; rfl)]
          rfl)
        clear hz
        go_wp2_with fail
        go_ret
        exact ⟨by rw [HB.out]; rfl, (oW.out.trans O2.out).trans HO.out⟩
    · obtain rfl : j = 1 := by omega
      have HALL := Lib.hid (show ps.all fitB = true from all_till (by rw [HLEN.out]; exact HQ.out))
      have R := Lib.hid (HO.out.drew)
      have hEq := fun W => laid_eqlM (keepM m) m W
      rw [HKEEP.out, show mval m = .agg #[.int .i64 4, .int .u32 m.s, .int .u32 m.r, .int .u64 m.c, .string (m.t 4), .string (m.t 5), .string (m.t 6), .string (m.t 7), .string (m.t 8), .string (m.t 9), .string (m.t 10), .string (m.t 11), .string (m.t 12)] from by unfold mval; rw [KK.out]] at hEq
      obtain ⟨z, hz⟩ : ∃ z, z = eqM (keepM m) m := ⟨_, rfl⟩
      rw [← hz] at hEq
      have HZ := Lib.hid (show rightM m = z from by rw [HRM.out, HALL.out, Bool.true_and, hz])
      obtain ⟨e0, e1, e2, e3, e4, e5, e6, e7, e8, e9, e10, e11, e12⟩ := c13 (MsgAt.keep HA2.out HO.out id) KK.out
      clear hq ho hjn hj hz
      go_wp2_with fail
      go_region_held3 (fun w' => w'.cell? ⟨A, 0, none⟩ = some (.int .i64 4) ∧ w'.cell? ⟨A, 1, none⟩ = some (.int .u32 m.s) ∧ w'.cell? ⟨A, 2, none⟩ = some (.int .u32 m.r) ∧ w'.cell? ⟨A, 3, none⟩ = some (.int .u64 m.c) ∧ w'.cell? ⟨A, 4, none⟩ = some (.string (m.t 4)) ∧ w'.cell? ⟨A, 5, none⟩ = some (.string (m.t 5)) ∧ w'.cell? ⟨A, 6, none⟩ = some (.string (m.t 6)) ∧ w'.cell? ⟨A, 7, none⟩ = some (.string (m.t 7)) ∧ w'.cell? ⟨A, 8, none⟩ = some (.string (m.t 8)) ∧ w'.cell? ⟨A, 9, none⟩ = some (.string (m.t 9)) ∧ w'.cell? ⟨A, 10, none⟩ = some (.string (m.t 10)) ∧ w'.cell? ⟨A, 11, none⟩ = some (.string (m.t 11)) ∧ w'.cell? ⟨A, 12, none⟩ = some (.string (m.t 12))) (first | exact c13 (MsgAt.keep HA2.out R.out id) KK.out)
        (first
          | (go_at_call 74; (with_reducible refine Calls.mono (CW.out _ R.out) ?_); rintro e w7 ⟨o', rfl⟩; have R := Lib.hid (R.out.trans o'); clear o'))
      all_goals
        go_wp2_with fail
        go_ret
        exact ⟨by rw [HZ.out]; rfl, (oW.out.trans O2.out).trans R.out⟩

set_option maxRecDepth 100000 in
theorem right_no (m : Msg) (w : World) (hk : m.k < 1 ∨ 4 < m.k) : Calls Try.prog 56 #[mval m] w (numA.Told w (.bool (rightM m))) := by
  have HA := Lib.hid (show MsgAt (w.alloc (.cells m.row 61)) w.heap.size m from heap_alloc_new w _)
  have oW := Lib.hid (show Only (fun _ => False) w (w.alloc (.cells m.row 61)) from (Only.refl _ w).alloc _)
  have HB := Lib.hid (show rightM m = false from by rw [rightM, decide_eq_false (by omega)]; rfl)
  obtain ⟨d0, -⟩ := MsgAt.cells HA.out
  simp only [Msg.row] at d0
  unfold mval
  by_cases h : m.k < 1
  · have c1 : (m.k < 1) = True := eq_true h
    clear h hk
    go_enter Try.func56, Try.ntmps56
    go_wp2_with fail
    go_ret
    exact ⟨by rw [HB.out]; rfl, oW.out⟩
  · have c1 : (m.k < 1) = False := eq_false h
    have c2 : (4 < m.k) = True := eq_true (by omega)
    clear h hk
    go_enter Try.func56, Try.ntmps56
    go_wp2_with fail
    go_ret
    exact ⟨by rw [HB.out]; rfl, oW.out⟩

theorem refright_any (m : Msg) (w : World) (ht : ∀ i, (m.t i).size ≤ 100000000) : Calls Try.prog 56 #[mval m] w (numA.Told w (.bool (rightM m))) := by
  by_cases h : m.k < 1 ∨ 4 < m.k
  · exact right_no m w h
  have e : m.k = 1 ∨ m.k = 2 ∨ m.k = 3 ∨ m.k = 4 := by omega
  rcases e with e | e | e | e
  · exact right_1 m w e ht
  · exact right_2 m w e ht
  · exact right_3 m w e ht
  · exact right_4 m w e ht
end Go.Proofs.Ytbjnejnjlidiaaa.wrI
namespace Go.Proofs.Ytbjnejnjlidiaaa.wrJ
open Go.RowKit kit numA numC numD tmA tmD trA trB prR prS prW prX wrA wrB wrC wrD wrE wrF wrG wrH wrI
set_option linter.unusedVariables false
set_option linter.unusedSimpArgs false

theorem eqM_iff (a b : Msg) : eqM a b = true ↔ a.k = b.k ∧ a.s = b.s ∧ a.r = b.r ∧ a.c = b.c ∧ (a.t 4).toList = (b.t 4).toList ∧ (a.t 5).toList = (b.t 5).toList ∧ (a.t 6).toList = (b.t 6).toList ∧ (a.t 7).toList = (b.t 7).toList ∧ (a.t 8).toList = (b.t 8).toList ∧ (a.t 9).toList = (b.t 9).toList ∧ (a.t 10).toList = (b.t 10).toList ∧ (a.t 11).toList = (b.t 11).toList ∧ (a.t 12).toList = (b.t 12).toList := by
  simp only [eqM, Bool.and_eq_true, beq_iff_eq]

theorem mt_list : ((⟨#[]⟩ : ByteArray)).toList = [] := by rw [byteArray_toList]

theorem good_1 {m : Msg} (h : m.k = 1) : goodM m = rightM m := by
  have e1 : rowOf m.k = [.n 1, .t 4, .t 5, .t 6, .t 11, .t 12] := by rw [h]; rfl
  have e2 : rterms m = ([m.t 4, m.t 5, m.t 6, m.t 11, m.t 12] : List ByteArray).map (·.data.toList) := by unfold rterms rtexts; rw [h]; rfl
  have e3 : (rowOf m.k).all (okT m) = (rterms m).all fitB := by rw [e1, e2]; simp [okT]
  have e4 : eqM (clrs m (rowOf m.k)) (zeroM m.k) = eqM (keepM m) m := by
    rw [e1, Bool.eq_iff_iff, eqM_iff, eqM_iff]
    unfold keepM
    rw [if_pos h]
    simp only [clrs, clr, List.foldl_cons, List.foldl_nil, Msg.put, zeroM, h]
    simp [mt_list]
    simp only [eq_comm (a := (0 : Int)), eq_comm (a := ([] : List UInt8))]
    try (intros; trivial)
  unfold goodM rightM
  rw [e3, e4, decide_eq_true (by rw [h]; decide), Bool.true_and]

theorem good_2 {m : Msg} (h : m.k = 2) : goodM m = rightM m := by
  have e1 : rowOf m.k = [.n 1, .n 2, .t 4, .t 7, .t 11, .t 12] := by rw [h]; rfl
  have e2 : rterms m = ([m.t 4, m.t 7, m.t 11, m.t 12] : List ByteArray).map (·.data.toList) := by unfold rterms rtexts; rw [h]; rfl
  have e3 : (rowOf m.k).all (okT m) = (rterms m).all fitB := by rw [e1, e2]; simp [okT]
  have e4 : eqM (clrs m (rowOf m.k)) (zeroM m.k) = eqM (keepM m) m := by
    rw [e1, Bool.eq_iff_iff, eqM_iff, eqM_iff]
    unfold keepM
    rw [if_neg (by omega), if_pos h]
    simp only [clrs, clr, List.foldl_cons, List.foldl_nil, Msg.put, zeroM, h]
    simp [mt_list]
    simp only [eq_comm (a := (0 : Int)), eq_comm (a := ([] : List UInt8))]
    try (intros; trivial)
  unfold goodM rightM
  rw [e3, e4, decide_eq_true (by rw [h]; decide), Bool.true_and]

theorem good_3 {m : Msg} (h : m.k = 3) : goodM m = rightM m := by
  have e1 : rowOf m.k = [.n 2, .t 8, .t 9] := by rw [h]; rfl
  have e2 : rterms m = ([m.t 8, m.t 9] : List ByteArray).map (·.data.toList) := by unfold rterms rtexts; rw [h]; rfl
  have e3 : (rowOf m.k).all (okT m) = (rterms m).all fitB := by rw [e1, e2]; simp [okT]
  have e4 : eqM (clrs m (rowOf m.k)) (zeroM m.k) = eqM (keepM m) m := by
    rw [e1, Bool.eq_iff_iff, eqM_iff, eqM_iff]
    unfold keepM
    rw [if_neg (by omega), if_neg (by omega), if_pos h]
    simp only [clrs, clr, List.foldl_cons, List.foldl_nil, Msg.put, zeroM, h]
    simp [mt_list]
    simp only [eq_comm (a := (0 : Int)), eq_comm (a := ([] : List UInt8))]
    try (intros; trivial)
  unfold goodM rightM
  rw [e3, e4, decide_eq_true (by rw [h]; decide), Bool.true_and]

theorem good_4 {m : Msg} (h : m.k = 4) : goodM m = rightM m := by
  have e1 : rowOf m.k = [.n 2, .c, .t 10] := by rw [h]; rfl
  have e2 : rterms m = ([m.t 10] : List ByteArray).map (·.data.toList) := by unfold rterms rtexts; rw [h]; rfl
  have e3 : (rowOf m.k).all (okT m) = (rterms m).all fitB := by rw [e1, e2]; simp [okT]
  have e4 : eqM (clrs m (rowOf m.k)) (zeroM m.k) = eqM (keepM m) m := by
    rw [e1, Bool.eq_iff_iff, eqM_iff, eqM_iff]
    unfold keepM
    rw [if_neg (by omega), if_neg (by omega), if_neg (by omega)]
    simp only [clrs, clr, List.foldl_cons, List.foldl_nil, Msg.put, zeroM, h]
    simp [mt_list]
    simp only [eq_comm (a := (0 : Int)), eq_comm (a := ([] : List UInt8))]
    try (intros; trivial)
  unfold goodM rightM
  rw [e3, e4, decide_eq_true (by rw [h]; decide), Bool.true_and]

theorem goodF_eq (m : Msg) : goodF m = if rightM m then rowOf m.k else [] := by
  unfold goodF
  by_cases h : m.k < 1 ∨ 4 < m.k
  · have e : rowOf m.k = [] := by unfold rowOf; rw [if_neg (by omega), if_neg (by omega), if_neg (by omega), if_neg (by omega)]
    rw [e]
    split <;> split <;> rfl
  · have e : m.k = 1 ∨ m.k = 2 ∨ m.k = 3 ∨ m.k = 4 := by omega
    rcases e with e | e | e | e
    · rw [good_1 e]
    · rw [good_2 e]
    · rw [good_3 e]
    · rw [good_4 e]

theorem termsOf_eq (m : Msg) : termsOf m = if rightM m then rterms m else [] := by
  unfold termsOf
  rw [goodF_eq]
  by_cases hr : rightM m
  · rw [if_pos hr, if_pos hr]
    have hk : 1 ≤ m.k ∧ m.k ≤ 4 := by
      unfold rightM at hr
      rw [Bool.and_eq_true] at hr
      exact of_decide_eq_true hr.1
    have e : m.k = 1 ∨ m.k = 2 ∨ m.k = 3 ∨ m.k = 4 := by omega
    unfold rterms rtexts
    rcases e with e | e | e | e <;> rw [e] <;> rfl
  · rw [if_neg hr, if_neg hr]
    rfl

theorem rightM_k {m : Msg} (hr : rightM m = true) : 1 ≤ m.k ∧ m.k ≤ 4 := by
  unfold rightM at hr
  rw [Bool.and_eq_true] at hr
  exact of_decide_eq_true hr.1

end Go.Proofs.Ytbjnejnjlidiaaa.wrJ
namespace Go.Proofs.Ytbjnejnjlidiaaa.wrK
open Go.RowKit kit numA numC numD tmA tmD trA trB prR prS prW prX wrA wrB wrC wrD wrE wrF wrG wrH wrI wrJ
set_option linter.unusedVariables false
set_option linter.unusedSimpArgs false

end Go.Proofs.Ytbjnejnjlidiaaa.wrK
namespace Go.Proofs.Ytbjnejnjlidiaaa.wrL
open Go.RowKit kit numA numC numD tmA tmD trA trB prR prS prW prX wrA wrB wrC wrD wrE wrF wrG wrH wrI wrJ
set_option linter.unusedVariables false
set_option linter.unusedSimpArgs false

theorem sums9 (x4 x5 x6 x7 x8 x9 x10 x11 x12 : Int) (h4 : 0 ≤ x4 ∧ x4 ≤ 140737488355328) (h5 : 0 ≤ x5 ∧ x5 ≤ 140737488355328) (h6 : 0 ≤ x6 ∧ x6 ≤ 140737488355328) (h7 : 0 ≤ x7 ∧ x7 ≤ 140737488355328) (h8 : 0 ≤ x8 ∧ x8 ≤ 140737488355328) (h9 : 0 ≤ x9 ∧ x9 ≤ 140737488355328) (h10 : 0 ≤ x10 ∧ x10 ≤ 140737488355328) (h11 : 0 ≤ x11 ∧ x11 ≤ 140737488355328) (h12 : 0 ≤ x12 ∧ x12 ≤ 140737488355328) : wrap64 (x4 + x5) = x4 + x5 ∧ wrap64 (x4 + x5 + x6) = x4 + x5 + x6 ∧ wrap64 (x4 + x5 + x6 + x7) = x4 + x5 + x6 + x7 ∧ wrap64 (x4 + x5 + x6 + x7 + x8) = x4 + x5 + x6 + x7 + x8 ∧ wrap64 (x4 + x5 + x6 + x7 + x8 + x9) = x4 + x5 + x6 + x7 + x8 + x9 ∧ wrap64 (x4 + x5 + x6 + x7 + x8 + x9 + x10) = x4 + x5 + x6 + x7 + x8 + x9 + x10 ∧ wrap64 (x4 + x5 + x6 + x7 + x8 + x9 + x10 + x11) = x4 + x5 + x6 + x7 + x8 + x9 + x10 + x11 ∧ wrap64 (x4 + x5 + x6 + x7 + x8 + x9 + x10 + x11 + x12) = x4 + x5 + x6 + x7 + x8 + x9 + x10 + x11 + x12 := by
  refine ⟨?_, ?_, ?_, ?_, ?_, ?_, ?_, ?_⟩
  all_goals exact IntWalk.wrap64_in _ (by omega)

theorem le47 {n : Nat} (h : n ≤ 140737488355328) : 0 ≤ (n : Int) ∧ (n : Int) ≤ 140737488355328 := by omega

/-- How many bytes the texts have. -/
def bytesM (m : Msg) : Int := ((m.t 4).size : Int) + ((m.t 5).size : Int) + ((m.t 6).size : Int) + ((m.t 7).size : Int) + ((m.t 8).size : Int) + ((m.t 9).size : Int) + ((m.t 10).size : Int) + ((m.t 11).size : Int) + ((m.t 12).size : Int)

set_option maxRecDepth 100000 in
theorem heavy_any (m : Msg) (most : Int) (w : World) (ht : ∀ i, (m.t i).size ≤ 140737488355328) : Calls Try.prog 54 #[mval m, .int .i64 most] w (numA.Told w (.bool (decide (most < bytesM m)))) := by
  have HA := Lib.hid (show MsgAt (w.alloc (.cells m.row 61)) w.heap.size m from heap_alloc_new w _)
  have oW := Lib.hid (show Only (fun _ => False) w (w.alloc (.cells m.row 61)) from (Only.refl _ w).alloc _)
  obtain ⟨d0, d1, d2, d3, d4, d5, d6, d7, d8, d9, d10, d11, d12⟩ := MsgAt.cells HA.out
  simp only [mval, Msg.row] at d0 d1 d2 d3 d4 d5 d6 d7 d8 d9 d10 d11 d12
  obtain ⟨a0, a1, a2, a3, a4, a5, a6, a7⟩ := sums9 ((m.t 4).size : Int) ((m.t 5).size : Int) ((m.t 6).size : Int) ((m.t 7).size : Int) ((m.t 8).size : Int) ((m.t 9).size : Int) ((m.t 10).size : Int) ((m.t 11).size : Int) ((m.t 12).size : Int) (le47 (ht 4)) (le47 (ht 5)) (le47 (ht 6)) (le47 (ht 7)) (le47 (ht 8)) (le47 (ht 9)) (le47 (ht 10)) (le47 (ht 11)) (le47 (ht 12))
  unfold bytesM
  unfold mval
  clear ht
  go_enter Try.func54, Try.ntmps54
  go_wp2_with fail
  go_ret
  exact ⟨rfl, oW.out⟩

end Go.Proofs.Ytbjnejnjlidiaaa.wrL
