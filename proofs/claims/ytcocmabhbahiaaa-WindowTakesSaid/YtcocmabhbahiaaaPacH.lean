/- Contract of packet.Read, of a packet. -/
import Derived.Test.YtcocmabhbahiaaaPacG
namespace Go.Proofs.Ytcocmabhbahiaaa.pacH
open Go.RowKit Go.Lib Go.Proofs.Ytcocmabhbahiaaa.kit Go.Proofs.Ytcocmabhbahiaaa.numA Go.Proofs.Ytcocmabhbahiaaa.numF Go.Proofs.Ytcocmabhbahiaaa.numG Go.Proofs.Ytcocmabhbahiaaa.pacA Go.Proofs.Ytcocmabhbahiaaa.pacD Go.Proofs.Ytcocmabhbahiaaa.pacE Go.Proofs.Ytcocmabhbahiaaa.pacG
set_option linter.unusedVariables false
set_option linter.unusedSimpArgs false

def ClonedZ (w : World) (z : Nat) (l : List UInt8) (e : Ending) (w' : World) : Prop := ∃ a c, e = .returned (.slice a z c) ∧ Hid (ByN w' w.heap.size (.slice a z c) l) ∧ Only (fun _ => False) w w'

theorem clone_z (v : Value) (z : Nat) (l : List UInt8) (w : World) (h : By w v l) (hl : l.length ≤ 100000000) (hz : l.length = z) : Calls Try.prog 74 #[v] w (ClonedZ w z l) := by
  refine (clone_new v l w h hl).mono ?_
  rintro e w' ⟨r, rfl, hr, o⟩
  have hr2 := hr
  obtain ⟨⟨a, c, rfl, _⟩, _⟩ := hr2
  rw [hz] at hr ⊢
  exact ⟨a, c, rfl, Lib.hid hr, o⟩

theorem keepS {w W W' : World} {B F : Nat} {c0 c2 c3 c4 c5 : Value} (o : Only (fun _ => False) W W') (h0 : W.cell? ⟨F, 0, none⟩ = some c0) (h2 : W.cell? ⟨F, 2, none⟩ = some c2) (h3 : W.cell? ⟨F, 3, none⟩ = some c3) (h4 : W.cell? ⟨F, 4, none⟩ = some c4) (h5 : W.cell? ⟨F, 5, none⟩ = some c5)
    (b0 : W.cell? ⟨B, 0, none⟩ = some (cellv W ⟨B, 0, none⟩)) (b1 : W.cell? ⟨B, 1, none⟩ = some (cellv W ⟨B, 1, none⟩)) (b2 : W.cell? ⟨B, 2, none⟩ = some (cellv W ⟨B, 2, none⟩)) (b3 : W.cell? ⟨B, 3, none⟩ = some (cellv W ⟨B, 3, none⟩))
    (f0 : W.frozen? ⟨B, 0, none⟩ = false) (f1 : W.frozen? ⟨B, 1, none⟩ = false) (f2 : W.frozen? ⟨B, 2, none⟩ = false) (f3 : W.frozen? ⟨B, 3, none⟩ = false) (k : Only (fun _ => False) w W) :
    W'.cell? ⟨F, 0, none⟩ = some c0 ∧ W'.cell? ⟨F, 2, none⟩ = some c2 ∧ W'.cell? ⟨F, 3, none⟩ = some c3 ∧ W'.cell? ⟨F, 4, none⟩ = some c4 ∧ W'.cell? ⟨F, 5, none⟩ = some c5 ∧
    W'.cell? ⟨B, 0, none⟩ = some (cellv W' ⟨B, 0, none⟩) ∧ W'.cell? ⟨B, 1, none⟩ = some (cellv W' ⟨B, 1, none⟩) ∧ W'.cell? ⟨B, 2, none⟩ = some (cellv W' ⟨B, 2, none⟩) ∧ W'.cell? ⟨B, 3, none⟩ = some (cellv W' ⟨B, 3, none⟩) ∧
    W'.frozen? ⟨B, 0, none⟩ = false ∧ W'.frozen? ⟨B, 1, none⟩ = false ∧ W'.frozen? ⟨B, 2, none⟩ = false ∧ W'.frozen? ⟨B, 3, none⟩ = false ∧ Only (fun _ => False) w W' := by
  have lF := World.block_lt_of_cell? W _ h0
  have lB := World.block_lt_of_cell? W _ b0
  have eF := o.block F lF id
  have eB := o.block B lB id
  have cF : ∀ i, W'.cell? ⟨F, i, none⟩ = W.cell? ⟨F, i, none⟩ := fun i => World.cell?_of_block (w := W) (a := ⟨F, i, none⟩) eF
  have cB : ∀ i, W'.cell? ⟨B, i, none⟩ = W.cell? ⟨B, i, none⟩ := fun i => World.cell?_of_block (w := W) (a := ⟨B, i, none⟩) eB
  have fB : ∀ i, W'.frozen? ⟨B, i, none⟩ = W.frozen? ⟨B, i, none⟩ := fun i => World.frozen?_of_block (w := W) (a := ⟨B, i, none⟩) eB
  exact ⟨(cF 0).trans h0, (cF 2).trans h2, (cF 3).trans h3, (cF 4).trans h4, (cF 5).trans h5, cellv_some ((cB 0).trans b0), cellv_some ((cB 1).trans b1), cellv_some ((cB 2).trans b2), cellv_some ((cB 3).trans b3),
    (fB 0).trans f0, (fB 1).trans f1, (fB 2).trans f2, (fB 3).trans f3, k.trans o⟩


theorem setS {w W : World} {B F : Nat} {c0 c2 c3 c4 c5 v0 v1 v2 v3 : Value} (hB : w.heap.size ≤ B) (hn : B ≠ F) (h : W.cell? ⟨F, 0, none⟩ = some c0 ∧ W.cell? ⟨F, 2, none⟩ = some c2 ∧ W.cell? ⟨F, 3, none⟩ = some c3 ∧ W.cell? ⟨F, 4, none⟩ = some c4 ∧ W.cell? ⟨F, 5, none⟩ = some c5 ∧
    W.cell? ⟨B, 0, none⟩ = some (cellv W ⟨B, 0, none⟩) ∧ W.cell? ⟨B, 1, none⟩ = some (cellv W ⟨B, 1, none⟩) ∧ W.cell? ⟨B, 2, none⟩ = some (cellv W ⟨B, 2, none⟩) ∧ W.cell? ⟨B, 3, none⟩ = some (cellv W ⟨B, 3, none⟩) ∧
    W.frozen? ⟨B, 0, none⟩ = false ∧ W.frozen? ⟨B, 1, none⟩ = false ∧ W.frozen? ⟨B, 2, none⟩ = false ∧ W.frozen? ⟨B, 3, none⟩ = false ∧ Only (fun _ => False) w W) :
    let W' := (((W.setCell ⟨B, 0, none⟩ v0).setCell ⟨B, 1, none⟩ v1).setCell ⟨B, 2, none⟩ v2).setCell ⟨B, 3, none⟩ v3
    W'.cell? ⟨F, 0, none⟩ = some c0 ∧ W'.cell? ⟨F, 2, none⟩ = some c2 ∧ W'.cell? ⟨F, 3, none⟩ = some c3 ∧ W'.cell? ⟨F, 4, none⟩ = some c4 ∧ W'.cell? ⟨F, 5, none⟩ = some c5 ∧
    W'.cell? ⟨B, 0, none⟩ = some (cellv W' ⟨B, 0, none⟩) ∧ W'.cell? ⟨B, 1, none⟩ = some (cellv W' ⟨B, 1, none⟩) ∧ W'.cell? ⟨B, 2, none⟩ = some (cellv W' ⟨B, 2, none⟩) ∧ W'.cell? ⟨B, 3, none⟩ = some (cellv W' ⟨B, 3, none⟩) ∧
    W'.frozen? ⟨B, 0, none⟩ = false ∧ W'.frozen? ⟨B, 1, none⟩ = false ∧ W'.frozen? ⟨B, 2, none⟩ = false ∧ W'.frozen? ⟨B, 3, none⟩ = false ∧ Only (fun _ => False) w W' := by
  obtain ⟨h0, h2, h3, h4, h5, b0, b1, b2, b3, f0, f1, f2, f3, k⟩ := h
  intro W'
  have hn' : ¬ (F = B) := fun e => hn e.symm
  have x0 : W'.cell? ⟨B, 0, none⟩ = some v0 := by simp [W', b0, b1, b2, b3, go_sem]
  have x1 : W'.cell? ⟨B, 1, none⟩ = some v1 := by simp [W', b0, b1, b2, b3, go_sem]
  have x2 : W'.cell? ⟨B, 2, none⟩ = some v2 := by simp [W', b0, b1, b2, b3, go_sem]
  have x3 : W'.cell? ⟨B, 3, none⟩ = some v3 := by simp [W', b0, b1, b2, b3, go_sem]
  refine ⟨by simp [W', h0, hn, hn', go_sem], by simp [W', h2, hn, hn', go_sem], by simp [W', h3, hn, hn', go_sem], by simp [W', h4, hn, hn', go_sem], by simp [W', h5, hn, hn', go_sem], cellv_some x0, cellv_some x1, cellv_some x2, cellv_some x3, by simp [W', f0, go_sem], by simp [W', f1, go_sem], by simp [W', f2, go_sem], by simp [W', f3, go_sem], ?_⟩
  exact numD.only_setNew (numD.only_setNew (numD.only_setNew (numD.only_setNew k hB) hB) hB) hB

set_option maxRecDepth 100000 in
set_option maxHeartbeats 2000000 in
theorem read_ok (x : Value) (l : List UInt8) (w : World) (h : By w x l) (hm5 : l.length ≤ 100000000) (v b wh s d z : Nat) (P : Pk l v b wh s d z) : Calls Try.prog 25 #[x] w (Head w v wh ((l.take (s + z)).drop s) ((l.take (d + z)).drop d) 0) := by
  have O0 : Only (fun _ => False) w (w.alloc (.cells #[.int .i64 0, .slice none 0 0, .slice none 0 0, .int .i64 0] 36)) := (Only.refl _ w).alloc _
  have L := pacC.look_any x l _ (h.keep O0)
  rw [P.eq] at L
  obtain ⟨g, o, cap, rfl, hc, hm, hg, hcell⟩ := h.some (List.length_pos_iff.2 P.ne)
  have hs1 := P.s1
  have hd1 := P.d1
  have hb1 := P.b1
  have hw1 := P.w1
  have hz4 : 4 ≤ z := by rcases P.ver with ⟨_, _, _, _, _, _, h⟩ | ⟨_, _, _, _, _, _, h⟩ <;> omega
  have SS : By w (.slice (some ⟨g, o + s, none⟩) z (cap - s)) ((l.take (s + z)).drop s) := by have := h.sub s (s + z) (by omega) (by omega); rwa [Nat.add_sub_cancel_left] at this
  have SD : By w (.slice (some ⟨g, o + d, none⟩) z (cap - d)) ((l.take (d + z)).drop d) := by have := h.sub d (d + z) (by omega) (by omega); rwa [Nat.add_sub_cancel_left] at this
  have ls1 : ((l.take (s + z)).drop s).length ≤ 100000000 := by simp; omega
  have ls2 : ((l.take (d + z)).drop d).length ≤ 100000000 := by simp; omega
  have lz1 : ((l.take (s + z)).drop s).length = z := by simp; omega
  have lz2 : ((l.take (d + z)).drop d).length = z := by simp; omega
  have C1 := fun (W : World) (k : Only (fun _ => False) w W) => clone_z _ z _ W (SS.keep k) ls1 lz1
  have C2 := fun (W : World) (k : Only (fun _ => False) w W) => clone_z _ z _ W (SD.keep k) ls2 lz2
  have i1 : (s : Int) < (cap : Int) := by omega
  have i2 : (s : Int) + (z : Int) ≤ (cap : Int) := by omega
  have i3 : (d : Int) < (cap : Int) := by omega
  have i4 : (d : Int) + (z : Int) ≤ (cap : Int) := by omega
  have i5 : (0 : Int) ≤ (s : Int) := by omega
  have i6 : (0 : Int) ≤ (d : Int) := by omega
  have i7 : (s : Int) ≤ (s : Int) + (z : Int) := by omega
  have i8 : (d : Int) ≤ (d : Int) + (z : Int) := by omega
  have i9 : ¬ (cap = s) := by omega
  have i10 : ¬ (cap = d) := by omega
  have hn0 : 0 < l.length := by omega
  unfold maxLen at hm
  have w1 : IntKind.i64.wrap ((s : Int) + (z : Int)) = (s : Int) + (z : Int) := IntWalk.i64_in _ (by omega)
  have w2 : IntKind.i64.wrap ((d : Int) + (z : Int)) = (d : Int) + (z : Int) := IntWalk.i64_in _ (by omega)
  have w3' : ((s : Int) + (z : Int)).toNat = s + z := by omega
  have w4' : ((d : Int) + (z : Int)).toNat = d + z := by omega
  have HO0 := Lib.hid O0
  have HC1 := Lib.hid C1
  have HC2 := Lib.hid C2
  have hl5 : l.length ≤ 100000000 := hm5
  clear C1 C2 SS SD ls1 ls2 lz1 lz2 hcell h P O0 hs1 hd1 hb1 hw1
  go_enter Try.func25, Try.ntmps25
  go_wp2_with fail
  refine L.mono ?_
  rintro e w3 ⟨rfl, o3⟩
  have hz : w3.heap[w.heap.size]? = some (.cells #[.int .i64 0, .slice none 0 0, .slice none 0 0, .int .i64 0] 36) := (o3.block w.heap.size (by simp) id).trans (heap_alloc_new w _)
  have hlt3 : w.heap.size < w3.heap.size := by have := o3.size; simp at this; omega
  have hz4 : (w3.alloc (.cells #[.int .i64 (v : Int), .int .i64 (b : Int), .int .i64 (wh : Int), .int .i64 (s : Int), .int .i64 (d : Int), .int .i64 (z : Int)] 100)).heap[w.heap.size]? = some (.cells #[.int .i64 0, .slice none 0 0, .slice none 0 0, .int .i64 0] 36) := (Below.heap_alloc _ _ _ hlt3).trans hz
  have hF := heap_alloc_new w3 (.cells #[.int .i64 (v : Int), .int .i64 (b : Int), .int .i64 (wh : Int), .int .i64 (s : Int), .int .i64 (d : Int), .int .i64 (z : Int)] 100)
  have OW : Only (fun _ => False) w (w3.alloc (.cells #[.int .i64 (v : Int), .int .i64 (b : Int), .int .i64 (wh : Int), .int .i64 (s : Int), .int .i64 (d : Int), .int .i64 (z : Int)] 100)) := (HO0.out.trans o3).alloc _
  have HW := Lib.hid hz4
  have HF := Lib.hid hF
  have HOW := Lib.hid OW
  clear o3 hz hz4 hF OW
  go_wp2_with fail
  generalize (w3.alloc (.cells #[.int .i64 (v : Int), .int .i64 (b : Int), .int .i64 (wh : Int), .int .i64 (s : Int), .int .i64 (d : Int), .int .i64 (z : Int)] 100)) = W4 at *
  generalize hFn : w3.heap.size = F at *
  generalize hBn : w.heap.size = B at *
  have hBF : B ≠ F := by omega
  have hBge : w.heap.size ≤ B := by omega
  have hBF' : ¬ (B = F) := hBF
  have hFB' : ¬ (F = B) := fun e => hBF e.symm
  have z0 := cellv_some (cell_of (o := 0) HW.out)
  have z1 := cellv_some (cell_of (o := 1) HW.out)
  have z2 := cellv_some (cell_of (o := 2) HW.out)
  have z3 := cellv_some (cell_of (o := 3) HW.out)
  have q0 := free_of (o := 0) HW.out
  have q1 := free_of (o := 1) HW.out
  have q2 := free_of (o := 2) HW.out
  have q3 := free_of (o := 3) HW.out
  have y0 : W4.cell? ⟨F, 0, none⟩ = some (.int .i64 (v : Int)) := cell_of HF.out
  have y2 : W4.cell? ⟨F, 2, none⟩ = some (.int .i64 (wh : Int)) := cell_of HF.out
  have y3 : W4.cell? ⟨F, 3, none⟩ = some (.int .i64 (s : Int)) := cell_of HF.out
  have y4 : W4.cell? ⟨F, 4, none⟩ = some (.int .i64 (d : Int)) := cell_of HF.out
  have y5 : W4.cell? ⟨F, 5, none⟩ = some (.int .i64 (z : Int)) := cell_of HF.out
  have oW := HOW.out
  have hs8 : F < W4.heap.size := World.block_lt_of_cell? W4 _ y0
  have hs9 : B < W4.heap.size := World.block_lt_of_cell? W4 _ z0
  go_region_held3 (fun w' => w'.cell? ⟨F, 0, none⟩ = some (.int .i64 (v : Int)) ∧ w'.cell? ⟨F, 2, none⟩ = some (.int .i64 (wh : Int)) ∧ w'.cell? ⟨F, 3, none⟩ = some (.int .i64 (s : Int)) ∧ w'.cell? ⟨F, 4, none⟩ = some (.int .i64 (d : Int)) ∧ w'.cell? ⟨F, 5, none⟩ = some (.int .i64 (z : Int)) ∧
      w'.cell? ⟨B, 0, none⟩ = some (cellv w' ⟨B, 0, none⟩) ∧ w'.cell? ⟨B, 1, none⟩ = some (cellv w' ⟨B, 1, none⟩) ∧ w'.cell? ⟨B, 2, none⟩ = some (cellv w' ⟨B, 2, none⟩) ∧ w'.cell? ⟨B, 3, none⟩ = some (cellv w' ⟨B, 3, none⟩) ∧
      w'.frozen? ⟨B, 0, none⟩ = false ∧ w'.frozen? ⟨B, 1, none⟩ = false ∧ w'.frozen? ⟨B, 2, none⟩ = false ∧ w'.frozen? ⟨B, 3, none⟩ = false ∧ Only (fun _ => False) w w')
    (first | (exact keepS (W := W4) (Only.drew (Only.refl _ W4)) y0 y2 y3 y4 y5 z0 z1 z2 z3 q0 q1 q2 q3 oW) | (exact keepS (W := W4) ((Only.drew (Only.refl _ W4)).trans o5) y0 y2 y3 y4 y5 z0 z1 z2 z3 q0 q1 q2 q3 oW) | (exact keepS (W := W4) (((Only.drew (Only.refl _ W4)).trans o5).trans o6) y0 y2 y3 y4 y5 z0 z1 z2 z3 q0 q1 q2 q3 oW) | (exact setS hBge hBF (keepS (W := W4) (((Only.drew (Only.refl _ W4)).trans o5).trans o6) y0 y2 y3 y4 y5 z0 z1 z2 z3 q0 q1 q2 q3 oW)))
    (first | (go_at_call 74; (with_reducible refine Calls.mono (HC1.out _ oW.drew) ?_); rintro e w5 ⟨a1, e1, rfl, hr1, o5⟩) | (go_at_call 74; (with_reducible refine Calls.mono (HC2.out _ (oW.drew.trans o5)) ?_); rintro e w6 ⟨a2, e2, rfl, hr2, o6⟩))
  all_goals
    go_wp2_with fail
    obtain ⟨x0, x2, x3, x4, x5, b0, b1, b2, b3, f0, f1, f2, f3, kk⟩ := keepS (W := W4) (((Only.drew (Only.refl _ W4)).trans o5).trans o6) y0 y2 y3 y4 y5 z0 z1 z2 z3 q0 q1 q2 q3 oW
    have bs5 : B < w5.heap.size := Nat.lt_of_lt_of_le (by simpa using hs9) o5.size
    refine bodyPost_ret (v := .tuple #[header (v : Int) (.slice a1 z e1) (.slice a2 z e2) (wh : Int), .int .i64 0]) (by simp [results, Try.results25, go_sem, b0, b1, b2, b3]) rfl ⟨_, _, rfl, ?_, ?_, ?_⟩
    · have bs4 : B < W4.drew.heap.size := by simpa using hs9
      exact (hr1.out.only (S := fun g => g = B) ((((((Only.refl _ _).trans (o6.mono fun _ h => h.elim)).set (S := fun g => g = B) rfl).set (S := fun g => g = B) rfl).set (S := fun g => g = B) rfl).set (S := fun g => g = B) rfl) (fun g hg e => by have e' : g = B := e; omega)).1
    · exact (hr2.out.only (S := fun g => g = B) (((((Only.refl _ _).set (S := fun g => g = B) rfl).set (S := fun g => g = B) rfl).set (S := fun g => g = B) rfl).set (S := fun g => g = B) rfl) (fun g hg e => by have e' : g = B := e; omega)).1
    · exact numD.only_setNew (numD.only_setNew (numD.only_setNew (numD.only_setNew kk hBge) hBge) hBge) hBge
end Go.Proofs.Ytcocmabhbahiaaa.pacH
