/- Contract of packet.Make. -/
import Derived.Test.YtcocmabhbahiaaaPacH
import Derived.Laws.CopyOwn
namespace Go.Proofs.Ytcocmabhbahiaaa.pacI
open Go.RowKit Go.Lib Go.Proofs.Ytcocmabhbahiaaa.kit Go.Proofs.Ytcocmabhbahiaaa.numA Go.Proofs.Ytcocmabhbahiaaa.numF Go.Proofs.Ytcocmabhbahiaaa.numG Go.Proofs.Ytcocmabhbahiaaa.pacA Go.Proofs.Ytcocmabhbahiaaa.pacD Go.Proofs.Ytcocmabhbahiaaa.pacE Go.Proofs.Ytcocmabhbahiaaa.pacG
set_option linter.unusedVariables false
set_option linter.unusedSimpArgs false

/-- One row, and what else may differ: new blocks, and the row's own. -/
theorem only_row {S : Nat → Prop} {a w : World} (h : Only S a w) (g : Nat) (hg : a.heap.size ≤ g) (cs : Array Value) : Only S a (w.setRow g cs) :=
  ⟨h.os, h.tape, h.output, by simpa [World.setRow] using h.size, fun k hk hs => (setRow_other w g k cs (by omega)).trans (h.block k hk hs)⟩

theorem copy_at (w W : World) (G off k cap c : Nat) (a : Option Addr) (cur : List Value) (hg : W.heap[G]? = some (.cells cur.toArray 5 (0, 0))) (l : List UInt8) (h : By W (.slice a l.length c) l)
    (hfit : off + l.length ≤ cur.length) (hk : l.length ≤ k) (o : Only (fun _ => False) w W) (hG : w.heap.size ≤ G) (dp : Option Addr) (hd : 0 < l.length → dp = some ⟨G, off, none⟩) :
    ∃ W', (Builtin.copy_ #[27, 27] 3 #[.slice dp k cap, .slice a l.length c]).run Try.prog W = .ok (goInt (l.length : Nat)) W' ∧ W'.heap[G]? = some (.cells (splice cur off (U8 l)).toArray 5 (0, 0)) ∧ Only (fun _ => False) w W' := by
  obtain ⟨i0, hi0, hz0, hz1, hz2⟩ := info_parts info5
  have hsz : (Try.prog.info? 5).map (·.size) = some 1 := by rw [hi0]; exact congrArg some hz1
  by_cases h0 : l.length = 0
  · have hl : l = [] := List.eq_nil_of_length_eq_zero h0
    subst hl
    refine ⟨W, ?_, by simpa [splice, U8] using hg, o⟩
    exact run_copy_none (P := Try.prog) W 27 27 3 5 dp a k cap 0 c Try.underlying27 hsz (by simp)
  · obtain rfl := hd (by omega)
    obtain ⟨a', c', hv, hc, hm, h⟩ := id h
    rcases h with h | ⟨g, o', rfl, hgl, hcell⟩
    · exact absurd (by rw [h]; rfl) h0
    · injection hv with q1 q2 q3
      subst q1 q3
      refine ⟨_, run_copy_row (P := Try.prog) W 27 27 3 5 G off k cap ⟨g, o', none⟩ l.length c cur.toArray 5 (U8 l) Try.underlying27 hsz hg (by rw [U8_len]; exact (Nat.min_eq_left hk).symm) ?_ (by simpa [U8_len] using hfit) (one_U8 l) |>.trans (by rw [U8_len]), ?_, only_row o G hG _⟩
      · intro j u hj
        have hlt : j < l.length := by
          have := (List.getElem?_eq_some_iff.1 hj).1
          rwa [U8_len] at this
        rw [Addr.add_lit, hcell j hlt, ← hj]
        simp [U8, hlt]
      · simpa [splice, U8_len] using setRow_heap W G _ _ 5 _ hg

theorem splice_at (H R A : List Value) : splice (H ++ R) H.length A = (H ++ A) ++ R.drop A.length := by
  simp [splice]

theorem splice_next (H R A : List Value) (k : Nat) (hk : k = H.length) : splice (H ++ R) k A = (H ++ A) ++ R.drop A.length := by
  rw [hk]; exact splice_at H R A

theorem made_list (n : Nat) (v : Value) : (madeCells #[v] n) = (List.replicate n v).toArray := by
  apply Array.ext
  · simp [size_madeCells]
  · intro i h1 h2
    simp [madeCells, Nat.mod_one]

theorem u8_of (n : Nat) (h : n < 256) : (UInt8.ofNat n).toNat = n := by
  simp; omega

theorem by_row {W : World} {G n : Nat} {l : List UInt8} (hg : W.heap[G]? = some (.cells (U8 l).toArray 5 (0, 0))) (hn : l.length = n) (hm : n ≤ maxLen) : By W (.slice (some ⟨G, 0, none⟩) n n) l := by
  subst hn
  refine ⟨_, _, rfl, Nat.le_refl _, hm, .inr ⟨G, 0, rfl, lt_of hg, fun i hi => ?_⟩⟩
  rw [Nat.zero_add, cell_of hg]
  simp [U8, hi]

set_option maxRecDepth 100000 in
set_option maxHeartbeats 2000000 in
theorem make4 (x y z : Value) (ls ld lt : List UInt8) (w : World) (h1 : By w x ls) (h2 : By w y ld) (h3 : By w z lt) (e1 : ls.length = 4) (e2 : ld.length = 4) (e3 : lt.length ≤ 1980) :
    Calls Try.prog 30 #[x, y, z] w (Got w ([69, 0, UInt8.ofNat ((20 + lt.length) / 256), UInt8.ofNat ((20 + lt.length) % 256), 0, 0, 0, 0, 0, 0, 0, 0] ++ ls ++ ld ++ lt) 0) := by
  obtain ⟨a1, c1, rfl, -⟩ := id h1
  obtain ⟨a2, c2, rfl, -⟩ := id h2
  obtain ⟨a3, c3, rfl, -⟩ := id h3
  have hw1 := h1
  have hw2 := h2
  have hw3 := h3
  rw [e1] at h1 ⊢
  rw [e2] at h2 ⊢
  have t3 : ¬ ((1980 : Int) < (lt.length : Int)) := by omega
  have w3 : IntKind.i64.wrap (20 + (lt.length : Int)) = 20 + (lt.length : Int) := IntWalk.i64_in _ (by omega)
  have n3 : (0 : Int) ≤ 20 + (lt.length : Int) := by omega
  have n4 : (20 + (lt.length : Int)).toNat = 20 + lt.length := by omega
  have hmk0 := run_make_row' (P := Try.prog) 27 5 (.int .u8 0) 1 Try.underlying27 info5 rfl .i64 .i64 (20 + lt.length) (by omega) (by omega) w
  rw [show ((20 + lt.length : Nat) : Int) = 20 + (lt.length : Int) from by omega] at hmk0
  have hr0 := World.rowIs_made w (.int .u8 0) (20 + lt.length) 5
  have hb0 := heap_alloc_new w (.cells (madeCells #[.int .u8 0] (20 + lt.length)) 5)
  have O0 : Only (fun _ => False) w (w.alloc (.cells (madeCells #[.int .u8 0] (20 + lt.length)) 5)) := (Only.refl _ w).alloc _
  have HGG := Lib.hid (Nat.le_refl w.heap.size)
  generalize hG : w.heap.size = G at hmk0 hr0 hb0
  generalize hW1 : w.alloc (.cells (madeCells #[.int .u8 0] (20 + lt.length)) 5) = W1 at hmk0 hr0 hb0 O0
  have hGle : w.heap.size ≤ G := by omega
  have cc0 := hr0.cell (i := 0) (by omega)
  have cc2 := hr0.cell (i := 2) (by omega)
  have cc3 := hr0.cell (i := 3) (by omega)
  have ff0 := hr0.frozen 0
  have ff2 := hr0.frozen 2
  have ff3 := hr0.frozen 3
  have d1 : (20 + (lt.length : Int)) / 256 < 256 := by omega
  have d2 : 0 ≤ (20 + (lt.length : Int)) / 256 := by omega
  have nn0 : (0 : Int) < 20 + (lt.length : Int) := by omega
  have nn2 : (2 : Int) < 20 + (lt.length : Int) := by omega
  have nn3 : (3 : Int) < 20 + (lt.length : Int) := by omega
  have nn12 : (12 : Int) < 20 + (lt.length : Int) := by omega
  have nn16 : (16 : Int) < 20 + (lt.length : Int) := by omega
  have nn20 : (20 : Int) ≤ 20 + (lt.length : Int) := by omega
  have nm0 : 0 < 20 + lt.length := by omega
  have nm2 : 2 < 20 + lt.length := by omega
  have nm3 : 3 < 20 + lt.length := by omega
  have nm12 : 12 ≤ 20 + lt.length := by omega
  have nm16 : 16 ≤ 20 + lt.length := by omega
  have nm20 : 20 ≤ 20 + lt.length := by omega
  rw [made_list, show 20 + lt.length = (20-12 + lt.length) + 12 from by omega] at hb0
  have hb1 := heap_set (o := 0) (v := .int .u8 69) hb0
  have hb2 := heap_set (o := 2) (v := .int .u8 ((20 + (lt.length : Int)) / 256)) hb1
  have hb3 := heap_set (o := 3) (v := .int .u8 ((20 + (lt.length : Int)) % 256)) hb2
  have O3 : Only (fun _ => False) w (((W1.setCell ⟨G, 0, none⟩ (.int .u8 69)).setCell ⟨G, 2, none⟩ (.int .u8 ((20 + (lt.length : Int)) / 256))).setCell ⟨G, 3, none⟩ (.int .u8 ((20 + (lt.length : Int)) % 256))) := numD.only_setNew (numD.only_setNew (numD.only_setNew O0 hGle) hGle) hGle
  have hb4 : (((W1.setCell ⟨G, 0, none⟩ (.int .u8 69)).setCell ⟨G, 2, none⟩ (.int .u8 ((20 + (lt.length : Int)) / 256))).setCell ⟨G, 3, none⟩ (.int .u8 ((20 + (lt.length : Int)) % 256))).heap[G]? = some (.cells (([.int .u8 69, .int .u8 0, .int .u8 ((20 + (lt.length : Int)) / 256), .int .u8 ((20 + (lt.length : Int)) % 256), .int .u8 0, .int .u8 0, .int .u8 0, .int .u8 0, .int .u8 0, .int .u8 0, .int .u8 0, .int .u8 0] : List Value) ++ List.replicate (8 + lt.length) (Value.int .u8 0)).toArray 5 (0, 0)) := by
    rw [hb3]
    simp only [List.setIfInBounds_toArray]
    rfl
  obtain ⟨W4, r4, b4, o4⟩ := copy_at w _ G 12 (20 + lt.length - 12) (20 + lt.length - 12) c1 a1 _ hb4 ls (hw1.keep O3) (by simp; omega) (by omega) O3 hGle (some ⟨G, 12, none⟩) (fun _ => rfl)
  obtain ⟨W5, r5, b5, o5⟩ := copy_at w _ G 16 (20 + lt.length - 16) (20 + lt.length - 16) c2 a2 _ b4 ld (hw2.keep o4) (by simp [splice, U8_len]; omega) (by omega) o4 hGle (some ⟨G, 16, none⟩) (fun _ => rfl)
  obtain ⟨dp, hdp⟩ : ∃ dp : Option Addr, dp = if lt.length = 0 then some ⟨G, 0, none⟩ else some ⟨G, 20, none⟩ := ⟨_, rfl⟩
  obtain ⟨W6, r6, b6, o6⟩ := copy_at w _ G 20 lt.length lt.length c3 a3 _ b5 lt (hw3.keep o5) (by simp [splice, U8_len]; omega) (by omega) o5 hGle dp (fun h => by rw [hdp, if_neg (by omega)])
  rw [splice_next _ _ _ 12 (by simp), splice_next _ _ _ 16 (by simp [U8_len, e1]), splice_next _ _ _ 20 (by simp [U8_len, e1, e2]), List.drop_drop, List.drop_drop, List.drop_of_length_le (by simp [U8_len]; omega), List.append_nil] at b6
  obtain ⟨L, hL⟩ : ∃ L : List UInt8, L = [69, 0, UInt8.ofNat ((20 + lt.length) / 256), UInt8.ofNat ((20 + lt.length) % 256), 0, 0, 0, 0, 0, 0, 0, 0] ++ ls ++ ld ++ lt := ⟨_, rfl⟩
  rw [← hL]
  have HF : Hid (∀ e W, e = .returned (.tuple #[.slice (some ⟨G, 0, none⟩) (20 + lt.length) (20 + lt.length), .int .i64 0]) → W = W6 → Got w L 0 e W) := by
    rintro e W rfl rfl
    subst hL
    refine ⟨_, rfl, by_row ?_ (by simp; omega) (by unfold maxLen; omega), o6⟩
    rw [b6]
    have x1 := u8_of ((20 + lt.length) / 256) (by omega)
    have x2 := u8_of ((20 + lt.length) % 256) (by omega)
    simp only [U8, List.map_append, List.map_cons, List.map_nil, x1, x2]
    rfl
  simp only [e1, goInt] at r4
  simp only [e2, goInt] at r5
  simp only [goInt] at r6
  clear hL h1 h2 h3 hw1 hw2 hw3 hb0 hb1 hb2 hb3 hb4 b4 b5 b6 o4 o5 o6 O3 O0 hr0 hW1 HGG hG hGle
  by_cases hn0 : lt.length = 0
  · rw [if_pos hn0] at hdp
    subst hdp
    simp only [hn0, Int.natCast_zero, Int.cast_ofNat_Int, Int.add_zero, Nat.add_zero, Nat.reduceSub, Int.reduceDiv, Int.reduceMod] at hmk0 r4 r5 r6 HF ⊢
    go_enter Try.func30, Try.ntmps30
    go_wp2_with fail
    exact bodyPost_ret (by simp [results, Try.results30, go_sem]) rfl (HF.out _ _ rfl rfl)
  · rw [if_neg hn0] at hdp
    subst hdp
    go_enter Try.func30, Try.ntmps30
    go_wp2_with fail
    exact bodyPost_ret (by simp [results, Try.results30, go_sem]) rfl (HF.out _ _ rfl rfl)

set_option maxRecDepth 100000 in
set_option maxHeartbeats 2000000 in
theorem make16 (x y z : Value) (ls ld lt : List UInt8) (w : World) (h1 : By w x ls) (h2 : By w y ld) (h3 : By w z lt) (e1 : ls.length = 16) (e2 : ld.length = 16) (e3 : lt.length ≤ 1960) :
    Calls Try.prog 30 #[x, y, z] w (Got w ([96, 0, 0, 0, UInt8.ofNat (lt.length / 256), UInt8.ofNat (lt.length % 256), 0, 0] ++ ls ++ ld ++ lt) 0) := by
  obtain ⟨a1, c1, rfl, -⟩ := id h1
  obtain ⟨a2, c2, rfl, -⟩ := id h2
  obtain ⟨a3, c3, rfl, -⟩ := id h3
  have hw1 := h1
  have hw2 := h2
  have hw3 := h3
  rw [e1] at h1 ⊢
  rw [e2] at h2 ⊢
  have t3 : ¬ ((1960 : Int) < (lt.length : Int)) := by omega
  have w3 : IntKind.i64.wrap (40 + (lt.length : Int)) = 40 + (lt.length : Int) := IntWalk.i64_in _ (by omega)
  have n3 : (0 : Int) ≤ 40 + (lt.length : Int) := by omega
  have n4 : (40 + (lt.length : Int)).toNat = 40 + lt.length := by omega
  have hmk0 := run_make_row' (P := Try.prog) 27 5 (.int .u8 0) 1 Try.underlying27 info5 rfl .i64 .i64 (40 + lt.length) (by omega) (by omega) w
  rw [show ((40 + lt.length : Nat) : Int) = 40 + (lt.length : Int) from by omega] at hmk0
  have hr0 := World.rowIs_made w (.int .u8 0) (40 + lt.length) 5
  have hb0 := heap_alloc_new w (.cells (madeCells #[.int .u8 0] (40 + lt.length)) 5)
  have O0 : Only (fun _ => False) w (w.alloc (.cells (madeCells #[.int .u8 0] (40 + lt.length)) 5)) := (Only.refl _ w).alloc _
  have HGG := Lib.hid (Nat.le_refl w.heap.size)
  generalize hG : w.heap.size = G at hmk0 hr0 hb0
  generalize hW1 : w.alloc (.cells (madeCells #[.int .u8 0] (40 + lt.length)) 5) = W1 at hmk0 hr0 hb0 O0
  have hGle : w.heap.size ≤ G := by omega
  have cc0 := hr0.cell (i := 0) (by omega)
  have cc2 := hr0.cell (i := 4) (by omega)
  have cc3 := hr0.cell (i := 5) (by omega)
  have ff0 := hr0.frozen 0
  have ff2 := hr0.frozen 4
  have ff3 := hr0.frozen 5
  have d1 : (lt.length : Int) / 256 < 256 := by omega
  have d2 : 0 ≤ (lt.length : Int) / 256 := by omega
  have nn0 : (0 : Int) < 40 + (lt.length : Int) := by omega
  have nn2 : (4 : Int) < 40 + (lt.length : Int) := by omega
  have nn3 : (5 : Int) < 40 + (lt.length : Int) := by omega
  have nn12 : (8 : Int) < 40 + (lt.length : Int) := by omega
  have nn16 : (24 : Int) < 40 + (lt.length : Int) := by omega
  have nn20 : (40 : Int) ≤ 40 + (lt.length : Int) := by omega
  have nm0 : 0 < 40 + lt.length := by omega
  have nm2 : 4 < 40 + lt.length := by omega
  have nm3 : 5 < 40 + lt.length := by omega
  have nm12 : 8 ≤ 40 + lt.length := by omega
  have nm16 : 24 ≤ 40 + lt.length := by omega
  have nm20 : 40 ≤ 40 + lt.length := by omega
  rw [made_list, show 40 + lt.length = (40-8 + lt.length) + 8 from by omega] at hb0
  have hb1 := heap_set (o := 0) (v := .int .u8 96) hb0
  have hb2 := heap_set (o := 4) (v := .int .u8 ((lt.length : Int) / 256)) hb1
  have hb3 := heap_set (o := 5) (v := .int .u8 ((lt.length : Int) % 256)) hb2
  have O3 : Only (fun _ => False) w (((W1.setCell ⟨G, 0, none⟩ (.int .u8 96)).setCell ⟨G, 4, none⟩ (.int .u8 ((lt.length : Int) / 256))).setCell ⟨G, 5, none⟩ (.int .u8 ((lt.length : Int) % 256))) := numD.only_setNew (numD.only_setNew (numD.only_setNew O0 hGle) hGle) hGle
  have hb4 : (((W1.setCell ⟨G, 0, none⟩ (.int .u8 96)).setCell ⟨G, 4, none⟩ (.int .u8 ((lt.length : Int) / 256))).setCell ⟨G, 5, none⟩ (.int .u8 ((lt.length : Int) % 256))).heap[G]? = some (.cells (([.int .u8 96, .int .u8 0, .int .u8 0, .int .u8 0, .int .u8 ((lt.length : Int) / 256), .int .u8 ((lt.length : Int) % 256), .int .u8 0, .int .u8 0] : List Value) ++ List.replicate (32 + lt.length) (Value.int .u8 0)).toArray 5 (0, 0)) := by
    rw [hb3]
    simp only [List.setIfInBounds_toArray]
    rfl
  obtain ⟨W4, r4, b4, o4⟩ := copy_at w _ G 8 (40 + lt.length - 8) (40 + lt.length - 8) c1 a1 _ hb4 ls (hw1.keep O3) (by simp; omega) (by omega) O3 hGle (some ⟨G, 8, none⟩) (fun _ => rfl)
  obtain ⟨W5, r5, b5, o5⟩ := copy_at w _ G 24 (40 + lt.length - 24) (40 + lt.length - 24) c2 a2 _ b4 ld (hw2.keep o4) (by simp [splice, U8_len]; omega) (by omega) o4 hGle (some ⟨G, 24, none⟩) (fun _ => rfl)
  obtain ⟨dp, hdp⟩ : ∃ dp : Option Addr, dp = if lt.length = 0 then some ⟨G, 0, none⟩ else some ⟨G, 40, none⟩ := ⟨_, rfl⟩
  obtain ⟨W6, r6, b6, o6⟩ := copy_at w _ G 40 lt.length lt.length c3 a3 _ b5 lt (hw3.keep o5) (by simp [splice, U8_len]; omega) (by omega) o5 hGle dp (fun h => by rw [hdp, if_neg (by omega)])
  rw [splice_next _ _ _ 8 (by simp), splice_next _ _ _ 24 (by simp [U8_len, e1]), splice_next _ _ _ 40 (by simp [U8_len, e1, e2]), List.drop_drop, List.drop_drop, List.drop_of_length_le (by simp [U8_len]; omega), List.append_nil] at b6
  obtain ⟨L, hL⟩ : ∃ L : List UInt8, L = [96, 0, 0, 0, UInt8.ofNat (lt.length / 256), UInt8.ofNat (lt.length % 256), 0, 0] ++ ls ++ ld ++ lt := ⟨_, rfl⟩
  rw [← hL]
  have HF : Hid (∀ e W, e = .returned (.tuple #[.slice (some ⟨G, 0, none⟩) (40 + lt.length) (40 + lt.length), .int .i64 0]) → W = W6 → Got w L 0 e W) := by
    rintro e W rfl rfl
    subst hL
    refine ⟨_, rfl, by_row ?_ (by simp; omega) (by unfold maxLen; omega), o6⟩
    rw [b6]
    have x1 := u8_of (lt.length / 256) (by omega)
    have x2 := u8_of (lt.length % 256) (by omega)
    simp only [U8, List.map_append, List.map_cons, List.map_nil, x1, x2]
    rfl
  simp only [e1, goInt] at r4
  simp only [e2, goInt] at r5
  simp only [goInt] at r6
  clear hL h1 h2 h3 hw1 hw2 hw3 hb0 hb1 hb2 hb3 hb4 b4 b5 b6 o4 o5 o6 O3 O0 hr0 hW1 HGG hG hGle
  by_cases hn0 : lt.length = 0
  · rw [if_pos hn0] at hdp
    subst hdp
    simp only [hn0, Int.natCast_zero, Int.cast_ofNat_Int, Int.add_zero, Nat.add_zero, Nat.reduceSub, Int.reduceDiv, Int.reduceMod] at hmk0 r4 r5 r6 HF ⊢
    go_enter Try.func30, Try.ntmps30
    go_wp2_with fail
    exact bodyPost_ret (by simp [results, Try.results30, go_sem]) rfl (HF.out _ _ rfl rfl)
  · rw [if_neg hn0] at hdp
    subst hdp
    go_enter Try.func30, Try.ntmps30
    go_wp2_with fail
    exact bodyPost_ret (by simp [results, Try.results30, go_sem]) rfl (HF.out _ _ rfl rfl)
end Go.Proofs.Ytcocmabhbahiaaa.pacI
