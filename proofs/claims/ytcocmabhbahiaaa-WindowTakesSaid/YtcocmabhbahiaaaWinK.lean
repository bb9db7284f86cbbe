/- WindowTakes: what the memory says between two steps. -/
import Derived.Test.YtcocmabhbahiaaaWinJ
namespace Go.Proofs.Ytcocmabhbahiaaa.winK
open Go.RowKit Go.Lib Go.Proofs.Ytcocmabhbahiaaa.kit Go.Proofs.Ytcocmabhbahiaaa.numA Go.Proofs.Ytcocmabhbahiaaa.winA Go.Proofs.Ytcocmabhbahiaaa.winB Go.Proofs.Ytcocmabhbahiaaa.winC Go.Proofs.Ytcocmabhbahiaaa.winD Go.Proofs.Ytcocmabhbahiaaa.winE Go.Proofs.Ytcocmabhbahiaaa.winF Go.Proofs.Ytcocmabhbahiaaa.winG Go.Proofs.Ytcocmabhbahiaaa.winH
set_option linter.unusedVariables false
set_option linter.unusedSimpArgs false

/-- A list of counters in a row of its own kind (type 23): no window and no variable is such a block. -/
def Lt (w : World) (v : Value) (l : List Nat) : Prop := Lst w 23 (fun _ => True) v (Q l)

theorem Lt.us {w : World} {v : Value} {l : List Nat} (h : Lt w v l) : Us w v l := Us.of_lst h

theorem Lt.keep {w w' : World} {v : Value} {l : List Nat} {S : Nat → Prop} (h : Lt w v l) (o : Only S w w') (d : ∀ g c fr, S g → w.heap[g]? ≠ some (.cells c 23 fr)) : Lt w' v l := by
  rcases h with h | ⟨g, o', cap, h1, h2, h3, h4, c, fr, h5, h6, h7⟩
  · exact .inl h
  · exact .inr ⟨g, o', cap, h1, h2, h3, h4, c, fr, o.keep h5 (fun s => d g c fr s h5), h6, h7⟩

theorem Lt.only {w w' : World} {v : Value} {l : List Nat} (h : Lt w v l) (o : Only (fun _ => False) w w') : Lt w' v l := h.keep o fun _ _ _ s => s.elim

def Var (w : World) (M : Nat) (v : Value) : Prop := w.heap[M]? = some (.cells #[v] 51 (0, 0))

theorem Var.only {w w' : World} {M : Nat} {v : Value} (h : Var w M v) (o : Only (fun _ => False) w w') : Var w' M v := o.keep h id

theorem Var.cell {w : World} {M : Nat} {v : Value} (h : Var w M v) : w.cell? ⟨M, 0, none⟩ = some v := cell_of h

theorem at_ne {w : World} {B M : Nat} {l : List Nat} {v : Value} (h : At w B l) (k : Var w M v) : M ≠ B := by
  intro e
  subst e
  obtain ⟨bs, top, any, hw, ht⟩ := h
  have := hw.block.symm.trans k
  simp at this

theorem at_no23 {w : World} {B : Nat} {l : List Nat} (h : At w B l) : ∀ g c fr, g = B → w.heap[g]? ≠ some (.cells c 23 fr) := by
  rintro g c fr rfl e
  obtain ⟨bs, top, any, hw, ht⟩ := h
  have := hw.block.symm.trans e
  simp at this

theorem Var.no23 {w : World} {M : Nat} {v : Value} (h : Var w M v) : ∀ g c fr, g = M → w.heap[g]? ≠ some (.cells c 23 fr) := by
  rintro g c fr rfl e
  have := h.symm.trans e
  simp at this

/-- The window at B holds lw, the variable at M the list lm (as vm), the variable at Z the list lz (as vz). -/
structure Rel (w wr : World) (B M Z : Nat) (vm vz : Value) (lw lm lz : List Nat) : Prop where
  win : At wr B lw
  m : Var wr M vm
  ml : Lt wr vm lm
  z : Var wr Z vz
  zl : Lt wr vz lz
  ne : M ≠ Z
  only : Only (fun _ => False) w wr
  hB : w.heap.size ≤ B
  hM : w.heap.size ≤ M
  hZ : w.heap.size ≤ Z

theorem Rel.step {w wr w' : World} {B M Z : Nat} {vm vz : Value} {lw lm lz : List Nat} (h : Rel w wr B M Z vm vz lw lm lz) (o : Only (fun _ => False) wr w') : Rel w w' B M Z vm vz lw lm lz :=
  ⟨h.win.keep o id, h.m.only o, h.ml.only o, h.z.only o, h.zl.only o, h.ne, h.only.trans o, h.hB, h.hM, h.hZ⟩

theorem Rel.take {w wr w' : World} {B M Z : Nat} {vm vz : Value} {lw lm lz l' : List Nat} (h : Rel w wr B M Z vm vz lw lm lz) (k : At w' B l') (o : Only (fun i => i = B) wr w') : Rel w w' B M Z vm vz l' lm lz :=
  ⟨k, o.keep h.m (at_ne h.win h.m), h.ml.keep o (at_no23 h.win), o.keep h.z (at_ne h.win h.z), h.zl.keep o (at_no23 h.win), h.ne, Only.own h.only o h.hB, h.hB, h.hM, h.hZ⟩

theorem only_set (w : World) (M : Nat) (v : Value) : Only (fun i => i = M) w (w.setCell ⟨M, 0, none⟩ v) := (Only.refl (fun i => i = M) w).set rfl

theorem var_set {w : World} {M : Nat} {v : Value} (h : Var w M v) (v' : Value) : Var (w.setCell ⟨M, 0, none⟩ v') M v' := heap_set h

theorem Rel.setM {w wr : World} {B M Z : Nat} {vm vz v' : Value} {lw lm lz l' : List Nat} (h : Rel w wr B M Z vm vz lw lm lz) (k : Lt wr v' l') : Rel w (wr.setCell ⟨M, 0, none⟩ v') B M Z v' vz lw l' lz :=
  ⟨h.win.keep (only_set wr M v') (fun e => at_ne h.win h.m e.symm), var_set h.m v', k.keep (only_set wr M v') h.m.no23, (only_set wr M v').keep h.z (fun e => h.ne e.symm), h.zl.keep (only_set wr M v') h.m.no23, h.ne, Only.own h.only (only_set wr M v') h.hM, h.hB, h.hM, h.hZ⟩

theorem Rel.setZ {w wr : World} {B M Z : Nat} {vm vz v' : Value} {lw lm lz l' : List Nat} (h : Rel w wr B M Z vm vz lw lm lz) (k : Lt wr v' l') : Rel w (wr.setCell ⟨Z, 0, none⟩ v') B M Z vm v' lw lm l' :=
  ⟨h.win.keep (only_set wr Z v') (fun e => at_ne h.win h.z e.symm), (only_set wr Z v').keep h.m h.ne, h.ml.keep (only_set wr Z v') h.z.no23, var_set h.z v', k.keep (only_set wr Z v') h.z.no23, h.ne, Only.own h.only (only_set wr Z v') h.hZ, h.hB, h.hM, h.hZ⟩

theorem at_mem {w : World} {B : Nat} {l : List Nat} (h : At w B l) : (∀ x ∈ l, x < 18446744073709543423) ∧ inWin (mx l) l ≤ (if mx l < 2048 then mx l + 1 else 2048) := by
  obtain ⟨bs, top, any, hw, ht⟩ := h
  refine ⟨ht.lt, ?_⟩
  have e0 : min (mx l) 2047 + 1 = if mx l < 2048 then mx l + 1 else 2048 := by split <;> omega
  have e3 := cnt_list (l := l) (top := mx l) (n := min (mx l) 2047 + 1) (by omega) (fun x hx => le_mx hx) ht.nodup
  have e4 : (l.filter (fun x => decide (mx l - x < min (mx l) 2047 + 1))) = l.filter (fun x => decide (mx l - x < 2048)) := by
    apply List.filter_congr
    intro x hx
    congr 1
    apply propext
    omega
  rw [e4] at e3
  have e5 := cnt_le (fun i => decide (mx l - i ∈ l)) (min (mx l) 2047 + 1)
  rw [inWin]
  omega

/-- The document's Take, with a list in a row of its own kind. -/
def GrewT (w : World) (n : Nat) (l : List Nat) (e : Ending) (w' : World) : Prop := ∃ a c, e = .returned (.agg #[.slice a n c]) ∧ Lt w' (.slice a n c) l ∧ Only (fun _ => False) w w'

set_option maxRecDepth 100000 in
set_option maxHeartbeats 1000000 in
theorem take_refT (v : Value) (l : List Nat) (c : Nat) (w : World) (h : Us w v l) (hl : l.length ≤ 100000) : Calls Try.prog 39 #[.agg #[v], .int .u64 c] w (GrewT w (l ++ [c]).length (l ++ [c])) := by
  obtain ⟨a, cap, rfl, -⟩ := id h
  have O0 : Only (fun _ => False) w ((w.alloc (.cells #[.slice a l.length cap] 51)).alloc (.cells #[.slice none 0 0] 51)) := ((Only.refl _ w).alloc _).alloc _
  have hb0 : ((w.alloc (.cells #[.slice a l.length cap] 51)).alloc (.cells #[.slice none 0 0] 51)).heap[w.heap.size + 1]? = some (.cells #[.slice none 0 0] 51) := by
    have := heap_alloc_new (w.alloc (.cells #[.slice a l.length cap] 51)) (.cells #[.slice none 0 0] 51)
    rwa [World.size_alloc] at this
  have hsz : ((w.alloc (.cells #[.slice a l.length cap] 51)).alloc (.cells #[.slice none 0 0] 51)).heap.size = w.heap.size + 2 := by simp
  have own0 : Own (((w.alloc (.cells #[.slice a l.length cap] 51)).alloc (.cells #[.slice none 0 0] 51)).alloc (.cells #[] 23)) (w.heap.size + 2) (.slice (some ⟨w.heap.size + 2, 0, none⟩) 0 0) [] := by
    have q := World.ownsRow_made (e := 23) (size := 1) ((w.alloc (.cells #[.slice a l.length cap] 51)).alloc (.cells #[.slice none 0 0] 51)) #[] 0 (Nat.le_refl _) (by decide) rfl
    rw [hsz] at q
    exact q
  have O1 := O0.alloc (.cells #[] 23)
  obtain ⟨v1, w1, r1, own1, p1⟩ := append_q _ (w.heap.size + 2) (by simp) _ _ own0 _ l (h.keep O1) (by simp; omega)
  have K1 : Only (fun _ => False) ((w.alloc (.cells #[.slice a l.length cap] 51)).alloc (.cells #[.slice none 0 0] 51)) w1 := p1 _ (by rw [hsz]; omega) ((Only.refl _ _).alloc _)
  rw [List.nil_append] at own1
  have hone : Us (w1.alloc (.cells #[.int .u64 c] 23)) (.slice (some ⟨w1.heap.size, 0, none⟩) 1 1) [c] := by
    refine ⟨_, 1, rfl, Nat.le_refl _, by unfold maxLen; omega, .inr ⟨_, 0, rfl, by simp, fun i hi => ?_⟩⟩
    have : i = 0 := by simp at hi; omega
    subst this
    exact cell_of (heap_alloc_new _ _)
  have own1' : Own (w1.alloc (.cells #[.int .u64 c] 23)) (w.heap.size + 2) v1 l := own1.alloc _
  obtain ⟨v2, w2, r2, own2, p2⟩ := append_q _ (w.heap.size + 2) (by have := K1.size; rw [hsz] at this; simp; omega) _ _ own1' _ [c] hone (by simp; omega)
  have K2 : Only (fun _ => False) ((w.alloc (.cells #[.slice a l.length cap] 51)).alloc (.cells #[.slice none 0 0] 51)) w2 := p2 _ (by rw [hsz]; omega) (K1.alloc _)
  have hb2 : w2.heap[w.heap.size + 1]? = some (.cells #[.slice none 0 0] 51) := (K2.block _ (by rw [hsz]; omega) id).trans hb0
  have z : w2.cell? ⟨w.heap.size + 1, 0, none⟩ = some (.slice none 0 0) := cell_of hb2
  have fz : w2.frozen? ⟨w.heap.size + 1, 0, none⟩ = false := free_of hb2
  have hU2 : Lt (w2.setCell ⟨w.heap.size + 1, 0, none⟩ v2) v2 (l ++ [c]) := (own2.lst.keep ((Only.refl (fun k => k = w.heap.size + 1) w2).set rfl) (fun i hi e => by omega)).mono fun _ _ => trivial
  obtain ⟨a1, c1, rfl⟩ := us_size own1.us
  obtain ⟨a2, c2, rfl⟩ := us_size own2.us
  have Of : Only (fun _ => False) w (w2.setCell ⟨w.heap.size + 1, 0, none⟩ (.slice a2 (l ++ [c]).length c2)) := by
    have o := O0.trans K2
    refine ⟨o.os, o.tape, o.output, by simpa using o.size, fun k hk hs => ?_⟩
    rw [heap_other (by omega)]
    exact o.block k hk hs
  have HF : Hid (∀ e W, e = .returned (.agg #[.slice a2 (l ++ [c]).length c2]) → W = w2.setCell ⟨w.heap.size + 1, 0, none⟩ (.slice a2 (l ++ [c]).length c2) → GrewT w (l ++ [c]).length (l ++ [c]) e W) := by
    rintro e W rfl rfl
    exact ⟨_, _, rfl, hU2, Of⟩
  obtain ⟨L, hL⟩ : ∃ L, L = l ++ [c] := ⟨_, rfl⟩
  rw [← hL] at HF r2 ⊢
  have zz : (w2.setCell ⟨w.heap.size + 1, 0, none⟩ (.slice a2 L.length c2)).heap[w.heap.size + 1]? = some (.cells #[.slice a2 L.length c2] 51 (0, 0)) := heap_set hb2
  have HZ := Lib.hid zz
  clear zz own0 own1 own1' own2 p1 p2 O0 O1 K1 K2 hb0 hb2 hU2 Of h hone hL
  go_enter Try.func39, Try.ntmps39
  go_wp2_with (first
    | (at_builtin; refine Lib.wpList_append_run _ rfl (.tmp 5) (.tmp 7) 47 47 rfl _ _ rfl rfl _ _ r1 ?_)
    | (at_builtin; refine Lib.wpList_append_run _ rfl (.tmp 8) (.tmp 10) 47 47 rfl _ _ rfl rfl _ _ r2 ?_))
  exact bodyPost_ret (results_cell_row (p := 4) (ty := 51) Try.results39 _ _ (w.heap.size + 1) 51 _ (0, 0) _ rfl HZ.out Try.underlying51 rfl (by kernel_rfl)) rfl (HF.out _ _ rfl rfl)
end Go.Proofs.Ytcocmabhbahiaaa.winK
