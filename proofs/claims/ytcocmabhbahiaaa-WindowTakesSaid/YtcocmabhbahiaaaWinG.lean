/- The document's window: Take (two appends). -/
import Derived.Test.YtcocmabhbahiaaaWinF
import Derived.Test.YtcocmabhbahiaaaRingD
import Derived.Test.YtcocmabhbahiaaaPacK
namespace Go.Proofs.Ytcocmabhbahiaaa.winG
open Go.RowKit Go.Lib Go.Proofs.Ytcocmabhbahiaaa.kit Go.Proofs.Ytcocmabhbahiaaa.numA Go.Proofs.Ytcocmabhbahiaaa.numF Go.Proofs.Ytcocmabhbahiaaa.winA Go.Proofs.Ytcocmabhbahiaaa.winC Go.Proofs.Ytcocmabhbahiaaa.winE Go.Proofs.Ytcocmabhbahiaaa.winF
set_option linter.unusedVariables false
set_option linter.unusedSimpArgs false

theorem Q_len (l : List Nat) : (Q l).length = l.length := by simp [Q]

theorem Q_get (l : List Nat) (i : Nat) (h : i < l.length) : (Q l).getD i undef = .int .u64 (l.getD i 0 : Nat) := by simp [Q, h]

def Own (w : World) (base : Nat) (v : Value) (l : List Nat) : Prop := w.ownsRow base 23 1 v l.length (Q l)

theorem Us.of_lst {w : World} {S : Nat → Prop} {v : Value} {l : List Nat} (hL : Lst w 23 S v (Q l)) : Us w v l := by
  rcases id hL with ⟨rfl, hx⟩ | ⟨g, o, cap, rfl, hS, hc, hm, c, fr, hb, _, _⟩
  · have : l = [] := List.eq_nil_of_length_eq_zero (by rw [← Q_len, hx]; rfl)
    subst this
    exact ⟨none, 0, rfl, Nat.le_refl _, Nat.zero_le _, .inl rfl⟩
  · rw [Q_len] at hc
    refine ⟨some ⟨g, o, none⟩, cap, by rw [Q_len], hc, hm, .inr ⟨g, o, rfl, lt_of hb, fun i hi => ?_⟩⟩
    rw [hL.cell (by rw [Q_len]; exact hi), Q_get l i hi]

theorem Own.lst {w : World} {base : Nat} {v : Value} {l : List Nat} (h : Own w base v l) : Lst w 23 (fun k => base ≤ k) v (Q l) := Lst.of_owns h

theorem Own.us {w : World} {base : Nat} {v : Value} {l : List Nat} (h : Own w base v l) : Us w v l := Us.of_lst h.lst

theorem Own.lt {w : World} {base : Nat} {v : Value} {l : List Nat} (h : Own w base v l) : ∀ k, v.ownBlock = some k → base ≤ k := fun k hk => (World.ownsRow.lt h k hk).1

theorem one_Q (l : List Nat) : ∀ u ∈ Q l, u.oneCell' = true := by
  intro u hu
  simp only [Q, List.mem_map] at hu
  obtain ⟨a, _, rfl⟩ := hu
  rfl

theorem us_cells {w : World} {x : Addr} {n cap : Nat} {l : List Nat} (h : Us w (.slice (some x) n cap) l) : ∀ j u, (Q l)[j]? = some u → w.cell? (x.add j) = some u := by
  intro j u hj
  have hlt : j < l.length := by
    have := (List.getElem?_eq_some_iff.1 hj).1
    rwa [Q_len] at this
  obtain ⟨a, cap', hv, -, -, h | ⟨g, o, ha, hg, hcell⟩⟩ := h
  · rw [h] at hlt; simp at hlt
  · injection hv with q1 q2 q3
    rw [← q1] at ha
    injection ha with ha
    subst ha
    rw [Addr.add_lit, hcell j hlt, ← hj]
    simp [Q, hlt]

theorem append_q (w : World) (base : Nat) (hb : base ≤ w.heap.size) (v : Value) (l : List Nat) (hown : Own w base v l) (x : Value) (l2 : List Nat) (h : Us w x l2) (hl : l.length + l2.length ≤ 1000000) :
    ∃ v' w', (Builtin.append_ #[47, 47] 47 #[v, x]).run Try.prog w = .ok v' w' ∧ Own w' base v' (l ++ l2) ∧ (∀ a : World, a.heap.size ≤ base → Only (fun _ => False) a w → Only (fun _ => False) a w') := by
  obtain ⟨i0, hi0, hz0, hz1, hz2⟩ := info_parts ringD.info23
  obtain ⟨a, cap, rfl, hc, hm, hx⟩ := id h
  cases a with
  | none =>
    have : l2 = [] := by
      rcases hx with hx | ⟨g, o, ha, _⟩
      · exact hx
      · cases ha
    subst this
    refine ⟨v, w, ?_, by rw [List.append_nil]; exact hown, fun a _ o => o⟩
    obtain ⟨a', c', rfl, hc', -⟩ := hown.us
    have hst : ∀ y : Addr, (storeCells y [] 0).run Try.prog w = .ok () w := fun y => by simp [storeCells]
    cases a' <;> simp [Builtin.append_, run_underlying Try.underlying47, sizeOf, typeInfo, hi0, Builtin.lenOf, Builtin.firstCells, hc', hst]
  | some x =>
    obtain ⟨v', w', hr, hown', hgrow, -⟩ := run_append_own (P := Try.prog) w base 47 47 23 i0 (.int .u64 0) 1 8 Try.underlying47 hi0 hz0 hz1 hz2 rfl (by decide) v l.length (Q l) hown x l2.length cap (Q l2) (by rw [Q_len]; omega) (us_cells h) (one_Q l2) (by unfold maxLen; omega) (by omega) hb
    refine ⟨v', w', hr, ?_, fun a ha o => Only.grownNew o hgrow fun j hj => by have := hown.lt j hj; omega⟩
    have e : Q (l ++ l2) = Q l ++ Q l2 := by simp [Q]
    unfold Own
    rw [e, List.length_append]
    exact hown'

def Grew (w : World) (l : List Nat) (e : Ending) (w' : World) : Prop := ∃ v, e = .returned (.agg #[v]) ∧ Us w' v l ∧ Only (fun _ => False) w w'

set_option maxRecDepth 100000 in
set_option maxHeartbeats 1000000 in
theorem take_ref (v : Value) (l : List Nat) (c : Nat) (w : World) (h : Us w v l) (hl : l.length ≤ 100000) : Calls Try.prog 39 #[.agg #[v], .int .u64 c] w (Grew w (l ++ [c])) := by
  obtain ⟨a, cap, rfl, -⟩ := id h
  have O0 : Only (fun _ => False) w ((w.alloc (.cells #[.slice a l.length cap] 51)).alloc (.cells #[.slice none 0 0] 51)) := ((Only.refl _ w).alloc _).alloc _
  have hb0 : ((w.alloc (.cells #[.slice a l.length cap] 51)).alloc (.cells #[.slice none 0 0] 51)).heap[w.heap.size + 1]? = some (.cells #[.slice none 0 0] 51) := by
    have := heap_alloc_new (w.alloc (.cells #[.slice a l.length cap] 51)) (.cells #[.slice none 0 0] 51)
    rwa [World.size_alloc] at this
  have hsz : ((w.alloc (.cells #[.slice a l.length cap] 51)).alloc (.cells #[.slice none 0 0] 51)).heap.size = w.heap.size + 2 := by simp
  have own0 : Own (((w.alloc (.cells #[.slice a l.length cap] 51)).alloc (.cells #[.slice none 0 0] 51)).alloc (.cells #[] 23)) (w.heap.size + 2) (.slice (some ⟨w.heap.size + 2, 0, none⟩) 0 0) [] := by
    have q := World.ownsRow_made (e := 23) (size := 1) ((w.alloc (.cells #[.slice a l.length cap] 51)).alloc (.cells #[.slice none 0 0] 51)) #[] 0 (Nat.le_refl _) (by decide) rfl
    rw [hsz] at q
    exact q
  have O1 := O0.alloc (.cells #[] 23)
  obtain ⟨v1, w1, r1, own1, p1⟩ := append_q _ (w.heap.size + 2) (by simp) _ _ own0 _ l (h.keep O1) (by simp; omega)
  have K1 : Only (fun _ => False) ((w.alloc (.cells #[.slice a l.length cap] 51)).alloc (.cells #[.slice none 0 0] 51)) w1 := p1 _ (by rw [hsz]; omega) ((Only.refl _ _).alloc _)
  rw [List.nil_append] at own1
  have hone : Us (w1.alloc (.cells #[.int .u64 c] 23)) (.slice (some ⟨w1.heap.size, 0, none⟩) 1 1) [c] := by
    refine ⟨_, 1, rfl, Nat.le_refl _, by unfold maxLen; omega, .inr ⟨_, 0, rfl, by simp, fun i hi => ?_⟩⟩
    have : i = 0 := by simp at hi; omega
    subst this
    exact cell_of (heap_alloc_new _ _)
  have own1' : Own (w1.alloc (.cells #[.int .u64 c] 23)) (w.heap.size + 2) v1 l := own1.alloc _
  obtain ⟨v2, w2, r2, own2, p2⟩ := append_q _ (w.heap.size + 2) (by have := K1.size; rw [hsz] at this; simp; omega) _ _ own1' _ [c] hone (by simp; omega)
  have K2 : Only (fun _ => False) ((w.alloc (.cells #[.slice a l.length cap] 51)).alloc (.cells #[.slice none 0 0] 51)) w2 := p2 _ (by rw [hsz]; omega) (K1.alloc _)
  have hb2 : w2.heap[w.heap.size + 1]? = some (.cells #[.slice none 0 0] 51) := (K2.block _ (by rw [hsz]; omega) id).trans hb0
  have z : w2.cell? ⟨w.heap.size + 1, 0, none⟩ = some (.slice none 0 0) := cell_of hb2
  have fz : w2.frozen? ⟨w.heap.size + 1, 0, none⟩ = false := free_of hb2
  have hU2 : Us (w2.setCell ⟨w.heap.size + 1, 0, none⟩ v2) v2 (l ++ [c]) := Us.of_lst (own2.lst.keep ((Only.refl (fun k => k = w.heap.size + 1) w2).set rfl) (fun i hi e => by omega))
  obtain ⟨a1, c1, rfl⟩ := us_size own1.us
  obtain ⟨a2, c2, rfl⟩ := us_size own2.us
  have Of : Only (fun _ => False) w (w2.setCell ⟨w.heap.size + 1, 0, none⟩ (.slice a2 (l ++ [c]).length c2)) := by
    have o := O0.trans K2
    refine ⟨o.os, o.tape, o.output, by simpa using o.size, fun k hk hs => ?_⟩
    rw [heap_other (by omega)]
    exact o.block k hk hs
  have HF : Hid (∀ e W, e = .returned (.agg #[.slice a2 (l ++ [c]).length c2]) → W = w2.setCell ⟨w.heap.size + 1, 0, none⟩ (.slice a2 (l ++ [c]).length c2) → Grew w (l ++ [c]) e W) := by
    rintro e W rfl rfl
    exact ⟨_, rfl, hU2, Of⟩
  obtain ⟨L, hL⟩ : ∃ L, L = l ++ [c] := ⟨_, rfl⟩
  rw [← hL] at HF r2 ⊢
  have zz : (w2.setCell ⟨w.heap.size + 1, 0, none⟩ (.slice a2 L.length c2)).heap[w.heap.size + 1]? = some (.cells #[.slice a2 L.length c2] 51 (0, 0)) := heap_set hb2
  have HZ := Lib.hid zz
  clear zz own0 own1 own1' own2 p1 p2 O0 O1 K1 K2 hb0 hb2 hU2 Of h hone hL
  go_enter Try.func39, Try.ntmps39
  go_wp2_with (first
    | (at_builtin; refine Lib.wpList_append_run _ rfl (.tmp 5) (.tmp 7) 47 47 rfl _ _ rfl rfl _ _ r1 ?_)
    | (at_builtin; refine Lib.wpList_append_run _ rfl (.tmp 8) (.tmp 10) 47 47 rfl _ _ rfl rfl _ _ r2 ?_))
  exact bodyPost_ret (results_cell_row (p := 4) (ty := 51) Try.results39 _ _ (w.heap.size + 1) 51 _ (0, 0) _ rfl HZ.out Try.underlying51 rfl (by kernel_rfl)) rfl (HF.out _ _ rfl rfl)
end Go.Proofs.Ytcocmabhbahiaaa.winG
