/- Roam: a row of routes that is being laid out: memory. -/
import Derived.Test.YtklcanjlkmkmmaaRmP
import Derived.Deep.AppendLies
namespace Go.Proofs.Ytklcanjlkmkmmaa.rmR
open Go.RowKit Go.Proofs.Ytklcanjlkmkmmaa.kit Go.Proofs.Ytklcanjlkmkmmaa.skyB Go.Proofs.Ytklcanjlkmkmmaa.skyC Go.Proofs.Ytklcanjlkmkmmaa.skyD Go.Proofs.Ytklcanjlkmkmmaa.skyG Go.Proofs.Ytklcanjlkmkmmaa.skyS Go.Proofs.Ytklcanjlkmkmmaa.rmA Go.Proofs.Ytklcanjlkmkmmaa.rmO Go.Proofs.Ytklcanjlkmkmmaa.rmP
set_option linter.unusedVariables false
set_option linter.unusedSimpArgs false

theorem lgs_grown {W w9 : World} {row : Option Nat} {a : Option Addr} {l : List Leg3} (h : Lgs W a l) (g : W.grownBy w9 row) (hne : ∀ b o, a = some ⟨b, o, none⟩ → row ≠ some b) : Lgs w9 a l := by
  refine ⟨h.1, ?_⟩
  rcases h.2 with h0 | ⟨b, off, rfl, hb, hc⟩
  · exact .inl h0
  · refine .inr ⟨b, off, rfl, Nat.lt_of_lt_of_le hb g.size, fun i hi => ?_⟩
    have e := g.block b hb fun q => hne b off rfl q.symm
    obtain ⟨c0, c1, c2⟩ := hc i hi
    exact ⟨(World.cell?_of_block (a := ⟨b, _, none⟩) e).trans c0, (World.cell?_of_block (a := ⟨b, _, none⟩) e).trans c1, (World.cell?_of_block (a := ⟨b, _, none⟩) e).trans c2⟩

structure RowG (base : Nat) (rs got : List Rt) (k : Nat) (v : Value) (w : World) : Prop where
  own : w.ownsRow base 57 3 v k (flatR got)
  gt : Got rs got k w
  apart : ∀ j, j < k → ∀ b o, (rr got j).a = some ⟨b, o, none⟩ → v.ownBlock ≠ some b ∧ b < w.heap.size

theorem RowG.keep {base : Nat} {rs got : List Rt} {k : Nat} {v : Value} {w w' : World} (h : RowG base rs got k v w) (o : Only (fun _ => False) w w') : RowG base rs got k v w' :=
  ⟨owns_keep h.own o, ⟨h.gt.len, h.gt.same, fun j hj => (h.gt.legs j hj).keep o⟩, fun j hj b q e => ⟨(h.apart j hj b q e).1, Nat.lt_of_lt_of_le (h.apart j hj b q e).2 o.size⟩⟩

theorem RowG.put {base : Nat} {rs got : List Rt} {k : Nat} {v : Value} {w : World} (h : RowG base rs got k v w) (hb : base ≤ w.heap.size) (hk : k ≤ 1000) {a : Option Addr} {cap : Nat} (hl : Lgs w a (rr rs k).l) (ha : ∀ b o, a = some ⟨b, o, none⟩ → v.ownBlock ≠ some b ∧ b < w.heap.size) :
    ∃ v' w', (Builtin.append_ #[29, 29] 29 #[v, .slice (some ⟨w.heap.size, 0, none⟩) 1 1]).run Try.prog (w.alloc (.cells #[.int .i64 (rr rs k).x, .int .i64 (rr rs k).y, .slice a (rr rs k).l.length cap] 57)) = .ok v' w' ∧
      RowG base rs (got ++ [⟨(rr rs k).x, (rr rs k).y, a, cap, (rr rs k).l⟩]) (k + 1) v' w' ∧ ∀ w0, Only (fun _ => False) w0 w → w0.heap.size ≤ base → Only (fun _ => False) w0 w' := by
  obtain ⟨i0, hi0, hz0, hz1, hz2⟩ := info_parts info57
  have h' := h.keep ((Only.refl (fun _ => False) w).alloc (.cells #[.int .i64 (rr rs k).x, .int .i64 (rr rs k).y, .slice a (rr rs k).l.length cap] 57))
  have hl' := hl.keep ((Only.refl (fun _ => False) w).alloc (.cells #[.int .i64 (rr rs k).x, .int .i64 (rr rs k).y, .slice a (rr rs k).l.length cap] 57))
  have hh := heap_alloc_new w (.cells #[.int .i64 (rr rs k).x, .int .i64 (rr rs k).y, .slice a (rr rs k).l.length cap] 57)
  have hs : (w.alloc (.cells #[.int .i64 (rr rs k).x, .int .i64 (rr rs k).y, .slice a (rr rs k).l.length cap] 57)).heap.size = w.heap.size + 1 := World.size_alloc _ _
  obtain ⟨g, c, w', hr, hown, hg, hat, _⟩ := run_append_lies (P := Try.prog) (w.alloc (.cells #[.int .i64 (rr rs k).x, .int .i64 (rr rs k).y, .slice a (rr rs k).l.length cap] 57)) 29 29 base 57 i0 _ 3 40 Try.underlying29 hi0 hz0 hz1 hz2 rfl (by omega) v k (flatR got) h'.own ⟨w.heap.size, 0, none⟩ 1 1 [.int .i64 (rr rs k).x, .int .i64 (rr rs k).y, .slice a (rr rs k).l.length cap] rfl (fun j u hj => by
    rw [Addr.add_lit, cell_of hh, Nat.zero_add]
    simpa using hj) (fun u hu => by simp at hu; rcases hu with rfl | rfl | rfl <;> rfl) (by omega) (by unfold maxLen; omega) (by omega) (by omega) _ rfl
  have e : flatR got ++ [.int .i64 (rr rs k).x, .int .i64 (rr rs k).y, .slice a (rr rs k).l.length cap] = flatR (got ++ [⟨(rr rs k).x, (rr rs k).y, a, cap, (rr rs k).l⟩]) := (flatR_snoc got ⟨(rr rs k).x, (rr rs k).y, a, cap, (rr rs k).l⟩).symm
  rw [e] at hown
  have hgot : Got rs got k w' := ⟨h.gt.len, h.gt.same, fun j hj => lgs_grown (h'.gt.legs j hj) hg fun b o q => (h'.apart j hj b o q).1⟩
  have far : ∀ b, v.ownBlock ≠ some b → b < w.heap.size → (Value.slice (some ⟨g, 0, none⟩) (k + 1) c).ownBlock ≠ some b ∧ b < w'.heap.size := fun b h1 h2 => by
    refine ⟨fun q => ?_, by have := hg.size; omega⟩
    injection q with q
    have q : g = b := q
    subst q
    rcases hat with p | p
    · exact h1 p
    · omega
  refine ⟨_, _, hr, ⟨hown, hgot.snoc (lgs_grown hl' hg fun b o q => (ha b o q).1), fun j hj b o q => ?_⟩, fun w0 o0 h0 => Only.grownNew (o0.alloc _) hg fun b q => by
    have := (h.own.lt b q).1
    omega⟩
  rcases Nat.lt_or_eq_of_le (Nat.le_of_lt_succ hj) with p | p
  · have hj' : j < got.length := by rw [h.gt.len]; exact p
    have eo : rr (got ++ [⟨(rr rs k).x, (rr rs k).y, a, cap, (rr rs k).l⟩]) j = rr got j := by simp [rr, List.getElem?_append_left hj']
    rw [eo] at q
    obtain ⟨h1, h2⟩ := h.apart j p b o q
    exact far b h1 h2
  · have en : rr (got ++ [⟨(rr rs k).x, (rr rs k).y, a, cap, (rr rs k).l⟩]) j = ⟨(rr rs k).x, (rr rs k).y, a, cap, (rr rs k).l⟩ := by
      have e : j = got.length := p.trans h.gt.len.symm
      simp [rr, e]
    rw [en] at q
    obtain ⟨h1, h2⟩ := ha b o q
    exact far b h1 h2
end Go.Proofs.Ytklcanjlkmkmmaa.rmR
