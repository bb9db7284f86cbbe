/- Roam: slices of acts, one for each second. -/
import Derived.Test.YtklcanjlkmkmmaaRmE
import Derived.Deep.AppendLies
namespace Go.Proofs.Ytklcanjlkmkmmaa.rmG
open Go.RowKit Go.Proofs.Ytklcanjlkmkmmaa.kit Go.Proofs.Ytklcanjlkmkmmaa.skyB Go.Proofs.Ytklcanjlkmkmmaa.skyC Go.Proofs.Ytklcanjlkmkmmaa.skyG Go.Proofs.Ytklcanjlkmkmmaa.skyP Go.Proofs.Ytklcanjlkmkmmaa.rmA Go.Proofs.Ytklcanjlkmkmmaa.rmD Go.Proofs.Ytklcanjlkmkmmaa.rmE
set_option linter.unusedVariables false
set_option linter.unusedSimpArgs false

theorem owns_set {w : World} {base : Nat} {e : TypeId} {size : Nat} {v : Value} {n : Nat} {xs : List Value} (h : w.ownsRow base e size v n xs) {B o : Nat} {u : Value} (hB : B < base) : (w.setCell ⟨B, o, none⟩ u).ownsRow base e size v n xs := by
  refine ⟨h.1, ?_⟩
  rcases h.2 with h0 | ⟨g, cap, cur, hv, hb, hg, r⟩
  · exact .inl h0
  · exact .inr ⟨g, cap, cur, hv, hb, (heap_other (by omega)).trans hg, r⟩

/-- A slice of slices of acts: the values in its block's cells, each a row of its own. -/
structure Mvs (w : World) (Mb U : Nat) (vs : Nat → Value) (f : Nat → List Ac) : Prop where
  blk : ∃ c, w.heap[Mb]? = some (.cells c 33 (0, 0)) ∧ ∀ s, s ≤ U → c[s]? = some (vs s)
  rows : ∀ s, s ≤ U → w.ownsRow (Mb + 1) 45 5 (vs s) (f s).length (flatA (f s))
  apart : ∀ s s' g, s ≤ U → s' ≤ U → (vs s).ownBlock = some g → (vs s').ownBlock = some g → s = s'

theorem Mvs.keep {w w' : World} {Mb U : Nat} {vs : Nat → Value} {f : Nat → List Ac} (h : Mvs w Mb U vs f) (o : Only (fun _ => False) w w') : Mvs w' Mb U vs f := by
  obtain ⟨c, hc, hs⟩ := h.blk
  exact ⟨⟨c, o.keep hc id, hs⟩, fun s hs => owns_keep (h.rows s hs) o, h.apart⟩

theorem Mvs.same {w : World} {Mb U : Nat} {vs : Nat → Value} {f f' : Nat → List Ac} (h : Mvs w Mb U vs f) (e : ∀ s, s ≤ U → f' s = f s) : Mvs w Mb U vs f' :=
  ⟨h.blk, fun s hs => by rw [e s hs]; exact h.rows s hs, h.apart⟩

theorem Mvs.cell {w : World} {Mb U : Nat} {vs : Nat → Value} {f : Nat → List Ac} (h : Mvs w Mb U vs f) {s : Nat} (hs : s ≤ U) : w.cell? ⟨Mb, s, none⟩ = some (vs s) := by
  obtain ⟨c, hc, h1⟩ := h.blk
  rw [cell_of hc]
  exact h1 s hs

theorem Mvs.free {w : World} {Mb U : Nat} {vs : Nat → Value} {f : Nat → List Ac} (h : Mvs w Mb U vs f) (s : Nat) : w.frozen? ⟨Mb, s, none⟩ = false := by
  obtain ⟨c, hc, h1⟩ := h.blk
  exact free_of hc

/-- All are empty at first. -/
theorem Mvs.made {w : World} {U : Nat} {c : Array Value} (hc : ∀ s, s ≤ U → c[s]? = some (.slice none 0 0)) : Mvs (w.alloc (.cells c 33)) w.heap.size U (fun _ => .slice none 0 0) (fun _ => []) :=
  ⟨⟨c, heap_alloc_new w _, hc⟩, fun s hs => World.ownsRow_nil _ _ _ _, fun s s' g _ _ h _ => by cases h⟩

/-- Behind an append at one second: the other rows, and the block, are as they were. -/
theorem Mvs.grown {w W w9 : World} {Mb U : Nat} {vs : Nat → Value} {f : Nat → List Ac} (h : Mvs W Mb U vs f) {s0 : Nat} (h0 : s0 ≤ U) (g : W.grownBy w9 (vs s0).ownBlock) :
    (∃ c, w9.heap[Mb]? = some (.cells c 33 (0, 0)) ∧ ∀ s, s ≤ U → c[s]? = some (vs s)) ∧ ∀ s, s ≤ U → s ≠ s0 → w9.ownsRow (Mb + 1) 45 5 (vs s) (f s).length (flatA (f s)) := by
  obtain ⟨c, hc, h1⟩ := h.blk
  refine ⟨⟨c, (g.block Mb (lt_of hc) fun e => ?_).trans hc, h1⟩, fun s hs hne => ?_⟩
  · have := ((h.rows s0 h0).lt Mb e.symm).1
    omega
  · refine (h.rows s hs).kept g ?_
    cases hv : (vs s).ownBlock with
    | none => exact .inl rfl
    | some b =>
      refine .inr fun e => hne (h.apart s s0 b hs h0 hv e.symm)

def upd (vs : Nat → Value) (s0 : Nat) (v : Value) (s : Nat) : Value := if s = s0 then v else vs s

theorem Mvs.put {W w9 : World} {Mb U : Nat} {vs : Nat → Value} {f f' : Nat → List Ac} (h : Mvs W Mb U vs f) {s0 : Nat} (h0 : s0 ≤ U) (g : W.grownBy w9 (vs s0).ownBlock) {gb n cap : Nat}
    (hown : w9.ownsRow (Mb + 1) 45 5 (.slice (some ⟨gb, 0, none⟩) n cap) n (flatA (f' s0))) (hn : n = (f' s0).length) (hat : (vs s0).ownBlock = some gb ∨ gb = W.heap.size) (hf : ∀ s, s ≤ U → s ≠ s0 → f' s = f s) :
    Mvs (w9.setCell ⟨Mb, s0, none⟩ (.slice (some ⟨gb, 0, none⟩) n cap)) Mb U (upd vs s0 (.slice (some ⟨gb, 0, none⟩) n cap)) f' := by
  obtain ⟨⟨c, hc, h1⟩, hr⟩ := h.grown (w := W) h0 g
  have other : ∀ s b, s ≤ U → s ≠ s0 → (vs s).ownBlock = some b → b ≠ gb := fun s b hs hne hb e => by
    subst e
    rcases hat with q | q
    · exact hne (h.apart s s0 b hs h0 hb q)
    · have := ((h.rows s hs).lt b hb).2
      omega
  refine ⟨⟨_, heap_set hc, fun s hs => ?_⟩, fun s hs => ?_, fun s s' b hs hs' e e' => ?_⟩
  · unfold upd
    have hlt : s < c.size := (Array.getElem?_eq_some_iff.1 (h1 s hs)).1
    by_cases e : s = s0
    · subst e
      rw [if_pos rfl, Array.getElem?_setIfInBounds_self_of_lt hlt]
    · rw [if_neg e, Array.getElem?_setIfInBounds_ne (fun q => e q.symm)]
      exact h1 s hs
  · unfold upd
    by_cases e : s = s0
    · subst e
      rw [if_pos rfl, ← hn]
      exact owns_set hown (by omega)
    · rw [if_neg e, hf s hs e]
      exact owns_set (hr s hs e) (by omega)
  · unfold upd at e e'
    by_cases e1 : s = s0 <;> by_cases e2 : s' = s0
    · rw [e1, e2]
    · rw [if_pos e1] at e
      rw [if_neg e2] at e'
      injection e with e
      exact absurd e.symm (other s' b hs' e2 e')
    · rw [if_neg e1] at e
      rw [if_pos e2] at e'
      injection e' with e'
      exact absurd e'.symm (other s b hs e1 e)
    · rw [if_neg e1] at e
      rw [if_neg e2] at e'
      exact h.apart s s' b hs hs' e e'
end Go.Proofs.Ytklcanjlkmkmmaa.rmG
