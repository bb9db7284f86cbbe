/- Plain facts on memory, for this seat's walks: what a store does to a block, and 'Only S w w'': at most the blocks of S, and new ones, differ. No condition beside those that each theorem names. -/
import Derived.WalkKit
import Derived.Deep.Draws
import Derived.WalkSmall
import Derived.ProofKit
import Derived.OpenShut
import Derived.Deep.SlicePairs
namespace Go.Proofs.Ytokbaknckagfmaa.kit
open Go.RowKit

theorem heap_set {w : World} {b o : Nat} {v : Value} {c : Array Value} {e : TypeId} {f : Nat × Nat} (h : w.heap[b]? = some (.cells c e f)) :
    (w.setCell ⟨b, o, none⟩ v).heap[b]? = some (.cells (c.setIfInBounds o v) e f) := by
  simp [World.setCell, Array.getElem?_modify, h]

theorem heap_other {w : World} {b o k : Nat} {v : Value} (h : k ≠ b) : (w.setCell ⟨b, o, none⟩ v).heap[k]? = w.heap[k]? :=
  Below.heap_setCell w ⟨b, o, none⟩ v k h

theorem cell_of {w : World} {b o : Nat} {c : Array Value} {e : TypeId} {f : Nat × Nat} (h : w.heap[b]? = some (.cells c e f)) : w.cell? ⟨b, o, none⟩ = c[o]? := by
  simp [World.cell?, h]

theorem free_of {w : World} {b o : Nat} {c : Array Value} {e : TypeId} (h : w.heap[b]? = some (.cells c e (0, 0))) : w.frozen? ⟨b, o, none⟩ = false := by
  simp [World.frozen?, h]

theorem lt_of {w : World} {b : Nat} {x : Obj} (h : w.heap[b]? = some x) : b < w.heap.size := by
  rcases Nat.lt_or_ge b w.heap.size with g | g
  · exact g
  · rw [Array.getElem?_eq_none g] at h; cases h

/-- At most the blocks of S, and new ones, differ. -/
structure Only (S : Nat → Prop) (w w' : World) : Prop where
  os : w'.os = w.os
  tape : w'.tape = w.tape
  output : w'.output = w.output
  size : w.heap.size ≤ w'.heap.size
  block : ∀ k, k < w.heap.size → ¬ S k → w'.heap[k]? = w.heap[k]?

theorem Only.refl (S : Nat → Prop) (w : World) : Only S w w := ⟨rfl, rfl, rfl, Nat.le_refl _, fun _ _ _ => rfl⟩

theorem Only.trans {S : Nat → Prop} {a b c : World} (h : Only S a b) (k : Only S b c) : Only S a c :=
  ⟨k.os.trans h.os, k.tape.trans h.tape, k.output.trans h.output, Nat.le_trans h.size k.size, fun i hi hs => (k.block i (Nat.lt_of_lt_of_le hi h.size) hs).trans (h.block i hi hs)⟩

theorem Only.mono {S T : Nat → Prop} {w w' : World} (h : Only S w w') (hs : ∀ k, S k → T k) : Only T w w' :=
  ⟨h.os, h.tape, h.output, h.size, fun k hk ht => h.block k hk fun s => ht (hs k s)⟩

theorem Only.set {S : Nat → Prop} {a w : World} (h : Only S a w) {b o : Nat} {v : Value} (hb : S b) : Only S a (w.setCell ⟨b, o, none⟩ v) :=
  h.trans ⟨rfl, rfl, rfl, by simp, fun k _ hk => heap_other fun e => hk (e ▸ hb)⟩

theorem Only.drewN {S : Nat → Prop} {a w : World} (h : Only S a w) (n : Nat) : Only S a (w.drewN n) := ⟨h.os, h.tape, h.output, h.size, h.block⟩

theorem Only.drew {S : Nat → Prop} {a w : World} (h : Only S a w) : Only S a w.drew := ⟨h.os, h.tape, h.output, h.size, h.block⟩

theorem Only.alloc {S : Nat → Prop} {a w : World} (h : Only S a w) (o : Obj) : Only S a (w.alloc o) :=
  h.trans ⟨rfl, rfl, rfl, by simp, fun k hk _ => Below.heap_alloc _ _ _ hk⟩

theorem Only.grown {S : Nat → Prop} {a w w' : World} {row : Option Nat} (h : Only S a w) (g : w.grownBy w' row) (hr : ∀ k, row = some k → S k) : Only S a w' :=
  h.trans ⟨g.os, g.tape, g.output, g.size, fun k hk hs => g.block k hk fun e => hs (hr k e.symm)⟩

theorem Only.grownNew {S : Nat → Prop} {a w w' : World} {row : Option Nat} (h : Only S a w) (g : w.grownBy w' row) (hr : ∀ k, row = some k → a.heap.size ≤ k) : Only S a w' :=
  ⟨g.os.trans h.os, g.tape.trans h.tape, g.output.trans h.output, Nat.le_trans h.size g.size, fun k hk hs => (g.block k (Nat.lt_of_lt_of_le hk h.size) fun e => by have := hr k e.symm; omega).trans (h.block k hk hs)⟩

theorem Only.below {S : Nat → Prop} {w w' : World} {B : Nat} (h : Only S w w') (hs : ∀ k, S k → B ≤ k) (hB : B ≤ w.heap.size) : Below B w w' :=
  ⟨h.os, h.tape, h.output, h.size, fun k hk => h.block k (Nat.lt_of_lt_of_le hk hB) fun s => by have := hs k s; omega⟩

/-- A block outside S keeps its content. -/
theorem Only.keep {S : Nat → Prop} {w w' : World} (h : Only S w w') {k : Nat} {x : Obj} (hk : w.heap[k]? = some x) (hs : ¬ S k) : w'.heap[k]? = some x :=
  (h.block k (lt_of hk) hs).trans hk
theorem take_snoc {α : Type} (l : List α) (k : Nat) (h : k < l.length) (d : α) : l.take (k + 1) = l.take k ++ [l.getD k d] := by
  rw [List.take_succ_eq_append_getElem h]
  simp [h]

/-- THE SLICE v READS AS THE CELLS xs, in a block of which S holds. -/
def Lst (w : World) (e : TypeId) (S : Nat → Prop) (v : Value) (xs : List Value) : Prop :=
  (v = .slice none 0 0 ∧ xs = []) ∨ ∃ g o cap, v = .slice (some ⟨g, o, none⟩) xs.length cap ∧ S g ∧ xs.length ≤ cap ∧ cap ≤ maxLen ∧
    ∃ c fr, w.heap[g]? = some (.cells c e fr) ∧ o + cap ≤ c.size ∧ ∀ i, i < xs.length → c[o + i]? = some (xs.getD i undef)

theorem Lst.keep {w w' : World} {e : TypeId} {S T : Nat → Prop} {v : Value} {xs : List Value} (h : Lst w e S v xs) (k : Only T w w') (d : ∀ i, S i → ¬ T i) : Lst w' e S v xs := by
  rcases h with h | ⟨g, o, cap, h1, h2, h3, h4, c, fr, h5, h6, h7⟩
  · exact .inl h
  · exact .inr ⟨g, o, cap, h1, h2, h3, h4, c, fr, k.keep h5 (d g h2), h6, h7⟩

theorem Lst.mono {w : World} {e : TypeId} {S T : Nat → Prop} {v : Value} {xs : List Value} (h : Lst w e S v xs) (d : ∀ i, S i → T i) : Lst w e T v xs := by
  rcases h with h | ⟨g, o, cap, h1, h2, h3⟩
  · exact .inl h
  · exact .inr ⟨g, o, cap, h1, d g h2, h3⟩

theorem Lst.of_owns {w : World} {e base n : Nat} {v : Value} {xs : List Value} (h : w.ownsRow base e 1 v n xs) : Lst w e (fun k => base ≤ k) v xs := by
  obtain ⟨hl, h | ⟨g, cap, cur, hv, hb, hg, hn, hm, hs, ht⟩⟩ := h
  · obtain ⟨rfl, rfl⟩ := h
    exact .inl ⟨rfl, by simpa using hl⟩
  · simp only [Nat.mul_one] at hl hs ht
    subst hl
    refine .inr ⟨g, 0, cap, hv, hb, hn, hm, cur, _, hg, by omega, fun i hi => ?_⟩
    have e1 : xs[i]? = cur.toList[i]? := by rw [← ht, List.getElem?_take, if_pos hi]
    rw [Nat.zero_add, ← Array.getElem?_toList, ← e1, List.getD_eq_getElem?_getD]
    simp [hi]

theorem Lst.cell {w : World} {e : TypeId} {S : Nat → Prop} {g o n cap : Nat} {xs : List Value} (h : Lst w e S (.slice (some ⟨g, o, none⟩) n cap) xs) {i : Nat} (hi : i < xs.length) : w.cell? ⟨g, o + i, none⟩ = some (xs.getD i undef) := by
  rcases h with ⟨h, -⟩ | ⟨g', o', cap', h1, h2, h3, h4, c, fr, h5, h6, h7⟩
  · cases h
  · injection h1 with q1 q2 q3
    injection q1 with q1
    injection q1 with q1 q4
    subst q1 q4
    simp [World.cell?, h5, h7 i hi]
end Go.Proofs.Ytokbaknckagfmaa.kit
namespace Go.Proofs.Ytokbaknckagfmaa.kit
open Go.RowKit

def Sl (w : World) (S : Nat → Prop) (v : Value) (xs : List Value) : Prop :=
  xs.length ≤ maxLen ∧ ∃ a cap, v = .slice a xs.length cap ∧ (xs = [] ∨ ∃ g o, a = some ⟨g, o, none⟩ ∧ S g ∧ g < w.heap.size ∧ ∀ i, i < xs.length → w.cell? ⟨g, o + i, none⟩ = some (xs.getD i undef))

theorem Sl.of_lst {w : World} {e : TypeId} {S : Nat → Prop} {v : Value} {xs : List Value} (h : Lst w e S v xs) : Sl w S v xs := by
  rcases id h with ⟨rfl, rfl⟩ | ⟨g, o, cap, rfl, hS, hc, hm, c, fr, hb, _, _⟩
  · exact ⟨Nat.zero_le _, none, 0, rfl, .inl rfl⟩
  · exact ⟨by omega, _, cap, rfl, .inr ⟨g, o, rfl, hS, lt_of hb, fun i hi => h.cell hi⟩⟩

theorem Sl.keep {w w' : World} {S T : Nat → Prop} {v : Value} {xs : List Value} (h : Sl w S v xs) (k : Only T w w') (d : ∀ i, S i → ¬ T i) : Sl w' S v xs := by
  obtain ⟨hm, a, cap, hv, h | ⟨g, o, ha, hS, hg, hc⟩⟩ := h
  · exact ⟨hm, a, cap, hv, .inl h⟩
  · exact ⟨hm, a, cap, hv, .inr ⟨g, o, ha, hS, Nat.lt_of_lt_of_le hg k.size, fun i hi => (World.cell?_of_block (w := w) (a := ⟨g, o + i, none⟩) (k.block g hg (d g hS))).trans (hc i hi)⟩⟩

theorem Sl.mono {w : World} {S T : Nat → Prop} {v : Value} {xs : List Value} (h : Sl w S v xs) (d : ∀ i, S i → T i) : Sl w T v xs := by
  obtain ⟨hm, a, cap, hv, h | ⟨g, o, ha, hS, hg, hc⟩⟩ := h
  · exact ⟨hm, a, cap, hv, .inl h⟩
  · exact ⟨hm, a, cap, hv, .inr ⟨g, o, ha, d g hS, hg, hc⟩⟩
end Go.Proofs.Ytokbaknckagfmaa.kit
namespace Go.Proofs.Ytokbaknckagfmaa.args
open Go.ChangeShapes Go.WideShapes Go.ChangeAt Go.RowKit
set_option linter.unusedVariables false

end Go.Proofs.Ytokbaknckagfmaa.args
