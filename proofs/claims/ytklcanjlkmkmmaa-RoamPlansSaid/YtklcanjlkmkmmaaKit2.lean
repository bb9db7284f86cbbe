/- A slice that reads as a list, whatever block it lies in; it may be empty and lie nowhere. -/
import Derived.Test.YtklcanjlkmkmmaaKit
namespace Go.Proofs.Ytklcanjlkmkmmaa.kit
open Go.RowKit

def Sl (w : World) (S : Nat → Prop) (v : Value) (xs : List Value) : Prop :=
  xs.length ≤ maxLen ∧ ∃ a cap, v = .slice a xs.length cap ∧ (xs = [] ∨ ∃ g o, a = some ⟨g, o, none⟩ ∧ S g ∧ g < w.heap.size ∧ ∀ i, i < xs.length → w.cell? ⟨g, o + i, none⟩ = some (xs.getD i undef))

theorem Sl.of_lst {w : World} {e : TypeId} {S : Nat → Prop} {v : Value} {xs : List Value} (h : Lst w e S v xs) : Sl w S v xs := by
  rcases id h with ⟨rfl, rfl⟩ | ⟨g, o, cap, rfl, hS, hc, hm, c, fr, hb, _, _⟩
  · exact ⟨Nat.zero_le _, none, 0, rfl, .inl rfl⟩
  · exact ⟨by omega, _, cap, rfl, .inr ⟨g, o, rfl, hS, lt_of hb, fun i hi => h.cell hi⟩⟩

theorem Sl.keep {w w' : World} {S T : Nat → Prop} {v : Value} {xs : List Value} (h : Sl w S v xs) (k : Only T w w') (d : ∀ i, S i → ¬ T i) : Sl w' S v xs := by
  obtain ⟨hm, a, cap, hv, h | ⟨g, o, ha, hS, hg, hc⟩⟩ := h
  · exact ⟨hm, a, cap, hv, .inl h⟩
  · exact ⟨hm, a, cap, hv, .inr ⟨g, o, ha, hS, Nat.lt_of_lt_of_le hg k.size, fun i hi => (World.cell?_of_block (w := w) (a := ⟨g, o + i, none⟩) (k.block g hg (d g hS))).trans (hc i hi)⟩⟩

theorem Sl.mono {w : World} {S T : Nat → Prop} {v : Value} {xs : List Value} (h : Sl w S v xs) (d : ∀ i, S i → T i) : Sl w T v xs := by
  obtain ⟨hm, a, cap, hv, h | ⟨g, o, ha, hS, hg, hc⟩⟩ := h
  · exact ⟨hm, a, cap, hv, .inl h⟩
  · exact ⟨hm, a, cap, hv, .inr ⟨g, o, ha, d g hS, hg, hc⟩⟩
end Go.Proofs.Ytklcanjlkmkmmaa.kit
