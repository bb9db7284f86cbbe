/- Roam: a journey as the document's: memory while a route's legs are laid out. -/
import Derived.Test.YtklcanjlkmkmmaaRmR
import Derived.Test.YtklcanjlkmkmmaaRmG
import Derived.Deep.AppendLies
namespace Go.Proofs.Ytklcanjlkmkmmaa.rmQm
open Go.RowKit Go.Lib Go.Proofs.Ytklcanjlkmkmmaa.kit Go.Proofs.Ytklcanjlkmkmmaa.floA Go.Proofs.Ytklcanjlkmkmmaa.skyA Go.Proofs.Ytklcanjlkmkmmaa.skyB Go.Proofs.Ytklcanjlkmkmmaa.skyC Go.Proofs.Ytklcanjlkmkmmaa.skyD Go.Proofs.Ytklcanjlkmkmmaa.skyE Go.Proofs.Ytklcanjlkmkmmaa.skyF Go.Proofs.Ytklcanjlkmkmmaa.skyG Go.Proofs.Ytklcanjlkmkmmaa.skyH Go.Proofs.Ytklcanjlkmkmmaa.skyI Go.Proofs.Ytklcanjlkmkmmaa.skyP Go.Proofs.Ytklcanjlkmkmmaa.skyS Go.Proofs.Ytklcanjlkmkmmaa.rmA Go.Proofs.Ytklcanjlkmkmmaa.rmG Go.Proofs.Ytklcanjlkmkmmaa.rmO Go.Proofs.Ytklcanjlkmkmmaa.rmP Go.Proofs.Ytklcanjlkmkmmaa.rmR
set_option linter.unusedVariables false
set_option linter.unusedSimpArgs false

/-- A block holds a route of the document's. -/
def BoxQ (w : World) (B : Nat) (x y : Int) (v : Value) : Prop := w.heap[B]? = some (.cells #[.int .i64 x, .int .i64 y, v] 57 (0, 0))

theorem BoxQ.cells {w : World} {B : Nat} {x y : Int} {v : Value} (h : BoxQ w B x y v) : w.cell? ⟨B, 0, none⟩ = some (.int .i64 x) ∧ w.cell? ⟨B, 1, none⟩ = some (.int .i64 y) ∧ w.cell? ⟨B, 2, none⟩ = some v := ⟨cell_of h, cell_of h, cell_of h⟩

theorem BoxQ.keep {w w' : World} {B : Nat} {x y : Int} {v : Value} (h : BoxQ w B x y v) (o : Only (fun _ => False) w w') : BoxQ w' B x y v := o.keep h id

theorem leg_put {w : World} {O : Nat} {x y a b c : Int} {v : Value} {k : Nat} {xs : List Value} {o59 : Obj} (h : BoxQ w O x y v) (own : w.ownsRow (O + 1) 61 3 v k xs) (hk : k ≤ 1000) :
    ∃ g cp w', (Builtin.append_ #[55, 55] 55 #[v, .slice (some ⟨w.heap.size + 1, 0, none⟩) 1 1]).run Try.prog ((w.alloc o59).alloc (.cells #[.int .i64 a, .int .i64 b, .int .i64 c] 61)) = .ok (.slice (some ⟨g, 0, none⟩) (k + 1 : Nat) cp) w' ∧
      w'.frozen? ⟨O, 2, none⟩ = false ∧ w'.cell? ⟨O, 2, none⟩ = some v ∧
      BoxQ (w'.setCell ⟨O, 2, none⟩ (.slice (some ⟨g, 0, none⟩) (k + 1 : Nat) cp)) O x y (.slice (some ⟨g, 0, none⟩) (k + 1 : Nat) cp) ∧ (w'.setCell ⟨O, 2, none⟩ (.slice (some ⟨g, 0, none⟩) (k + 1 : Nat) cp)).ownsRow (O + 1) 61 3 (.slice (some ⟨g, 0, none⟩) (k + 1 : Nat) cp) (k + 1) (xs ++ [.int .i64 a, .int .i64 b, .int .i64 c]) ∧ ∀ w0, Only (fun _ => False) w0 w → w0.heap.size ≤ O → Only (fun _ => False) w0 (w'.setCell ⟨O, 2, none⟩ (.slice (some ⟨g, 0, none⟩) (k + 1 : Nat) cp)) := by
  obtain ⟨i0, hi0, hz0, hz1, hz2⟩ := info_parts info63
  have oA : Only (fun _ => False) w ((w.alloc o59).alloc (.cells #[.int .i64 a, .int .i64 b, .int .i64 c] 61)) := ((Only.refl (fun _ => False) w).alloc _).alloc _
  have hb := lt_of h
  have h' := h.keep oA
  have own' := owns_keep own oA
  have hh := heap_alloc_new (w.alloc o59) (.cells #[.int .i64 a, .int .i64 b, .int .i64 c] 61)
  have hs1 : (w.alloc o59).heap.size = w.heap.size + 1 := World.size_alloc _ _
  rw [hs1] at hh
  have hs : ((w.alloc o59).alloc (.cells #[.int .i64 a, .int .i64 b, .int .i64 c] 61)).heap.size = w.heap.size + 2 := by rw [World.size_alloc, hs1]
  obtain ⟨g, cp, w', hr, hown, hg, hat, _⟩ := run_append_lies (P := Try.prog) ((w.alloc o59).alloc (.cells #[.int .i64 a, .int .i64 b, .int .i64 c] 61)) 55 55 (O + 1) 61 i0 _ 3 24 Try.underlying55 hi0 hz0 hz1 hz2 rfl (by omega) v k xs own' ⟨w.heap.size + 1, 0, none⟩ 1 1 [.int .i64 a, .int .i64 b, .int .i64 c] rfl (fun j u hj => by
    rw [Addr.add_lit, cell_of hh, Nat.zero_add]
    simpa using hj) (fun u hu => by simp at hu; rcases hu with rfl | rfl | rfl <;> rfl) (by omega) (by unfold maxLen; omega) (by omega) (by omega) _ rfl
  have hne : v.ownBlock ≠ some O := fun q => by
    have := (own.lt O q).1
    omega
  have hO : w'.heap[O]? = some (.cells #[.int .i64 x, .int .i64 y, v] 57 (0, 0)) := (hg.block O (by omega) fun q => hne q.symm).trans h'
  refine ⟨_, _, _, hr, free_of hO, cell_of hO, heap_set hO, owns_set hown (by omega), fun w0 o0 h0 => only_setNew (Only.grownNew ((o0.alloc _).alloc _) hg fun b q => ?_) h0⟩
  have := (own.lt b q).1
  omega
end Go.Proofs.Ytklcanjlkmkmmaa.rmQm
