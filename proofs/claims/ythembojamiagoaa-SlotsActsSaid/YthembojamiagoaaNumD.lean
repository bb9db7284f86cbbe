/- Contracts of num.Print and its document's answer. -/
import Derived.Test.YthembojamiagoaaNumC
import Derived.Scope
import Derived.WalkLawsBesides
namespace Go.Proofs.Ythembojamiagoaa.numD
open Go.RowKit Go.Proofs.Ythembojamiagoaa.kit Go.Proofs.Ythembojamiagoaa.numA Go.Proofs.Ythembojamiagoaa.numB Go.Proofs.Ythembojamiagoaa.numC
set_option linter.unusedVariables false

theorem only_setNew {S : Nat → Prop} {a w : World} (h : Only S a w) {b o : Nat} {v : Value} (hb : a.heap.size ≤ b) : Only S a (w.setCell ⟨b, o, none⟩ v) :=
  ⟨h.os, h.tape, h.output, by simpa using h.size, fun k hk hs => (heap_other (by omega)).trans (h.block k hk hs)⟩

/-- The room of a number's digits, with its last one. -/
def room (x : Int) : Array Value := #[.int .u8 0, .int .u8 0, .int .u8 0, .int .u8 0, .int .u8 0, .int .u8 0, .int .u8 0, .int .u8 0, .int .u8 0, .int .u8 0, .int .u8 0, .int .u8 0, .int .u8 0, .int .u8 0, .int .u8 0, .int .u8 0, .int .u8 0, .int .u8 0, .int .u8 0, .int .u8 x]

/-- The digits behind place b + 1 stand; those of n are still to come. -/
structure St (u n b : Nat) (w wr : World) : Prop where
  ex : ∃ (D : List UInt8) (f : Nat → Value), wr.rowIs w.heap.size 106 20 f ∧ b + 1 + D.length = 20 ∧ (∀ j, j < D.length → f (b + 1 + j) = .int .u8 ((D.getD j 0).toNat : Int)) ∧ dec u = dec n ++ D
  old : Only (fun _ => False) w wr
  le : n ≤ most

end Go.Proofs.Ythembojamiagoaa.numD
