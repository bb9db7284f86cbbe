/- What the slots hold, as places of the list of all pairs; asked. -/
import Derived.Test.YthembojamiagoaaSloH
import Derived.StillTailTactics
import Derived.Deep.CutBlock
import Derived.Deep.DeepCutAuto
import Derived.BigQuiet
namespace Go.Proofs.Ythembojamiagoaa.sloI
open Go.RowKit Go.Lib Go.Proofs.Ythembojamiagoaa.kit Go.Proofs.Ythembojamiagoaa.sloA Go.Proofs.Ythembojamiagoaa.sloB Go.Proofs.Ythembojamiagoaa.sloC Go.Proofs.Ythembojamiagoaa.sloD Go.Proofs.Ythembojamiagoaa.sloF Go.Proofs.Ythembojamiagoaa.sloG Go.Proofs.Ythembojamiagoaa.sloH
set_option linter.unusedVariables false
set_option linter.unusedSimpArgs false

/-- A pair: its block, its number, when it was made. -/
abbrev Pr := Nat × Int × Int
def blk (ids : List Pr) (k : Nat) : Nat := (ids.getD k (0, 0, 0)).1
def loc (ids : List Pr) (k : Nat) : Int := (ids.getD k (0, 0, 0)).2.1
def mad (ids : List Pr) (k : Nat) : Int := (ids.getD k (0, 0, 0)).2.2

/-- All pairs that were made lie at the slice v. -/
structure All (w : World) (g o n cap : Nat) (ids : List Pr) : Prop where
  len : n = ids.length
  small : n ≤ 1000
  cell : ∀ k, k < ids.length → w.cell? ⟨g, o + k, none⟩ = some (.pointer (some ⟨blk ids k, 0, none⟩))
  lt : g < w.heap.size
  pairs : ∀ k, k < ids.length → PairAt w (blk ids k) (loc ids k) (mad ids k) ∧ 0 ≤ mad ids k ∧ mad ids k ≤ 1000000

theorem All.keep {w w' : World} {g o n cap : Nat} {ids : List Pr} (h : All w g o n cap ids) (k : Only (fun _ => False) w w') : All w' g o n cap ids :=
  ⟨h.len, h.small, fun i hi => (World.cell?_of_block (w := w) (a := ⟨g, o + i, none⟩) (k.block g h.lt id)).trans (h.cell i hi), Nat.lt_of_lt_of_le h.lt k.size, fun i hi => ⟨(h.pairs i hi).1.keep k, (h.pairs i hi).2⟩⟩

/-- The slot's pointer p is what the document's place q says. -/
def Sd (ids : List Pr) (q : Int) (p : Option Addr) : Prop := (q = -1 ∧ p = none) ∨ ∃ k : Nat, q = (k : Int) ∧ k < ids.length ∧ p = some ⟨(blk ids k), 0, none⟩

end Go.Proofs.Ythembojamiagoaa.sloI
