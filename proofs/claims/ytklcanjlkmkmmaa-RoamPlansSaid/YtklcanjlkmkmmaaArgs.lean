/- What a walk is told of an argument that is a slice: of whole numbers, or of structs of two whole numbers. -/
import Derived.WalkKit
import Derived.ProofKit
import Derived.OpenShut
import Derived.Deep.SlicePairs
import Derived.Test.YtklcanjlkmkmmaaKit
namespace Go.Proofs.Ytklcanjlkmkmmaa.args
open Go.ChangeShapes Go.WideShapes Go.ChangeAt Go.RowKit
set_option linter.unusedVariables false

/-- A slice of whole numbers of one kind: its numbers zs, in cells of a block that was there. -/
def Row (k : IntKind) (w : World) (a : Option Addr) (len : Nat) (zs : List Int) : Prop :=
  len ≤ maxLen ∧ zs.length = len ∧ (∀ n ∈ zs, (Lit.int k n).wf = true) ∧
  (len = 0 ∨ ∃ b o, a = some ⟨b, o, none⟩ ∧ b < w.heap.size ∧ ∀ i, i < len → w.cell? ⟨b, o + i, none⟩ = some (.int k (zs.getD i 0)))

theorem ints_row {H : Type} {enc : TypeId × Value → H} {P : Program} {w : World} {base : Nat} {spare : Nat → Bool} {held : Bool} {t e : TypeId} {k : IntKind} {a : Option Addr} {len cap : Nat} {d : DataW H} {p : List MemPlace}
    (ht : P.underlying t = some (.slice e)) (he : P.underlying e = some (.int k)) (ce : P.cellsOf e = 1) (h : DataW.Trod enc P w base spare held t (.slice a len cap) d p) (hlt : ∀ x ∈ p, x.block < w.heap.size) : ∃ zs, Row k w a len zs := by
  obtain ⟨fuel, hf⟩ := h
  rcases open_ints ht he ce hf with ⟨hcs, _⟩ | ⟨x, l, c, zs, hcs, _, hl, hm, hz, _, hcell, hwz⟩
  · simp [Value.cells] at hcs
    obtain ⟨rfl, rfl, rfl⟩ := hcs
    exact ⟨[], by decide, rfl, by simp, .inl rfl⟩
  · simp [Value.cells] at hcs
    obtain ⟨rfl, rfl, rfl⟩ := hcs
    have hzl : len ≤ zs.length := by rw [hz]; split <;> omega
    refine ⟨zs.take len, by omega, by rw [List.length_take]; omega, fun n hn => hwz n (List.mem_of_mem_take hn), ?_⟩
    rcases Nat.eq_zero_or_pos len with h0 | h0
    · exact .inl h0
    right
    obtain ⟨b, off, spot⟩ := x
    have hs : spot = none := by simpa [Addr.add] using World.cell?_spot (hcell 0 (by omega))
    subst hs
    refine ⟨b, off, rfl, by simpa [Addr.add] using World.block_lt_of_cell? w _ (hcell 0 (by omega)), fun i hi => ?_⟩
    have q := hcell i (by omega)
    rw [Addr.add_lit] at q
    rw [q]
    simp [hi]

/-- A slice of structs of two whole numbers. -/
def Pairs (k0 k1 : IntKind) (w : World) (a : Option Addr) (len : Nat) : Prop :=
  len ≤ maxLen ∧ (len = 0 ∨ ∃ b o, a = some ⟨b, o, none⟩ ∧ b < w.heap.size ∧ ∃ (k x : Nat → Int), ∀ i, i < len → w.cell? ⟨b, o + i * 2, none⟩ = some (.int k0 (k i)) ∧ w.cell? ⟨b, o + i * 2 + 1, none⟩ = some (.int k1 (x i)) ∧ (Lit.int k0 (k i)).wf = true ∧ (Lit.int k1 (x i)).wf = true)

theorem pairs_row {H : Type} {enc : TypeId × Value → H} {P : Program} {w : World} {base : Nat} {spare : Nat → Bool} {held : Bool} {t e : TypeId} {f0 f1 : Field} {k0 k1 : IntKind} {a : Option Addr} {len cap : Nat} {d : DataW H} {p : List MemPlace}
    (ht : P.underlying t = some (.slice e)) (he : P.underlying e = some (.struct #[f0, f1])) (ce : P.cellsOf e = 2) (o0 : f0.offset = 0) (o1 : f1.offset = 1) (c0 : P.cellsOf f0.type = 1) (c1 : P.cellsOf f1.type = 1)
    (u0 : P.underlying f0.type = some (.int k0)) (u1 : P.underlying f1.type = some (.int k1)) (h : DataW.Trod enc P w base spare held t (.slice a len cap) d p) (hlt : ∀ x ∈ p, x.block < w.heap.size) : Pairs k0 k1 w a len := by
  obtain ⟨fuel, hf⟩ := h
  rcases Go.Deep.open_slice_pairs ht he ce o0 o1 c0 c1 hf with ⟨hcs, _⟩ | ⟨x, l, c, m, n, V0, V1, D0, D1, P0, P1, hcs, _, hl, hm, hmm, _, hi⟩
  · simp [Value.cells] at hcs
    obtain ⟨rfl, rfl, rfl⟩ := hcs
    exact ⟨by decide, .inl rfl⟩
  · simp [Value.cells] at hcs
    obtain ⟨rfl, rfl, rfl⟩ := hcs
    refine ⟨by omega, ?_⟩
    rcases Nat.eq_zero_or_pos len with h0 | h0
    · exact .inl h0
    right
    have hlm : len ≤ m := by rw [hmm]; split <;> omega
    obtain ⟨b, off, spot⟩ := x
    have hs : spot = none := by
      have q := (hi 0 (by omega)).1
      simpa [Addr.add] using World.cell?_spot q
    subst hs
    have g : ∀ i, i < len → ∃ q : Int × Int, w.cell? ⟨b, off + i * 2, none⟩ = some (.int k0 q.1) ∧ w.cell? ⟨b, off + i * 2 + 1, none⟩ = some (.int k1 q.2) ∧ (Lit.int k0 q.1).wf = true ∧ (Lit.int k1 q.2).wf = true := by
      intro i hil
      obtain ⟨g0, g1, t0, t1⟩ := hi i (by omega)
      obtain ⟨x0, e0, _, w0⟩ := DataW.trod_int u0 t0
      obtain ⟨x1, e1, _, w1⟩ := DataW.trod_int u1 t1
      simp only [List.cons.injEq, and_true] at e0 e1
      rw [e0, Addr.add_lit] at g0
      rw [e1, Addr.add_lit] at g1
      exact ⟨(x0, x1), g0, by rw [Nat.add_assoc]; exact g1, w0, w1⟩
    obtain ⟨q, hq⟩ := Go.Deep.choose_lt g
    exact ⟨b, off, rfl, World.block_lt_of_cell? w _ (hq 0 h0).1, fun i => (q i).1, fun i => (q i).2, hq⟩
end Go.Proofs.Ytklcanjlkmkmmaa.args
