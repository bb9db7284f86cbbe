/- What a walk is told of an argument that is a slice of Acts (structs of four whole numbers). -/
import Derived.WalkKit
import Derived.ProofKit
import Derived.OpenShut
import Derived.Deep.SlicePairs
import Derived.Test.YthembojamiagoaaProg
import Derived.Test.YthembojamiagoaaKit
namespace Go.Proofs.Ythembojamiagoaa.sloK
open Go.ChangeShapes Go.WideShapes Go.ChangeAt Go.RowKit Go.Deep
set_option linter.unusedVariables false

/-- An act: its kind, its number, when it was made, its place. -/
structure Act4 where
  k : Int
  l : Int
  m : Int
  n : Int
deriving Inhabited

def Acts (w : World) (a : Option Addr) (len : Nat) (z : Nat → Act4) : Prop :=
  len ≤ maxLen ∧ (len = 0 ∨ ∃ b o, a = some ⟨b, o, none⟩ ∧ b < w.heap.size ∧ ∀ i, i < len →
    w.cell? ⟨b, o + i * 4, none⟩ = some (.int .u8 (z i).k) ∧ w.cell? ⟨b, o + i * 4 + 1, none⟩ = some (.int .u32 (z i).l) ∧ w.cell? ⟨b, o + i * 4 + 2, none⟩ = some (.int .i64 (z i).m) ∧ w.cell? ⟨b, o + i * 4 + 3, none⟩ = some (.int .u16 (z i).n) ∧
    (Lit.int .u8 (z i).k).wf = true ∧ (Lit.int .u32 (z i).l).wf = true ∧ (Lit.int .i64 (z i).m).wf = true ∧ (Lit.int .u16 (z i).n).wf = true)

theorem quads_row {H : Type} {enc : TypeId × Value → H} {P : Program} {w : World} {base : Nat} {spare : Nat → Bool} {held : Bool} {t e : TypeId} {f0 f1 f2 f3 : Field} {a : Option Addr} {len cap : Nat} {d : DataW H} {p : List MemPlace}
    (ht : P.underlying t = some (.slice e)) (he : P.underlying e = some (.struct #[f0, f1, f2, f3])) (ce : P.cellsOf e = 4) (o0 : f0.offset = 0) (o1 : f1.offset = 1) (o2 : f2.offset = 2) (o3 : f3.offset = 3)
    (c0 : P.cellsOf f0.type = 1) (c1 : P.cellsOf f1.type = 1) (c2 : P.cellsOf f2.type = 1) (c3 : P.cellsOf f3.type = 1)
    (u0 : P.underlying f0.type = some (.int .u8)) (u1 : P.underlying f1.type = some (.int .u32)) (u2 : P.underlying f2.type = some (.int .i64)) (u3 : P.underlying f3.type = some (.int .u16))
    (h : DataW.Trod enc P w base spare held t (.slice a len cap) d p) (hlt : ∀ x ∈ p, x.block < w.heap.size) : ∃ z, Acts w a len z := by
  obtain ⟨fuel, hf⟩ := h
  rcases open_slice ht hf with ⟨hcs, _⟩ | ⟨x, l, c, m, n, D, Pl, hcs, hb, hl, hm, hmm, _, hx⟩
  · simp [Value.cells] at hcs
    obtain ⟨rfl, rfl, rfl⟩ := hcs
    exact ⟨fun _ => ⟨0, 0, 0, 0⟩, by decide, .inl rfl⟩
  · simp [Value.cells] at hcs
    obtain ⟨rfl, rfl, rfl⟩ := hcs
    have hlm : len ≤ m := by rw [hmm]; split <;> omega
    have each : ∀ i, i < len → ∃ q : Act4, w.cell? (x.add (i * 4)) = some (.int .u8 q.k) ∧ w.cell? (x.add (i * 4 + 1)) = some (.int .u32 q.l) ∧ w.cell? (x.add (i * 4 + 2)) = some (.int .i64 q.m) ∧ w.cell? (x.add (i * 4 + 3)) = some (.int .u16 q.n) ∧
        (Lit.int .u8 q.k).wf = true ∧ (Lit.int .u32 q.l).wf = true ∧ (Lit.int .i64 q.m).wf = true ∧ (Lit.int .u16 q.n).wf = true := by
      intro i hi
      obtain ⟨cs', h1, h2⟩ := hx i (by omega)
      rw [ce] at h1
      obtain ⟨_, hlen, hcell⟩ := World.cells?_some h1
      obtain ⟨xs, k, hk, hxy, _, hxl, hf⟩ := DataW.trod_struct he h2
      match xs, hxl, cs', hlen with
      | [y0, y1, y2, y3], _, [v0, v1, v2, v3], _ =>
        have g0 := hf 0 f0 rfl
        have g1 := hf 1 f1 rfl
        have g2 := hf 2 f2 rfl
        have g3 := hf 3 f3 rfl
        simp [o0, o1, o2, o3, c0, c1, c2, c3] at g0 g1 g2 g3
        have e0 := hcell 0 (by omega)
        have e1 := hcell 1 (by omega)
        have e2 := hcell 2 (by omega)
        have e3 := hcell 3 (by omega)
        rw [add_add] at e0 e1 e2 e3
        obtain ⟨x0, q0, _, w0⟩ := DataW.trod_int u0 g0
        obtain ⟨x1, q1, _, w1⟩ := DataW.trod_int u1 g1
        obtain ⟨x2, q2, _, w2⟩ := DataW.trod_int u2 g2
        obtain ⟨x3, q3, _, w3⟩ := DataW.trod_int u3 g3
        simp only [List.cons.injEq, and_true] at q0 q1 q2 q3
        subst q0 q1 q2 q3
        exact ⟨⟨x0, x1, x2, x3⟩, by simpa using e0, by simpa using e1, by simpa using e2, by simpa using e3, w0, w1, w2, w3⟩
    obtain ⟨z, hz⟩ := choose_lt each
    refine ⟨z, by omega, ?_⟩
    rcases Nat.eq_zero_or_pos len with h0 | h0
    · exact .inl h0
    right
    obtain ⟨b, off, spot⟩ := x
    have hs : spot = none := by
      have q := (hz 0 h0).1
      simpa [Addr.add] using World.cell?_spot q
    subst hs
    refine ⟨b, off, rfl, ?_, fun i hi => ?_⟩
    · have q := (hz 0 h0).1
      rw [Addr.add_lit] at q
      exact World.block_lt_of_cell? w _ q
    · obtain ⟨g0, g1, g2, g3, r⟩ := hz i hi
      rw [Addr.add_lit] at g0 g1 g2 g3
      exact ⟨g0, by rw [Nat.add_assoc]; exact g1, by rw [Nat.add_assoc]; exact g2, by rw [Nat.add_assoc]; exact g3, r⟩

theorem acts_arg {H : Type} {enc : TypeId × Value → H} {w : World} {base : Nat} {spare : Nat → Bool} {held : Bool} {a : Option Addr} {len cap : Nat} {d : DataW H} {p : List MemPlace} {X : Option TypeDesc}
    (ht : Try.prog.underlying 22 = some (.slice 32)) (he : Try.prog.underlying 32 = X) (ce : Try.prog.cellsOf 32 = 4) (h : DataW.Trod enc Try.prog w base spare held 22 (.slice a len cap) d p) (hlt : ∀ x ∈ p, x.block < w.heap.size) : ∃ z, Acts w a len z :=
  quads_row ht Try.underlying32 ce rfl rfl rfl rfl (by kernel_rfl) (by kernel_rfl) (by kernel_rfl) (by kernel_rfl) Try.underlying5 Try.underlying23 Try.underlying2 Try.underlying30 h hlt
end Go.Proofs.Ythembojamiagoaa.sloK
