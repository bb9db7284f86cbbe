/- Arguments that are a Start, a heard thing. -/
import Derived.SizedLaws
import Derived.Test.YtbjnejnjlidiaaaWrA
namespace Go.Proofs.Ytbjnejnjlidiaaa.argH
open Go.ChangeShapes Go.WideShapes Go.ChangeAt Go.RowKit kit args numA tmA trA trB wrA
set_option linter.unusedVariables false
set_option linter.unusedSimpArgs false

/-- A Start, and a heard thing, as they come in. -/
structure StA where
  x : Int
  e : ByteArray
  c : ByteArray
  h : ByteArray
abbrev StA.row (z : StA) : Array Value := #[.int .u32 z.x, .string z.e, .string z.c, .string z.h]
structure HdA where
  x : Int
  p : ByteArray
  n : Int
  e : ByteArray
  c : ByteArray
  h : ByteArray
abbrev HdA.row (z : HdA) : Array Value := #[.int .u32 z.x, .string z.p, .int .u64 z.n, .string z.e, .string z.c, .string z.h]
set_option maxRecDepth 100000 in
set_option maxHeartbeats 800000 in
theorem st_by {H : Type} {enc : TypeId × Value → H} {w : World} {base : Nat} {spare : Nat → Bool} {held : Bool} {cs : Array Value} {d : DataW H} {p : List MemPlace} (h : DataW.Trod enc Try.prog w base spare held 74 (.agg cs) d p) (_ : ∀ x ∈ p, x.block < w.heap.size) : ∃ z : StA, cs = z.row ∧ True := by
  obtain ⟨fuel, hf⟩ := h
  obtain ⟨xs, n, _, hx, hl, hlen, hF⟩ := DataW.trod_struct Try.underlying74 hf
  have hl13 : cs.toList.length = 4 := hl
  have hx13 : xs.length = 4 := hlen
  obtain ⟨L⟩ := cs
  clear hx hl hlen hf
  match L, hl13, xs, hx13 with
  | [v0, v1, v2, v3], _, [y0, y1, y2, y3], _ =>
    have e0 : DataW.trod enc Try.prog w base spare held n 59 [v0] = some y0 := hF 0 _ rfl
    obtain ⟨n0, q0, r0, w0⟩ := DataW.trod_int Try.underlying59 e0
    simp only [List.cons.injEq, and_true] at q0
    subst q0
    clear e0
    have e1 : DataW.trod enc Try.prog w base spare held n 9 [v1] = some y1 := hF 1 _ rfl
    obtain ⟨n1, q1, r1, w1⟩ := DataW.trod_string Try.underlying9 e1
    simp only [List.cons.injEq, and_true] at q1
    subst q1
    clear e1
    have e2 : DataW.trod enc Try.prog w base spare held n 9 [v2] = some y2 := hF 2 _ rfl
    obtain ⟨n2, q2, r2, w2⟩ := DataW.trod_string Try.underlying9 e2
    simp only [List.cons.injEq, and_true] at q2
    subst q2
    clear e2
    have e3 : DataW.trod enc Try.prog w base spare held n 9 [v3] = some y3 := hF 3 _ rfl
    obtain ⟨n3, q3, r3, w3⟩ := DataW.trod_string Try.underlying9 e3
    simp only [List.cons.injEq, and_true] at q3
    subst q3
    clear e3
    exact ⟨⟨n0, n1, n2, n3⟩, rfl, trivial⟩

set_option maxRecDepth 100000 in
set_option maxHeartbeats 800000 in
theorem hd_by {H : Type} {enc : TypeId × Value → H} {w : World} {base : Nat} {spare : Nat → Bool} {held : Bool} {cs : Array Value} {d : DataW H} {p : List MemPlace} (h : DataW.Trod enc Try.prog w base spare held 82 (.agg cs) d p) (_ : ∀ x ∈ p, x.block < w.heap.size) : ∃ z : HdA, cs = z.row ∧ True := by
  obtain ⟨fuel, hf⟩ := h
  obtain ⟨xs, n, _, hx, hl, hlen, hF⟩ := DataW.trod_struct Try.underlying82 hf
  have hl13 : cs.toList.length = 6 := hl
  have hx13 : xs.length = 6 := hlen
  obtain ⟨L⟩ := cs
  clear hx hl hlen hf
  match L, hl13, xs, hx13 with
  | [v0, v1, v2, v3, v4, v5], _, [y0, y1, y2, y3, y4, y5], _ =>
    have e0 : DataW.trod enc Try.prog w base spare held n 59 [v0] = some y0 := hF 0 _ rfl
    obtain ⟨n0, q0, r0, w0⟩ := DataW.trod_int Try.underlying59 e0
    simp only [List.cons.injEq, and_true] at q0
    subst q0
    clear e0
    have e1 : DataW.trod enc Try.prog w base spare held n 9 [v1] = some y1 := hF 1 _ rfl
    obtain ⟨n1, q1, r1, w1⟩ := DataW.trod_string Try.underlying9 e1
    simp only [List.cons.injEq, and_true] at q1
    subst q1
    clear e1
    have e2 : DataW.trod enc Try.prog w base spare held n 23 [v2] = some y2 := hF 2 _ rfl
    obtain ⟨n2, q2, r2, w2⟩ := DataW.trod_int Try.underlying23 e2
    simp only [List.cons.injEq, and_true] at q2
    subst q2
    clear e2
    have e3 : DataW.trod enc Try.prog w base spare held n 9 [v3] = some y3 := hF 3 _ rfl
    obtain ⟨n3, q3, r3, w3⟩ := DataW.trod_string Try.underlying9 e3
    simp only [List.cons.injEq, and_true] at q3
    subst q3
    clear e3
    have e4 : DataW.trod enc Try.prog w base spare held n 9 [v4] = some y4 := hF 4 _ rfl
    obtain ⟨n4, q4, r4, w4⟩ := DataW.trod_string Try.underlying9 e4
    simp only [List.cons.injEq, and_true] at q4
    subst q4
    clear e4
    have e5 : DataW.trod enc Try.prog w base spare held n 9 [v5] = some y5 := hF 5 _ rfl
    obtain ⟨n5, q5, r5, w5⟩ := DataW.trod_string Try.underlying9 e5
    simp only [List.cons.injEq, and_true] at q5
    subst q5
    clear e5
    exact ⟨⟨n0, n1, n2, n3, n4, n5⟩, rfl, trivial⟩


end Go.Proofs.Ytbjnejnjlidiaaa.argH
