/- What a walk of sky is told of a route that came in. -/
import Derived.Test.YtmkpdnjdengcfaaSkyN
import Derived.Test.YtmkpdnjdengcfaaSkyW
namespace Go.Proofs.Ytmkpdnjdengcfaa.skyY
open Go.ChangeShapes Go.WideShapes Go.ChangeAt Go.RowKit Go.Deep Go.Proofs.Ytmkpdnjdengcfaa.kit Go.Proofs.Ytmkpdnjdengcfaa.args Go.Proofs.Ytmkpdnjdengcfaa.skyA Go.Proofs.Ytmkpdnjdengcfaa.skyB Go.Proofs.Ytmkpdnjdengcfaa.skyE Go.Proofs.Ytmkpdnjdengcfaa.skyG Go.Proofs.Ytmkpdnjdengcfaa.skyN
set_option linter.unusedVariables false

section
variable {H : Type} {enc : TypeId × Value → H} {w : World} {base : Nat} {spare : Nat → Bool} {held : Bool}

theorem cap_of {fuel : Nat} {a : Option Addr} {len cap : Nat} {x : DataW H × List MemPlace} (h : DataW.trod enc Try.prog w base spare held fuel 24 [.slice a len cap] = some x) : len ≤ cap := by
  rcases open_slice Try.underlying24 h with ⟨hcs, _⟩ | ⟨x, l, c, m, n, D, Pl, hcs, hb, hl, hm, hmm, _, hx⟩
  · simp at hcs
    omega
  · simp at hcs
    omega

theorem route_arg {cs : Array Value} {d : DataW H} {p : List MemPlace} (h : DataW.Trod enc Try.prog w base spare held 26 (.agg cs) d p) (hlt : ∀ x ∈ p, x.block < w.heap.size) :
    ∃ z : (Int × Int) × (Option Addr × Nat) × List Leg3, cs = #[.int .i64 z.1.1, .int .i64 z.1.2, .slice z.2.1.1 z.2.2.length z.2.1.2] ∧ Lgs w z.2.1.1 z.2.2 ∧ z.2.2.length ≤ z.2.1.2 := by
  obtain ⟨fuel, hf⟩ := h
  obtain ⟨y0, y1, n, _, hl, h0, h1⟩ := trod_struct2 Try.underlying26 hf
  have hl2 : (Value.agg cs).cells.toList.length = 3 := hl
  obtain ⟨L⟩ := cs
  match L, hl2 with
  | [v0, v1, v2], _ =>
    have e0 : DataW.trod enc Try.prog w base spare held n 23 [v0, v1] = some y0 := h0
    have e1 : DataW.trod enc Try.prog w base spare held n 24 [v2] = some y1 := h1
    obtain ⟨a, b, q0⟩ := point_cells e0
    simp only [List.cons.injEq, and_true] at q0
    obtain ⟨q0, q2⟩ := q0
    subst q0 q2
    obtain ⟨sa, sl, sc, rfl⟩ : ∃ sa sl sc, v2 = .slice sa sl sc := by
      rcases open_slice Try.underlying24 e1 with ⟨hcs, _⟩ | ⟨x, l, c, m, n, D, Pl, hcs, _⟩
      · simp at hcs
        exact ⟨none, 0, 0, hcs⟩
      · simp at hcs
        exact ⟨_, _, _, hcs⟩
    obtain ⟨l, hlen, hL⟩ := legs_row e1
    have hcp := cap_of e1
    subst hlen
    exact ⟨((a, b), (sa, sc), l), rfl, hL, hcp⟩
end

theorem at_all {w : World} (z : (Int × Int) × (Option Addr × Nat) × List Leg3) (h : Lgs w z.2.1.1 z.2.2 ∧ z.2.2.length ≤ z.2.1.2) (t : Int) (ht : (Lit.int .i64 t).wf = true) (q : Int) (hq : (Lit.int .i64 q).wf = true) :
    Calls Try.prog 3 #[.agg #[.int .i64 z.1.1, .int .i64 z.1.2, .slice z.2.1.1 z.2.2.length z.2.1.2], .int .i64 t, .int .i64 q] w fun e W' => e = .returned (.bool true) ∧ Below w.heap.size w W' :=
  (skyW.at_walk z.1.1 z.1.2 z.2.1.1 z.2.1.2 z.2.2 t q w h.1 h.2 (by
    simp only [Lit.wf, IntKind.min, IntKind.max, IntKind.signed, IntKind.bits, Bool.and_eq_true, decide_eq_true_eq] at ht
    have := ht.2
    simp at this
    omega)).mono fun e W' k => ⟨k.1, k.2.below (fun _ h => h.elim) (Nat.le_refl _)⟩
end Go.Proofs.Ytmkpdnjdengcfaa.skyY
