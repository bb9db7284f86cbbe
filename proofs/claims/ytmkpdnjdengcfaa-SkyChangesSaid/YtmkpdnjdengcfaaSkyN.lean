/- What a walk of sky is told of its arguments: points, slices of points, routes. -/
import Derived.WalkKit
import Derived.ProofKit
import Derived.OpenShut
import Derived.Deep.SlicePairs
import Derived.Test.YtmkpdnjdengcfaaArgs
import Derived.Test.YtmkpdnjdengcfaaSkyM
namespace Go.Proofs.Ytmkpdnjdengcfaa.skyN
open Go.ChangeShapes Go.WideShapes Go.ChangeAt Go.RowKit Go.Deep Go.Proofs.Ytmkpdnjdengcfaa.kit Go.Proofs.Ytmkpdnjdengcfaa.args Go.Proofs.Ytmkpdnjdengcfaa.skyA Go.Proofs.Ytmkpdnjdengcfaa.skyB Go.Proofs.Ytmkpdnjdengcfaa.skyE Go.Proofs.Ytmkpdnjdengcfaa.skyG
set_option linter.unusedVariables false

section
variable {H : Type} {enc : TypeId × Value → H} {w : World} {base : Nat} {spare : Nat → Bool} {held : Bool}

theorem point_cells {fuel : Nat} {cs : List Value} {x : DataW H × List MemPlace} (h : DataW.trod enc Try.prog w base spare held fuel 23 cs = some x) : ∃ a b : Int, cs = [.int .i64 a, .int .i64 b] := by
  obtain ⟨y0, y1, n, _, hl, h0, h1⟩ := trod_struct2 Try.underlying23 h
  have hl2 : cs.length = 2 := hl
  match cs, hl2 with
  | [v0, v1], _ =>
    have e0 : DataW.trod enc Try.prog w base spare held n 3 [v0] = some y0 := h0
    have e1 : DataW.trod enc Try.prog w base spare held n 3 [v1] = some y1 := h1
    obtain ⟨a, q0, _, _⟩ := DataW.trod_int Try.underlying3 e0
    obtain ⟨b, q1, _, _⟩ := DataW.trod_int Try.underlying3 e1
    simp only [List.cons.injEq, and_true] at q0 q1
    subst q0 q1
    exact ⟨a, b, rfl⟩

theorem point_arg {cs : Array Value} {d : DataW H} {p : List MemPlace} (h : DataW.Trod enc Try.prog w base spare held 23 (.agg cs) d p) (hlt : ∀ x ∈ p, x.block < w.heap.size) : ∃ z : Int × Int, cs = #[.int .i64 z.1, .int .i64 z.2] ∧ True := by
  obtain ⟨fuel, hf⟩ := h
  obtain ⟨a, b, e⟩ := point_cells hf
  refine ⟨(a, b), ?_, trivial⟩
  cases cs
  simpa [Value.cells] using e

theorem points_arg {X : Option TypeDesc} {a : Option Addr} {len cap : Nat} {d : DataW H} {p : List MemPlace} (ht : Try.prog.underlying 44 = some (.slice 23)) (he : Try.prog.underlying 23 = X) (ce : Try.prog.cellsOf 23 = 2) (h : DataW.Trod enc Try.prog w base spare held 44 (.slice a len cap) d p) (hlt : ∀ x ∈ p, x.block < w.heap.size) :
    ∃ l : List (Int × Int), len = l.length ∧ Pts w a l := by
  obtain ⟨hm, hr⟩ := pairs_row ht Try.underlying23 ce rfl rfl (by kernel_rfl) (by kernel_rfl) Try.underlying3 Try.underlying3 h hlt
  rcases Nat.eq_zero_or_pos len with h0 | h0
  · exact ⟨[], h0, by decide, .inl rfl⟩
  · rcases hr with hr | ⟨b, o, rfl, hb, k, x, hc⟩
    · omega
    · refine ⟨(List.range len).map fun i => (k i, x i), by simp, by simpa using hm, .inr ⟨b, o, rfl, hb, fun i hi => ?_⟩⟩
      rw [List.length_map, List.length_range] at hi
      obtain ⟨c0, c1, _, _⟩ := hc i hi
      have e : ((List.range len).map fun i => (k i, x i)).getD i (0, 0) = (k i, x i) := by simp [hi]
      rw [e]
      exact ⟨c0, c1⟩

theorem leg_cells {fuel : Nat} {cs : List Value} {x : DataW H × List MemPlace} (h : DataW.trod enc Try.prog w base spare held fuel 61 cs = some x) : ∃ a b c : Int, cs = [.int .i64 a, .int .i64 b, .int .i64 c] := by
  obtain ⟨y0, y1, n, _, hl, h0, h1⟩ := trod_struct2 Try.underlying61 h
  have hl2 : cs.length = 3 := hl
  match cs, hl2 with
  | [v0, v1, v2], _ =>
    have e0 : DataW.trod enc Try.prog w base spare held n 23 [v0, v1] = some y0 := h0
    have e1 : DataW.trod enc Try.prog w base spare held n 3 [v2] = some y1 := h1
    obtain ⟨a, b, q0⟩ := point_cells e0
    obtain ⟨c, q1, _, _⟩ := DataW.trod_int Try.underlying3 e1
    simp only [List.cons.injEq, and_true] at q0 q1
    obtain ⟨q0, q2⟩ := q0
    subst q0 q1 q2
    exact ⟨a, b, c, rfl⟩

theorem legs_row {fuel : Nat} {a : Option Addr} {len cap : Nat} {x : DataW H × List MemPlace} (h : DataW.trod enc Try.prog w base spare held fuel 24 [.slice a len cap] = some x) : ∃ l : List Leg3, len = l.length ∧ Lgs w a l := by
  rcases open_slice Try.underlying24 h with ⟨hcs, _⟩ | ⟨x, l, c, m, n, D, Pl, hcs, hb, hl, hm, hmm, _, hx⟩
  · simp at hcs
    obtain ⟨rfl, rfl, rfl⟩ := hcs
    exact ⟨[], rfl, by decide, .inl rfl⟩
  · simp at hcs
    obtain ⟨rfl, rfl, rfl⟩ := hcs
    have hlm : len ≤ m := by rw [hmm]; split <;> omega
    have ce : Try.prog.cellsOf 61 = 3 := by kernel_rfl
    have each : ∀ i, i < len → ∃ q : Leg3, w.cell? (x.add (i * 3)) = some (.int .i64 q.x) ∧ w.cell? (x.add (i * 3 + 1)) = some (.int .i64 q.y) ∧ w.cell? (x.add (i * 3 + 2)) = some (.int .i64 q.s) := by
      intro i hi
      obtain ⟨cs', h1, h2⟩ := hx i (by omega)
      rw [ce] at h1
      obtain ⟨_, hlen, hcell⟩ := World.cells?_some h1
      obtain ⟨q0, q1, q2, rfl⟩ := leg_cells h2
      have e0 := hcell 0 (by omega)
      have e1 := hcell 1 (by omega)
      have e2 := hcell 2 (by omega)
      rw [add_add] at e0 e1 e2
      exact ⟨⟨q0, q1, q2⟩, by simpa using e0, by simpa using e1, by simpa using e2⟩
    obtain ⟨z, hz⟩ := choose_lt each
    rcases Nat.eq_zero_or_pos len with h0 | h0
    · exact ⟨[], h0, by decide, .inl rfl⟩
    obtain ⟨b, off, spot⟩ := x
    have hs : spot = none := by
      have q := (hz 0 h0).1
      simpa [Addr.add] using World.cell?_spot q
    subst hs
    refine ⟨(List.range len).map z, by simp, by simp; omega, .inr ⟨b, off, rfl, ?_, fun i hi => ?_⟩⟩
    · have q := (hz 0 h0).1
      rw [Addr.add_lit] at q
      exact World.block_lt_of_cell? w _ q
    · rw [List.length_map, List.length_range] at hi
      obtain ⟨g0, g1, g2⟩ := hz i hi
      rw [Addr.add_lit] at g0 g1 g2
      have e : ((List.range len).map z).getD i nol = z i := by simp [hi]
      rw [lx, ly, ls, e]
      exact ⟨g0, by rw [Nat.add_assoc]; exact g1, by rw [Nat.add_assoc]; exact g2⟩

theorem route_arg {cs : Array Value} {d : DataW H} {p : List MemPlace} (h : DataW.Trod enc Try.prog w base spare held 26 (.agg cs) d p) (hlt : ∀ x ∈ p, x.block < w.heap.size) :
    ∃ z : (Int × Int) × (Option Addr × Nat) × List Leg3, cs = #[.int .i64 z.1.1, .int .i64 z.1.2, .slice z.2.1.1 z.2.2.length z.2.1.2] ∧ Lgs w z.2.1.1 z.2.2 := by
  obtain ⟨fuel, hf⟩ := h
  obtain ⟨y0, y1, n, _, hl, h0, h1⟩ := trod_struct2 Try.underlying26 hf
  have hl2 : (Value.agg cs).cells.toList.length = 3 := hl
  obtain ⟨L⟩ := cs
  match L, hl2 with
  | [v0, v1, v2], _ =>
    have e0 : DataW.trod enc Try.prog w base spare held n 23 [v0, v1] = some y0 := h0
    have e1 : DataW.trod enc Try.prog w base spare held n 24 [v2] = some y1 := h1
    obtain ⟨a, b, q0⟩ := point_cells e0
    simp only [List.cons.injEq, and_true] at q0
    obtain ⟨q0, q2⟩ := q0
    subst q0 q2
    obtain ⟨sa, sl, sc, rfl⟩ : ∃ sa sl sc, v2 = .slice sa sl sc := by
      rcases open_slice Try.underlying24 e1 with ⟨hcs, _⟩ | ⟨x, l, c, m, n, D, Pl, hcs, _⟩
      · simp at hcs
        exact ⟨none, 0, 0, hcs⟩
      · simp at hcs
        exact ⟨_, _, _, hcs⟩
    obtain ⟨l, hlen, hL⟩ := legs_row e1
    subst hlen
    exact ⟨((a, b), (sa, sc), l), rfl, hL⟩
end

theorem near_all {w : World} (a : Option Addr) (len cap : Nat) (m : List (Int × Int)) (h : len = m.length ∧ Pts w a m) (p : Int × Int) (hp : True) (q : Int × Int) (hq : True) :
    Calls Try.prog 4 #[.slice a len cap, .agg #[.int .i64 p.1, .int .i64 p.2], .agg #[.int .i64 q.1, .int .i64 q.2]] w fun e W' => e = .returned (.bool true) ∧ Below w.heap.size w W' := by
  obtain ⟨rfl, h⟩ := h
  exact (skyM.near_walk a cap m p.1 p.2 q.1 q.2 w h).mono fun e W' k => ⟨k.1, k.2.below (fun _ h => h.elim) (Nat.le_refl _)⟩
end Go.Proofs.Ytmkpdnjdengcfaa.skyN
