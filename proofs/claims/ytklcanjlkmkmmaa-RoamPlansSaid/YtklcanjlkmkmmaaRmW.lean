/- RoamPlans: what its walk is told of a journey that came in. -/
import Derived.WalkKit
import Derived.ProofKit
import Derived.OpenShut
import Derived.Deep.SlicePairs
import Derived.Test.YtklcanjlkmkmmaaArgs
import Derived.Test.YtklcanjlkmkmmaaRmT
import Derived.Test.YtklcanjlkmkmmaaRmU
import Derived.Test.YtklcanjlkmkmmaaRmV
namespace Go.Proofs.Ytklcanjlkmkmmaa.rmW
open Go.ChangeShapes Go.WideShapes Go.ChangeAt Go.RowKit Go.Deep Go.Proofs.Ytklcanjlkmkmmaa.kit Go.Proofs.Ytklcanjlkmkmmaa.args Go.Proofs.Ytklcanjlkmkmmaa.skyA Go.Proofs.Ytklcanjlkmkmmaa.skyB Go.Proofs.Ytklcanjlkmkmmaa.skyE Go.Proofs.Ytklcanjlkmkmmaa.skyG Go.Proofs.Ytklcanjlkmkmmaa.rmA Go.Proofs.Ytklcanjlkmkmmaa.rmP
set_option linter.unusedVariables false

section
variable {H : Type} {enc : TypeId × Value → H} {w : World} {base : Nat} {spare : Nat → Bool} {held : Bool}

theorem point_cells {fuel : Nat} {cs : List Value} {x : DataW H × List MemPlace} (h : DataW.trod enc Try.prog w base spare held fuel 50 cs = some x) : ∃ a b : Int, cs = [.int .i64 a, .int .i64 b] := by
  obtain ⟨y0, y1, n, _, hl, h0, h1⟩ := trod_struct2 Try.underlying50 h
  have hl2 : cs.length = 2 := hl
  match cs, hl2 with
  | [v0, v1], _ =>
    have e0 : DataW.trod enc Try.prog w base spare held n 3 [v0] = some y0 := h0
    have e1 : DataW.trod enc Try.prog w base spare held n 3 [v1] = some y1 := h1
    obtain ⟨a, q0, _, _⟩ := DataW.trod_int Try.underlying3 e0
    obtain ⟨b, q1, _, _⟩ := DataW.trod_int Try.underlying3 e1
    simp only [List.cons.injEq, and_true] at q0 q1
    subst q0 q1
    exact ⟨a, b, rfl⟩

theorem points_arg {a : Option Addr} {len cap : Nat} {d : DataW H} {p : List MemPlace} (h : DataW.Trod enc Try.prog w base spare held 22 (.slice a len cap) d p) (hlt : ∀ x ∈ p, x.block < w.heap.size) :
    ∃ l : List (Int × Int), len = l.length ∧ Pts w a l := by
  obtain ⟨hm, hr⟩ := pairs_row Try.underlying22 Try.underlying50 (by kernel_rfl) rfl rfl (by kernel_rfl) (by kernel_rfl) Try.underlying3 Try.underlying3 h hlt
  rcases Nat.eq_zero_or_pos len with h0 | h0
  · exact ⟨[], h0, by decide, .inl rfl⟩
  · rcases hr with hr | ⟨b, o, rfl, hb, k, x, hc⟩
    · omega
    · refine ⟨(List.range len).map fun i => (k i, x i), by simp, by simpa using hm, .inr ⟨b, o, rfl, hb, fun i hi => ?_⟩⟩
      rw [List.length_map, List.length_range] at hi
      obtain ⟨c0, c1, _, _⟩ := hc i hi
      have e : ((List.range len).map fun i => (k i, x i)).getD i (0, 0) = (k i, x i) := by simp [hi]
      rw [e]
      exact ⟨c0, c1⟩

theorem leg_cells {fuel : Nat} {cs : List Value} {x : DataW H × List MemPlace} (h : DataW.trod enc Try.prog w base spare held fuel 59 cs = some x) : ∃ a b c : Int, cs = [.int .i64 a, .int .i64 b, .int .i64 c] := by
  obtain ⟨y0, y1, n, _, hl, h0, h1⟩ := trod_struct2 Try.underlying59 h
  have hl2 : cs.length = 3 := hl
  match cs, hl2 with
  | [v0, v1, v2], _ =>
    have e0 : DataW.trod enc Try.prog w base spare held n 50 [v0, v1] = some y0 := h0
    have e1 : DataW.trod enc Try.prog w base spare held n 3 [v2] = some y1 := h1
    obtain ⟨a, b, q0⟩ := point_cells e0
    obtain ⟨c, q1, _, _⟩ := DataW.trod_int Try.underlying3 e1
    simp only [List.cons.injEq, and_true] at q0 q1
    obtain ⟨q0, q2⟩ := q0
    subst q0 q1 q2
    exact ⟨a, b, c, rfl⟩

theorem legs_row {fuel : Nat} {a : Option Addr} {len cap : Nat} {x : DataW H × List MemPlace} (h : DataW.trod enc Try.prog w base spare held fuel 51 [.slice a len cap] = some x) : ∃ l : List Leg3, len = l.length ∧ Lgs w a l ∧ len ≤ cap := by
  rcases open_slice Try.underlying51 h with ⟨hcs, _⟩ | ⟨x, l, c, m, n, D, Pl, hcs, hb, hl, hm, hmm, _, hx⟩
  · simp at hcs
    obtain ⟨rfl, rfl, rfl⟩ := hcs
    exact ⟨[], rfl, ⟨by decide, .inl rfl⟩, Nat.le_refl _⟩
  · simp at hcs
    obtain ⟨rfl, rfl, rfl⟩ := hcs
    have hlm : len ≤ m := by rw [hmm]; split <;> omega
    have ce : Try.prog.cellsOf 59 = 3 := by kernel_rfl
    have each : ∀ i, i < len → ∃ q : Leg3, w.cell? (x.add (i * 3)) = some (.int .i64 q.x) ∧ w.cell? (x.add (i * 3 + 1)) = some (.int .i64 q.y) ∧ w.cell? (x.add (i * 3 + 2)) = some (.int .i64 q.s) := by
      intro i hi
      obtain ⟨cs', h1, h2⟩ := hx i (by omega)
      rw [ce] at h1
      obtain ⟨_, hlen, hcell⟩ := World.cells?_some h1
      obtain ⟨q0, q1, q2, rfl⟩ := leg_cells h2
      have e0 := hcell 0 (by omega)
      have e1 := hcell 1 (by omega)
      have e2 := hcell 2 (by omega)
      rw [add_add] at e0 e1 e2
      exact ⟨⟨q0, q1, q2⟩, by simpa using e0, by simpa using e1, by simpa using e2⟩
    obtain ⟨z, hz⟩ := choose_lt each
    rcases Nat.eq_zero_or_pos len with h0 | h0
    · exact ⟨[], h0, ⟨by decide, .inl rfl⟩, by omega⟩
    obtain ⟨b, off, spot⟩ := x
    have hs : spot = none := by
      have q := (hz 0 h0).1
      simpa [Addr.add] using World.cell?_spot q
    subst hs
    refine ⟨(List.range len).map z, by simp, ⟨by simp; omega, .inr ⟨b, off, rfl, ?_, fun i hi => ?_⟩⟩, by omega⟩
    · have q := (hz 0 h0).1
      rw [Addr.add_lit] at q
      exact World.block_lt_of_cell? w _ q
    · rw [List.length_map, List.length_range] at hi
      obtain ⟨g0, g1, g2⟩ := hz i hi
      rw [Addr.add_lit] at g0 g1 g2
      have e : ((List.range len).map z).getD i nol = z i := by simp [hi]
      rw [lx, ly, ls, e]
      exact ⟨g0, by rw [Nat.add_assoc]; exact g1, by rw [Nat.add_assoc]; exact g2⟩

theorem route_cells {fuel : Nat} {cs : List Value} {x : DataW H × List MemPlace} (h : DataW.trod enc Try.prog w base spare held fuel 53 cs = some x) :
    ∃ r : Rt, cs = rt3 r ∧ Lgs w r.a r.l ∧ r.l.length ≤ r.cap := by
  obtain ⟨y0, y1, n, _, hl, h0, h1⟩ := trod_struct2 Try.underlying53 h
  have hl2 : cs.length = 3 := hl
  match cs, hl2 with
  | [v0, v1, v2], _ =>
    have e0 : DataW.trod enc Try.prog w base spare held n 50 [v0, v1] = some y0 := h0
    have e1 : DataW.trod enc Try.prog w base spare held n 51 [v2] = some y1 := h1
    obtain ⟨a, b, q0⟩ := point_cells e0
    simp only [List.cons.injEq, and_true] at q0
    obtain ⟨q0, q2⟩ := q0
    subst q0 q2
    obtain ⟨sa, sl, sc, rfl⟩ : ∃ sa sl sc, v2 = .slice sa sl sc := by
      rcases open_slice Try.underlying51 e1 with ⟨hcs, _⟩ | ⟨x, l, c, m, n, D, Pl, hcs, _⟩
      · simp at hcs
        exact ⟨none, 0, 0, hcs⟩
      · simp at hcs
        exact ⟨_, _, _, hcs⟩
    obtain ⟨l, hlen, hL, hcp⟩ := legs_row e1
    subst hlen
    exact ⟨⟨a, b, sa, sc, l⟩, rfl, hL, hcp⟩

theorem routes_row {fuel : Nat} {a : Option Addr} {len cap : Nat} {x : DataW H × List MemPlace} (h : DataW.trod enc Try.prog w base spare held fuel 23 [.slice a len cap] = some x) :
    ∃ rs : List Rt, len = rs.length ∧ Rts w a rs ∧ ∀ k, k < rs.length → (rr rs k).l.length ≤ (rr rs k).cap := by
  rcases open_slice Try.underlying23 h with ⟨hcs, _⟩ | ⟨x, l, c, m, n, D, Pl, hcs, hb, hl, hm, hmm, _, hx⟩
  · simp at hcs
    obtain ⟨rfl, rfl, rfl⟩ := hcs
    exact ⟨[], rfl, ⟨by decide, .inl rfl⟩, fun k hk => absurd hk (Nat.not_lt_zero k)⟩
  · simp at hcs
    obtain ⟨rfl, rfl, rfl⟩ := hcs
    have hlm : len ≤ m := by rw [hmm]; split <;> omega
    have ce : Try.prog.cellsOf 53 = 3 := by kernel_rfl
    have each : ∀ i, i < len → ∃ r : Rt, w.cell? (x.add (i * 3)) = some (.int .i64 r.x) ∧ w.cell? (x.add (i * 3 + 1)) = some (.int .i64 r.y) ∧ w.cell? (x.add (i * 3 + 2)) = some (.slice r.a r.l.length r.cap) ∧ Lgs w r.a r.l ∧ r.l.length ≤ r.cap := by
      intro i hi
      obtain ⟨cs', h1, h2⟩ := hx i (by omega)
      rw [ce] at h1
      obtain ⟨_, hlen, hcell⟩ := World.cells?_some h1
      obtain ⟨r, rfl, hL, hcp⟩ := route_cells h2
      have e0 := hcell 0 (by omega)
      have e1 := hcell 1 (by omega)
      have e2 := hcell 2 (by omega)
      rw [add_add] at e0 e1 e2
      exact ⟨r, by simpa [rt3] using e0, by simpa [rt3] using e1, by simpa [rt3] using e2, hL, hcp⟩
    obtain ⟨z, hz⟩ := choose_lt each
    rcases Nat.eq_zero_or_pos len with h0 | h0
    · exact ⟨[], h0, ⟨by decide, .inl rfl⟩, fun k hk => absurd hk (Nat.not_lt_zero k)⟩
    obtain ⟨b, off, spot⟩ := x
    have hs : spot = none := by
      have q := (hz 0 h0).1
      simpa [Addr.add] using World.cell?_spot q
    subst hs
    have er : ∀ i, i < len → rr ((List.range len).map z) i = z i := fun i hi => by simp [rr, hi]
    refine ⟨(List.range len).map z, by simp, ⟨by simp; omega, .inr ⟨b, off, rfl, ?_, fun i hi => ?_⟩⟩, fun i hi => ?_⟩
    · have q := (hz 0 h0).1
      rw [Addr.add_lit] at q
      exact World.block_lt_of_cell? w _ q
    · rw [List.length_map, List.length_range] at hi
      obtain ⟨g0, g1, g2, g3, g4⟩ := hz i hi
      rw [Addr.add_lit] at g0 g1 g2
      rw [er i hi]
      exact ⟨g0, by rw [Nat.add_assoc]; exact g1, by rw [Nat.add_assoc]; exact g2, g3⟩
    · rw [List.length_map, List.length_range] at hi
      rw [er i hi]
      exact (hz i hi).2.2.2.2

theorem journey_arg {cs : Array Value} {d : DataW H} {p : List MemPlace} (h : DataW.Trod enc Try.prog w base spare held 25 (.agg cs) d p) (hlt : ∀ x ∈ p, x.block < w.heap.size) :
    ∃ z : (Option Addr × Nat × List (Int × Int)) × (Option Addr × Nat × List Rt), cs = #[.slice z.1.1 z.1.2.2.length z.1.2.1, .slice z.2.1 z.2.2.2.length z.2.2.1] ∧ Pts w z.1.1 z.1.2.2 ∧ Rts w z.2.1 z.2.2.2 ∧ ∀ k, k < z.2.2.2.length → (rr z.2.2.2 k).l.length ≤ (rr z.2.2.2 k).cap := by
  obtain ⟨fuel, hf⟩ := h
  obtain ⟨y0, y1, n, hxy, hl, h0, h1⟩ := trod_struct2 Try.underlying25 hf
  have hl2 : (Value.agg cs).cells.toList.length = 2 := hl
  obtain ⟨L⟩ := cs
  match L, hl2 with
  | [v0, v1], _ =>
    have e0 : DataW.trod enc Try.prog w base spare held n 22 [v0] = some y0 := h0
    have e1 : DataW.trod enc Try.prog w base spare held n 23 [v1] = some y1 := h1
    obtain ⟨sa, sl, sc, rfl⟩ : ∃ sa sl sc, v0 = .slice sa sl sc := by
      rcases open_slice Try.underlying22 e0 with ⟨hcs, _⟩ | ⟨x, l, c, m, n, D, Pl, hcs, _⟩
      · simp at hcs
        exact ⟨none, 0, 0, hcs⟩
      · simp at hcs
        exact ⟨_, _, _, hcs⟩
    obtain ⟨ra, rl, rc, rfl⟩ : ∃ sa sl sc, v1 = .slice sa sl sc := by
      rcases open_slice Try.underlying23 e1 with ⟨hcs, _⟩ | ⟨x, l, c, m, n, D, Pl, hcs, _⟩
      · simp at hcs
        exact ⟨none, 0, 0, hcs⟩
      · simp at hcs
        exact ⟨_, _, _, hcs⟩
    obtain ⟨m, hml, hm⟩ := points_arg (d := y0.1) (p := y0.2) ⟨n, e0⟩ (DataW.trod_lt n _ _ _ e0)
    obtain ⟨rs, hrl, hr, hcp⟩ := routes_row e1
    subst hml hrl
    exact ⟨((sa, sc, m), (ra, rc, rs)), rfl, hm, hr, hcp⟩
end

theorem plans_all {w : World} (z : (Option Addr × Nat × List (Int × Int)) × (Option Addr × Nat × List Rt)) (h : Pts w z.1.1 z.1.2.2 ∧ Rts w z.2.1 z.2.2.2 ∧ ∀ k, k < z.2.2.2.length → (rr z.2.2.2 k).l.length ≤ (rr z.2.2.2 k).cap) (U : Int) (hU : (Lit.int .i64 U).wf = true) (q : Int) (hq : (Lit.int .i64 q).wf = true) (t : Int) (ht : (Lit.int .i64 t).wf = true) :
    Calls Try.prog 3 #[.agg #[.slice z.1.1 z.1.2.2.length z.1.2.1, .slice z.2.1 z.2.2.2.length z.2.2.1], .int .i64 U, .int .i64 q, .int .i64 t] w fun e W' => e = .returned (.bool true) ∧ Below w.heap.size w W' := by
  obtain ⟨⟨ma, mcap, m⟩, ra, rcap, rs⟩ := z
  obtain ⟨hm, hr, hcp⟩ := h
  have ht' : t ≤ 9223372036854775807 := by
    simp only [Lit.wf, IntKind.min, IntKind.max, IntKind.signed, IntKind.bits, Bool.and_eq_true, decide_eq_true_eq] at ht
    have := ht.2
    simp at this
    omega
  have key : Calls Try.prog 3 #[jn ma m.length mcap ra rs.length rcap, .int .i64 U, .int .i64 q, .int .i64 t] w (rmS.Done w) := by
    by_cases hU2 : U ≤ 60 ∨ 1000 < U
    · cases hj : jOk m rs
      · exact rmS.plans_form ma mcap m ra rcap rs U q t w hm hr hcp hU2 ht' hj
      · have hn : ∀ (n : Nat), q = n → n < rs.length → (U < 0 ∨ 1000 < U ∨ 0 ≤ U ∧ U ≤ 1000) → Calls Try.prog 3 #[jn ma m.length mcap ra rs.length rcap, .int .i64 U, .int .i64 q, .int .i64 t] w (rmS.Done w) := by
          intro n hn hlt hU3
          by_cases h0 : t < 0
          · rcases hU3 with hU3 | hU3 | ⟨hU3, hU4⟩
            · exact rmS.plans_arg_arg ma mcap m ra rcap rs U q t w hm hr hcp hU2 ht' hj n hn hlt h0 (.inl hU3)
            · exact rmS.plans_arg_arg ma mcap m ra rcap rs U q t w hm hr hcp hU2 ht' hj n hn hlt h0 (.inr hU3)
            · exact rmS.plans_arg_good ma mcap m ra rcap rs U q t w hm hr hcp hU2 ht' hj n hn hlt h0 U.toNat (by omega) (by omega)
          · rcases hU3 with hU3 | hU3 | ⟨hU3, hU4⟩
            · exact rmS.plans_good_arg ma mcap m ra rcap rs U q t w hm hr hcp hU2 ht' hj n hn hlt (by omega) (.inl hU3)
            · exact rmS.plans_good_arg ma mcap m ra rcap rs U q t w hm hr hcp hU2 ht' hj n hn hlt (by omega) (.inr hU3)
            · exact rmS.plans_good_good ma mcap m ra rcap rs U q t w hm hr hcp hU2 ht' hj n hn hlt (by omega) U.toNat (by omega) (by omega)
        by_cases hh : q < 0 ∨ (rs.length : Int) ≤ q
        · by_cases hu : U < 0 ∨ 1000 < U
          · exact rmS.plans_none_arg ma mcap m ra rcap rs U q t w hm hr hcp hU2 ht' hj hh hu
          · exact rmS.plans_none_good ma mcap m ra rcap rs U q t w hm hr hcp hU2 ht' hj hh U.toNat (by omega) (by omega)
        · exact hn q.toNat (by omega) (by omega) (by omega)
    · exact rmS.plans_mid ma mcap m ra rcap rs U q t w hm hr hcp (by omega) ht'
  exact key.mono fun e W' k => ⟨k.1, k.2.below (fun _ h => h.elim) (Nat.le_refl _)⟩
end Go.Proofs.Ytklcanjlkmkmmaa.rmW
