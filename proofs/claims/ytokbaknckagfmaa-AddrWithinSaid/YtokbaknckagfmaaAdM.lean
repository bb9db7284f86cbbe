/- Addresses: arguments. -/
import Derived.SliceStrings
import Derived.SizedLaws
import Derived.Deep.SlicePairs
import Derived.Test.YtokbaknckagfmaaAdL
namespace Go.Proofs.Ytokbaknckagfmaa.adM
open Go.ChangeShapes Go.WideShapes Go.ChangeAt Go.RowKit Go.Deep kit args numA numB adA adL
set_option linter.unusedVariables false
set_option linter.unusedSimpArgs false

/-- A slice of whole numbers of one kind: its numbers zs, in cells of a block that was there. -/
def Row (k : IntKind) (w : World) (a : Option Addr) (len : Nat) (zs : List Int) : Prop :=
  len ≤ maxLen ∧ zs.length = len ∧ (∀ n ∈ zs, (Lit.int k n).wf = true) ∧
  (len = 0 ∨ ∃ b o, a = some ⟨b, o, none⟩ ∧ b < w.heap.size ∧ ∀ i, i < len → w.cell? ⟨b, o + i, none⟩ = some (.int k (zs.getD i 0)))

theorem ints_row {H : Type} {enc : TypeId × Value → H} {P : Program} {w : World} {base : Nat} {spare : Nat → Bool} {held : Bool} {t e : TypeId} {k : IntKind} {a : Option Addr} {len cap : Nat} {d : DataW H} {p : List MemPlace}
    (ht : P.underlying t = some (.slice e)) (he : P.underlying e = some (.int k)) (ce : P.cellsOf e = 1) (h : DataW.Trod enc P w base spare held t (.slice a len cap) d p) : ∃ zs, Row k w a len zs := by
  obtain ⟨fuel, hf⟩ := h
  rcases open_ints ht he ce hf with ⟨hcs, _⟩ | ⟨x, l, c, zs, hcs, _, hl, hm, hz, _, hcell, hwz⟩
  · simp [Value.cells] at hcs
    obtain ⟨rfl, rfl, rfl⟩ := hcs
    exact ⟨[], by decide, rfl, by simp, .inl rfl⟩
  · simp [Value.cells] at hcs
    obtain ⟨rfl, rfl, rfl⟩ := hcs
    have hzl : len ≤ zs.length := by rw [hz]; split <;> omega
    refine ⟨zs.take len, by omega, by rw [List.length_take]; omega, fun n hn => hwz n (List.mem_of_mem_take hn), ?_⟩
    rcases Nat.eq_zero_or_pos len with h0 | h0
    · exact .inl h0
    right
    obtain ⟨b, off, spot⟩ := x
    have hs : spot = none := by simpa [Addr.add] using World.cell?_spot (hcell 0 (by omega))
    subst hs
    refine ⟨b, off, rfl, by simpa [Addr.add] using World.block_lt_of_cell? w _ (hcell 0 (by omega)), fun i hi => ?_⟩
    have q := hcell i (by omega)
    rw [Addr.add_lit] at q
    rw [q]
    simp [hi]

/-- An argument that is a slice of bytes, with its capacity. -/
theorem bytes0 {H : Type} {enc : TypeId × Value → H} {P : Program} {w : World} {base : Nat} {spare : Nat → Bool} {held : Bool} {t e : TypeId} {a : Option Addr} {len cap : Nat} {d : DataW H} {p : List MemPlace}
    (ht : P.underlying t = some (.slice e)) (he : P.underlying e = some (.int .u8)) (ce : P.cellsOf e = 1) (h : DataW.Trod enc P w base spare held t (.slice a len cap) d p) : ∃ l : List UInt8, len = l.length ∧ len ≤ cap ∧ cap ≤ maxLen ∧ Sl w (fun k => k < w.heap.size) (.slice a len cap) (U8 l) := by
  obtain ⟨zs, hmx, hl, hw, hc⟩ := ints_row ht he ce h
  obtain ⟨fuel, hf⟩ := h
  have hcap : len ≤ cap ∧ cap ≤ maxLen := by
    rcases open_ints ht he ce hf with ⟨hcs, _⟩ | ⟨x, l, c, zs, hcs, _, hl, hm, hz, _, hcell, hwz⟩
    · simp [Value.cells] at hcs
      obtain ⟨rfl, rfl, rfl⟩ := hcs
      exact ⟨Nat.le_refl _, Nat.zero_le _⟩
    · simp [Value.cells] at hcs
      obtain ⟨rfl, rfl, rfl⟩ := hcs
      exact ⟨hl, hm⟩
  have hb : ∀ z ∈ zs, z = (((UInt8.ofNat z.toNat).toNat : Nat) : Int) := by
    intro z hz
    have := bounds_u8 (hw z hz)
    rw [UInt8.toNat_ofNat']
    omega
  have hlen : (U8 (zs.map fun z => UInt8.ofNat z.toNat)).length = len := by simp [U8, hl]
  refine ⟨zs.map fun z => UInt8.ofNat z.toNat, by simp [hl], hcap.1, hcap.2, by rw [hlen]; exact hmx, a, cap, by rw [hlen], ?_⟩
  rcases hc with h0 | ⟨b, o, ha, hb', hcell⟩
  · left
    exact List.eq_nil_of_length_eq_zero (by omega)
  · refine .inr ⟨b, o, ha, hb', hb', fun i hi => ?_⟩
    rw [hlen] at hi
    rw [hcell i hi]
    have hi' : i < zs.length := by omega
    have e1 := hb zs[i] (List.getElem_mem hi')
    have e2 : zs.getD i 0 = zs[i] := by simp [hi']
    rw [e2]
    simp only [U8, List.map_map]
    rw [List.getD_eq_getElem?_getD, List.getElem?_map, List.getElem?_eq_getElem hi']
    simp only [Option.map_some, Option.getD_some, Function.comp]
    rw [← e1]
theorem bytes_by {H : Type} {enc : TypeId × Value → H} {P : Program} {w : World} {base : Nat} {spare : Nat → Bool} {held : Bool} {t e : TypeId} {a : Option Addr} {len cap : Nat} {d : DataW H} {p : List MemPlace}
    (ht : P.underlying t = some (.slice e)) (he : P.underlying e = some (.int .u8)) (ce : P.cellsOf e = 1) (h : DataW.Trod enc P w base spare held t (.slice a len cap) d p) (_ : ∀ x ∈ p, x.block < w.heap.size) : ∃ l : List UInt8, len = l.length ∧ len ≤ cap ∧ cap ≤ maxLen ∧ Sl w (fun k => k < w.heap.size) (.slice a len cap) (U8 l) := bytes0 ht he ce h
/-- A prefix that came in. -/
structure PfxA where
  a : Option Addr
  c : Nat
  l : List UInt8
  b : Int
abbrev PfxA.row (z : PfxA) : Array Value := #[.slice z.a z.l.length z.c, .int .i64 z.b]
set_option maxRecDepth 100000 in
theorem pfx_by {H : Type} {enc : TypeId × Value → H} {w : World} {base : Nat} {spare : Nat → Bool} {held : Bool} {cs : Array Value} {d : DataW H} {p : List MemPlace} (h : DataW.Trod enc Try.prog w base spare held 24 (.agg cs) d p) (_ : ∀ x ∈ p, x.block < w.heap.size) : ∃ z : PfxA, cs = z.row ∧ Sl w (fun k => k < w.heap.size) (.slice z.a z.l.length z.c) (U8 z.l) := by
  obtain ⟨fuel, hf⟩ := h
  obtain ⟨y0, y1, n, _, hl, h0, h1⟩ := trod_struct2 Try.underlying24 hf
  have hl2 : (Value.agg cs).cells.toList.length = 2 := hl
  obtain ⟨L⟩ := cs
  match L, hl2 with
  | [v0, v1], _ =>
    have e0 : DataW.trod enc Try.prog w base spare held n 22 [v0] = some y0 := h0
    have e1 : DataW.trod enc Try.prog w base spare held n 3 [v1] = some y1 := h1
    obtain ⟨b, q1, _⟩ := DataW.trod_int Try.underlying3 e1
    simp only [List.cons.injEq, and_true] at q1
    subst q1
    obtain ⟨sa, sl, sc, rfl⟩ : ∃ sa sl sc, v0 = .slice sa sl sc := by
      rcases open_slice Try.underlying22 e0 with ⟨hcs, _⟩ | ⟨x, l, c, m, n, D, Pl, hcs, _⟩
      · simp at hcs
        exact ⟨none, 0, 0, hcs⟩
      · simp at hcs
        exact ⟨_, _, _, hcs⟩
    obtain ⟨l, hlen, -, -, hS⟩ := bytes0 (d := y0.1) (p := y0.2) Try.underlying22 Try.underlying5 (by kernel_rfl) ⟨n, e0⟩
    subst hlen
    exact ⟨⟨sa, sc, l, b⟩, rfl, hS⟩
theorem win_walk {w : World} (z : PfxA) (hz : Sl w (fun k => k < w.heap.size) (.slice z.a z.l.length z.c) (U8 z.l)) (y : PfxA) (hy : Sl w (fun k => k < w.heap.size) (.slice y.a y.l.length y.c) (U8 y.l)) (a : Option Addr) (len cap : Nat) (t : Txt) (h : len = t.length ∧ len ≤ cap ∧ cap ≤ maxLen ∧ Sl w (fun k => k < w.heap.size) (.slice a len cap) (U8 t)) : Calls Try.prog 4 #[.agg z.row, .agg y.row, .slice a len cap] w fun e w' => e = .returned (.bool true) ∧ Below w.heap.size w w' := by
  refine (win_any _ _ _ z.a y.a a z.l.length z.c y.l.length y.c len cap z.b y.b z.l y.l t w hz hy h.2.2.2 rfl rfl h.1).mono ?_
  rintro e w' ⟨rfl, o⟩
  exact ⟨rfl, o.below (fun _ h => h.elim) (Nat.le_refl _)⟩

end Go.Proofs.Ytokbaknckagfmaa.adM
