/- An argument that is a slice of bytes. -/
import Derived.SliceStrings
import Derived.SizedLaws
import Derived.Test.YtbjnejnjlidiaaaPrS
namespace Go.Proofs.Ytbjnejnjlidiaaa.argB
open Go.ChangeShapes Go.WideShapes Go.ChangeAt Go.RowKit Go.Proofs.Ytbjnejnjlidiaaa.kit Go.Proofs.Ytbjnejnjlidiaaa.args Go.Proofs.Ytbjnejnjlidiaaa.numF Go.Proofs.Ytbjnejnjlidiaaa.tmA Go.Proofs.Ytbjnejnjlidiaaa.trA Go.Proofs.Ytbjnejnjlidiaaa.trB
set_option linter.unusedVariables false
set_option linter.unusedSimpArgs false

/-- A slice of whole numbers of one kind: its numbers zs, in cells of a block that was there. -/
def Row (k : IntKind) (w : World) (a : Option Addr) (len : Nat) (zs : List Int) : Prop :=
  len ≤ maxLen ∧ zs.length = len ∧ (∀ n ∈ zs, (Lit.int k n).wf = true) ∧
  (len = 0 ∨ ∃ b o, a = some ⟨b, o, none⟩ ∧ b < w.heap.size ∧ ∀ i, i < len → w.cell? ⟨b, o + i, none⟩ = some (.int k (zs.getD i 0)))

theorem ints_row {H : Type} {enc : TypeId × Value → H} {P : Program} {w : World} {base : Nat} {spare : Nat → Bool} {held : Bool} {t e : TypeId} {k : IntKind} {a : Option Addr} {len cap : Nat} {d : DataW H} {p : List MemPlace}
    (ht : P.underlying t = some (.slice e)) (he : P.underlying e = some (.int k)) (ce : P.cellsOf e = 1) (h : DataW.Trod enc P w base spare held t (.slice a len cap) d p) (hlt : ∀ x ∈ p, x.block < w.heap.size) : ∃ zs, Row k w a len zs := by
  obtain ⟨fuel, hf⟩ := h
  rcases open_ints ht he ce hf with ⟨hcs, _⟩ | ⟨x, l, c, zs, hcs, _, hl, hm, hz, _, hcell, hwz⟩
  · simp [Value.cells] at hcs
    obtain ⟨rfl, rfl, rfl⟩ := hcs
    exact ⟨[], by decide, rfl, by simp, .inl rfl⟩
  · simp [Value.cells] at hcs
    obtain ⟨rfl, rfl, rfl⟩ := hcs
    have hzl : len ≤ zs.length := by rw [hz]; split <;> omega
    refine ⟨zs.take len, by omega, by rw [List.length_take]; omega, fun n hn => hwz n (List.mem_of_mem_take hn), ?_⟩
    rcases Nat.eq_zero_or_pos len with h0 | h0
    · exact .inl h0
    right
    obtain ⟨b, off, spot⟩ := x
    have hs : spot = none := by simpa [Addr.add] using World.cell?_spot (hcell 0 (by omega))
    subst hs
    refine ⟨b, off, rfl, by simpa [Addr.add] using World.block_lt_of_cell? w _ (hcell 0 (by omega)), fun i hi => ?_⟩
    have q := hcell i (by omega)
    rw [Addr.add_lit] at q
    rw [q]
    simp [hi]

/-- An argument that is a slice of bytes, with its capacity. -/
theorem bytes_by {H : Type} {enc : TypeId × Value → H} {P : Program} {w : World} {base : Nat} {spare : Nat → Bool} {held : Bool} {t e : TypeId} {a : Option Addr} {len cap : Nat} {d : DataW H} {p : List MemPlace}
    (ht : P.underlying t = some (.slice e)) (he : P.underlying e = some (.int .u8)) (ce : P.cellsOf e = 1) (h : DataW.Trod enc P w base spare held t (.slice a len cap) d p) (hlt : ∀ x ∈ p, x.block < w.heap.size) : ∃ l : List UInt8, len = l.length ∧ len ≤ cap ∧ cap ≤ maxLen ∧ Sl w (fun k => k < w.heap.size) (.slice a len cap) (U8 l) := by
  obtain ⟨zs, hmx, hl, hw, hc⟩ := ints_row ht he ce h hlt
  obtain ⟨fuel, hf⟩ := h
  have hcap : len ≤ cap ∧ cap ≤ maxLen := by
    rcases open_ints ht he ce hf with ⟨hcs, _⟩ | ⟨x, l, c, zs, hcs, _, hl, hm, hz, _, hcell, hwz⟩
    · simp [Value.cells] at hcs
      obtain ⟨rfl, rfl, rfl⟩ := hcs
      exact ⟨Nat.le_refl _, Nat.zero_le _⟩
    · simp [Value.cells] at hcs
      obtain ⟨rfl, rfl, rfl⟩ := hcs
      exact ⟨hl, hm⟩
  have hb : ∀ z ∈ zs, z = (((UInt8.ofNat z.toNat).toNat : Nat) : Int) := by
    intro z hz
    have := bounds_u8 (hw z hz)
    rw [UInt8.toNat_ofNat']
    omega
  have hlen : (U8 (zs.map fun z => UInt8.ofNat z.toNat)).length = len := by simp [U8, hl]
  refine ⟨zs.map fun z => UInt8.ofNat z.toNat, by simp [hl], hcap.1, hcap.2, by rw [hlen]; exact hmx, a, cap, by rw [hlen], ?_⟩
  rcases hc with h0 | ⟨b, o, ha, hb', hcell⟩
  · left
    exact List.eq_nil_of_length_eq_zero (by omega)
  · refine .inr ⟨b, o, ha, hb', hb', fun i hi => ?_⟩
    rw [hlen] at hi
    rw [hcell i hi]
    have hi' : i < zs.length := by omega
    have e1 := hb zs[i] (List.getElem_mem hi')
    have e2 : zs.getD i 0 = zs[i] := by simp [hi']
    rw [e2]
    simp only [U8, List.map_map]
    rw [List.getD_eq_getElem?_getD, List.getElem?_map, List.getElem?_eq_getElem hi']
    simp only [Option.map_some, Option.getD_some, Function.comp]
    rw [← e1]

end Go.Proofs.Ytbjnejnjlidiaaa.argB
