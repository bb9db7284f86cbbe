/- An argument that is a slice of texts, or of bytes. -/
import Derived.SliceStrings
import Derived.SizedLaws
import Derived.Test.YtbjnejnjlidiaaaPrS
namespace Go.Proofs.Ytbjnejnjlidiaaa.argS
open Go.ChangeShapes Go.WideShapes Go.ChangeAt Go.RowKit Go.Proofs.Ytbjnejnjlidiaaa.kit Go.Proofs.Ytbjnejnjlidiaaa.args Go.Proofs.Ytbjnejnjlidiaaa.numF Go.Proofs.Ytbjnejnjlidiaaa.tmA Go.Proofs.Ytbjnejnjlidiaaa.trA Go.Proofs.Ytbjnejnjlidiaaa.trB
set_option linter.unusedVariables false
set_option linter.unusedSimpArgs false

theorem weights_strs {H : Type} {P : Program} {e : TypeId} : ∀ l : List ByteArray, ∀ s ∈ l, s.data.toList.length ∈ DataW.weightsAll P e (strs (H := H) l)
  | [], s, h => by cases h
  | x :: l, s, h => by
    simp only [strs, List.map_cons, DataW.weightsAll, List.mem_append]
    rcases List.mem_cons.1 h with rfl | h
    · exact .inl (by simp [DataW.weights])
    · exact .inr (weights_strs l s h)

theorem strs_by {H : Type} {enc : TypeId × Value → H} {P : Program} {w : World} {base : Nat} {spare : Nat → Bool} {held : Bool} {t e : TypeId} {a : Option Addr} {len cap : Nat} {d : DataW H} {p : List MemPlace}
    {ts : List TypeId} {ds : List (DataW H)} {j : Nat} (ht : P.underlying t = some (.slice e)) (he : P.underlying e = some .string) (ce : P.cellsOf e = 1) (h : DataW.Trod enc P w base spare held t (.slice a len cap) d p) (hlt : ∀ x ∈ p, x.block < w.heap.size)
    (hsz : (DataW.weightsEach P ts ds).all (· ≤ reachBytes) = true) (hj : ts[j]? = some t) (hd : ds[j]? = some d) : ∃ ps : List Txt, Sl w (fun k => k < w.heap.size) (.slice a len cap) (ps.map sv) ∧ ∀ q ∈ ps, q.length ≤ 140737488351232 := by
  obtain ⟨fuel, hf⟩ := h
  rcases open_strings ht he ce hf with ⟨hcs, _⟩ | ⟨x, l, c, ss, hcs, _, hl, hm, hz, hx, hcell, hss⟩
  · simp [Value.cells] at hcs
    obtain ⟨rfl, rfl, rfl⟩ := hcs
    exact ⟨[], sl_nil _ _, fun q h => by cases h⟩
  · simp [Value.cells] at hcs
    obtain ⟨rfl, rfl, rfl⟩ := hcs
    have hzl : len ≤ ss.length := by rw [hz]; split <;> omega
    have hlen : (((ss.take len).map (·.data.toList)).map sv).length = len := by rw [List.length_map, List.length_map, List.length_take]; omega
    refine ⟨(ss.take len).map (·.data.toList), ?_, ?_⟩
    · refine ⟨by rw [hlen]; omega, some x, cap, by rw [hlen], ?_⟩
      rcases Nat.eq_zero_or_pos len with h0 | h0
      · left
        subst h0
        simp
      right
      obtain ⟨b, off, spot⟩ := x
      have hs : spot = none := by simpa [Addr.add] using World.cell?_spot (hcell 0 (by omega))
      subst hs
      have hb : b < w.heap.size := by simpa [Addr.add] using World.block_lt_of_cell? w _ (hcell 0 (by omega))
      refine ⟨b, off, rfl, hb, hb, fun i hi => ?_⟩
      rw [hlen] at hi
      have q := hcell i (by omega)
      rw [Addr.add_lit] at q
      rw [q]
      have hi2 : i < ss.length := by omega
      simp [sv, hi, hi2]
    · intro q hq
      obtain ⟨s, hs, rfl⟩ := List.mem_map.1 hq
      have hd2 : d = .slice (strs (ss.take len)) (strs (ss.drop len)) := (Prod.mk.inj hx).1
      subst hd2
      have := List.all_eq_true.1 hsz _ (DataW.weights_mem_each hj hd s.data.toList.length (by
        simp only [DataW.weights, ht, List.mem_cons, List.mem_append]
        exact .inr (.inl (weights_strs _ s hs))))
      exact of_decide_eq_true this

/-- An argument that is a slice of bytes. -/
theorem sl_bytes {H : Type} {enc : TypeId × Value → H} {P : Program} {w : World} {base : Nat} {spare : Nat → Bool} {held : Bool} {t e : TypeId} {a : Option Addr} {len cap : Nat} {d : DataW H} {p : List MemPlace}
    (ht : P.underlying t = some (.slice e)) (he : P.underlying e = some (.int .u8)) (ce : P.cellsOf e = 1) (h : DataW.Trod enc P w base spare held t (.slice a len cap) d p) (hlt : ∀ x ∈ p, x.block < w.heap.size) : ∃ l : List UInt8, Sl w (fun k => k < w.heap.size) (.slice a len cap) (U8 l) := by
  obtain ⟨zs, hmx, hl, hw, hc⟩ := ints_row ht he ce h hlt
  have hb : ∀ z ∈ zs, z = (((UInt8.ofNat z.toNat).toNat : Nat) : Int) := by
    intro z hz
    have := bounds_u8 (hw z hz)
    rw [UInt8.toNat_ofNat']
    omega
  have hlen : (U8 (zs.map fun z => UInt8.ofNat z.toNat)).length = len := by simp [U8, hl]
  refine ⟨zs.map fun z => UInt8.ofNat z.toNat, by rw [hlen]; exact hmx, a, cap, by rw [hlen], ?_⟩
  rcases hc with h0 | ⟨b, o, ha, hb', hcell⟩
  · left
    exact List.eq_nil_of_length_eq_zero (by omega)
  · refine .inr ⟨b, o, ha, hb', hb', fun i hi => ?_⟩
    rw [hlen] at hi
    rw [hcell i hi]
    have hi' : i < zs.length := by omega
    have e1 := hb zs[i] (List.getElem_mem hi')
    have e2 : zs.getD i 0 = zs[i] := by simp [hi']
    rw [e2]
    simp only [U8, List.map_map]
    rw [List.getD_eq_getElem?_getD, List.getElem?_map, List.getElem?_eq_getElem hi']
    simp only [Option.map_some, Option.getD_some, Function.comp]
    rw [← e1]
end Go.Proofs.Ytbjnejnjlidiaaa.argS
