/- Addresses: rows of one's own, Clone. -/
import Derived.Test.YtokbaknckagfmaaAdE
import Derived.Deep.AppendLies
import Derived.BigRegion
import Derived.Lib.BufferMore
import Derived.Lib.AppendZeros
import Derived.Lib.AppendStr
import Derived.Lib.Hide
namespace Go.Proofs.Ytokbaknckagfmaa.adF
open Go.RowKit kit numA numB numD adA adB adC adD adE
set_option linter.unusedVariables false
set_option linter.unusedSimpArgs false

theorem info5 : (Try.prog.info? 5).map (fun i => (i.zero, i.size, i.bytes)) = some (some (.int .u8 0), 1, 1) := by kernel_rfl
theorem info_parts {P : Program} {t : TypeId} {z : Value} {a b : Nat} (h : (P.info? t).map (fun i => (i.zero, i.size, i.bytes)) = some (some z, a, b)) : ∃ i, P.info? t = some i ∧ i.zero = some z ∧ i.size = a ∧ i.bytes = b := by
  cases e : P.info? t with
  | none => rw [e] at h; cases h
  | some i =>
    rw [e] at h
    simp only [Option.map_some, Option.some.injEq, Prod.mk.injEq] at h
    exact ⟨i, rfl, h⟩

theorem addb {w : World} {base g n cap : Nat} {xs : List Value} {S : Nat → Prop} {a : Option Addr} {m c : Nat} {bs : List UInt8} (hown : w.ownsRow base 5 1 (.slice (some ⟨g, 0, none⟩) n cap) n xs) (hsl : Sl w S (.slice a m c) (U8 bs)) (hb : base ≤ w.heap.size) (hn : n ≤ 100000000) (hm : bs.length ≤ 100000000) :
    ∃ g' cp w', (Builtin.append_ #[22, 22] 22 #[.slice (some ⟨g, 0, none⟩) n cap, .slice a m c]).run Try.prog w = .ok (.slice (some ⟨g', 0, none⟩) (n + m : Nat) cp) w' ∧ w'.ownsRow base 5 1 (.slice (some ⟨g', 0, none⟩) (n + m : Nat) cp) (n + m) (xs ++ U8 bs) ∧ (∀ (S' : Nat → Prop) (w0 : World), Only S' w0 w → (∀ q, (Value.slice (some ⟨g, 0, none⟩) n cap).ownBlock = some q → S' q) → Only S' w0 w') ∧ ∀ w0, Only (fun k => base ≤ k) w0 w → Only (fun k => base ≤ k) w0 w' := by
  obtain ⟨i0, hi0, hz0, hz1, hz2⟩ := info_parts info5
  obtain rfl : m = bs.length := by
    obtain ⟨_, a', c', h, _⟩ := hsl
    injection h with _ h _
    rw [h, U8, List.length_map]
  by_cases h0 : bs = []
  · subst h0
    have hr : (Builtin.append_ #[22, 22] 22 #[.slice (some ⟨g, 0, none⟩) n cap, .slice a 0 c]).run Try.prog w = .ok (.slice (some ⟨g, 0, none⟩) n cap) w := by
      rcases hown.2 with ⟨q, _⟩ | ⟨g', cap', cur, q, _, _, hnc, _⟩
      · cases q
      · injection q with q1 q2 q3
        subst q3
        cases a <;> simp [Builtin.append_, run_underlying Try.underlying22, sizeOf, typeInfo, hi0, Builtin.lenOf, Builtin.firstCells, hnc, storeCells, loadCells, loadCellsFrom, Result.andThen]
    exact ⟨g, cap, w, hr, by simpa [U8] using hown, fun _ _ o _ => o, fun w0 o => o⟩
  · have h1 : 0 < bs.length := List.length_pos_iff.2 h0
    obtain ⟨_, a', cap', h, hx | ⟨ga, o, ha, hS, hg, hc⟩⟩ := hsl
    · exact absurd (List.map_eq_nil_iff.1 hx) h0
    · injection h with e1 e2 e3
      subst e1
      subst ha
      obtain ⟨g', cp, w', hr, hown', hgr, _, _⟩ := run_append_lies (P := Try.prog) w 22 22 base 5 i0 _ 1 1 Try.underlying22 hi0 hz0 hz1 hz2 rfl (by omega) _ n xs hown ⟨ga, o, none⟩ bs.length c (U8 bs) (by simp [U8]) (fun j u hj => by
        have hjl : j < (U8 bs).length := (List.getElem?_eq_some_iff.1 hj).1
        rw [Addr.add_lit, hc j hjl]
        rw [List.getD_eq_getElem?_getD, hj]
        rfl) (fun u hu => by
          obtain ⟨p, _, rfl⟩ := List.mem_map.1 hu
          rfl) h1 (by unfold maxLen; omega) (by omega) hb _ rfl
      exact ⟨g', cp, w', hr, hown', fun S' w0 o0 hS' => o0.grown hgr fun q hq => hS' q hq.symm.symm, fun w0 o0 => o0.trans ((Only.refl _ _).grown hgr fun q hq => (hown.lt q hq.symm.symm).1)⟩

theorem Only.old {w w' : World} (h : Only (fun k => w.heap.size ≤ k) w w') : Only (fun _ => False) w w' := ⟨h.os, h.tape, h.output, h.size, fun k hk _ => h.block k hk (Nat.not_le.2 hk)⟩
/-- The bytes F 0, F 1, .. in a block of one's own. -/
def RowF (w : World) (g n : Nat) (F : Nat → Nat) : Prop := ∃ c, w.heap[g]? = some (.cells c 5 (0, 0)) ∧ n ≤ c.size ∧ ∀ j, j < n → c[j]? = some (.int .u8 ((F j : Nat) : Int))
theorem RowF.of_owns {w : World} {base g n cp : Nat} {l : Txt} (h : w.ownsRow base 5 1 (.slice (some ⟨g, 0, none⟩) n cp) n (U8 l)) (hl : n = l.length) (h0 : 0 < n) : RowF w g n (fun j => (l.getD j 0).toNat) := by
  rcases h.2 with ⟨e, -⟩ | ⟨g', cap, cur, hv, hb, hg, hn, hm, hc, hx⟩
  · cases e
  · injection hv with e1 e2 e3
    injection e1 with e1
    injection e1 with e1
    subst e1
    have L := Lst.of_owns h
    have hcell : ∀ j, j < n → cur[j]? = some (.int .u8 (((l.getD j 0).toNat : Nat) : Int)) := fun j hj => by
      have h1 := L.cell (i := j) (by rw [U8_len]; omega)
      rw [Nat.zero_add, cell_of hg, u8_get _ _ (by omega)] at h1
      exact h1
    refine ⟨cur, hg, ?_, hcell⟩
    have := hcell (n - 1) (by omega)
    have := (Array.getElem?_eq_some_iff.1 this).1
    omega
theorem RowF.keep {w w' : World} {g n : Nat} {F : Nat → Nat} {T : Nat → Prop} (h : RowF w g n F) (o : Only T w w') (hT : ¬ T g) : RowF w' g n F := by
  obtain ⟨c, h1, h2, h3⟩ := h
  exact ⟨c, Only.keep o h1 hT, h2, h3⟩
theorem RowF.congr {w : World} {g n : Nat} {F G : Nat → Nat} (h : RowF w g n F) (e : ∀ j, j < n → F j = G j) : RowF w g n G := by
  obtain ⟨c, h1, h2, h3⟩ := h
  exact ⟨c, h1, h2, fun j hj => by rw [h3 j hj, e j hj]⟩
theorem RowF.cell {w : World} {g n j : Nat} {F : Nat → Nat} (h : RowF w g n F) (hj : j < n) : w.cell? ⟨g, j, none⟩ = some (.int .u8 ((F j : Nat) : Int)) := by
  obtain ⟨c, h1, h2, h3⟩ := h
  rw [cell_of h1, h3 j hj]
theorem RowF.free {w : World} {g n : Nat} {F : Nat → Nat} (h : RowF w g n F) (j : Nat) : w.frozen? ⟨g, j, none⟩ = false := by
  obtain ⟨c, h1, h2, h3⟩ := h
  exact free_of h1
theorem RowF.set {w : World} {g n k v : Nat} {F : Nat → Nat} (h : RowF w g n F) (hk : k < n) : RowF (w.setCell ⟨g, k, none⟩ (.int .u8 ((v : Nat) : Int))) g n (fun j => if j = k then v else F j) := by
  obtain ⟨c, h1, h2, h3⟩ := h
  refine ⟨_, heap_set h1, by simpa using h2, fun j hj => ?_⟩
  by_cases hjk : j = k
  · subst hjk
    show _ = some (Value.int .u8 (((if j = j then v else F j : Nat)) : Int))
    rw [if_pos rfl, Array.getElem?_setIfInBounds_self_of_lt (by omega)]
  · show _ = some (Value.int .u8 (((if j = k then v else F j : Nat)) : Int))
    rw [if_neg hjk, Array.getElem?_setIfInBounds_ne (Ne.symm hjk)]
    exact h3 j hj
theorem RowF.lt {w : World} {g n : Nat} {F : Nat → Nat} (h : RowF w g n F) : g < w.heap.size := by
  obtain ⟨c, h1, -⟩ := h
  exact lt_of h1
def mk (l : Txt) (q j : Nat) : Nat := top (l.getD j 0).toNat (min (q - 8 * j) 8)
theorem msk_len : ∀ (l : Txt) (q : Nat), (msk l q).length = l.length
  | [], q => rfl
  | x :: l, q => by rw [msk, List.length_cons, msk_len l, List.length_cons]
theorem msk_get : ∀ (l : Txt) (q j : Nat), j < l.length → (msk l q).getD j 0 = UInt8.ofNat (mk l q j)
  | [], q, j, h => by simp at h
  | x :: l, q, 0, h => by simp [msk, mk]
  | x :: l, q, j + 1, h => by
    rw [msk, List.getD_cons_succ, msk_get l (q - 8) j (by simpa using h), mk, mk, List.getD_cons_succ, show q - 8 - 8 * j = q - 8 * (j + 1) from by omega]
theorem mk_lt (l : Txt) (q j : Nat) : mk l q j < 256 := Nat.lt_of_le_of_lt (top_le _ _) (UInt8.toNat_lt _)
theorem RowF.sl {w : World} {g n cp : Nat} {l : Txt} {q : Nat} (h : RowF w g n (mk l q)) (hn : n = l.length) (hm : n ≤ 100000) : Sl w (fun k => k = g) (.slice (some ⟨g, 0, none⟩) n cp) (U8 (msk l q)) := by
  have hl : (U8 (msk l q)).length = n := by rw [U8_len, msk_len, hn]
  refine ⟨by rw [hl]; unfold maxLen; omega, _, cp, by rw [hl], .inr ⟨g, 0, rfl, rfl, h.lt, fun i hi => ?_⟩⟩
  rw [hl] at hi
  rw [Nat.zero_add, h.cell hi, u8_get _ _ (by rw [msk_len]; omega), msk_get _ _ _ (by omega)]
  have := mk_lt l q i
  congr 2
  simp
  omega
set_option maxRecDepth 100000 in
theorem clone_any (S : Nat → Prop) (a : Option Addr) (n c : Nat) (l : Txt) (w : World) (hs : Sl w S (.slice a n c) (U8 l)) (hl : n = l.length) (h1 : 1 ≤ n) (hn : n ≤ 100) : Calls Try.prog 15 #[.slice a n c] w (fun e w' => ∃ g cp, e = .returned (.slice (some ⟨g, 0, none⟩) n cp) ∧ Only (fun _ => False) w w' ∧ w'.ownsRow w.heap.size 5 1 (.slice (some ⟨g, 0, none⟩) n cp) n (U8 l)) := by
  obtain ⟨g0, o0, rfl, -⟩ := sl_u8 hs (j := 0) (by omega)
  obtain ⟨X, hX⟩ : ∃ X, X = w.alloc (.cells #[] 5) := ⟨_, rfl⟩
  have oX : Only (fun _ => False) w X := by rw [hX]; exact (Only.refl _ w).alloc _
  have own0 : X.ownsRow w.heap.size 5 1 (.slice (some ⟨w.heap.size, 0, none⟩) 0 0) 0 [] := by
    rw [hX]
    exact ⟨by simp, .inr ⟨w.heap.size, 0, _, rfl, Nat.le_refl _, heap_alloc_new w _, Nat.le_refl _, by unfold maxLen; omega, by simp, by simp⟩⟩
  obtain ⟨g, cp, w', hap, own, on1, on2⟩ := addb own0 (hs.keep (T := fun _ => False) oX (fun _ _ h => h)) (by rw [hX, World.size_alloc]; omega) (by omega) (by omega)
  rw [Nat.zero_add] at hap own
  rw [List.nil_append] at own
  rw [hX] at hap
  have HAP := Lib.hid hap
  have HF := Lib.hid (show Only (fun k => w.heap.size ≤ k) w w' from on2 w (oX.mono fun _ h => h.elim))
  have OW := Lib.hid own
  have HX := Lib.hid hX
  have hnil : ∀ W, (binOp .eql 22 (.slice (some ⟨g0, o0, none⟩) n c) (.slice none 0 0)).run Try.prog W = .ok (.bool false) W := fun W => Lib.run_eql_slice_some_nil W _ _ _ Try.underlying22
  clear hap own on1 on2 own0 oX hX hs hl
  go_enter Try.func15, Try.ntmps15
  go_wp2_with (at_builtin; refine Lib.wpList_append_run _ rfl (.tmp 5) (.tmp 6) 22 22 rfl _ _ rfl rfl _ _ HAP.out ?_)
  go_ret
  exact ⟨g, cp, rfl, Only.old HF.out, OW.out⟩


end Go.Proofs.Ytokbaknckagfmaa.adF
