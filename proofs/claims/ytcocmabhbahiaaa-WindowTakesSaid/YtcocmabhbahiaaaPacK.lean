/- Appending bytes to a row that the call owns; packet.Pad; the document's Make; packet.Make, whole. -/
import Derived.Test.YtcocmabhbahiaaaPacI
import Derived.Lib.AppendZerosOnto
import Derived.Laws.OwnMore
namespace Go.Proofs.Ytcocmabhbahiaaa.pacK
open Go.RowKit Go.Lib Go.Proofs.Ytcocmabhbahiaaa.kit Go.Proofs.Ytcocmabhbahiaaa.numA Go.Proofs.Ytcocmabhbahiaaa.numF Go.Proofs.Ytcocmabhbahiaaa.numG Go.Proofs.Ytcocmabhbahiaaa.pacA Go.Proofs.Ytcocmabhbahiaaa.pacD Go.Proofs.Ytcocmabhbahiaaa.pacG
set_option linter.unusedVariables false
set_option linter.unusedSimpArgs false

/-- A row that the call made: value v, bytes l, in a block from base on. -/
def Own (w : World) (base : Nat) (v : Value) (l : List UInt8) : Prop := w.ownsRow base 5 1 v l.length (U8 l)

theorem Own.by_ {w : World} {base : Nat} {v : Value} {l : List UInt8} (h : Own w base v l) : By w v l := By.of_owns h

theorem Own.lt {w : World} {base : Nat} {v : Value} {l : List UInt8} (h : Own w base v l) : ∀ k, v.ownBlock = some k → base ≤ k := fun k hk => (World.ownsRow.lt h k hk).1

def ClonedO (w : World) (l : List UInt8) (e : Ending) (w' : World) : Prop := ∃ v, e = .returned v ∧ Own w' w.heap.size v l ∧ Only (fun _ => False) w w'

set_option maxRecDepth 100000 in
theorem clone_own (v : Value) (l : List UInt8) (w : World) (h : By w v l) (hl : l.length ≤ 100000000) : Calls Try.prog 74 #[v] w (ClonedO w l) := by
  obtain ⟨i0, hi0, hz0, hz1, hz2⟩ := info_parts info5
  have h' := h
  obtain ⟨a, cap, rfl, hc, hm, h⟩ := h
  have hr := fun (W : World) => Lib.run_eql_slice_nil (P := Try.prog) W 27 5 a l.length cap 0 0 Try.underlying27
  cases a with
  | none =>
    have : l = [] := by
      rcases h with h | ⟨g, o, ha, _⟩
      · exact h
      · cases ha
    subst this
    clear h h' hc
    simp only [List.length_nil, Option.isNone_none] at hr
    go_enter Try.func74, Try.ntmps74
    go_wp2
    go_ret
    exact ⟨_, rfl, World.ownsRow_nil _ _ _ _, Only.refl _ _⟩
  | some x =>
    have O0 : Only (fun _ => False) w (w.alloc (.cells #[] 5)) := (Only.refl _ w).alloc _
    have HN := Lib.hid (h'.news O0)
    have hown0 := World.ownsRow_made (e := 5) (size := 1) w #[] 0 (Nat.le_refl _) (by decide) rfl
    have HO := Lib.hid O0
    unfold maxLen at hm
    clear h h' O0
    go_enter Try.func74, Try.ntmps74
    go_wp2_with (at_builtin; refine wpList_append_own _ rfl (.tmp 5) (.tmp 6) 27 rfl w.heap.size 5 i0 (.int .u8 0) 1 1 Try.underlying27 hi0 hz0 hz1 hz2 rfl (by decide) _ _ _ rfl hown0 x l.length cap (U8 l) rfl (by simp [U8]) HN.out (one_U8 l) (by unfold maxLen; omega) (by omega) (by simp) ?_; intro v1 w1 hown1 hgrow1 _; simp only [Nat.zero_add, List.nil_append] at hown1)
    exact bodyPost_ret (v := v1) (by simp [results, Try.results74, go_sem]) rfl ⟨v1, rfl, hown1, Only.grownNew HO.out hgrow1 fun j hj => (hown0.lt j hj).1⟩

theorem append_by (w : World) (base : Nat) (hb : base ≤ w.heap.size) (v : Value) (l : List UInt8) (hown : Own w base v l) (x : Value) (l2 : List UInt8) (h : By w x l2) (hl : l.length + l2.length ≤ 100000000) :
    ∃ v' w', (Builtin.append_ #[27, 27] 27 #[v, x]).run Try.prog w = .ok v' w' ∧ Own w' base v' (l ++ l2) ∧ (∀ a : World, a.heap.size ≤ base → Only (fun _ => False) a w → Only (fun _ => False) a w') := by
  obtain ⟨i0, hi0, hz0, hz1, hz2⟩ := info_parts info5
  obtain ⟨a, cap, rfl, hc, hm, hx⟩ := id h
  cases a with
  | none =>
    have : l2 = [] := by
      rcases hx with hx | ⟨g, o, ha, _⟩
      · exact hx
      · cases ha
    subst this
    refine ⟨v, w, ?_, by rw [List.append_nil]; exact hown, fun a _ o => o⟩
    obtain ⟨a', c', rfl, hc', -⟩ := hown.by_
    have hst : ∀ y : Addr, (storeCells y [] 0).run Try.prog w = .ok () w := fun y => by simp [storeCells]
    cases a' <;> simp [Builtin.append_, run_underlying Try.underlying27, sizeOf, typeInfo, hi0, Builtin.lenOf, Builtin.firstCells, hc', hst]
  | some x =>
    obtain ⟨v', w', hr, hown', hgrow, -⟩ := run_append_own (P := Try.prog) w base 27 27 5 i0 (.int .u8 0) 1 1 Try.underlying27 hi0 hz0 hz1 hz2 rfl (by decide) v l.length (U8 l) hown x l2.length cap (U8 l2) (by rw [U8_len]; omega) (h.news (Only.refl _ w)) (one_U8 l2) (by unfold maxLen; omega) (by omega) hb
    refine ⟨v', w', hr, ?_, fun a ha o => Only.grownNew o hgrow fun j hj => by have := hown.lt j hj; omega⟩
    have e : U8 (l ++ l2) = U8 l ++ U8 l2 := by simp [U8]
    unfold Own
    rw [e, List.length_append]
    exact hown'

theorem zeroCells_u8 (k : Nat) : Builtin.zeroCells #[Value.int .u8 0] k = (List.replicate k (Value.int .u8 0)).toArray := by
  apply Array.ext
  · simp [Builtin.zeroCells]
  · intro i h1 h2
    simp [Builtin.zeroCells, Nat.mod_one]

theorem U8_zeros (k : Nat) : U8 (List.replicate k 0) = List.replicate k (Value.int .u8 0) := by simp [U8]

theorem zeros_own (w : World) (base : Nat) (hb : base ≤ w.heap.size) (v : Value) (l : List UInt8) (hown : Own w base v l) (k : Nat) (hk : l = [] → k = 0) (hl : l.length + k ≤ 100000000) :
    ∃ v' w', (Builtin.append_ #[27, 3] 27 #[v, .int .i64 (k : Int)]).run Try.prog w = .ok v' w' ∧ Own w' base v' (l ++ List.replicate k 0) ∧ (∀ a : World, a.heap.size ≤ base → Only (fun _ => False) a w → Only (fun _ => False) a w') := by
  obtain ⟨i0, hi0, hz0, hz1, hz2⟩ := info_parts info5
  have hw : IntKind.i64.wrap (k : Int) = k := by rw [IntKind.wrap_i64]; omega
  have h48i : ¬ (281474976710656 < (k : Int) * (i0.bytes : Int)) := by rw [hz2]; omega
  have hneg : ¬ ((k : Int) < 0) := by omega
  have h48k : ¬ (281474976710656 < (k : Int)) := by omega
  have e : U8 (l ++ List.replicate k 0) = U8 l ++ List.replicate k (Value.int .u8 0) := by simp [U8]
  by_cases h0 : k = 0
  · subst h0
    refine ⟨v, w, ?_, by simpa using hown, fun a _ o => o⟩
    obtain ⟨a', c', rfl, hc', -⟩ := hown.by_
    have hst : ∀ y : Addr, (storeCells y [] 0).run Try.prog w = .ok () w := fun y => by simp [storeCells]
    have hw0 : IntKind.i64.wrap 0 = 0 := by rw [IntKind.wrap_i64]; rfl
    cases a' <;> simp [Builtin.append_, run_underlying Try.underlying27, run_underlying Try.underlying3, sizeOf, typeInfo, hi0, hz1, hz2, asInt, asIntOf, hw0, hc', hst]
  · rcases hown.2 with ⟨rfl, hn⟩ | ⟨g, cap, cur, rfl, hbg, hg, hnc, hcm, hcs, htake⟩
    · exact absurd (hk (List.eq_nil_of_length_eq_zero hn)) h0
    · rw [Nat.mul_one] at htake hcs
      have hv : (l ++ List.replicate k (0 : UInt8)).length = l.length + k := by simp
      have hcl : cur.toList.length = cap := by simpa using hcs
      have hU : (U8 l).length = l.length := U8_len l
      unfold Own
      rw [hv, e]
      by_cases hroom : l.length + k ≤ cap
      · have hst := run_storeCells_at Try.prog g l.length 5 (List.replicate k (Value.int .u8 0)) 0 cur w hg (by rw [List.length_replicate]; omega) (by intro u hu; rw [List.eq_of_mem_replicate hu]; rfl)
        simp only [Nat.add_zero, List.length_replicate] at hst
        refine ⟨_, _, ?_, ⟨by simp [U8_len], .inr ⟨g, cap, _, rfl, hbg, setRow_heap w g cur (cur.toList.take l.length ++ List.replicate k (Value.int .u8 0) ++ cur.toList.drop (l.length + k)).toArray 5 _ hg, hroom, hcm, ?_, ?_⟩⟩, fun a ha o => pacI.only_row o g (by omega) _⟩
        · simp [Builtin.append_, run_underlying Try.underlying27, run_underlying Try.underlying3, sizeOf, typeInfo, zeroValue, hi0, hz0, hz1, hz2, asInt, asIntOf, hw, h0, hneg, hroom, h48i, zeroCells_u8, Value.cells, h48k, Addr.add_lit, hst]
        · simp; omega
        · rw [htake, Nat.mul_one]
          exact List.take_left' (by rw [List.length_append, hU, List.length_replicate])
      · have hold : (Builtin.firstCells i0.size l.length (.slice (some ⟨g, 0, none⟩) l.length cap)).run Try.prog w.drew = .ok (U8 l).toArray w.drew := by
          rw [hz1]
          exact run_firstCells_some (P := Try.prog) w.drew 1 l.length ⟨g, 0, none⟩ l.length cap (U8 l) (by rw [hU, Nat.mul_one]) (fun j u hj => World.ownsRow.cells (w := w) hown (g := g) rfl j u hj)
        have hr := run_append_grow_zeros (P := Try.prog) (ty := 27) w 27 3 5 i0 (.int .u8 0) .i64 .i64 Try.underlying27 Try.underlying3 hi0 hz0 (some ⟨g, 0, none⟩) l.length cap (U8 l) hold k (by omega) (by omega) (by omega) (by omega) (by rw [hz2]; omega) (by rw [hz2]; exact growslice_fits (by omega) (by omega))
        have hge := grownCap_ge w (l.length + k) cap 5
        have hgm := grownCap_le_maxLen w (l.length + k) cap 5 (by unfold maxLen; omega)
        refine ⟨_, _, hr, ⟨by simp [U8_len], .inr ⟨w.heap.size, _, _, rfl, hb, heap_alloc_new w.drew _, hge, hgm, ?_, ?_⟩⟩, fun a ha o => o.drew.alloc _⟩
        · simp only [Value.cells, zeroCells_u8, List.size_toArray, Array.size_append, List.length_replicate, hU]
          omega
        · simp only [Value.cells, zeroCells_u8, Array.toList_append, Nat.mul_one]
          exact List.take_left' (by simp [hU])
/-- How many noughts stand behind l bytes, up to the next multiple of n. -/
def rest (l : Nat) (n : Int) : Nat := if 0 < n ∧ 0 < l % n.toNat then n.toNat - l % n.toNat else 0

def Bytes (w : World) (l : List UInt8) (e : Ending) (w' : World) : Prop := ∃ v, e = .returned v ∧ By w' v l ∧ Only (fun _ => False) w w'

set_option maxRecDepth 100000 in
theorem pad_any (x : Value) (l : List UInt8) (n : Int) (w : World) (h : By w x l) (hl : l.length ≤ 100000) (hn : n ≤ 5000) : Calls Try.prog 32 #[x, .int .i64 n] w (Bytes w (l ++ List.replicate (rest l.length n) 0)) := by
  have C := clone_own x l w h (by omega)
  obtain ⟨a, cap, rfl, -⟩ := h
  have fin : ∀ (k : Nat), k ≤ 5000 → (l = [] → k = 0) → ∀ v1 w1, Own w1 w.heap.size v1 l → Only (fun _ => False) w w1 → ∃ v' w', (Builtin.append_ #[27, 3] 27 #[v1, .int .i64 (k : Int)]).run Try.prog w1 = .ok v' w' ∧ By w' v' (l ++ List.replicate k 0) ∧ Only (fun _ => False) w w' := by
    intro k hk h0 v1 w1 ho o
    obtain ⟨v', w', r, q, p⟩ := zeros_own w1 w.heap.size o.size v1 l ho k h0 (by omega)
    exact ⟨v', w', r, q.by_, p w (Nat.le_refl _) o⟩
  have HF := Lib.hid fin
  have HC := Lib.hid C
  clear fin C
  by_cases h1 : 0 < n
  · obtain ⟨N, rfl⟩ : ∃ N : Nat, n = (N : Int) := ⟨n.toNat, by omega⟩
    have hN : 0 < N := by omega
    have hm : ((l.length : Int)).tmod (N : Int) = ((l.length % N : Nat) : Int) := by rw [Int.tmod_eq_emod_of_nonneg (by omega)]; simp
    have hlt : l.length % N < N := Nat.mod_lt _ hN
    have hN0 : ¬ (N = 0) := by omega
    by_cases h2 : 0 < l.length % N
    · have hr : rest l.length (N : Int) = N - l.length % N := by rw [rest, if_pos ⟨h1, by simpa using h2⟩]; simp
      rw [hr]
      have hle : l = [] → N - l.length % N = 0 := by
        intro e
        subst e
        simp at h2
      obtain ⟨R, hR⟩ : ∃ R, R = l.length % N := ⟨_, rfl⟩
      rw [← hR] at hm hlt h2 hr hle ⊢
      obtain ⟨k, hk⟩ : ∃ k, k = N - R := ⟨_, rfl⟩
      rw [← hk] at hle ⊢
      have hk5 : k ≤ 5000 := by omega
      have e1 : (N : Int) - (R : Int) = (k : Int) := by omega
      have e2 : ¬ ((2147483647 : Int) - (l.length : Int) < (k : Int)) := by omega
      have e3 : (0 : Int) < (R : Int) := by omega
      have w1 : IntKind.i64.wrap ((N : Int) - (R : Int)) = (k : Int) := by rw [e1]; exact IntWalk.i64_in _ (by omega)
      clear hr hk hR
      go_enter Try.func32, Try.ntmps32
      go_wp2_with fail
      refine HC.out.mono ?_
      rintro e w2 ⟨v2, rfl, ho, o2⟩
      obtain ⟨v3, w3, hr3, b3, o3⟩ := HF.out k hk5 hle v2 w2 ho o2
      have HO := Lib.hid o3
      clear ho o2 o3
      go_wp2_with (at_builtin; refine Lib.wpList_append_run _ rfl (.tmp 27) (.tmp 28) 27 3 rfl _ _ rfl rfl _ _ hr3 ?_)
      go_ret
      exact ⟨v3, rfl, b3, HO.out⟩
    · have hle : l = [] → (0 : Nat) = 0 := fun _ => rfl
      have hr : rest l.length (N : Int) = 0 := by rw [rest, if_neg (fun h => h2 (by simpa using h.2))]
      rw [hr]
      have h3 : l.length % N = 0 := by omega
      rw [h3] at hm
      have e2 : ¬ ((2147483647 : Int) - (l.length : Int) < 0) := by omega
      clear hr h2 h3 hlt
      go_enter Try.func32, Try.ntmps32
      go_wp2_with fail
      refine HC.out.mono ?_
      rintro e w2 ⟨v2, rfl, ho, o2⟩
      obtain ⟨v3, w3, hr3, b3, o3⟩ := HF.out 0 (by omega) (fun _ => rfl) v2 w2 ho o2
      have HO := Lib.hid o3
      clear ho o2 o3
      go_wp2_with (at_builtin; refine Lib.wpList_append_run _ rfl (.tmp 27) (.tmp 28) 27 3 rfl _ _ rfl rfl _ _ hr3 ?_)
      go_ret
      exact ⟨v3, rfl, b3, HO.out⟩
  · have hle : l = [] → (0 : Nat) = 0 := fun _ => rfl
    have hr : rest l.length n = 0 := by rw [rest, if_neg (fun h => h1 h.1)]
    rw [hr]
    have e2 : ¬ ((2147483647 : Int) - (l.length : Int) < 0) := by omega
    clear hr
    go_enter Try.func32, Try.ntmps32
    go_wp2_with fail
    refine HC.out.mono ?_
    rintro e w2 ⟨v2, rfl, ho, o2⟩
    obtain ⟨v3, w3, hr3, b3, o3⟩ := HF.out 0 (by omega) (fun _ => rfl) v2 w2 ho o2
    have HO := Lib.hid o3
    clear ho o2 o3
    go_wp2_with (at_builtin; refine Lib.wpList_append_run _ rfl (.tmp 27) (.tmp 28) 27 3 rfl _ _ rfl rfl _ _ hr3 ?_)
    go_ret
    exact ⟨v3, rfl, b3, HO.out⟩

set_option maxRecDepth 100000 in
set_option maxHeartbeats 1000000 in
theorem refmake4 (x y z : Value) (ls ld lt : List UInt8) (w : World) (h1 : By w x ls) (h2 : By w y ld) (h3 : By w z lt) (e1 : ls.length = 4) (e2 : ld.length = 4) (e3 : lt.length ≤ 1980) :
    Calls Try.prog 31 #[x, y, z] w (Got w ([69, 0, UInt8.ofNat ((20 + lt.length) / 256), UInt8.ofNat ((20 + lt.length) % 256), 0, 0, 0, 0, 0, 0, 0, 0] ++ ls ++ ld ++ lt) 0) := by
  obtain ⟨a1, c1, rfl, -⟩ := id h1
  obtain ⟨a2, c2, rfl, -⟩ := id h2
  obtain ⟨a3, c3, rfl, -⟩ := id h3
  have O0 : Only (fun _ => False) w ((w.alloc (.cells #[.int .u8 96, .int .u8 0, .int .u8 0, .int .u8 0, .int .u8 ((lt.length : Int) / 256), .int .u8 ((lt.length : Int) % 256), .int .u8 0, .int .u8 0] 5)).alloc (.cells #[.int .u8 69, .int .u8 0, .int .u8 (((lt.length : Int) + 20) / 256), .int .u8 (((lt.length : Int) + 20) % 256), .int .u8 0, .int .u8 0, .int .u8 0, .int .u8 0, .int .u8 0, .int .u8 0, .int .u8 0, .int .u8 0] 5)) := ((Only.refl _ w).alloc _).alloc _
  have own0 : Own ((w.alloc (.cells #[.int .u8 96, .int .u8 0, .int .u8 0, .int .u8 0, .int .u8 ((lt.length : Int) / 256), .int .u8 ((lt.length : Int) % 256), .int .u8 0, .int .u8 0] 5)).alloc (.cells #[.int .u8 69, .int .u8 0, .int .u8 (((lt.length : Int) + 20) / 256), .int .u8 (((lt.length : Int) + 20) % 256), .int .u8 0, .int .u8 0, .int .u8 0, .int .u8 0, .int .u8 0, .int .u8 0, .int .u8 0, .int .u8 0] 5)) w.heap.size (.slice (some ⟨w.heap.size + 1, 0, none⟩) 12 12) [69, 0, UInt8.ofNat ((20 + lt.length) / 256), UInt8.ofNat ((20 + lt.length) % 256), 0, 0, 0, 0, 0, 0, 0, 0] := by
    have q := World.ownsRow_lit (base := w.heap.size) (e := 5) (size := 1) (w.alloc (.cells #[.int .u8 96, .int .u8 0, .int .u8 0, .int .u8 0, .int .u8 ((lt.length : Int) / 256), .int .u8 ((lt.length : Int) % 256), .int .u8 0, .int .u8 0] 5)) #[.int .u8 69, .int .u8 0, .int .u8 (((lt.length : Int) + 20) / 256), .int .u8 (((lt.length : Int) + 20) % 256), .int .u8 0, .int .u8 0, .int .u8 0, .int .u8 0, .int .u8 0, .int .u8 0, .int .u8 0, .int .u8 0] 12 (by simp) (by decide) rfl
    have e : U8 [69, 0, UInt8.ofNat ((20 + lt.length) / 256), UInt8.ofNat ((20 + lt.length) % 256), 0, 0, 0, 0, 0, 0, 0, 0] = (#[.int .u8 69, .int .u8 0, .int .u8 (((lt.length : Int) + 20) / 256), .int .u8 (((lt.length : Int) + 20) % 256), .int .u8 0, .int .u8 0, .int .u8 0, .int .u8 0, .int .u8 0, .int .u8 0, .int .u8 0, .int .u8 0] : Array Value).toList := by
      simp only [U8, List.map_cons, List.map_nil]
      have x1 := pacI.u8_of ((20 + lt.length) / 256) (by omega)
      have x2 := pacI.u8_of ((20 + lt.length) % 256) (by omega)
      have y1 : ((((20 + lt.length) / 256 : Nat)) : Int) = ((lt.length : Int) + 20) / 256 := by omega
      have y2 : ((((20 + lt.length) % 256 : Nat)) : Int) = ((lt.length : Int) + 20) % 256 := by omega
      rw [x1, x2, y1, y2]
      rfl
    unfold Own
    rw [e]
    simpa using q
  have b0 := O0.size
  obtain ⟨v1, w1, r1, own1, p1⟩ := append_by _ w.heap.size b0 _ _ own0 _ ls (h1.keep O0) (by simp; omega)
  have O1 := p1 w (Nat.le_refl _) O0
  obtain ⟨v2, w2, r2, own2, p2⟩ := append_by w1 w.heap.size O1.size _ _ own1 _ ld (h2.keep O1) (by simp; omega)
  have O2 := p2 w (Nat.le_refl _) O1
  obtain ⟨v3, w3, r3, own3, p3⟩ := append_by w2 w.heap.size O2.size _ _ own2 _ lt (h3.keep O2) (by simp; omega)
  have O3 := p3 w (Nat.le_refl _) O2
  obtain ⟨L, hL⟩ : ∃ L : List UInt8, L = [69, 0, UInt8.ofNat ((20 + lt.length) / 256), UInt8.ofNat ((20 + lt.length) % 256), 0, 0, 0, 0, 0, 0, 0, 0] ++ ls ++ ld ++ lt := ⟨_, rfl⟩
  rw [← hL]
  have HF : Hid (∀ e W, e = .returned (.tuple #[v3, .int .i64 0]) → W = w3 → Got w L 0 e W) := by
    rintro e W rfl rfl
    subst hL
    exact ⟨_, rfl, own3.by_, O3⟩
  rw [e1] at r1 ⊢
  rw [e2] at r2 ⊢
  clear hL own0 own1 own2 own3 p1 p2 p3 O0 O1 O2 O3 b0 h1 h2 h3
  have t3 : ¬ ((1980 : Int) < (lt.length : Int)) := by omega
  have t4 : ¬ ((2000 : Int) < (lt.length : Int) + 20) := by omega
  have w4 : IntKind.i64.wrap ((lt.length : Int) + 20) = (lt.length : Int) + 20 := IntWalk.i64_in _ (by omega)
  have d1 : (lt.length : Int) / 256 < 256 := by omega
  have d2 : 0 ≤ (lt.length : Int) / 256 := by omega
  have d3 : ((lt.length : Int) + 20) / 256 < 256 := by omega
  have d4 : 0 ≤ ((lt.length : Int) + 20) / 256 := by omega
  have d5 : 0 ≤ (lt.length : Int) := by omega
  have d6 : 0 ≤ (lt.length : Int) + 20 := by omega
  go_enter Try.func31, Try.ntmps31
  go_wp2_with (first
    | (at_builtin; refine Lib.wpList_append_run _ rfl (.tmp 50) (.tmp 51) 27 27 rfl _ _ rfl rfl _ _ r1 ?_)
    | (at_builtin; refine Lib.wpList_append_run _ rfl (.tmp 52) (.tmp 53) 27 27 rfl _ _ rfl rfl _ _ r2 ?_)
    | (at_builtin; refine Lib.wpList_append_run _ rfl (.tmp 55) (.tmp 56) 27 27 rfl _ _ rfl rfl _ _ r3 ?_))
  exact bodyPost_ret (by simp [results, Try.results31, go_sem]) rfl (HF.out _ _ rfl rfl)

set_option maxRecDepth 100000 in
set_option maxHeartbeats 1000000 in
theorem refmake16 (x y z : Value) (ls ld lt : List UInt8) (w : World) (h1 : By w x ls) (h2 : By w y ld) (h3 : By w z lt) (e1 : ls.length = 16) (e2 : ld.length = 16) (e3 : lt.length ≤ 1960) :
    Calls Try.prog 31 #[x, y, z] w (Got w ([96, 0, 0, 0, UInt8.ofNat (lt.length / 256), UInt8.ofNat (lt.length % 256), 0, 0] ++ ls ++ ld ++ lt) 0) := by
  obtain ⟨a1, c1, rfl, -⟩ := id h1
  obtain ⟨a2, c2, rfl, -⟩ := id h2
  obtain ⟨a3, c3, rfl, -⟩ := id h3
  have O0 : Only (fun _ => False) w (w.alloc (.cells #[.int .u8 96, .int .u8 0, .int .u8 0, .int .u8 0, .int .u8 ((lt.length : Int) / 256), .int .u8 ((lt.length : Int) % 256), .int .u8 0, .int .u8 0] 5)) := (Only.refl _ w).alloc _
  have own0 : Own (w.alloc (.cells #[.int .u8 96, .int .u8 0, .int .u8 0, .int .u8 0, .int .u8 ((lt.length : Int) / 256), .int .u8 ((lt.length : Int) % 256), .int .u8 0, .int .u8 0] 5)) w.heap.size (.slice (some ⟨w.heap.size, 0, none⟩) 8 8) [96, 0, 0, 0, UInt8.ofNat (lt.length / 256), UInt8.ofNat (lt.length % 256), 0, 0] := by
    have q := World.ownsRow_lit (base := w.heap.size) (e := 5) (size := 1) w #[.int .u8 96, .int .u8 0, .int .u8 0, .int .u8 0, .int .u8 ((lt.length : Int) / 256), .int .u8 ((lt.length : Int) % 256), .int .u8 0, .int .u8 0] 8 (by simp) (by decide) rfl
    have e : U8 [96, 0, 0, 0, UInt8.ofNat (lt.length / 256), UInt8.ofNat (lt.length % 256), 0, 0] = (#[.int .u8 96, .int .u8 0, .int .u8 0, .int .u8 0, .int .u8 ((lt.length : Int) / 256), .int .u8 ((lt.length : Int) % 256), .int .u8 0, .int .u8 0] : Array Value).toList := by
      simp only [U8, List.map_cons, List.map_nil]
      have x1 := pacI.u8_of ((lt.length) / 256) (by omega)
      have x2 := pacI.u8_of ((lt.length) % 256) (by omega)
      have y1 : ((((lt.length) / 256 : Nat)) : Int) = (lt.length : Int) / 256 := by omega
      have y2 : ((((lt.length) % 256 : Nat)) : Int) = (lt.length : Int) % 256 := by omega
      rw [x1, x2, y1, y2]
      rfl
    unfold Own
    rw [e]
    simpa using q
  have b0 := O0.size
  obtain ⟨v1, w1, r1, own1, p1⟩ := append_by _ w.heap.size b0 _ _ own0 _ ls (h1.keep O0) (by simp; omega)
  have O1 := p1 w (Nat.le_refl _) O0
  obtain ⟨v2, w2, r2, own2, p2⟩ := append_by w1 w.heap.size O1.size _ _ own1 _ ld (h2.keep O1) (by simp; omega)
  have O2 := p2 w (Nat.le_refl _) O1
  obtain ⟨v3, w3, r3, own3, p3⟩ := append_by w2 w.heap.size O2.size _ _ own2 _ lt (h3.keep O2) (by simp; omega)
  have O3 := p3 w (Nat.le_refl _) O2
  obtain ⟨L, hL⟩ : ∃ L : List UInt8, L = [96, 0, 0, 0, UInt8.ofNat (lt.length / 256), UInt8.ofNat (lt.length % 256), 0, 0] ++ ls ++ ld ++ lt := ⟨_, rfl⟩
  rw [← hL]
  have HF : Hid (∀ e W, e = .returned (.tuple #[v3, .int .i64 0]) → W = w3 → Got w L 0 e W) := by
    rintro e W rfl rfl
    subst hL
    exact ⟨_, rfl, own3.by_, O3⟩
  rw [e1] at r1 ⊢
  rw [e2] at r2 ⊢
  clear hL own0 own1 own2 own3 p1 p2 p3 O0 O1 O2 O3 b0 h1 h2 h3
  have t3 : ¬ ((1960 : Int) < (lt.length : Int)) := by omega
  have t4 : ¬ ((2000 : Int) < (lt.length : Int) + 40) := by omega
  have w4 : IntKind.i64.wrap ((lt.length : Int) + 40) = (lt.length : Int) + 40 := IntWalk.i64_in _ (by omega)
  have d1 : (lt.length : Int) / 256 < 256 := by omega
  have d2 : 0 ≤ (lt.length : Int) / 256 := by omega
  have d3 : ((lt.length : Int) + 40) / 256 < 256 := by omega
  have d4 : 0 ≤ ((lt.length : Int) + 40) / 256 := by omega
  have d5 : 0 ≤ (lt.length : Int) := by omega
  have d6 : 0 ≤ (lt.length : Int) + 40 := by omega
  go_enter Try.func31, Try.ntmps31
  go_wp2_with (first
    | (at_builtin; refine Lib.wpList_append_run _ rfl (.tmp 50) (.tmp 51) 27 27 rfl _ _ rfl rfl _ _ r1 ?_)
    | (at_builtin; refine Lib.wpList_append_run _ rfl (.tmp 52) (.tmp 53) 27 27 rfl _ _ rfl rfl _ _ r2 ?_)
    | (at_builtin; refine Lib.wpList_append_run _ rfl (.tmp 55) (.tmp 56) 27 27 rfl _ _ rfl rfl _ _ r3 ?_))
  exact bodyPost_ret (by simp [results, Try.results31, go_sem]) rfl (HF.out _ _ rfl rfl)
end Go.Proofs.Ytcocmabhbahiaaa.pacK
