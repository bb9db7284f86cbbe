/- Contracts of packet's small calls: two, within, look4, look6, look, and of bytes.Clone. -/
import Derived.Test.YtcocmabhbahiaaaNumG
import Derived.Test.YtcocmabhbahiaaaPacO
namespace Go.Proofs.Ytcocmabhbahiaaa.pacA
open Go.RowKit Go.Lib Go.Proofs.Ytcocmabhbahiaaa.kit Go.Proofs.Ytcocmabhbahiaaa.numA Go.Proofs.Ytcocmabhbahiaaa.numF Go.Proofs.Ytcocmabhbahiaaa.numG
set_option linter.unusedVariables false

/-- THE SLICE v READS AS THE BYTES l. -/
def By (w : World) (v : Value) (l : List UInt8) : Prop :=
  ∃ a cap, v = .slice a l.length cap ∧ l.length ≤ cap ∧ cap ≤ maxLen ∧ (l = [] ∨ ∃ g o, a = some ⟨g, o, none⟩ ∧ g < w.heap.size ∧ ∀ i, i < l.length → w.cell? ⟨g, o + i, none⟩ = some (.int .u8 (((l.getD i 0).toNat : Nat) : Int)))

theorem By.sl {w : World} {v : Value} {l : List UInt8} (h : By w v l) : Sl w (fun _ => True) v (U8 l) := by
  obtain ⟨a, cap, hv, hc, hm, h⟩ := h
  refine ⟨by rw [U8_len]; omega, a, cap, by rw [U8_len]; exact hv, ?_⟩
  rcases h with rfl | ⟨g, o, ha, hg, hcell⟩
  · exact .inl rfl
  · refine .inr ⟨g, o, ha, trivial, hg, fun i hi => ?_⟩
    rw [U8_len] at hi
    rw [hcell i hi, U8_get l i hi]
    simp [hi]

theorem By.keep {w w' : World} {v : Value} {l : List UInt8} (h : By w v l) (k : Only (fun _ => False) w w') : By w' v l := by
  obtain ⟨a, cap, hv, hc, hm, h⟩ := h
  refine ⟨a, cap, hv, hc, hm, ?_⟩
  rcases h with rfl | ⟨g, o, ha, hg, hcell⟩
  · exact .inl rfl
  · exact .inr ⟨g, o, ha, Nat.lt_of_lt_of_le hg k.size, fun i hi => (World.cell?_of_block (w := w) (a := ⟨g, o + i, none⟩) (k.block g hg id)).trans (hcell i hi)⟩

theorem By.of_owns {w : World} {base n : Nat} {v : Value} {l : List UInt8} (h : w.ownsRow base 5 1 v n (U8 l)) : By w v l := by
  have hL := Lst.of_owns h
  have hn : n = l.length := by have := h.1; rw [U8_len] at this; omega
  rcases id hL with ⟨rfl, hx⟩ | ⟨g, o, cap, rfl, hS, hc, hm, c, fr, hb, _, _⟩
  · have : l = [] := List.eq_nil_of_length_eq_zero (by rw [← U8_len, hx]; rfl)
    subst this
    exact ⟨none, 0, rfl, Nat.le_refl _, Nat.zero_le _, .inl rfl⟩
  · rw [U8_len] at hc
    refine ⟨some ⟨g, o, none⟩, cap, by rw [U8_len], hc, hm, .inr ⟨g, o, rfl, lt_of hb, fun i hi => ?_⟩⟩
    rw [hL.cell (by rw [U8_len]; exact hi), U8_get l i hi]
    simp [hi]

/-- A part of it. -/
theorem By.sub {w : World} {g o cap : Nat} {l : List UInt8} (h : By w (.slice (some ⟨g, o, none⟩) l.length cap) l) (lo hi : Nat) (h1 : lo ≤ hi) (h2 : hi ≤ l.length) : By w (.slice (some ⟨g, o + lo, none⟩) (hi - lo) (cap - lo)) ((l.take hi).drop lo) := by
  obtain ⟨a, cap', hv, hc, hm, h⟩ := h
  injection hv with q1 q2 q3
  subst q3
  have hl : ((l.take hi).drop lo).length = hi - lo := by simp; omega
  refine ⟨some ⟨g, o + lo, none⟩, cap - lo, by rw [hl], by rw [hl]; omega, by omega, ?_⟩
  rcases h with rfl | ⟨g', o', ha, hg, hcell⟩
  · left; simp
  · rw [← q1] at ha
    injection ha with ha
    injection ha with ha hb
    subst ha hb
    refine .inr ⟨g, o + lo, rfl, hg, fun i hi' => ?_⟩
    rw [hl] at hi'
    rw [Nat.add_assoc, hcell (lo + i) (by omega)]
    congr 4
    simp only [List.getD_eq_getElem?_getD, List.getElem?_drop, List.getElem?_take]
    rw [if_pos (by omega)]

theorem By.empty {w : World} (a : Option Addr) (cap : Nat) (h : cap ≤ maxLen) : By w (.slice a 0 cap) [] := ⟨a, cap, rfl, Nat.zero_le _, h, .inl rfl⟩

def Cloned (w : World) (l : List UInt8) (e : Ending) (w' : World) : Prop := ∃ v, e = .returned v ∧ By w' v l ∧ Only (fun _ => False) w w'

theorem By.news {w W : World} {x : Addr} {n cap : Nat} {l : List UInt8} (h : By w (.slice (some x) n cap) l) (k : Only (fun _ => False) w W) : ∀ j u, (U8 l)[j]? = some u → W.cell? (x.add j) = some u := by
  intro j u hj
  have hlt : j < l.length := by
    have := (List.getElem?_eq_some_iff.1 hj).1
    rwa [U8_len] at this
  obtain ⟨a, cap', hv, -, -, h | ⟨g, o, ha, hg, hcell⟩⟩ := h.keep k
  · rw [h] at hlt; simp at hlt
  · injection hv with q1 q2 q3
    rw [← q1] at ha
    injection ha with ha
    subst ha
    rw [Addr.add_lit, hcell j hlt, ← hj]
    simp [U8, hlt]

theorem one_U8 (l : List UInt8) : ∀ u ∈ U8 l, u.oneCell' = true := by
  intro u hu
  simp only [U8, List.mem_map] at hu
  obtain ⟨a, _, rfl⟩ := hu
  rfl

set_option maxRecDepth 100000 in
theorem clone_any (v : Value) (l : List UInt8) (w : World) (h : By w v l) (hl : l.length ≤ 100000000) : Calls Try.prog 74 #[v] w (Cloned w l) := by
  obtain ⟨i0, hi0, hz0, hz1, hz2⟩ := info_parts info5
  have h' := h
  obtain ⟨a, cap, rfl, hc, hm, h⟩ := h
  have hr := fun (W : World) => Lib.run_eql_slice_nil (P := Try.prog) W 27 5 a l.length cap 0 0 Try.underlying27
  cases a with
  | none =>
    have : l = [] := by
      rcases h with h | ⟨g, o, ha, _⟩
      · exact h
      · cases ha
    subst this
    clear h h' hc
    simp only [List.length_nil, Option.isNone_none] at hr
    go_enter Try.func74, Try.ntmps74
    go_wp2
    go_ret
    exact ⟨_, rfl, By.empty none 0 (Nat.zero_le _), Only.refl _ _⟩
  | some x =>
    have O0 : Only (fun _ => False) w (w.alloc (.cells #[] 5)) := (Only.refl _ w).alloc _
    have HN := Lib.hid (h'.news O0)
    have hown0 := World.ownsRow_made (e := 5) (size := 1) w #[] 0 (Nat.le_refl _) (by decide) rfl
    have HO := Lib.hid O0
    unfold maxLen at hm
    clear h h' O0
    go_enter Try.func74, Try.ntmps74
    go_wp2_with (at_builtin; refine wpList_append_own _ rfl (.tmp 5) (.tmp 6) 27 rfl w.heap.size 5 i0 (.int .u8 0) 1 1 Try.underlying27 hi0 hz0 hz1 hz2 rfl (by decide) _ _ _ rfl hown0 x l.length cap (U8 l) rfl (by simp [U8]) HN.out (one_U8 l) (by unfold maxLen; omega) (by omega) (by simp) ?_; intro v1 w1 hown1 hgrow1 _; simp only [Nat.zero_add, List.nil_append] at hown1)
    exact bodyPost_ret (v := v1) (by simp [results, Try.results74, go_sem]) rfl ⟨v1, rfl, By.of_owns hown1, Only.grownNew HO.out hgrow1 fun j hj => (hown0.lt j hj).1⟩

/-- A byte of a list. -/
def bt (l : List UInt8) (i : Nat) : Nat := (l.getD i 0).toNat

theorem bt_lt (l : List UInt8) (i : Nat) : bt l i < 256 := (l.getD i 0).toNat_lt

theorem two_any (g o n cap a b : Nat) (w : World) (h0 : w.cell? ⟨g, o, none⟩ = some (.int .u8 (a : Int))) (h1 : w.cell? ⟨g, o + 1, none⟩ = some (.int .u8 (b : Int))) (ha : a < 256) (hb : b < 256) (hn : 2 ≤ n) :
    Calls Try.prog 89 #[.slice (some ⟨g, o, none⟩) n cap] w fun e w' => e = .returned (.int .i64 (256 * a + b : Nat)) ∧ ∃ m, w' = w.drewN m := by
  have hb1 := pacO.or_two ⟨a, ha⟩ ⟨b, hb⟩
  have n0 : (0 : Int) < (n : Int) := by omega
  have n1 : (1 : Int) < (n : Int) := by omega
  have a0 : (0 : Int) ≤ (a : Int) := by omega
  have a1 : (a : Int) < 256 := by omega
  obtain ⟨z, hz⟩ : ∃ z : Int, z = ((256 * a + b : Nat) : Int) := ⟨_, rfl⟩
  simp only [← hz] at hb1
  rw [← hz]
  clear hz
  go_enter Try.func89, Try.ntmps89
  go_wp2_with fail
  go_quiet (fail)
  go_wp2
  go_ret
  exact ⟨rfl, _, rfl⟩

/-- Where things stand in a packet. -/
abbrev form (v b wh s d z : Int) : Value := .agg #[.int .i64 v, .int .i64 b, .int .i64 wh, .int .i64 s, .int .i64 d, .int .i64 z]

theorem within_ok (v b wh s d z : Int) (a : Option Addr) (n cap : Nat) (w : World) (h : wh ≤ (n : Int)) :
    Calls Try.prog 90 #[form v b wh s d z, .slice a n cap] w (numA.Told w (.tuple #[form v b wh s d z, .int .i64 0])) := by
  have h' : ¬ ((n : Int) < wh) := by omega
  go_enter Try.func90, Try.ntmps90
  go_wp2
  exact bodyPost_ret (v := .tuple #[.agg #[.int .i64 v, .int .i64 b, .int .i64 wh, .int .i64 s, .int .i64 d, .int .i64 z], .int .i64 0]) (by simp [results, Try.results90, go_sem]) rfl ⟨rfl, ((Only.refl _ w).alloc _).alloc _⟩

theorem within_no (v b wh s d z : Int) (a : Option Addr) (n cap : Nat) (w : World) (h : (n : Int) < wh) :
    Calls Try.prog 90 #[form v b wh s d z, .slice a n cap] w (numA.Told w (.tuple #[form 0 0 0 0 0 0, .int .i64 4])) := by
  go_enter Try.func90, Try.ntmps90
  go_wp2
  exact bodyPost_ret (v := .tuple #[.agg #[.int .i64 0, .int .i64 0, .int .i64 0, .int .i64 0, .int .i64 0, .int .i64 0], .int .i64 4]) (by simp [results, Try.results90, go_sem]) rfl ⟨rfl, ((Only.refl _ w).alloc _).alloc _⟩

/-- What look answers of some bytes. -/
def lk4 (l : List UInt8) : Value :=
  if l.length < 20 then .tuple #[form 0 0 0 0 0 0, .int .i64 4] else
  if 4 * (bt l 0 % 16) < 20 ∨ 256 * bt l 2 + bt l 3 < 4 * (bt l 0 % 16) then .tuple #[form 0 0 0 0 0 0, .int .i64 3] else
  if l.length < 256 * bt l 2 + bt l 3 then .tuple #[form 0 0 0 0 0 0, .int .i64 4] else .tuple #[form 4 (4 * (bt l 0 % 16) : Nat) (256 * bt l 2 + bt l 3 : Nat) 12 16 4, .int .i64 0]

def lk6 (l : List UInt8) : Value :=
  if l.length < 40 then .tuple #[form 0 0 0 0 0 0, .int .i64 4] else
  if l.length < 40 + (256 * bt l 4 + bt l 5) then .tuple #[form 0 0 0 0 0 0, .int .i64 4] else .tuple #[form 6 40 (40 + (256 * bt l 4 + bt l 5) : Nat) 8 24 16, .int .i64 0]

def lk (l : List UInt8) : Value :=
  if l = [] then .tuple #[form 0 0 0 0 0 0, .int .i64 4] else if bt l 0 / 16 = 4 then lk4 l else if bt l 0 / 16 = 6 then lk6 l else .tuple #[form 0 0 0 0 0 0, .int .i64 3]

theorem By.some {w : World} {v : Value} {l : List UInt8} (h : By w v l) (hl : 0 < l.length) : ∃ g o cap, v = .slice (some ⟨g, o, none⟩) l.length cap ∧ l.length ≤ cap ∧ cap ≤ maxLen ∧ g < w.heap.size ∧ ∀ i, i < l.length → w.cell? ⟨g, o + i, none⟩ = some (.int .u8 ((bt l i : Nat) : Int)) := by
  obtain ⟨a, cap, hv, hc, hm, rfl | ⟨g, o, rfl, hg, hcell⟩⟩ := h
  · simp at hl
  · exact ⟨g, o, cap, hv, hc, hm, hg, hcell⟩

/-- The block of six noughts that a result's variable is. -/
abbrev zeros : Array Value := #[.int .i64 0, .int .i64 0, .int .i64 0, .int .i64 0, .int .i64 0, .int .i64 0]

theorem six {W : World} {B : Nat} {t : TypeId} {c0 c1 c2 c3 c4 c5 : Value} (hb : W.heap[B]? = some (.cells #[c0, c1, c2, c3, c4, c5] t (0, 0))) :
    W.cell? ⟨B, 0, none⟩ = some c0 ∧ W.cell? ⟨B, 1, none⟩ = some c1 ∧ W.cell? ⟨B, 2, none⟩ = some c2 ∧ W.cell? ⟨B, 3, none⟩ = some c3 ∧ W.cell? ⟨B, 4, none⟩ = some c4 ∧ W.cell? ⟨B, 5, none⟩ = some c5 ∧
    W.frozen? ⟨B, 0, none⟩ = false ∧ W.frozen? ⟨B, 1, none⟩ = false ∧ W.frozen? ⟨B, 2, none⟩ = false ∧ W.frozen? ⟨B, 3, none⟩ = false ∧ W.frozen? ⟨B, 4, none⟩ = false ∧ W.frozen? ⟨B, 5, none⟩ = false :=
  ⟨cell_of hb, cell_of hb, cell_of hb, cell_of hb, cell_of hb, cell_of hb, free_of hb, free_of hb, free_of hb, free_of hb, free_of hb, free_of hb⟩

theorem only_set6 {S : Nat → Prop} {a w : World} (h : Only S a w) {b : Nat} (hb : a.heap.size ≤ b) (v0 v1 v2 v3 v4 v5 : Value) :
    Only S a ((((((w.setCell ⟨b, 0, none⟩ v0).setCell ⟨b, 1, none⟩ v1).setCell ⟨b, 2, none⟩ v2).setCell ⟨b, 3, none⟩ v3).setCell ⟨b, 4, none⟩ v4).setCell ⟨b, 5, none⟩ v5) :=
  numD.only_setNew (numD.only_setNew (numD.only_setNew (numD.only_setNew (numD.only_setNew (numD.only_setNew h hb) hb) hb) hb) hb) hb

set_option maxRecDepth 100000 in
set_option maxHeartbeats 1000000 in
theorem look6_any (v : Value) (l : List UInt8) (w : World) (h : By w v l) : Calls Try.prog 86 #[v] w (numA.Told w (lk6 l)) := by
  by_cases h40 : l.length < 40
  · have HR : Hid (lk6 l = .tuple #[form 0 0 0 0 0 0, .int .i64 4]) := (by rw [lk6, if_pos h40] : lk6 l = _)
    obtain ⟨a, cap, rfl, -⟩ := h
    have hlt : (l.length : Int) < 40 := by omega
    clear h40
    go_enter Try.func86, Try.ntmps86
    go_wp2_with fail
    rw [HR.out]
    exact bodyPost_ret (v := .tuple #[form 0 0 0 0 0 0, .int .i64 4]) (by simp [results, Try.results86, go_sem, form]) rfl ⟨rfl, (Only.refl _ w).alloc _⟩
  · obtain ⟨g, o, cap, rfl, hc, hm, hg, hcell⟩ := h.some (by omega)
    have hlt : ¬ ((l.length : Int) < 40) := by omega
    have c4 := hcell 4 (by omega)
    have c5 := hcell 5 (by omega)
    have b4 := bt_lt l 4
    have b5 := bt_lt l 5
    have T := fun (W : World) (k : Only (fun _ => False) w W) => two_any g (o + 4) (l.length - 4) (cap - 4) (bt l 4) (bt l 5) W ((World.cell?_of_block (w := w) (a := ⟨g, o + 4, none⟩) (k.block g hg id)).trans c4) ((World.cell?_of_block (w := w) (a := ⟨g, o + 5, none⟩) (k.block g hg id)).trans c5) b4 b5 (by omega)
    obtain ⟨wh, hwh⟩ : ∃ wh, wh = 256 * bt l 4 + bt l 5 := ⟨_, rfl⟩
    rw [← hwh] at T
    have hwb : wh ≤ 65535 := by omega
    have n4 : (4 : Int) ≤ (l.length : Int) := by omega
    have n4' : (4 : Int) < (cap : Int) := by omega
    have n4'' : ¬ (cap = 4) := by omega
    have HT := Lib.hid T
    unfold maxLen at hm
    by_cases hw : l.length < 40 + wh
    · have HR : Hid (lk6 l = .tuple #[form 0 0 0 0 0 0, .int .i64 4]) := (by rw [lk6, if_neg h40, if_pos (by rw [← hwh]; exact hw)] : lk6 l = _)
      have WI := fun (a : Option Addr) (W : World) => within_no 6 40 (40 + (wh : Int)) 8 24 16 a l.length cap W (by omega)
      clear T hcell c4 c5 b4 b5 hwh h40 h hw
      go_enter Try.func86, Try.ntmps86
      go_wp2_with fail
      refine (HT.out _ ((Only.refl _ w).alloc _)).mono ?_
      rintro e w2 ⟨rfl, m, rfl⟩
      go_wp2_with fail
      refine (WI _ _).mono ?_
      rintro e w3 ⟨rfl, o3⟩
      have hz : w3.heap[w.heap.size]? = some (.cells zeros 100) := (o3.block w.heap.size (by simp; omega) id).trans ((Below.heap_alloc _ _ _ (by simp)).trans (heap_alloc_new w _))
      have o4 := ((((Only.refl (fun _ => False) w).alloc (.cells zeros 100)).drewN m).alloc _).trans o3
      have HO := Lib.hid o4
      obtain ⟨z0, z1, z2, z3, z4, z5, f0, f1, f2, f3, f4, f5⟩ := six hz
      clear hz o3 o4
      go_wp2_with fail
      rw [HR.out]
      exact bodyPost_ret (v := .tuple #[form 0 0 0 0 0 0, .int .i64 4]) (by simp [results, Try.results86, go_sem, z0, z1, z2, z3, z4, z5]) rfl ⟨rfl, only_set6 HO.out (Nat.le_refl _) _ _ _ _ _ _⟩
    · have HR : Hid (lk6 l = .tuple #[form 6 40 (40 + (wh : Int)) 8 24 16, .int .i64 0]) := (by rw [lk6, if_neg h40, if_neg (by rw [← hwh]; exact hw), ← hwh]; rfl : lk6 l = _)
      have WI := fun (a : Option Addr) (W : World) => within_ok 6 40 (40 + (wh : Int)) 8 24 16 a l.length cap W (by omega)
      clear T hcell c4 c5 b4 b5 hwh h40 h hw
      go_enter Try.func86, Try.ntmps86
      go_wp2_with fail
      refine (HT.out _ ((Only.refl _ w).alloc _)).mono ?_
      rintro e w2 ⟨rfl, m, rfl⟩
      go_wp2_with fail
      refine (WI _ _).mono ?_
      rintro e w3 ⟨rfl, o3⟩
      have hz : w3.heap[w.heap.size]? = some (.cells zeros 100) := (o3.block w.heap.size (by simp; omega) id).trans ((Below.heap_alloc _ _ _ (by simp)).trans (heap_alloc_new w _))
      have o4 := ((((Only.refl (fun _ => False) w).alloc (.cells zeros 100)).drewN m).alloc _).trans o3
      have HO := Lib.hid o4
      obtain ⟨z0, z1, z2, z3, z4, z5, f0, f1, f2, f3, f4, f5⟩ := six hz
      clear hz o3 o4
      go_wp2_with fail
      rw [HR.out]
      exact bodyPost_ret (v := .tuple #[form 6 40 (40 + (wh : Int)) 8 24 16, .int .i64 0]) (by simp [results, Try.results86, go_sem, z0, z1, z2, z3, z4, z5]) rfl ⟨rfl, only_set6 HO.out (Nat.le_refl _) _ _ _ _ _ _⟩
end Go.Proofs.Ytcocmabhbahiaaa.pacA
