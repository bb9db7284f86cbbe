/- Addresses: the pairs of bytes that stand beside one another. -/
import Derived.Test.YtokbaknckagfmaaAdA
import Derived.RangeFuncNested
import Derived.RangeFuncBound
import Derived.RangeFuncCalls
import Derived.RangeFuncLeaves
import Derived.Shelf.Abstract
import Derived.Shelf.RegionOpen
import Derived.WalkKit
import Derived.OwnWalkIn
import Derived.TacticsInMore
import Derived.LoopNIn
import Derived.LoopIn
import Derived.Stop.RegionWithIn
namespace Go.Proofs.Ytokbaknckagfmaa.adB
open Go.RowKit kit numA numB numD adA
set_option linter.unusedVariables false
set_option linter.unusedSimpArgs false

attribute [local go_sem] Oper.semAt_some
open Go.Shelf

/-- What has come when k rounds are over. -/
def upto {α : Type} (f : Nat → α) (k : Nat) : List α := (List.range k).map f
theorem upto_succ {α : Type} (f : Nat → α) (k : Nat) : upto f (k + 1) = upto f k ++ [f k] := by simp [upto, List.range_succ]
theorem upto_length {α : Type} (f : Nat → α) (k : Nat) : (upto f k).length = k := by simp [upto]
theorem upto_prefix {α : Type} (f : Nat → α) {k n : Nat} (h : k ≤ n) : ∃ r, upto f n = upto f k ++ r := by
  obtain ⟨d, rfl⟩ := Nat.exists_eq_add_of_le h
  refine ⟨(List.range' k d).map f, ?_⟩
  simp only [upto, ← List.map_append]
  congr 1
  have h := List.range_add (n := k) (m := d)
  rw [h, List.range'_eq_map_range]
/-- A slice of bytes in a block below n. -/
def Rd (n : Nat) (w : World) (a : Option Addr) (l : Txt) : Prop := ∀ j, j < l.length → ∃ g o, a = some ⟨g, o, none⟩ ∧ g < n ∧ w.cell? ⟨g, o + j, none⟩ = some (.int .u8 ((l.getD j 0).toNat : Int))
theorem Rd.below {n : Nat} {A C : World} {a : Option Addr} {l : Txt} (h : Rd n A a l) (b : Below n A C) : Rd n C a l := fun j hj => by
  obtain ⟨g, o, e, hg, hc⟩ := h j hj
  exact ⟨g, o, e, hg, (b.cell (p := ⟨g, o + j, none⟩) hg).trans hc⟩
theorem Rd.of_sl {w : World} {S : Nat → Prop} {a : Option Addr} {n cap : Nat} {l : Txt} (h : Sl w S (.slice a n cap) (U8 l)) : Rd w.heap.size w a l := fun j hj => by
  obtain ⟨g, o, e, hc⟩ := sl_u8 h hj
  exact ⟨g, o, e, World.block_lt_of_cell? w _ hc, hc⟩
def prs (l m : Txt) (j : Nat) : UInt8 × UInt8 := (l.getD j 0, m.getD j 0)
def enc2 (x : UInt8 × UInt8) : Array Value := #[.int .u8 ((x.1.toNat : Nat) : Int), .int .u8 ((x.2.toNat : Nat) : Int)]
theorem meas {k len : Nat} (h : k < len) (hw : wrap64 ((k : Int) + 1) = (k : Int) + 1) : len - (intOf (Value.int IntKind.i64 (wrap64 ((k : Int) + 1)))).toNat < len - (intOf (Value.int IntKind.i64 (k : Int))).toNat := by
  rw [hw]
  simp only [intOf]
  omega
theorem at_end {k len : Nat} (h1 : ¬ k < len) (h2 : k ≤ len) : k = len := by omega
/-- What a round keeps: what lay below n, and the two boxes. -/
structure Kp (n B1 B2 : Nat) (A C : World) : Prop where
  low : Below n A C
  h1 : C.heap[B1]? = A.heap[B1]?
  h2 : C.heap[B2]? = A.heap[B2]?
theorem Kp.refl (n B1 B2 : Nat) (A : World) : Kp n B1 B2 A A := ⟨Below.refl _ _, rfl, rfl⟩
theorem Kp.trans {n B1 B2 : Nat} {A C D : World} (h : Kp n B1 B2 A C) (k : Kp n B1 B2 C D) : Kp n B1 B2 A D := ⟨h.low.trans k.low, k.h1.trans h.h1, k.h2.trans h.h2⟩
theorem Kp.drew {n B1 B2 : Nat} (A : World) : Kp n B1 B2 A A.drew := ⟨(Below.refl n A).drew, rfl, rfl⟩
theorem Kp.c1 {n B1 B2 : Nat} {A C : World} (h : Kp n B1 B2 A C) : C.cell? ⟨B1, 0, none⟩ = A.cell? ⟨B1, 0, none⟩ := World.cell?_of_block (w := A) (a := ⟨B1, 0, none⟩) h.h1
theorem Kp.c2 {n B1 B2 : Nat} {A C : World} (h : Kp n B1 B2 A C) : C.cell? ⟨B2, 0, none⟩ = A.cell? ⟨B2, 0, none⟩ := World.cell?_of_block (w := A) (a := ⟨B2, 0, none⟩) h.h2
theorem Kp.put {n B1 B2 N : Nat} (hn : n ≤ N) (h1 : B1 < N) (h2 : B2 < N) (W : World) (l : Nat) (o o' : Obj) (hl : N ≤ l) (h : W.heap[l]? = some o) : Kp n B1 B2 W (W.putObj l o') :=
  ⟨(Below.refl n W).grown (grownBy_putObj' W l o') (by have := (Array.getElem?_eq_some_iff.1 h).1; omega) (fun k e => by cases e; omega), World.putObj_heap_other (by omega), World.putObj_heap_other (by omega)⟩
def RQ (R : Act → World → Prop) : Exit → Act → World → Prop
  | .normal, a, w => R a w
  | _, _, _ => False
theorem grown_drew (w : World) : w.grownBy w.drew none := ⟨rfl, rfl, rfl, Nat.le_refl _, fun _ _ _ => rfl⟩
set_option maxRecDepth 100000 in
theorem beside_in (n : Nat) (a b : Option Addr) (la ca lb cb : Nat) (w : World) : CallsIn Fence.wide n Try.prog 23 #[.slice a la ca, .slice b lb cb] w fun e w' => e = .returned (.func (.func 28) #[] #[.pointer (some ⟨w.heap.size, 0, none⟩), .pointer (some ⟨w.heap.size + 1, 0, none⟩)]) ∧ w' = (w.alloc (.cells #[.slice a la ca] 22)).alloc (.cells #[.slice b lb cb] 22) := by
  refine callsIn_of_wp Try.func23 rfl trivial ?_ rfl
  simp only [Try.ntmps23, List.size_toArray, List.length_cons, List.length_nil, Nat.reduceAdd, Nat.reduceSub, Array.replicate_succ, Array.replicate_zero, List.push_toArray, List.append_toArray, List.nil_append, List.cons_append]
  gi_wp2
  go_ret
  exact ⟨rfl, rfl⟩

set_option maxRecDepth 100000 in
set_option maxHeartbeats 2000000 in
theorem beside1_in (n : Nat) (hn : 1 ≤ n) (l B1 B2 n₀ : Nat) (a b : Option Addr) (len ca cb : Nat) (la lb : Txt) (hla : la.length = len) (hlb : lb.length = len) (hm : len ≤ 100000) (J Jx : List (UInt8 × UInt8) → World → Prop) (N0 : Nat) (hJ : AbidesFrom N0 J)
    (hY : ∀ pre x W, J pre W → pre.length < len → YieldAt Fence.wide (n - 1) Try.prog l (enc2 x) W fun e W' =>
      (e = .returned (.bool true) ∧ J (pre ++ [x]) W' ∧ Kp n₀ B1 B2 W W') ∨ (e = .returned (.bool false) ∧ Jx (pre ++ [x]) W'))
    (W : World) (hB1 : W.cell? ⟨B1, 0, none⟩ = some (.slice a len ca)) (hB2 : W.cell? ⟨B2, 0, none⟩ = some (.slice b len cb)) (ra : Rd n₀ W a la) (rb : Rd n₀ W b lb) (h0 : J [] W) :
    CallsIn Fence.wide n Try.prog 28 #[.func (.yield l) #[] #[], .pointer (some ⟨B1, 0, none⟩), .pointer (some ⟨B2, 0, none⟩)] W fun e W' => (∃ v, e = .returned v) ∧
      ((∃ ys, ys = upto (prs la lb) len ∧ J ys W') ∨ (∃ pre, (∃ k, k ≤ len ∧ pre = upto (prs la lb) k) ∧ Jx pre W')) := by
  refine callsIn_of_wp Try.func28 rfl trivial ?_ rfl
  simp only [Try.ntmps28, List.size_toArray, List.length_cons, List.length_nil, Nat.reduceAdd, Nat.reduceSub, Array.replicate_succ, Array.replicate_zero, List.push_toArray, List.append_toArray, List.nil_append, List.cons_append]
  gi_wp2
  gi_loopw [7] (fun i wr => ∃ k : Nat, k ≤ len ∧ i = .int .i64 k ∧ J (upto (prs la lb) k) wr ∧ Kp n₀ B1 B2 W wr)
    (fun i _ => len - (intOf i).toNat)
  case atStart => exact ⟨0, Nat.zero_le _, rfl, h0, Kp.refl _ _ _ _⟩
  case round =>
    obtain ⟨k, hk, rfl, hJs, hnx⟩ := hrel
    by_cases hlt : k < len
    · obtain ⟨g1, o1, rfl, hg1, x1⟩ := ra.below hnx.low k (by omega)
      obtain ⟨g2, o2, rfl, hg2, x2⟩ := rb.below hnx.low k (by omega)
      have y1 : wr.cell? ⟨B1, 0, none⟩ = some (.slice (some ⟨g1, o1, none⟩) len ca) := hnx.c1.trans hB1
      have y2 : wr.cell? ⟨B2, 0, none⟩ = some (.slice (some ⟨g2, o2, none⟩) len cb) := hnx.c2.trans hB2
      have k1 : (k : Int) < (len : Int) := by omega
      have wk : wrap64 ((k : Int) + 1) = (k : Int) + 1 := IntWalk.wrap64_in _ (by omega)
      have HY := Lib.hid (hY _ (prs la lb k) wr.drew (hJ _ _ _ none hJs (grown_drew wr) (fun _ e => by cases e)) (by rw [upto_length]; exact hlt))
      obtain ⟨xa, hxa⟩ : ∃ x, x = la.getD k 0 := ⟨_, rfl⟩
      obtain ⟨xb, hxb⟩ : ∃ x, x = lb.getD k 0 := ⟨_, rfl⟩
      have HS := Lib.hid (show upto (prs la lb) k ++ [(xa, xb)] = upto (prs la lb) (k + 1) from by rw [hxa, hxb, upto_succ]; rfl)
      rw [show prs la lb k = (xa, xb) from by rw [hxa, hxb]; rfl, ] at HY
      rw [← hxa] at x1
      rw [← hxb] at x2
      obtain ⟨fn, tmps, assign, body, hy, hR⟩ := HY.out
      have HR := Lib.hid (hR.mono (R' := fun e W' => ∃ bv : Bool, e = .returned (.bool bv) ∧ ((bv = true ∧ J (upto (prs la lb) k ++ [(xa, xb)]) W' ∧ Kp n₀ B1 B2 wr.drew W') ∨ (bv = false ∧ Jx (upto (prs la lb) k ++ [(xa, xb)]) W'))) (fun e W' h => h.elim (fun h => ⟨true, h.1, .inl ⟨rfl, h.2⟩⟩) (fun h => ⟨false, h.1, .inr ⟨rfl, h.2⟩⟩)))
      have HJs := Lib.hid hJs
      have HNX := Lib.hid hnx
      dsimp only [enc2] at hy
      clear hxa hxb HY hR hJs hnx ra rb hB1 hB2
      gi_wp2
      refine Code.wpIn_mono (Q := RQ fun a' w' => ∃ bv : Bool, a' = { tmps := #[.func (.yield l) #[] #[], .pointer (some ⟨B1, 0, none⟩), .pointer (some ⟨B2, 0, none⟩), undef, .int .i64 (k : Nat), .slice (some ⟨g1, o1, none⟩) len ca, .int .i64 (len : Nat), .int .i64 (k : Nat), .bool true, .int .i64 (k : Nat), .func (.yield l) #[] #[], .slice (some ⟨g1, o1, none⟩) len ca, .int .i64 (k : Nat), .pointer (some ⟨g1, o1 + k, none⟩), .int .u8 ((xa.toNat : Nat) : Int), .slice (some ⟨g2, o2, none⟩) len cb, .int .i64 (k : Nat), .pointer (some ⟨g2, o2 + k, none⟩), .int .u8 ((xb.toNat : Nat) : Int), .bool bv, .bool (!bv), u21], defers := [] } ∧ ((bv = true ∧ J (upto (prs la lb) k ++ [(xa, xb)]) w' ∧ Kp n₀ B1 B2 wr.drew w') ∨ (bv = false ∧ Jx (upto (prs la lb) k ++ [(xa, xb)]) w'))) ?_ ?_
      case refine_2 =>
        gi_region_with (refine HR.out.mono ?_; rintro e W3 ⟨bv, rfl, hbv⟩)
        all_goals exact ⟨bv, rfl, hbv⟩
      intro ex a' W3 hq
      cases ex <;> try exact hq.elim
      obtain ⟨bv, rfl, hbv⟩ := hq
      clear x1 x2 y1 y2 hy HR
      rcases hbv with ⟨rfl, hj3, hk3⟩ | ⟨rfl, hj3⟩
      · have HJ3 := Lib.hid hj3
        have HK3 := Lib.hid (show Kp n₀ B1 B2 W W3 from HNX.out.trans ((Kp.drew wr).trans hk3))
        clear hj3 hk3
        simp only [Bool.not_true, Bool.not_false]
        gi_wp2
        go_roundw
        case rel => exact ⟨k + 1, hlt, by first | rfl | (rw [wk]; rfl), by rw [← HS.out]; exact HJ3.out, HK3.out⟩
        case measure => first | exact meas hlt wk | (have h := meas hlt wk; rw [wk] at h; exact h)
      · have HJ3 := Lib.hid hj3
        clear hj3
        simp only [Bool.not_true, Bool.not_false]
        gi_wp2
        refine bodyPost_ret (results_none rfl _ _ _) rfl ?_
        exact ⟨⟨_, rfl⟩, .inr ⟨_, ⟨k + 1, hlt, HS.out⟩, HJ3.out⟩⟩
    · obtain rfl : k = len := at_end hlt hk
      have y1 : wr.cell? ⟨B1, 0, none⟩ = some (.slice a k ca) := hnx.c1.trans hB1
      gi_wp2
      go_end0
      exact ⟨⟨_, rfl⟩, .inl ⟨_, rfl, hJs⟩⟩


end Go.Proofs.Ytokbaknckagfmaa.adB
