/- A fresh pair: term.Kind of an Atom, pair.New, fresh. -/
import Derived.Test.YthembojamiagoaaPrsB
namespace Go.Proofs.Ythembojamiagoaa.sloA
open Go.RowKit Go.Proofs.Ythembojamiagoaa.kit Go.Proofs.Ythembojamiagoaa.numA Go.Proofs.Ythembojamiagoaa.numB Go.Proofs.Ythembojamiagoaa.prsA Go.Proofs.Ythembojamiagoaa.prsB
set_option linter.unusedVariables false
set_option linter.unusedSimpArgs false

theorem kind_atom (s : ByteArray) (n : Nat) (w : World) (h : AtomText s n) : Calls Try.prog 26 #[.string s] w fun e w' => e = .returned (.int .i64 2) ∧ Only (fun _ => False) w w' := by
  have T := Lib.hid (parse_atom s n w h)
  clear h
  go_enter Try.func26, Try.ntmps26
  go_wp2_with fail
  with_reducible refine T.out.mono ?_
  rintro e w1 ⟨rfl, o⟩
  have O := Lib.hid o
  clear o
  go_wp2_with fail
  go_ret
  exact ⟨rfl, O.out⟩

theorem a1 : AtomText ⟨#[97, 49]⟩ 1 := ⟨by rw [dec_small (by omega)]; rfl, by decide⟩
theorem a2 : AtomText ⟨#[97, 50]⟩ 2 := ⟨by rw [dec_small (by omega)]; rfl, by decide⟩

def emptyWin : Array Value := #[.int .u64 0, .int .u64 0, .int .u64 0, .int .u64 0, .int .u64 0, .int .u64 0, .int .u64 0, .int .u64 0, .int .u64 0, .int .u64 0, .int .u64 0, .int .u64 0, .int .u64 0, .int .u64 0, .int .u64 0, .int .u64 0, .int .u64 0, .int .u64 0, .int .u64 0, .int .u64 0, .int .u64 0, .int .u64 0, .int .u64 0, .int .u64 0, .int .u64 0, .int .u64 0, .int .u64 0, .int .u64 0, .int .u64 0, .int .u64 0, .int .u64 0, .int .u64 0, .int .u64 0, .int .u64 0, .bool false]

theorem window_new (w : World) : Calls Try.prog 28 #[] w fun e w' => e = .returned (.pointer (some ⟨w.heap.size, 0, none⟩)) ∧ w' = w.alloc (.cells emptyWin 74) := by
  go_enter Try.func28, Try.ntmps28
  go_wp2
  go_ret
  exact ⟨rfl, rfl⟩

theorem is_time (now : Int) (w : World) (h0 : 0 ≤ now) (h1 : now ≤ 1125899906842624) : Calls Try.prog 27 #[.int .i64 now] w fun e w' => e = .returned (.bool true) ∧ Only (fun _ => False) w w' := by
  go_enter Try.func27, Try.ntmps27
  go_wp2
  go_ret
  exact ⟨rfl, (by (repeat (first | (with_reducible refine Only.drewN ?_ _) | (with_reducible refine Only.drew ?_) | (with_reducible exact Only.refl _ _))))⟩

/-- A pair at block b: its number and when it was made. -/
def PairAt (w : World) (b : Nat) (l m : Int) : Prop := ∃ c : Nat, w.heap[b]? = some (.cells #[.string ⟨#[97, 49]⟩, .string ⟨#[97, 50]⟩, .int .u32 l, .int .u32 9, .bool true, .int .i64 m, .int .u64 0, .pointer (some ⟨c, 0, none⟩)] 68 (0, 0))

set_option maxRecDepth 100000 in
theorem pair_new (l m : Int) (w : World) (h0 : 0 ≤ m) (h1 : m ≤ 1125899906842624) :
    Calls Try.prog 21 #[.agg #[.string ⟨#[97, 49]⟩, .string ⟨#[97, 50]⟩], .int .u32 l, .int .u32 9, .bool true, .int .i64 m] w fun e w' => ∃ b, e = .returned (.tuple #[.pointer (some ⟨b, 0, none⟩), .int .i64 0]) ∧ w.heap.size ≤ b ∧ PairAt w' b l m ∧ Only (fun _ => False) w w' := by
  go_enter Try.func21, Try.ntmps21
  go_wp2_with fail
  with_reducible refine (kind_atom _ 1 _ a1).mono ?_
  rintro e w1 ⟨rfl, o1⟩
  have q1 : w1.heap[w.heap.size]? = some (.cells #[.string ⟨#[97, 49]⟩, .string ⟨#[97, 50]⟩] 56 (0, 0)) := (o1.block w.heap.size (by simp) id).trans (heap_alloc_new _ _)
  have c1 : w1.cell? ⟨w.heap.size, 1, none⟩ = some (.string ⟨#[97, 50]⟩) := cell_of q1
  have O1 := Lib.hid (((Only.refl (fun _ => False) w).alloc _).trans o1)
  have Q1 := Lib.hid q1
  clear o1 q1
  go_wp2_with fail
  with_reducible refine (kind_atom _ 2 _ a2).mono ?_
  rintro e w2 ⟨rfl, o2⟩
  have q2 := (o2.block w.heap.size (lt_of Q1.out) id).trans Q1.out
  have c2 : w2.cell? ⟨w.heap.size, 0, none⟩ = some (.string ⟨#[97, 49]⟩) := cell_of q2
  have c3 : w2.cell? ⟨w.heap.size, 1, none⟩ = some (.string ⟨#[97, 50]⟩) := cell_of q2
  have O2 := Lib.hid (O1.out.trans o2)
  have Q2 := Lib.hid q2
  clear o2 Q1 O1 c1 q2
  go_wp2_with fail
  with_reducible refine (is_time m _ h0 h1).mono ?_
  rintro e w3 ⟨rfl, o3⟩
  have c4 : w3.cell? ⟨w.heap.size, 0, none⟩ = some (.string ⟨#[97, 49]⟩) := (cell_of (o3.keep Q2.out id))
  have c5 : w3.cell? ⟨w.heap.size, 1, none⟩ = some (.string ⟨#[97, 50]⟩) := (cell_of (o3.keep Q2.out id))
  have k6 : ((w3.drew).alloc (.cells emptyWin 74)).heap[w.heap.size]? = some (.cells #[.string ⟨#[97, 49]⟩, .string ⟨#[97, 50]⟩] 56 (0, 0)) := by
    have g := o3.drew.keep Q2.out id
    rw [Below.heap_alloc _ _ _ (lt_of g)]
    exact g
  have K6 := Lib.hid k6
  have O3 := Lib.hid (O2.out.trans o3)
  clear o3 Q2 O2 c2 c3 k6
  go_wp2_with fail
  have HW := Lib.hid window_new
  go_region_with (go_at_call 28; (with_reducible refine (HW.out _).mono ?_); rintro e w4 ⟨rfl, hw4⟩; have c6 : w4.cell? ⟨w.heap.size, 0, none⟩ = some (.string ⟨#[97, 49]⟩) := (by rw [hw4]; exact cell_of K6.out); have c7 : w4.cell? ⟨w.heap.size, 1, none⟩ = some (.string ⟨#[97, 50]⟩) := (by rw [hw4]; exact cell_of K6.out); have H4 := Lib.hid hw4; clear hw4)
  all_goals
    go_wp2_with fail
    go_ret2
    have o4 : Only (fun _ => False) w w4 := by rw [H4.out]; exact O3.out.drew.alloc _
    exact ⟨w4.heap.size, rfl, o4.size, ⟨w3.heap.size, heap_alloc_new _ _⟩, o4.alloc _⟩

set_option maxRecDepth 100000 in
theorem fresh_any (l m : Int) (w : World) (h0 : 0 ≤ m) (h1 : m ≤ 1125899906842624) :
    Calls Try.prog 7 #[.int .u32 l, .int .i64 m] w fun e w' => ∃ b, e = .returned (.pointer (some ⟨b, 0, none⟩)) ∧ w.heap.size ≤ b ∧ PairAt w' b l m ∧ Only (fun _ => False) w w' := by
  go_enter Try.func7, Try.ntmps7
  go_wp2_with fail
  with_reducible refine (pair_new l m _ h0 h1).mono ?_
  rintro e w1 ⟨b, rfl, hb, hp, o⟩
  have HP := Lib.hid (And.intro hb (And.intro hp o))
  clear hb hp o
  go_wp2_with fail
  go_ret
  exact ⟨b, rfl, HP.out.1, HP.out.2.1, HP.out.2.2⟩
end Go.Proofs.Ythembojamiagoaa.sloA
