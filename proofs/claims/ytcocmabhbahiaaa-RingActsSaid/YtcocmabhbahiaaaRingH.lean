/- The ring's example, and the ring that isn't there. -/
import Derived.Test.YtcocmabhbahiaaaRingG
namespace Go.Proofs.Ytcocmabhbahiaaa.ringH
open Go.RowKit Go.Proofs.Ytcocmabhbahiaaa.kit Go.Proofs.Ytcocmabhbahiaaa.ringB Go.Proofs.Ytcocmabhbahiaaa.ringF
set_option linter.unusedVariables false

def Yes (w : World) (e : Ending) (w' : World) : Prop := e = .returned (.bool true) ∧ Only (fun _ => False) w w'

theorem Only.since {S : Nat → Prop} {a b c : World} (h : Only (fun _ => False) a b) (k : Only S b c) (d : ∀ j, S j → a.heap.size ≤ j) : Only (fun _ => False) a c :=
  ⟨k.os.trans h.os, k.tape.trans h.tape, k.output.trans h.output, Nat.le_trans h.size k.size, fun i hi _ => (k.block i (Nat.lt_of_lt_of_le hi h.size) fun s => by have := d i s; omega).trans (h.block i hi id)⟩

set_option maxRecDepth 100000 in
theorem awake_any (w : World) : Calls Try.prog 44 #[] w (Yes w) := by
  have N := ringD.new_ok 2 w (by omega) (by omega)
  go_enter Try.func44, Try.ntmps44
  go_wp2_with fail
  refine N.mono ?_
  rintro e w1 ⟨rfl, r1, o1, z1⟩
  have P1 := ringC.push_room _ _ _ _ 1 [] w1 r1 (by simp)
  clear r1
  go_wp2_with fail
  refine P1.mono ?_
  rintro e w2 ⟨rfl, r2, o2⟩
  have P2 := ringC.push_room _ _ _ _ 2 _ w2 r2 (by simp)
  clear r2
  go_wp2_with fail
  refine P2.mono ?_
  rintro e w3 ⟨rfl, r3, o3⟩
  have P3 := ringC.push_full _ _ _ _ 3 1 [2] w3 r3 (by simp)
  clear r3
  go_wp2_with fail
  refine P3.mono ?_
  rintro e w4 ⟨rfl, r4, o4⟩
  have P4 := ringE.all_any _ _ _ _ _ w4 r4
  clear r4
  have h2 : ∀ j, S2 (w.heap.size + 1) w.heap.size j → w.heap.size ≤ j := by intro j hj; rcases hj with rfl | rfl <;> omega
  have O4 := Only.since (Only.since (Only.since o1 o2 h2) o3 h2) o4 h2
  clear o1 o2 o3 o4 h2 z1
  go_wp2_with fail
  refine P4.mono ?_
  rintro e w5 ⟨v, rfl, hv, o5⟩
  have L1 := (Lst.of_owns hv).keep (w' := w5.alloc (.cells #[.int .u64 2, .int .u64 3] 23)) ((Only.refl (fun _ => False) w5).alloc _) (fun _ _ => id)
  have L2 : Lst (w5.alloc (.cells #[.int .u64 2, .int .u64 3] 23)) 23 (fun _ => True) (.slice (some ⟨w5.heap.size, 0, none⟩) 2 2) (U [2, 3]) :=
    .inr ⟨w5.heap.size, 0, 2, rfl, trivial, by simp [U], by decide, _, _, heap_alloc_new w5 _, by simp, fun i hi => by
      match i, hi with
      | 0, _ => rfl
      | 1, _ => rfl⟩
  have O5 := O4.trans o5
  clear O4 o5 hv
  have HS := ringF.same_true _ _ _ _ [2, 3] _ L1 L2
  clear L1 L2
  go_wp2_with fail
  refine HS.mono ?_
  rintro e w6 ⟨rfl, n, rfl⟩
  go_wp2_with fail
  go_ret
  exact ⟨rfl, (O5.alloc _).drewN n⟩

theorem push_nil (x : Int) (w : World) : Calls Try.prog 47 #[.pointer none, .int .u64 x] w fun e w' => e = .returned (.tuple #[.int .u64 0, .bool false]) ∧ w = w' := by
  go_enter Try.func47, Try.ntmps47
  go_wp2
  go_ret2
  exact ⟨rfl, rfl⟩

theorem len_nil (w : World) : Calls Try.prog 51 #[.pointer none] w fun e w' => e = .returned (.int .i64 0) ∧ w = w' := by
  go_enter Try.func51, Try.ntmps51
  go_wp2
  go_ret
  exact ⟨rfl, rfl⟩

theorem room_nil (w : World) : Calls Try.prog 52 #[.pointer none] w fun e w' => e = .returned (.int .i64 0) ∧ w = w' := by
  go_enter Try.func52, Try.ntmps52
  go_wp2
  go_ret
  exact ⟨rfl, rfl⟩

theorem pop_nil (w : World) : Calls Try.prog 48 #[.pointer none] w fun e w' => e = .returned (.tuple #[.int .u64 0, .bool false]) ∧ w = w' := by
  go_enter Try.func48, Try.ntmps48
  go_wp2_with (go_at_call 51; (with_reducible refine (len_nil _).mono ?_); rintro e w' ⟨rfl, rfl⟩)
  go_ret2
  exact ⟨rfl, rfl⟩

theorem back_nil (w : World) : Calls Try.prog 49 #[.pointer none] w fun e w' => e = .returned (.tuple #[.int .u64 0, .bool false]) ∧ w = w' := by
  go_enter Try.func49, Try.ntmps49
  go_wp2_with (go_at_call 51; (with_reducible refine (len_nil _).mono ?_); rintro e w' ⟨rfl, rfl⟩)
  go_ret2
  exact ⟨rfl, rfl⟩

theorem all_nil (w : World) : Calls Try.prog 54 #[.pointer none] w fun e w' => e = .returned (.slice none 0 0) ∧ w = w' := by
  go_enter Try.func54, Try.ntmps54
  go_wp2_with (go_at_call 51; (with_reducible refine (len_nil _).mono ?_); rintro e w' ⟨rfl, rfl⟩)
  go_loop [3, 4, 7] (fun v _ i => v = .slice none 0 0 ∧ i = .int .i64 0) (fun _ _ _ => 0)
  case atStart => exact ⟨rfl, rfl⟩
  case round =>
    obtain ⟨rfl, rfl⟩ := hrel
    go_wp2_with fail
    go_ret
    exact ⟨rfl, rfl⟩

theorem clear_nil (w : World) : Calls Try.prog 50 #[.pointer none] w fun e w' => e = .returned (.int .i64 0) ∧ w = w' := by
  go_enter Try.func50, Try.ntmps50
  go_wp2_with (go_at_call 51; (with_reducible refine (len_nil _).mono ?_); rintro e w' ⟨rfl, rfl⟩)
  go_loop [7] (fun i => i = .int .i64 0) (fun _ => 0)
  case atStart => rfl
  case round =>
    subst hrel
    go_wp2_with fail
    go_ret
    exact ⟨rfl, rfl⟩
end Go.Proofs.Ytcocmabhbahiaaa.ringH
