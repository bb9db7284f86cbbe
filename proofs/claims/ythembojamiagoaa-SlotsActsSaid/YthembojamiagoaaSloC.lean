/- The slots: a pair's answers, Find, Newest, Usable, Erase. -/
import Derived.Test.YthembojamiagoaaSloB
import Derived.LoopN
namespace Go.Proofs.Ythembojamiagoaa.sloC
open Go.RowKit Go.Proofs.Ythembojamiagoaa.kit Go.Proofs.Ythembojamiagoaa.numA Go.Proofs.Ythembojamiagoaa.numB Go.Proofs.Ythembojamiagoaa.sloA Go.Proofs.Ythembojamiagoaa.sloB
set_option linter.unusedVariables false
set_option linter.unusedSimpArgs false

theorem ord0 (w : World) : (Instr.index 62 (.agg #[.int .i64 2, .int .i64 3, .int .i64 1]) (.int .i64 0)).run Try.prog w = .ok (.int .i64 2) w := rfl
theorem ord1 (w : World) : (Instr.index 62 (.agg #[.int .i64 2, .int .i64 3, .int .i64 1]) (.int .i64 1)).run Try.prog w = .ok (.int .i64 3) w := rfl
theorem ord2 (w : World) : (Instr.index 62 (.agg #[.int .i64 2, .int .i64 3, .int .i64 1]) (.int .i64 2)).run Try.prog w = .ok (.int .i64 1) w := rfl
theorem slot0 (p0 p1 p2 p3 : Option Addr) (w : World) : (Instr.index 50 (.agg #[.pointer p0, .pointer p1, .pointer p2, .pointer p3]) (.int .i64 0)).run Try.prog w = .ok (.pointer p0) w := rfl
theorem slot1 (p0 p1 p2 p3 : Option Addr) (w : World) : (Instr.index 50 (.agg #[.pointer p0, .pointer p1, .pointer p2, .pointer p3]) (.int .i64 1)).run Try.prog w = .ok (.pointer p1) w := rfl
theorem slot2 (p0 p1 p2 p3 : Option Addr) (w : World) : (Instr.index 50 (.agg #[.pointer p0, .pointer p1, .pointer p2, .pointer p3]) (.int .i64 2)).run Try.prog w = .ok (.pointer p2) w := rfl
theorem slot3 (p0 p1 p2 p3 : Option Addr) (w : World) : (Instr.index 50 (.agg #[.pointer p0, .pointer p1, .pointer p2, .pointer p3]) (.int .i64 3)).run Try.prog w = .ok (.pointer p3) w := rfl

theorem local_any (b : Nat) (l m : Int) (w : World) (h : PairAt w b l m) : Calls Try.prog 23 #[.pointer (some ⟨b, 0, none⟩)] w fun e w' => e = .returned (.int .u32 l) ∧ Only (fun _ => False) w w' := by
  obtain ⟨c, h⟩ := h
  have c2 : w.cell? ⟨b, 2, none⟩ = some (.int .u32 l) := cell_of h
  clear h
  go_enter Try.func23, Try.ntmps23
  go_wp2_with fail
  go_ret
  exact ⟨rfl, by only_close⟩

theorem made_any (b : Nat) (l m : Int) (w : World) (h : PairAt w b l m) : Calls Try.prog 24 #[.pointer (some ⟨b, 0, none⟩)] w fun e w' => e = .returned (.int .i64 m) ∧ Only (fun _ => False) w w' := by
  obtain ⟨c, h⟩ := h
  have c2 : w.cell? ⟨b, 5, none⟩ = some (.int .i64 m) := cell_of h
  clear h
  go_enter Try.func24, Try.ntmps24
  go_wp2_with fail
  go_ret
  exact ⟨rfl, by only_close⟩

theorem fresh_none (now : Int) (w : World) : Calls Try.prog 25 #[.pointer none, .int .i64 now] w fun e w' => e = .returned (.bool false) ∧ Only (fun _ => False) w w' := by
  go_enter Try.func25, Try.ntmps25
  go_wp2_with fail
  go_ret
  exact ⟨rfl, by only_close⟩

theorem usable_nil (now : Int) (w : World) : Calls Try.prog 20 #[.pointer none, .int .i64 now] w fun e w' => e = .returned (.pointer none) ∧ Only (fun _ => False) w w' := by
  have T := Lib.hid (at_nil 2)
  have T2 := Lib.hid (fresh_none now)
  go_enter Try.func20, Try.ntmps20
  go_wp2_with fail
  with_reducible refine (T.out _).mono ?_
  rintro e w1 ⟨rfl, o⟩
  have O := Lib.hid o
  clear o
  go_wp2_with fail
  with_reducible refine (T2.out _).mono ?_
  rintro e w2 ⟨rfl, o⟩
  have O2 := Lib.hid (O.out.trans o)
  clear o
  go_wp2_with fail
  go_ret
  exact ⟨rfl, O2.out⟩

theorem erase_nil (w : World) : Calls Try.prog 13 #[.pointer none] w fun e w' => e = .returned (.int .i64 0) ∧ Only (fun _ => False) w w' := by
  go_enter Try.func13, Try.ntmps13
  go_wp2_with fail
  go_ret
  exact ⟨rfl, by only_close⟩

theorem find_nil (l : Int) (w : World) : Calls Try.prog 18 #[.pointer none, .int .u32 l] w fun e w' => e = .returned (.tuple #[.pointer none, .int .i64 0]) ∧ Only (fun _ => False) w w' := by
  have T := Lib.hid at_nil
  have i0 := ord0
  have i1 := ord1
  have i2 := ord2
  go_enter Try.func18, Try.ntmps18
  go_wp2_with fail
  refine wp_loop_rounds 4 ?_
  rw [rounds_succ]
  go_wp2_with fail
  with_reducible refine (T.out _ _).mono ?_
  rintro e w1 ⟨rfl, o⟩
  have O1 := Lib.hid (o)
  clear o
  go_wp2_with fail
  rw [rounds_succ]
  go_wp2_with fail
  with_reducible refine (T.out _ _).mono ?_
  rintro e w2 ⟨rfl, o⟩
  have O2 := Lib.hid (O1.out.trans o)
  clear o
  go_wp2_with fail
  rw [rounds_succ]
  go_wp2_with fail
  with_reducible refine (T.out _ _).mono ?_
  rintro e w3 ⟨rfl, o⟩
  have O3 := Lib.hid (O2.out.trans o)
  clear o
  go_wp2_with fail
  rw [rounds_succ]
  go_wp2_with fail
  go_ret2
  exact ⟨rfl, O3.out⟩

theorem newest_nil (w : World) : Calls Try.prog 19 #[.pointer none] w fun e w' => e = .returned (.tuple #[.int .i64 0, .bool false]) ∧ Only (fun _ => False) w w' := by
  have T := Lib.hid at_nil
  go_enter Try.func19, Try.ntmps19
  go_wp2_with fail
  refine wp_loop_rounds 4 ?_
  rw [rounds_succ]
  go_wp2_with fail
  with_reducible refine (T.out _ _).mono ?_
  rintro e w1 ⟨rfl, o⟩
  have O1 := Lib.hid (o)
  clear o
  go_wp2_with fail
  rw [rounds_succ]
  go_wp2_with fail
  with_reducible refine (T.out _ _).mono ?_
  rintro e w2 ⟨rfl, o⟩
  have O2 := Lib.hid (O1.out.trans o)
  clear o
  go_wp2_with fail
  rw [rounds_succ]
  go_wp2_with fail
  with_reducible refine (T.out _ _).mono ?_
  rintro e w3 ⟨rfl, o⟩
  have O3 := Lib.hid (O2.out.trans o)
  clear o
  go_wp2_with fail
  rw [rounds_succ]
  go_wp2_with fail
  go_ret2
  exact ⟨rfl, O3.out⟩
end Go.Proofs.Ythembojamiagoaa.sloC
