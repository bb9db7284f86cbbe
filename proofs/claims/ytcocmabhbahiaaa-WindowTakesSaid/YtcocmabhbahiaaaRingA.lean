/- Contracts of the ring's small calls. -/
import Derived.Test.YtcocmabhbahiaaaProg
import Derived.WalkKit
import Derived.WalkSpells
import Derived.Deep.QuietTactic
import Derived.BigQuiet
import Derived.Lib.Hide
namespace Go.Proofs.Ytcocmabhbahiaaa.ringA
set_option linter.unusedVariables false
open Go.RowKit

/-- What a ring's two blocks hold. -/
structure At (w : World) (B R room first count : Nat) : Prop where
  row : w.cell? ⟨B, 0, none⟩ = some (.slice (some ⟨R, 0, none⟩) room room)
  first : w.cell? ⟨B, 1, none⟩ = some (.int .i64 first)
  count : w.cell? ⟨B, 2, none⟩ = some (.int .i64 count)

theorem place_any (B R room first ahead : Nat) (w : World) (h0 : w.cell? ⟨B, 0, none⟩ = some (.slice (some ⟨R, 0, none⟩) room room)) (hf : w.cell? ⟨B, 1, none⟩ = some (.int .i64 first))
    (r1 : 0 < room) (r2 : room ≤ 4096) (f2 : first ≤ 4096) (a2 : ahead ≤ 4096) :
    Calls Try.prog 79 #[.pointer (some ⟨B, 0, none⟩), .int .i64 ahead] w fun e w' => e = .returned (.int .i64 ((first + ahead) % room : Nat)) ∧ ∃ n, w' = w.drewN n := by
  have p1 : (0 : Int) < (room : Int) := by omega
  have p2 : ((room : Int) == 0) = false := by simp; omega
  go_enter Try.func79, Try.ntmps79
  go_wp2_with fail
  go_quiet (fail)
  go_wp2
  go_ret
  exact ⟨by simp, _, rfl⟩

theorem len_any (B count : Nat) (w : World) (h2 : w.cell? ⟨B, 2, none⟩ = some (.int .i64 count)) :
    Calls Try.prog 51 #[.pointer (some ⟨B, 0, none⟩)] w fun e w' => e = .returned (.int .i64 count) ∧ w = w' := by
  go_enter Try.func51, Try.ntmps51
  go_wp2
  go_ret
  exact ⟨rfl, rfl⟩

theorem room_any (B R room : Nat) (w : World) (h0 : w.cell? ⟨B, 0, none⟩ = some (.slice (some ⟨R, 0, none⟩) room room)) :
    Calls Try.prog 52 #[.pointer (some ⟨B, 0, none⟩)] w fun e w' => e = .returned (.int .i64 room) ∧ w = w' := by
  go_enter Try.func52, Try.ntmps52
  go_wp2
  go_ret
  exact ⟨rfl, rfl⟩

theorem take_any (B R room count p : Nat) (x : Int) (w : World) (h0 : w.cell? ⟨B, 0, none⟩ = some (.slice (some ⟨R, 0, none⟩) room room))
    (h2 : w.cell? ⟨B, 2, none⟩ = some (.int .i64 count)) (hx : w.cell? ⟨R, p, none⟩ = some (.int .u64 x)) (hp : p < room) (r2 : room ≤ 4096) (hc : 0 < count) (hc2 : count ≤ 4096)
    (fB : w.frozen? ⟨B, 2, none⟩ = false) (fR : w.frozen? ⟨R, p, none⟩ = false) (hBR : B ≠ R) :
    Calls Try.prog 80 #[.pointer (some ⟨B, 0, none⟩), .int .i64 p] w fun e w' => e = .returned (.int .u64 x) ∧ w' = (w.setCell ⟨R, p, none⟩ (.int .u64 0)).setCell ⟨B, 2, none⟩ (.int .i64 (count - 1 : Nat)) := by
  have p1 : ((p : Nat) : Int) < (room : Int) := by omega
  have hRB : R ≠ B := fun h => hBR h.symm
  have e1 : ((count - 1 : Nat) : Int) = (count : Int) - 1 := by omega
  rw [e1]
  clear e1
  go_enter Try.func80, Try.ntmps80
  go_wp2
  go_ret
  exact ⟨rfl, rfl⟩
end Go.Proofs.Ytcocmabhbahiaaa.ringA
