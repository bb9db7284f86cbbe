/- Contracts of roam.Address, roam.Where, and the law's own example: whatever whole numbers come, each returns what the document says and leaves memory as it was. Conditions: the ranges that each theorem names. -/
import Derived.Test.YtcocmabhbahiaaaProg
import Derived.WalkKit
import Derived.WalkSpells
namespace Go.Proofs.Ytcocmabhbahiaaa.roamW
open Go.RowKit

theorem addr_ok (h m : Int) (w : World) (h0 : 0 ≤ h) (h1 : h ≤ 7) (m0 : 0 ≤ m) (m1 : m ≤ 63) :
    Calls Try.prog 66 #[.int .i64 h, .int .i64 m] w fun e w' => e = .returned (.tuple #[.int .i64 (8 * m + h + 1), .int .i64 0]) ∧ w = w' := by
  go_enter Try.func66, Try.ntmps66
  go_wp2
  go_ret2
  exact ⟨rfl, rfl⟩

theorem addr_bad (h m : Int) (w : World) (hb : h < 0 ∨ 7 < h ∨ m < 0 ∨ 63 < m) :
    Calls Try.prog 66 #[.int .i64 h, .int .i64 m] w fun e w' => e = .returned (.tuple #[.int .i64 0, .int .i64 2]) ∧ w = w' := by
  by_cases a : h < 0
  · go_enter Try.func66, Try.ntmps66
    go_wp2
    go_ret2
    exact ⟨rfl, rfl⟩
  · by_cases b : 8 ≤ h
    · go_enter Try.func66, Try.ntmps66
      go_wp2
      go_ret2
      exact ⟨rfl, rfl⟩
    · by_cases c : m < 0
      · go_enter Try.func66, Try.ntmps66
        go_wp2
        go_ret2
        exact ⟨rfl, rfl⟩
      · have d : 64 ≤ m := by omega
        go_enter Try.func66, Try.ntmps66
        go_wp2
        go_ret2
        exact ⟨rfl, rfl⟩

theorem where_ok (a : Int) (w : World) (h0 : 1 ≤ a) (h1 : a ≤ 512) :
    Calls Try.prog 67 #[.int .i64 a] w fun e w' => e = .returned (.tuple #[.int .i64 ((a - 1) % 8), .int .i64 ((a - 1) / 8), .int .i64 0]) ∧ w = w' := by
  go_enter Try.func67, Try.ntmps67
  go_wp2
  go_ret3
  exact ⟨rfl, rfl⟩

theorem where_bad (a : Int) (w : World) (hb : a < 1 ∨ 512 < a) :
    Calls Try.prog 67 #[.int .i64 a] w fun e w' => e = .returned (.tuple #[.int .i64 0, .int .i64 0, .int .i64 2]) ∧ w = w' := by
  by_cases b : a < 1
  · go_enter Try.func67, Try.ntmps67
    go_wp2
    go_ret3
    exact ⟨rfl, rfl⟩
  · have c : 512 < a := by omega
    go_enter Try.func67, Try.ntmps67
    go_wp2
    go_ret3
    exact ⟨rfl, rfl⟩

theorem where_back (h m : Int) (w : World) (h0 : 0 ≤ h) (h1 : h ≤ 7) (m0 : 0 ≤ m) (m1 : m ≤ 63) :
    Calls Try.prog 67 #[.int .i64 (8 * m + h + 1)] w fun e w' => e = .returned (.tuple #[.int .i64 h, .int .i64 m, .int .i64 0]) ∧ w = w' := by
  have a : (8 * m + h + 1 - 1) % 8 = h := by omega
  have b : (8 * m + h + 1 - 1) / 8 = m := by omega
  have c := where_ok (8 * m + h + 1) w (by omega) (by omega)
  rwa [a, b] at c

theorem addr_back (a : Int) (w : World) (h0 : 1 ≤ a) (h1 : a ≤ 512) :
    Calls Try.prog 66 #[.int .i64 ((a - 1) % 8), .int .i64 ((a - 1) / 8)] w fun e w' => e = .returned (.tuple #[.int .i64 a, .int .i64 0]) ∧ w = w' := by
  have b : 8 * ((a - 1) / 8) + (a - 1) % 8 + 1 = a := by omega
  have c := addr_ok ((a - 1) % 8) ((a - 1) / 8) w (by omega) (by omega) (by omega) (by omega)
  rwa [b] at c

theorem awake_any (w : World) :
    Calls Try.prog 65 #[] w fun e w' => e = .returned (.bool true) ∧ w = w' := by
  go_enter Try.func65, Try.ntmps65
  go_wp2_with (go_at_call 66; refine (addr_ok _ _ _ (by omega) (by omega) (by omega) (by omega)).mono ?_; rintro e w' ⟨rfl, rfl⟩)
  go_ret
  exact ⟨rfl, rfl⟩
end Go.Proofs.Ytcocmabhbahiaaa.roamW
