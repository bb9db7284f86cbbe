/- Contracts of the ring's document's answers (Same, Push). -/
import Derived.Test.YtcocmabhbahiaaaRingE
import Derived.Laws.AppendOwnNone
namespace Go.Proofs.Ytcocmabhbahiaaa.ringF
open Go.RowKit Go.Proofs.Ytcocmabhbahiaaa.kit Go.Proofs.Ytcocmabhbahiaaa.ringB
set_option linter.unusedVariables false

def U (xs : List Int) : List Value := xs.map (.int .u64)

theorem U_get (xs : List Int) (i : Nat) (h : i < xs.length) : (U xs).getD i undef = .int .u64 (xs.getD i 0) := by
  simp [U, h]

theorem same_true (S T : Nat → Prop) (a b : Value) (xs : List Int) (w : World) (ha : Lst w 23 S a (U xs)) (hb : Lst w 23 T b (U xs)) :
    Calls Try.prog 53 #[a, b] w fun e w' => e = .returned (.bool true) ∧ ∃ n, w' = w.drewN n := by
  rcases xs.eq_nil_or_concat with rfl | hne
  · obtain ⟨ga, hga⟩ : ∃ (x : Option Addr × Nat), a = .slice x.1 0 x.2 := by
      rcases ha with ⟨h, -⟩ | ⟨g, o, cap, h, -⟩
      · exact ⟨(none, 0), h⟩
      · exact ⟨(some ⟨g, o, none⟩, cap), by simpa [U] using h⟩
    obtain ⟨gb, hgb⟩ : ∃ (x : Option Addr × Nat), b = .slice x.1 0 x.2 := by
      rcases hb with ⟨h, -⟩ | ⟨g, o, cap, h, -⟩
      · exact ⟨(none, 0), h⟩
      · exact ⟨(some ⟨g, o, none⟩, cap), by simpa [U] using h⟩
    subst hga hgb
    clear ha hb
    go_enter Try.func53, Try.ntmps53
    go_wp2_with fail
    go_loop [5] (fun i => i = .int .i64 0) (fun _ => 0)
    case atStart => rfl
    case round =>
      subst hrel
      go_wp2_with fail
      go_ret
      exact ⟨rfl, 0, rfl⟩
  · have hl : 0 < xs.length := by obtain ⟨l, x, rfl⟩ := hne; simp
    clear hne
    have hUl : (U xs).length = xs.length := by simp [U]
    obtain ⟨g, o, cap, rfl, hm⟩ : ∃ g o cap, a = .slice (some ⟨g, o, none⟩) xs.length cap ∧ xs.length ≤ maxLen := by
      rcases ha with ⟨-, h⟩ | ⟨g, o, cap, h, _, h3, h4, _⟩
      · rw [h] at hUl; simp at hUl; omega
      · exact ⟨g, o, cap, by rw [h, hUl], by omega⟩
    obtain ⟨g', o', cap', rfl⟩ : ∃ g o cap, b = .slice (some ⟨g, o, none⟩) xs.length cap := by
      rcases hb with ⟨-, h⟩ | ⟨g, o, cap, h, _, h3, h4, _⟩
      · rw [h] at hUl; simp at hUl; omega
      · exact ⟨g, o, cap, by rw [h, hUl]⟩
    have ca : ∀ i, i < xs.length → w.cell? ⟨g, o + i, none⟩ = some (.int .u64 (xs.getD i 0)) := fun i hi => by rw [ha.cell (by omega), U_get xs i hi]
    have cb : ∀ i, i < xs.length → w.cell? ⟨g', o' + i, none⟩ = some (.int .u64 (xs.getD i 0)) := fun i hi => by rw [hb.cell (by omega), U_get xs i hi]
    have CA := Lib.hid ca
    have CB := Lib.hid cb
    unfold maxLen at hm
    clear ha hb ca cb hUl
    go_enter Try.func53, Try.ntmps53
    go_wp2_with fail
    go_loopw [5] (fun i wr => ∃ k n : Nat, k ≤ xs.length ∧ i = .int .i64 k ∧ wr = w.drewN n) (fun i _ => xs.length - (intOf i).toNat)
    case atStart => exact ⟨0, 0, Nat.zero_le _, rfl, rfl⟩
    case round =>
      obtain ⟨k, n, hk, rfl, rfl⟩ := hrel
      by_cases hlt : k < xs.length
      · have c1 := CA.out k hlt
        have c2 := CB.out k hlt
        have k0 : (0 : Int) ≤ (k : Int) := by omega
        have k1 : (k : Int) < (xs.length : Int) := by omega
        obtain ⟨x, hx⟩ : ∃ x, x = xs.getD k 0 := ⟨_, rfl⟩
        rw [← hx] at c1 c2
        clear hx
        have hne : (x != x) = false := by simp
        go_wp2_with fail
        go_quiet (fail)
        go_wp2
        go_roundw
        case rel => exact ⟨k + 1, n + nq, by omega, by go_num, by simp⟩
        case measure => simp [intOf]; omega
      · have : k = xs.length := by omega
        subst this
        go_wp2_with fail
        go_ret
        exact ⟨rfl, n, rfl⟩
end Go.Proofs.Ytcocmabhbahiaaa.ringF
