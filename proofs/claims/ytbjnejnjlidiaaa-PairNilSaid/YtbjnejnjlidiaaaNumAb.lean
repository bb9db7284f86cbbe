/- (more) Contracts of num's and its document's small calls: digits, and what is a number. -/
import Derived.WalkKit
import Derived.WalkSpells
import Derived.Laws.RangeString
import Derived.Laws.RangeAny
import Derived.LoopTactic
import Derived.Lib.Hide
import Derived.Outline
import Derived.Laws.IdiomStrings
import Derived.Deep.OwnRows
import Derived.Scope
import Derived.WalkLawsBesides
import Derived.Test.YtbjnejnjlidiaaaNumA
namespace Go.Proofs.Ytbjnejnjlidiaaa.numA
open Go.RowKit kit
set_option linter.unusedVariables false

end Go.Proofs.Ytbjnejnjlidiaaa.numA
namespace Go.Proofs.Ytbjnejnjlidiaaa.numB
open numA

end Go.Proofs.Ytbjnejnjlidiaaa.numB
namespace Go.Proofs.Ytbjnejnjlidiaaa.numC
open Go.RowKit kit numA numB
set_option linter.unusedVariables false

end Go.Proofs.Ytbjnejnjlidiaaa.numC
namespace Go.Proofs.Ytbjnejnjlidiaaa.numD
open Go.RowKit kit numA numB numC
set_option linter.unusedVariables false

end Go.Proofs.Ytbjnejnjlidiaaa.numD
namespace Go.Proofs.Ytbjnejnjlidiaaa.numE
open Go.RowKit kit numA
set_option linter.unusedVariables false

theorem unhex_odd (n : Nat) : ∀ l : List UInt8, l.length ≤ n → l.length % 2 = 0 → ∀ a, unhex (l ++ [a]) = unhex l := by
  induction n with
  | zero =>
    intro l hl _ a
    have : l = [] := List.eq_nil_of_length_eq_zero (by omega)
    subst this
    rfl
  | succ n ih =>
    intro l hl he a
    match l, hl, he with
    | [], _, _ => rfl
    | [c], _, he => simp at he
    | c :: d :: t, hl, he =>
      have := ih t (by simp at hl; omega) (by simp at he; omega) a
      show byte c d :: unhex (t ++ [a]) = _
      rw [this]
      rfl

theorem value_yes (c : UInt8) (w : World) (h : isHex c = true) : Calls Try.prog 164 #[.int .i32 (c.toNat : Int)] w fun e w' => e = .returned (.tuple #[.int .u8 (hvn c : Nat), .bool true]) ∧ w = w' := by
  simp only [isHex, Bool.or_eq_true, Bool.and_eq_true, decide_eq_true_eq] at h
  by_cases q : c.toNat ≤ 57
  · have e1 : ((hvn c : Nat) : Int) = (c.toNat : Int) - 48 := by simp only [hvn, if_pos q]; omega
    rw [e1]
    generalize c.toNat = n at *
    have h1 : (48 : Int) ≤ (n : Int) := by omega
    have h2 : (n : Int) ≤ 57 := by omega
    clear h q e1
    go_enter Try.func164, Try.ntmps164
    go_wp2
    go_ret2
    exact ⟨rfl, rfl⟩
  · have e1 : ((hvn c : Nat) : Int) = (c.toNat : Int) - 97 + 10 := by simp only [hvn, if_neg q]; omega
    rw [e1]
    generalize c.toNat = n at *
    have h1 : (97 : Int) ≤ (n : Int) := by omega
    have h2 : (n : Int) ≤ 102 := by omega
    clear h q e1
    go_enter Try.func164, Try.ntmps164
    go_wp2
    go_ret2
    exact ⟨rfl, rfl⟩

theorem value_no (r : Int) (w : World) (h0 : 0 ≤ r) (h : r < 48 ∨ (57 < r ∧ r < 97) ∨ 102 < r) : Calls Try.prog 164 #[.int .i32 r] w fun e w' => e = .returned (.tuple #[.int .u8 0, .bool false]) ∧ w = w' := by
  rcases h with h | ⟨h, h'⟩ | h
  · go_enter Try.func164, Try.ntmps164
    go_wp2
    go_ret2
    exact ⟨rfl, rfl⟩
  · have q : ¬ r ≤ 57 := by omega
    have q' : ¬ 97 ≤ r := by omega
    have q2 : 48 ≤ r := by omega
    go_enter Try.func164, Try.ntmps164
    go_wp2
    go_ret2
    exact ⟨rfl, rfl⟩
  · have q : ¬ r ≤ 57 := by omega
    have q' : ¬ r ≤ 102 := by omega
    have q2 : 48 ≤ r := by omega
    have q3 : 97 ≤ r := by omega
    go_enter Try.func164, Try.ntmps164
    go_wp2
    go_ret2
    exact ⟨rfl, rfl⟩

end Go.Proofs.Ytbjnejnjlidiaaa.numE

