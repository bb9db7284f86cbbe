/- Wire: the document's value. -/
import Derived.Test.YtbjnejnjlidiaaaWrS
namespace Go.Proofs.Ytbjnejnjlidiaaa.wsE
open Go.RowKit kit numA numB numC numD numE numF tmA tmD trA trB prR prS prW prX wrA wrB wrC wrD wrE wrF wrR wrS
set_option linter.unusedVariables false
set_option linter.unusedSimpArgs false

theorem vb_drop (l : Txt) (j : Nat) (h : j < l.length) : vb (l.drop j) = (l.getD j 0).toNat + 256 * vb (l.drop (j + 1)) := by
  rw [List.drop_eq_getElem_cons h, vb]
  simp [h]
set_option maxRecDepth 100000 in
theorem value_any (a : Option Addr) (c : Nat) (bs : Txt) (S : Nat → Prop) (w : World) (hs : Sl w S (.slice a bs.length c) (U8 bs)) (hn : bs.length ≤ 8) : Calls Try.prog 127 #[.slice a bs.length c] w (numA.Told w (.int .u64 (vb bs : Nat))) := by
  have HS := Lib.hid hs
  have HN := Lib.hid hn
  obtain ⟨N, hN⟩ : ∃ n, n = bs.length := ⟨_, rfl⟩
  rw [← hN] at HS HN ⊢
  have HNE := Lib.hid hN
  have w1 : wrap64 ((N : Int) - 1) = (N : Int) - 1 := IntWalk.wrap64_in _ (by have := HN.out; omega)
  clear hs hn hN
  go_enter Try.func127, Try.ntmps127
  go_wp2_with fail
  go_loopw [3, 4] (fun u i wr => ∃ j : Nat, i = .int .i64 ((j : Int) - 1) ∧ j ≤ N ∧ u = .int .u64 (vb (bs.drop j) : Nat) ∧ wr = w) (fun _ i _ => (Lib.intOf i + 1).toNat)
  case atStart => exact ⟨N, by rw [w1], Nat.le_refl _, by rw [List.drop_of_length_le (by rw [HNE.out]; exact Nat.le_refl _)]; rfl, rfl⟩
  case round =>
    obtain ⟨j, rfl, hj, rfl, rfl⟩ := hrel
    cases j with
    | succ j =>
      obtain ⟨g, q, rfl, x0⟩ := sl_u8 HS.out (show j < bs.length from by rw [← HNE.out]; exact hj)
      obtain ⟨b, hb⟩ : ∃ b : Nat, b = (bs.getD j 0).toNat := ⟨_, rfl⟩
      rw [← hb] at x0
      obtain ⟨u, hu⟩ : ∃ u : Nat, u = vb (bs.drop (j + 1)) := ⟨_, rfl⟩
      have HNX := Lib.hid (show vb (bs.drop j) = b + 256 * u from by rw [vb_drop _ _ (by rw [← HNE.out]; exact hj), hb, hu])
      have hlt : b + 256 * u < 18446744073709551616 := by
        rw [← HNX.out]
        have h := vb_lt (bs.drop j)
        have h3 : (256 : Nat) ^ (bs.drop j).length ≤ 256 ^ 8 := Nat.pow_le_pow_right (by decide) (by rw [List.length_drop, ← HNE.out]; have := HN.out; omega)
        have h4 : (256 : Nat) ^ 8 = 18446744073709551616 := by decide
        omega
      rw [← hu]
      have e0 : ((j + 1 : Nat) : Int) - 1 = (j : Int) := by omega
      rw [e0]
      have k0 : (0 : Int) ≤ (j : Int) := by omega
      have k0' : ((0 : Int) ≤ (j : Int)) = True := eq_true k0
      have k1 : (j : Int) < (N : Int) := by omega
      have k1' : ((j : Int) < (N : Int)) = True := eq_true k1
      have wj : wrap64 ((j : Int) - 1) = (j : Int) - 1 := IntWalk.wrap64_in _ (by have := HN.out; omega)
      have wa : IntKind.u64.wrap (256 * (u : Int)) = ((256 * u : Nat) : Int) := by rw [IntWalk.u64_in _ (by omega)]; omega
      have wb : IntKind.u64.wrap (b : Int) = (b : Int) := IntWalk.u64_in _ (by omega)
      have wc : IntKind.u64.wrap (((256 * u : Nat) : Int) + (b : Int)) = ((b + 256 * u : Nat) : Int) := by rw [IntWalk.u64_in _ (by omega)]; omega
      have WA := Lib.hid wa
      have WC := Lib.hid wc
      have HJ := Lib.hid hj
      clear hj hb hu hlt e0
      go_wp2_with fail
      go_roundw
      case rel =>
        refine ⟨j, by first | rfl | rw [wj], by have := HJ.out; omega, by rw [HNX.out, show (256 * (u : Int) + (b : Int)) = ((256 * u : Nat) : Int) + (b : Int) from by omega, WC.out], by trivial⟩
      case measure =>
        try rw [wj]
        try (simp only [Lib.intOf]; omega)
    | zero =>
      have e0 : ((0 : Nat) : Int) - 1 = -1 := by omega
      rw [e0]
      clear hj e0
      go_wp2_with fail
      go_ret
      exact ⟨rfl, Only.refl _ _⟩


end Go.Proofs.Ytbjnejnjlidiaaa.wsE
