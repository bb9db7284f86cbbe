/- The window: Missing. -/
import Derived.Test.YtcocmabhbahiaaaWinC
import Derived.ScopeJumps
namespace Go.Proofs.Ytcocmabhbahiaaa.winD
open Go.RowKit Go.Lib Go.Proofs.Ytcocmabhbahiaaa.kit Go.Proofs.Ytcocmabhbahiaaa.numA Go.Proofs.Ytcocmabhbahiaaa.winA Go.Proofs.Ytcocmabhbahiaaa.winB Go.Proofs.Ytcocmabhbahiaaa.winC
set_option linter.unusedVariables false
set_option linter.unusedSimpArgs false

set_option maxRecDepth 100000 in
theorem missing_none (B : Nat) (bs : Nat → Nat) (top : Nat) (w : World) (h : Win w B bs top false) :
    Calls Try.prog 42 #[.pointer (some ⟨B, 0, none⟩)] w fun e w' => e = .returned (.int .i64 0) ∧ Only (fun _ => False) w w' := by
  have ha : w.cell? ⟨B, 34, none⟩ = some (.bool false) := (cell_of h.block).trans arr_any
  clear h
  go_enter Try.func42, Try.ntmps42
  go_wp2_with fail
  go_step3
  go_wp2_with fail
  simp only [Exit.noGoto]
  go_ret
  exact ⟨rfl, Only.refl _ _⟩

theorem win_keep {w W : World} {B top : Nat} {bs : Nat → Nat} {any : Bool} (h : Win w B bs top any) {S : Nat → Prop} (o : Only S w W) (hs : ¬ S B) : Win W B bs top any := ⟨o.keep h.block hs, h.top_lt, h.lt⟩

theorem miss_le (bs : Nat → Nat) (top n : Nat) : miss bs top n ≤ n := cnt_le _ _

def ANS (w : World) (n : Nat) (e : Ending) (w' : World) : Prop := e = .returned (.int .i64 (n : Nat)) ∧ Only (fun _ => False) w w'

set_option maxRecDepth 100000 in
set_option maxHeartbeats 1000000 in
theorem missing_any (B : Nat) (bs : Nat → Nat) (top : Nat) (w : World) (h : Win w B bs top true) :
    Calls Try.prog 42 #[.pointer (some ⟨B, 0, none⟩)] w (ANS w (miss bs top (min top 2047 + 1))) := by
  have ha : w.cell? ⟨B, 34, none⟩ = some (.bool true) := (cell_of h.block).trans arr_any
  have ht : w.cell? ⟨B, 33, none⟩ = some (.int .u64 top) := (cell_of h.block).trans arr_top
  obtain ⟨L, hL⟩ : ∃ L, L = min top 2047 := ⟨_, rfl⟩
  have f1 : (if (2047 : Int) < (top : Int) then (2047 : Int) else (top : Int)) = (L : Int) := by rw [hL]; split <;> omega
  have hl : L ≤ top ∧ L ≤ 2047 ∧ top < 18446744073709551616 := by have := h.top_lt; omega
  rw [← hL]
  clear hL
  have HW := Lib.hid h
  have HL := Lib.hid hl
  clear h hl
  have T0 := Lib.hid (fun (W : World) (o : Only (fun _ => False) w W) => took_any B top bs top true W HW.out.top_lt (win_keep HW.out o id))
  have em : miss bs top 1 = if (!(bs (top / 64 % 33)).testBit (top % 64)) = true then 1 else 0 := by simp [miss, cnt]
  generalize (bs (top / 64 % 33)).testBit (top % 64) = r at T0 em
  have EM := Lib.hid em
  clear em
  go_enter Try.func42, Try.ntmps42
  go_wp2_with fail
  refine wp_scope_jumps 0 (fun a' w' => Only (fun _ => False) w w' ∧ ∃ (j : Nat) (m l c : Int) (u6 u7 u8 u9 u10 u11 u12 u13 u14 u15 u16 u17 u18 u19 u20 u21 u22 u23 u24 u25 u26 u27 u28 u29 u30 u31 u32 u33 u34 u35 : Value), a' = { tmps := #[.pointer (some ⟨B, 0, none⟩), undef, .int .i64 0, .int .i64 m, .int .u64 l, .int .u64 c, u6, u7, u8, u9, u10, u11, u12, u13, u14, u15, u16, u17, u18, u19, u20, u21, u22, u23, u24, u25, u26, u27, u28, u29, u30, u31, u32, u33, u34, u35, undef], defers := [] } ∧ j + 1 ≤ L ∧ m = ((miss bs top (j + 1) : Nat) : Int) ∧ l = ((L - (j + 1) : Nat) : Int) ∧ c = ((top - (j + 1) : Nat) : Int)) (fun a' w' => (intOf (a'.tmps.getD 4 undef)).toNat) rfl ?_ ?_
  · by_cases h0 : 0 < L
    · have p1 : (0 : Int) < (L : Int) := by omega
      have p2 : IntKind.u64.wrap ((top : Int) - 1) = (top : Int) - 1 := by
        have := HL.out
        exact IntWalk.u64_in _ (by omega)
      have P0 := Lib.hid h0
      clear h0
      cases r
      all_goals
        go_wp2_with fail
        go_region
        all_goals
          go_wp2_with fail
          go_step3
          go_wp2_with fail
          refine (T0.out _ (by (repeat (first | (with_reducible refine Only.drew ?_) | (with_reducible exact Only.refl _ _))))).mono ?_
          rintro e w1 ⟨rfl, rfl⟩
          go_wp2_with fail
          go_step3
          have q1 := HL.out
          have q2 := P0.out
          have q3 := EM.out
          simp at q3
          refine ⟨rfl, (by (repeat (first | (with_reducible refine Only.drew ?_) | (with_reducible exact Only.refl _ _)))), 0, _, _, _, _, _, _, _, _, _, _, _, _, _, _, _, _, _, _, _, _, _, _, _, _, _, _, _, _, _, _, _, _, _, rfl, by omega, by rw [q3]; rfl, by omega, by omega⟩
    · have p1 : ¬ (0 : Int) < (L : Int) := by omega
      have e0 : L = 0 := by omega
      have P0 := Lib.hid e0
      clear h0 e0
      cases r
      all_goals
        go_wp2_with fail
        go_region
        all_goals
          go_wp2_with fail
          go_step3
          go_wp2_with fail
          refine (T0.out _ (by (repeat (first | (with_reducible refine Only.drew ?_) | (with_reducible exact Only.refl _ _))))).mono ?_
          rintro e w1 ⟨rfl, rfl⟩
          go_wp2_with fail
          simp only [Exit.jump]
          go_ret
          have q2 := P0.out
          have q3 := EM.out
          simp at q3
          refine ⟨?_, (by (repeat (first | (with_reducible refine Only.drew ?_) | (with_reducible exact Only.refl _ _))))⟩
          rw [q2, q3]
          rfl
  · rintro a' w' ⟨o, j, m, l, c, u6, u7, u8, u9, u10, u11, u12, u13, u14, u15, u16, u17, u18, u19, u20, u21, u22, u23, u24, u25, u26, u27, u28, u29, u30, u31, u32, u33, u34, u35, rfl, hj, rfl, rfl, rfl⟩
    have hl := HL.out
    have em : miss bs top (j + 1 + 1) = miss bs top (j + 1) + if (!(bs ((top - (j + 1)) / 64 % 33)).testBit ((top - (j + 1)) % 64)) = true then 1 else 0 := rfl
    have T := took_any B (top - (j + 1)) bs top true w' (by omega) (win_keep HW.out o id)
    have hm := miss_le bs top (j + 1)
    obtain ⟨r2, hr2⟩ : ∃ r2, r2 = (bs ((top - (j + 1)) / 64 % 33)).testBit ((top - (j + 1)) % 64) := ⟨_, rfl⟩
    rw [← hr2] at em T
    have EM2 := Lib.hid em
    obtain ⟨M, hM⟩ : ∃ M, M = miss bs top (j + 1) := ⟨_, rfl⟩
    obtain ⟨C, hC⟩ : ∃ C, C = top - (j + 1) := ⟨_, rfl⟩
    obtain ⟨l, hl2⟩ : ∃ l, l = L - (j + 1) := ⟨_, rfl⟩
    rw [← hM] at hm ⊢
    rw [← hC] at T ⊢
    rw [← hl2]
    have HM := Lib.hid hM
    have HC := Lib.hid hC
    have Hl := Lib.hid hl2
    have HO := Lib.hid o
    have HJ := Lib.hid hj
    have HT := Lib.hid T
    have m1 : IntKind.i64.wrap ((M : Int) + 1) = (M : Int) + 1 := IntWalk.i64_in _ (by omega)
    by_cases h0 : 0 < l
    · have p1 : (0 : Int) < (l : Int) := by omega
      have p2 : IntKind.u64.wrap ((C : Int) - 1) = (C : Int) - 1 := IntWalk.u64_in _ (by omega)
      have p3 : IntKind.u64.wrap ((l : Int) - 1) = (l : Int) - 1 := IntWalk.u64_in _ (by omega)
      have P0 := Lib.hid h0
      clear h0 hl em T hm hr2 hM hC hl2 o hj
      cases r2
      all_goals
        go_wp2_with fail
        refine HT.out.mono ?_
        rintro e w1 ⟨rfl, rfl⟩
        go_wp2_with fail
        go_step3
        have q1 := HL.out
        have q2 := P0.out
        have q3 := EM2.out
        have q4 := HM.out
        have q5 := HC.out
        have q6 := Hl.out
        have q7 := HJ.out
        simp at q3
        refine ⟨rfl, ⟨HO.out, j + 1, _, _, _, _, _, _, _, _, _, _, _, _, _, _, _, _, _, _, _, _, _, _, _, _, _, _, _, _, _, _, _, _, _, rfl, by omega, by omega, by omega, by omega⟩, ?_⟩
        simp [intOf]
        omega
    · have p1 : ¬ (0 : Int) < (l : Int) := by omega
      have e0 : L = j + 1 := by omega
      have P0 := Lib.hid e0
      clear h0 e0 hl em T hm hr2 hM hC hl2 o hj
      cases r2
      all_goals
        go_wp2_with fail
        refine HT.out.mono ?_
        rintro e w1 ⟨rfl, rfl⟩
        go_wp2_with fail
        simp only [Exit.jump]
        go_ret
        have q2 := P0.out
        have q3 := EM2.out
        have q4 := HM.out
        simp at q3
        refine ⟨?_, HO.out⟩
        rw [q2, q3, ← q4]
        rfl
end Go.Proofs.Ytcocmabhbahiaaa.winD
