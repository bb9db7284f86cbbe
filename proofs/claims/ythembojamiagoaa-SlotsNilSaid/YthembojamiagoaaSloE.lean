/- SlotsNil's walk. -/
import Derived.Test.YthembojamiagoaaSloD
namespace Go.Proofs.Ythembojamiagoaa.sloE
open Go.RowKit Go.Proofs.Ythembojamiagoaa.kit Go.Proofs.Ythembojamiagoaa.sloA Go.Proofs.Ythembojamiagoaa.sloB Go.Proofs.Ythembojamiagoaa.sloC Go.Proofs.Ythembojamiagoaa.sloD
set_option linter.unusedVariables false
set_option linter.unusedSimpArgs false

set_option maxRecDepth 100000 in
set_option maxHeartbeats 1000000 in
theorem nil_walk (l : Int) (hl : (Lit.int .u32 l).wf = true) (now : Int) (hn : (Lit.int .i64 now).wf = true) (k : Int) (hk : (Lit.int .i64 k).wf = true) (w : World) : Calls Try.prog 4 #[.int .u32 l, .int .i64 now, .int .i64 k] w fun e w' => e = .returned (.bool true) ∧ Below w.heap.size w w' := by
  clear hl hn hk
  have HA := Lib.hid awake_true
  have HF := Lib.hid (fresh_any l 5)
  have HFi := Lib.hid (find_nil l)
  have HNe := Lib.hid newest_nil
  have HN := Lib.hid new_any
  have HAt := Lib.hid (at_nil k)
  have HB := Lib.hid begun_nil
  have HH := Lib.hid heard_nil
  have HC := Lib.hid confirm_nil
  have HU := Lib.hid (usable_nil now)
  have HE := Lib.hid erase_nil
  have HBn := Lib.hid begun_none
  have HHn := Lib.hid heard_none
  have HCn := Lib.hid confirm_none
  have HEa := Lib.hid erase_any
  go_enter Try.func4, Try.ntmps4
  go_wp2_with fail
  with_reducible refine (HA.out _).mono ?_
  rintro e w1 ⟨rfl, o⟩
  have O1 := Lib.hid o
  clear o
  go_wp2_with fail
  with_reducible refine Calls.mono (HF.out _ (by omega) (by omega)) ?_
  rintro e w2 ⟨a, rfl, hb, hp, o⟩
  have O2 := Lib.hid (O1.out.trans o)
  clear hb hp o O1
  go_wp2_with fail
  with_reducible refine (HFi.out _).mono ?_
  rintro e w3 ⟨rfl, o⟩
  have O3 := Lib.hid (O2.out.trans o)
  clear o O2
  go_wp2_with fail
  with_reducible refine (HNe.out _).mono ?_
  rintro e w4 ⟨rfl, o⟩
  have O4 := Lib.hid (O3.out.trans o)
  clear o O3
  go_wp2_with fail
  with_reducible refine (HN.out _).mono ?_
  rintro e w5 ⟨rfl, hs, o⟩
  have R5 : Hid (Sc w w5 w4.heap.size none none none) := Lib.hid ⟨hs, O4.out.trans o, O4.out.size⟩
  clear hs o O4
  generalize w4.heap.size = S at R5 ⊢
  go_wp2_with fail
  with_reducible refine (HAt.out _).mono ?_
  rintro e w6 ⟨rfl, o⟩
  have R6 := Lib.hid (R5.out.step o)
  clear o R5
  go_wp2_with fail
  with_reducible refine (HB.out _ _).mono ?_
  rintro e w7 ⟨rfl, o⟩
  have R7 := Lib.hid (R6.out.step o)
  clear o R6
  go_wp2_with fail
  with_reducible refine (HH.out _ _).mono ?_
  rintro e w8 ⟨rfl, o⟩
  have R8 := Lib.hid (R7.out.step o)
  clear o R7
  go_wp2_with fail
  with_reducible refine (HC.out _ _).mono ?_
  rintro e w9 ⟨rfl, o⟩
  have R9 := Lib.hid (R8.out.step o)
  clear o R8
  go_wp2_with fail
  with_reducible refine (HU.out _).mono ?_
  rintro e w10 ⟨rfl, o⟩
  have R10 := Lib.hid (R9.out.step o)
  clear o R9
  go_wp2_with fail
  with_reducible refine (HE.out _).mono ?_
  rintro e w11 ⟨rfl, o⟩
  have R11 := Lib.hid (R10.out.step o)
  clear o R10
  go_wp2_with fail
  with_reducible refine (HBn.out _ _).mono ?_
  rintro e w12 ⟨rfl, o⟩
  have R12 := Lib.hid (R11.out.step o)
  clear o R11
  go_wp2_with fail
  with_reducible refine (HHn.out _ _).mono ?_
  rintro e w13 ⟨rfl, o⟩
  have R13 := Lib.hid (R12.out.step o)
  clear o R12
  go_wp2_with fail
  with_reducible refine (HCn.out _ _).mono ?_
  rintro e w14 ⟨rfl, o⟩
  have R14 := Lib.hid (R13.out.step o)
  clear o R13
  go_wp2_with fail
  with_reducible refine Calls.mono (HEa.out S none none none _ R14.out.slots) ?_
  have hc : cnt none none none = 0 := rfl
  rw [hc]
  rintro e w15 ⟨rfl, hs, o⟩
  have R15 := Lib.hid (R14.out.own hs o)
  clear hs o R14
  go_wp2_with fail
  go_ret
  exact ⟨rfl, R15.out.only.below (fun _ h => h.elim) (Nat.le_refl _)⟩
end Go.Proofs.Ythembojamiagoaa.sloE
