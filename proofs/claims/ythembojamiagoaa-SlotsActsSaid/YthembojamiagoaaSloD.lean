/- The chapter's example; Erase. -/
import Derived.Test.YthembojamiagoaaSloC
namespace Go.Proofs.Ythembojamiagoaa.sloD
open Go.RowKit Go.Proofs.Ythembojamiagoaa.kit Go.Proofs.Ythembojamiagoaa.sloA Go.Proofs.Ythembojamiagoaa.sloB Go.Proofs.Ythembojamiagoaa.sloC
set_option linter.unusedVariables false
set_option linter.unusedSimpArgs false

def one : Option Addr → Int
  | none => 0
  | some _ => 1
def cnt (p1 p2 p3 : Option Addr) : Int := one p1 + one p2 + one p3

set_option maxRecDepth 100000 in
theorem erase_any (S : Nat) (p1 p2 p3 : Option Addr) (w : World) (h : SlotsAt w S p1 p2 p3) : Calls Try.prog 13 #[.pointer (some ⟨S, 0, none⟩)] w fun e w' => e = .returned (.int .i64 (cnt p1 p2 p3)) ∧ SlotsAt w' S none none none ∧ Only (fun i => i = S) w w' := by
  have c0 : w.cell? ⟨S, 0, none⟩ = some (.pointer none) := cell_of h
  have c1 : w.cell? ⟨S, 1, none⟩ = some (.pointer p1) := cell_of h
  have c2 : w.cell? ⟨S, 2, none⟩ = some (.pointer p2) := cell_of h
  have c3 : w.cell? ⟨S, 3, none⟩ = some (.pointer p3) := cell_of h
  have f0 : w.frozen? ⟨S, 0, none⟩ = false := free_of h
  have f1 : w.frozen? ⟨S, 1, none⟩ = false := free_of h
  have f2 : w.frozen? ⟨S, 2, none⟩ = false := free_of h
  have f3 : w.frozen? ⟨S, 3, none⟩ = false := free_of h
  have hh := Lib.hid (heap_set (o := 3) (v := .pointer none) (heap_set (o := 2) (v := .pointer none) (heap_set (o := 1) (v := .pointer none) (heap_set (o := 0) (v := .pointer none) h))))
  clear h
  have i0 := slot0
  have i1 := slot1
  have i2 := slot2
  have i3 := slot3
  rcases p1 with _ | p1 <;> rcases p2 with _ | p2 <;> rcases p3 with _ | p3
  all_goals
    go_enter Try.func13, Try.ntmps13
    go_wp2_with fail
    refine wp_loop_rounds 5 ?_
    rw [rounds_succ]
    go_wp2_with fail
    rw [rounds_succ]
    go_wp2_with fail
    rw [rounds_succ]
    go_wp2_with fail
    rw [rounds_succ]
    go_wp2_with fail
    rw [rounds_succ]
    go_wp2_with fail
    go_ret
    exact ⟨rfl, hh.out, by only_close⟩

/-- Slots of our own at S. -/
structure Sc (w0 w : World) (S : Nat) (p1 p2 p3 : Option Addr) : Prop where
  slots : SlotsAt w S p1 p2 p3
  only : Only (fun _ => False) w0 w
  le : w0.heap.size ≤ S

theorem Sc.step {w0 w w' : World} {S : Nat} {p1 p2 p3 : Option Addr} (h : Sc w0 w S p1 p2 p3) (o : Only (fun _ => False) w w') : Sc w0 w' S p1 p2 p3 :=
  ⟨o.keep h.slots id, h.only.trans o, h.le⟩

theorem Sc.own {w0 w w' : World} {S : Nat} {p1 p2 p3 q1 q2 q3 : Option Addr} (h : Sc w0 w S p1 p2 p3) (k : SlotsAt w' S q1 q2 q3) (o : Only (fun i => i = S) w w') : Sc w0 w' S q1 q2 q3 :=
  ⟨k, prsB.Only.own h.only o h.le, h.le⟩

set_option maxRecDepth 100000 in
theorem awake_true (w : World) : Calls Try.prog 5 #[] w fun e w' => e = .returned (.bool true) ∧ Only (fun _ => False) w w' := by
  have HN := Lib.hid new_any
  have HF := Lib.hid fresh_any
  have HH := Lib.hid heard_any
  have HC := Lib.hid confirm_yes
  have H1 := Lib.hid at_one
  have H2 := Lib.hid at_two
  have H3 := Lib.hid at_three
  have ke := eql_same
  go_enter Try.func5, Try.ntmps5
  go_wp2_with fail
  with_reducible refine (HN.out _).mono ?_
  rintro e w1 ⟨rfl, hs, o⟩
  have R1 : Hid (Sc w w1 w.heap.size none none none) := Lib.hid ⟨hs, o, Nat.le_refl _⟩
  clear hs o
  generalize w.heap.size = S at R1 ⊢
  go_wp2_with fail
  with_reducible refine Calls.mono (HF.out 1 0 _ (by omega) (by omega)) ?_
  rintro e w2 ⟨a, rfl, hb, hp, o⟩
  have R2 := Lib.hid (R1.out.step o)
  clear hb hp o R1
  go_wp2_with fail
  with_reducible refine Calls.mono (HF.out 2 0 _ (by omega) (by omega)) ?_
  rintro e w3 ⟨b, rfl, hb, hp, o⟩
  have R3 := Lib.hid (R2.out.step o)
  clear hb hp o R2
  go_wp2_with fail
  with_reducible refine Calls.mono (HH.out S _ _ _ _ _ R3.out.slots) ?_
  rintro e w4 ⟨rfl, hs, o⟩
  have R4 := Lib.hid (R3.out.own hs o)
  clear hs o R3
  go_wp2_with fail
  with_reducible refine Calls.mono (HC.out S _ _ _ _ R4.out.slots) ?_
  rintro e w5 ⟨rfl, hs, o⟩
  have R5 := Lib.hid (R4.out.own hs o)
  clear hs o R4
  go_wp2_with fail
  with_reducible refine Calls.mono (HH.out S _ _ _ _ _ R5.out.slots) ?_
  rintro e w6 ⟨rfl, hs, o⟩
  have R6 := Lib.hid (R5.out.own hs o)
  clear hs o R5
  go_wp2_with fail
  with_reducible refine Calls.mono (HC.out S _ _ _ _ R6.out.slots) ?_
  rintro e w7 ⟨rfl, hs, o⟩
  have R7 := Lib.hid (R6.out.own hs o)
  clear hs o R6
  go_wp2_with fail
  with_reducible refine Calls.mono (H1.out S _ _ _ _ R7.out.slots) ?_
  rintro e w8 ⟨rfl, o⟩
  have R8 := Lib.hid (R7.out.step o)
  clear o R7
  go_wp2_with fail
  with_reducible refine Calls.mono (H2.out S _ _ _ _ R8.out.slots) ?_
  rintro e w9 ⟨rfl, o⟩
  have R9 := Lib.hid (R8.out.step o)
  clear o R8
  go_wp2_with fail
  with_reducible refine Calls.mono (H3.out S _ _ _ _ R9.out.slots) ?_
  rintro e w10 ⟨rfl, o⟩
  have R10 := Lib.hid (R9.out.step o)
  clear o R9
  go_wp2_with fail
  go_ret
  exact ⟨rfl, R10.out.only⟩
end Go.Proofs.Ythembojamiagoaa.sloD
