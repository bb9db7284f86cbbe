/- The window, by the list of what it took; the example. -/
import Derived.Test.YtcocmabhbahiaaaWinG
namespace Go.Proofs.Ytcocmabhbahiaaa.winH
open Go.RowKit Go.Lib Go.Proofs.Ytcocmabhbahiaaa.kit Go.Proofs.Ytcocmabhbahiaaa.numA Go.Proofs.Ytcocmabhbahiaaa.winA Go.Proofs.Ytcocmabhbahiaaa.winB Go.Proofs.Ytcocmabhbahiaaa.winC Go.Proofs.Ytcocmabhbahiaaa.winD Go.Proofs.Ytcocmabhbahiaaa.winE Go.Proofs.Ytcocmabhbahiaaa.winF
set_option linter.unusedVariables false
set_option linter.unusedSimpArgs false

def At (w : World) (B : Nat) (l : List Nat) : Prop := ∃ bs top any, Win w B bs top any ∧ Tk bs top any l

abbrev ptr (B : Nat) : Value := .pointer (some ⟨B, 0, none⟩)

theorem At.keep {w W : World} {B : Nat} {l : List Nat} (h : At w B l) {S : Nat → Prop} (o : Only S w W) (hs : ¬ S B) : At W B l := by
  obtain ⟨bs, top, any, hw, ht⟩ := h
  exact ⟨bs, top, any, win_keep hw o hs, ht⟩

theorem At.lt {w : World} {B : Nat} {l : List Nat} (h : At w B l) : B < w.heap.size := by
  obtain ⟨bs, top, any, hw, ht⟩ := h
  exact lt_of hw.block

theorem Only.own {a w w' : World} {B : Nat} (h : Only (fun _ => False) a w) (k : Only (fun i => i = B) w w') (hB : a.heap.size ≤ B) : Only (fun _ => False) a w' :=
  ⟨k.os.trans h.os, k.tape.trans h.tape, k.output.trans h.output, Nat.le_trans h.size k.size, fun i hi hs => (k.block i (Nat.lt_of_lt_of_le hi h.size) (by show ¬ i = B; omega)).trans (h.block i hi id)⟩

theorem new_at (w : World) : Calls Try.prog 34 #[] w fun e w' => e = .returned (ptr w.heap.size) ∧ At w' w.heap.size [] ∧ Only (fun _ => False) w w' :=
  (new_any w).mono fun e w' ⟨q1, q2, q3⟩ => ⟨q1, ⟨_, _, _, q2, inv_new⟩, q3⟩

theorem would_at (B c : Nat) (l : List Nat) (w : World) (hc : c < 18446744073709551616) (h : At w B l) : Calls Try.prog 37 #[ptr B, .int .u64 c] w fun e w' => e = .returned (.int .i64 (rwd l c)) ∧ w' = w := by
  obtain ⟨bs, top, any, hw, ht⟩ := h
  have := would_any B c bs top any w hc hw
  rw [wd_eq ht c] at this
  exact this

def Took (w : World) (B c : Nat) (l : List Nat) (r : Int) (l' : List Nat) (e : Ending) (w' : World) : Prop := e = .returned (.int .i64 r) ∧ At w' B l' ∧ Only (fun k => k = B) w w'

theorem take_at (B c : Nat) (l : List Nat) (w : World) (hc : c < 18446744073709551616) (h : At w B l) : Calls Try.prog 38 #[ptr B, .int .u64 c] w (Took w B c l (rwd l c) (if rwd l c = 0 then l ++ [c] else l)) := by
  obtain ⟨bs, top, any, hw, ht⟩ := h
  refine (take_any B c bs top any w hc hw).mono ?_
  rintro e w' ⟨q1, q2, q3⟩
  rw [wd_eq ht c] at q1 q3
  refine ⟨q1, ?_, q2⟩
  by_cases h0 : rwd l c = 0
  · rw [if_pos h0] at q3 ⊢
    exact ⟨_, _, _, q3, inv_take ht c h0⟩
  · rw [if_neg h0] at q3 ⊢
    rw [q3]
    exact ⟨_, _, _, hw, ht⟩

theorem top_at (B : Nat) (l : List Nat) (w : World) (h : At w B l) : Calls Try.prog 40 #[ptr B] w fun e w' => e = .returned (.tuple #[.int .u64 (mx l : Nat), .bool (!l.isEmpty)]) ∧ Only (fun _ => False) w w' := by
  obtain ⟨bs, top, any, hw, ht⟩ := h
  have := top_any B bs top any w hw
  rw [ht.topE, ht.anyE] at this
  exact this

theorem missing_at (B : Nat) (l : List Nat) (w : World) (h : At w B l) : Calls Try.prog 42 #[ptr B] w (Says w (.int .i64 (rmiss l : Nat))) := by
  obtain ⟨bs, top, any, hw, ht⟩ := h
  by_cases hl : l = []
  · have ha : any = false := by rw [ht.anyE, hl]; rfl
    subst ha
    have e : rmiss l = 0 := by rw [rmiss, if_pos hl]
    rw [e]
    exact missing_none B bs top w hw
  · have ha : any = true := by
      rw [ht.anyE]
      cases l with
      | nil => exact absurd rfl hl
      | cons => rfl
    subst ha
    have := missing_any B bs top w hw
    rw [miss_eq ht hl] at this
    exact this

theorem clone_at (B : Nat) (l : List Nat) (w : World) (h : At w B l) : Calls Try.prog 35 #[ptr B] w fun e w' => e = .returned (ptr w.heap.size) ∧ At w' w.heap.size l ∧ Only (fun _ => False) w w' := by
  obtain ⟨bs, top, any, hw, ht⟩ := h
  exact (clone_any B bs top any w hw).mono fun e w' ⟨q1, q2, q3⟩ => ⟨q1, ⟨_, _, _, q2, ht⟩, q3⟩

theorem taken {B c : Nat} {l l' : List Nat} {w : World} {r : Int} (hc : c < 18446744073709551616) (h : At w B l) (e : rwd l c = r) (e2 : (if r = 0 then l ++ [c] else l) = l') : Calls Try.prog 38 #[ptr B, .int .u64 c] w (Took w B c l r l') := by
  have := take_at B c l w hc h
  rw [e, e2] at this
  exact this

set_option maxRecDepth 100000 in
theorem awake_true (w : World) : Calls Try.prog 33 #[] w (numA.Told w (.bool true)) := by
  have T1 := Lib.hid (fun (W : World) B (h : At W B []) => taken (c := 5) (r := 0) (l' := [5]) (by decide) h (by decide) rfl)
  have T2 := Lib.hid (fun (W : World) B (h : At W B [5]) => taken (c := 3) (r := 0) (l' := [5, 3]) (by decide) h (by decide) rfl)
  have T3 := Lib.hid (fun (W : World) B (h : At W B [5, 3]) => taken (c := 5) (r := 9) (l' := [5, 3]) (by decide) h (by decide) rfl)
  have T4 := Lib.hid (fun (W : World) B (h : At W B [5, 3]) => taken (c := 2052) (r := 0) (l' := [5, 3, 2052]) (by decide) h (by decide) rfl)
  have T5 := Lib.hid (fun (W : World) B (h : At W B [5, 3, 2052]) => taken (c := 4) (r := 9) (l' := [5, 3, 2052]) (by decide) h (by decide) rfl)
  have T6 := Lib.hid (fun (W : World) B (h : At W B [5, 3, 2052]) => taken (c := 6) (r := 0) (l' := [5, 3, 2052, 6]) (by decide) h (by decide) rfl)
  have N := new_at w
  have hle : w.heap.size ≤ w.heap.size := Nat.le_refl _
  generalize hB : w.heap.size = B at N
  have HB := Lib.hid hB
  clear hB hle
  go_enter Try.func33, Try.ntmps33
  go_wp2_with fail
  refine N.mono ?_
  rintro e w1 ⟨rfl, h1, o1⟩
  have O1 := Lib.hid o1
  have A1 := Lib.hid h1
  clear h1 o1
  go_wp2_with fail
  refine (T1.out _ _ A1.out).mono ?_
  rintro e w2 ⟨rfl, h, o⟩
  have O2 := Lib.hid (Only.own O1.out o (Nat.le_of_eq HB.out))
  have A2 := Lib.hid h
  clear h o
  go_wp2_with fail
  refine (T2.out _ _ A2.out).mono ?_
  rintro e w3 ⟨rfl, h, o⟩
  have O3 := Lib.hid (Only.own O2.out o (Nat.le_of_eq HB.out))
  have A3 := Lib.hid h
  clear h o
  go_wp2_with fail
  refine (T3.out _ _ A3.out).mono ?_
  rintro e w4 ⟨rfl, h, o⟩
  have O4 := Lib.hid (Only.own O3.out o (Nat.le_of_eq HB.out))
  have A4 := Lib.hid h
  clear h o
  go_wp2_with fail
  refine (T4.out _ _ A4.out).mono ?_
  rintro e w5 ⟨rfl, h, o⟩
  have O5 := Lib.hid (Only.own O4.out o (Nat.le_of_eq HB.out))
  have A5 := Lib.hid h
  clear h o
  go_wp2_with fail
  refine (T5.out _ _ A5.out).mono ?_
  rintro e w6 ⟨rfl, h, o⟩
  have O6 := Lib.hid (Only.own O5.out o (Nat.le_of_eq HB.out))
  have A6 := Lib.hid h
  clear h o
  go_wp2_with fail
  refine (T6.out _ _ A6.out).mono ?_
  rintro e w7 ⟨rfl, h, o⟩
  have O7 := Lib.hid (Only.own O6.out o (Nat.le_of_eq HB.out))
  clear h o
  go_wp2_with fail
  go_ret
  exact ⟨rfl, O7.out⟩
end Go.Proofs.Ytcocmabhbahiaaa.winH
