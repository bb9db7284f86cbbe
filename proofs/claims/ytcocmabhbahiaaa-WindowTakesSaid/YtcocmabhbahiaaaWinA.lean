/- The window's memory; bit, took, Would, Top, New. -/
import Derived.Test.YtcocmabhbahiaaaPacS
import Derived.Laws.ShiftsVar
import Derived.Laws.Bits64b
namespace Go.Proofs.Ytcocmabhbahiaaa.winA
open Go.RowKit Go.Lib Go.Proofs.Ytcocmabhbahiaaa.kit Go.Proofs.Ytcocmabhbahiaaa.numA
set_option linter.unusedVariables false
set_option linter.unusedSimpArgs false

def arr (bs : Nat → Nat) (top : Nat) (any : Bool) : Array Value := ((List.range 33).map (fun i => Value.int .u64 (bs i)) ++ [Value.int .u64 top, Value.bool any]).toArray

/-- A window at block B. -/
structure Win (w : World) (B : Nat) (bs : Nat → Nat) (top : Nat) (any : Bool) : Prop where
  block : w.heap[B]? = some (.cells (arr bs top any) 106 (0, 0))
  top_lt : top < 18446744073709551616
  lt : ∀ i, bs i < 18446744073709551616

theorem arr_size (bs : Nat → Nat) (top : Nat) (any : Bool) : (arr bs top any).size = 35 := by simp [arr]

theorem arr_block {bs : Nat → Nat} {top : Nat} {any : Bool} {i : Nat} (h : i < 33) : (arr bs top any)[i]? = some (.int .u64 (bs i)) := by
  simp [arr, List.getElem?_append, h]

theorem arr_top {bs : Nat → Nat} {top : Nat} {any : Bool} : (arr bs top any)[33]? = some (.int .u64 top) := by
  simp [arr, List.getElem?_append]

theorem arr_any {bs : Nat → Nat} {top : Nat} {any : Bool} : (arr bs top any)[34]? = some (.bool any) := by
  simp [arr, List.getElem?_append]

def upd (bs : Nat → Nat) (p v : Nat) : Nat → Nat := fun i => if i = p then v else bs i

theorem arr_upd {bs : Nat → Nat} {top : Nat} {any : Bool} {p v : Nat} (h : p < 33) : (arr bs top any).setIfInBounds p (.int .u64 v) = arr (upd bs p v) top any := by
  apply Array.ext
  · simp [arr]
  · intro i h1 h2
    have hi : i < 35 := by rw [arr_size] at h2; exact h2
    have e1 : ((arr bs top any).setIfInBounds p (.int .u64 v))[i]? = (arr (upd bs p v) top any)[i]? := by
      rw [Array.getElem?_setIfInBounds]
      by_cases hp : p = i
      · subst hp
        rw [if_pos rfl, if_pos (by rw [arr_size]; omega), arr_block h]
        simp [upd]
      · rw [if_neg hp]
        by_cases h33 : i < 33
        · rw [arr_block h33, arr_block h33, upd, if_neg (fun e => hp e.symm)]
        · by_cases e : i = 33
          · subst e; rw [arr_top, arr_top]
          · obtain rfl : i = 34 := by omega
            rw [arr_any, arr_any]
    rw [Array.getElem?_eq_getElem h1, Array.getElem?_eq_getElem h2] at e1
    exact Option.some.inj e1

theorem arr_set_top {bs : Nat → Nat} {top v : Nat} {any : Bool} : (arr bs top any).setIfInBounds 33 (.int .u64 v) = arr bs v any := by
  simp [arr, List.range, List.range.loop]

theorem arr_set_any {bs : Nat → Nat} {top : Nat} {any b : Bool} : (arr bs top any).setIfInBounds 34 (.bool b) = arr bs top b := by
  simp [arr, List.range, List.range.loop]

theorem pow_lt (c : Nat) : 2 ^ (c % 64) < 18446744073709551616 := by
  have h : c % 64 < 64 := Nat.mod_lt _ (by decide)
  calc 2 ^ (c % 64) < 2 ^ 64 := Nat.pow_lt_pow_right (by decide) h
    _ = 18446744073709551616 := by decide

set_option maxRecDepth 100000 in
theorem bit_any (c : Nat) (w : World) (hc : c < 18446744073709551616) : Calls Try.prog 78 #[.int .u64 c] w fun e w' => e = .returned (.tuple #[.int .i64 ((c / 64 % 33 : Nat) : Int), .int .u64 ((2 ^ (c % 64) : Nat) : Int)]) ∧ w' = w := by
  have hw : IntKind.u64.wrap (2 ^ (c % 64)) = ((2 ^ (c % 64) : Nat) : Int) := by
    have h := pow_lt c
    have e : ((2 : Int) ^ (c % 64)) = ((2 ^ (c % 64) : Nat) : Int) := by simp
    rw [e]
    generalize 2 ^ (c % 64) = m at h
    exact IntWalk.u64_in _ (by omega)
  generalize 2 ^ (c % 64) = m at hw ⊢
  have e1 : ((c / 64 % 33 : Nat) : Int) = (c : Int) / 64 % 33 := by omega
  rw [e1]
  clear e1
  go_enter Try.func78, Try.ntmps78
  go_wp2
  exact bodyPost_ret (v := .tuple #[.int .i64 ((c : Int) / 64 % 33), .int .u64 (m : Int)]) (by simp [results, Try.results78, go_sem, hw]) rfl ⟨rfl, rfl⟩

theorem and_bit (x k : Nat) (hx : x < 18446744073709551616) (hk : 2 ^ k < 18446744073709551616) : (bits .and .u64 (x : Int) ((2 ^ k : Nat) : Int) != 0) = x.testBit k := by
  rw [bits_and_u64_nat _ _ hx hk]
  cases h : x.testBit k with
  | true =>
    have hne : x &&& 2 ^ k ≠ 0 := by
      intro e
      have := congrArg (fun n => n.testBit k) e
      simp [Nat.testBit_and, h, Nat.testBit_two_pow] at this
    rw [bne_iff_ne]
    omega
  | false =>
    have e : x &&& 2 ^ k = 0 := by
      apply Nat.eq_of_testBit_eq
      intro i
      rw [Nat.testBit_and, Nat.testBit_two_pow, Nat.zero_testBit]
      by_cases hi : k = i
      · rw [← hi, h]; rfl
      · simp [hi]
    rw [e]
    rfl

set_option maxRecDepth 100000 in
theorem took_any (B c : Nat) (bs : Nat → Nat) (top : Nat) (any : Bool) (w : World) (hc : c < 18446744073709551616) (h : Win w B bs top any) :
    Calls Try.prog 76 #[.pointer (some ⟨B, 0, none⟩), .int .u64 c] w fun e w' => e = .returned (.bool ((bs (c / 64 % 33)).testBit (c % 64))) ∧ w' = w := by
  have hp : c / 64 % 33 < 33 := Nat.mod_lt _ (by decide)
  have hz : w.cell? ⟨B, c / 64 % 33, none⟩ = some (.int .u64 (bs (c / 64 % 33))) := (cell_of h.block).trans (arr_block hp)
  have H := bit_any c w hc
  have HB := and_bit (bs (c / 64 % 33)) (c % 64) (h.lt _) (pow_lt c)
  generalize (bs (c / 64 % 33)).testBit (c % 64) = r at HB ⊢
  generalize bs (c / 64 % 33) = x at HB hz
  generalize 2 ^ (c % 64) = m at HB H
  generalize c / 64 % 33 = p at hp hz H
  have HH := Lib.hid HB
  clear h HB
  go_enter Try.func76, Try.ntmps76
  go_wp2_with fail
  refine H.mono ?_
  rintro e w1 ⟨rfl, rfl⟩
  go_wp2_with fail
  go_ret
  exact ⟨by rw [HH.out]; rfl, rfl⟩

def wd (bs : Nat → Nat) (top : Nat) (any : Bool) (c : Nat) : Int :=
  if 18446744073709543423 ≤ c then 10 else if any = false ∨ top < c then 0 else if 2048 ≤ top - c ∨ (bs (c / 64 % 33)).testBit (c % 64) = true then 9 else 0

set_option maxRecDepth 100000 in
theorem would_any (B c : Nat) (bs : Nat → Nat) (top : Nat) (any : Bool) (w : World) (hc : c < 18446744073709551616) (h : Win w B bs top any) :
    Calls Try.prog 37 #[.pointer (some ⟨B, 0, none⟩), .int .u64 c] w fun e w' => e = .returned (.int .i64 (wd bs top any c)) ∧ w' = w := by
  have H := took_any B c bs top any w hc h
  have ht : w.cell? ⟨B, 33, none⟩ = some (.int .u64 top) := (cell_of h.block).trans arr_top
  have ha : w.cell? ⟨B, 34, none⟩ = some (.bool any) := (cell_of h.block).trans arr_any
  have hl := h.top_lt
  have HT := Lib.hid H
  clear h H
  by_cases h1 : 18446744073709543423 ≤ c
  · have k1 : (18446744073709543423 : Int) ≤ (c : Int) := by omega
    have e : wd bs top any c = 10 := by rw [wd, if_pos h1]
    rw [e]
    clear e h1
    go_enter Try.func37, Try.ntmps37
    go_wp2_with fail
    go_ret
    exact ⟨rfl, rfl⟩
  have k1 : ¬ (18446744073709543423 : Int) ≤ (c : Int) := by omega
  cases any with
  | false =>
    have e : wd bs top false c = 0 := by rw [wd, if_neg h1, if_pos (.inl rfl)]
    rw [e]
    clear e h1
    go_enter Try.func37, Try.ntmps37
    go_wp2_with fail
    go_ret
    exact ⟨rfl, rfl⟩
  | true =>
    by_cases h2 : top < c
    · have k2 : (top : Int) < (c : Int) := by omega
      have e : wd bs top true c = 0 := by rw [wd, if_neg h1, if_pos (.inr h2)]
      rw [e]
      clear e h1 h2
      go_enter Try.func37, Try.ntmps37
      go_wp2_with fail
      go_ret
      exact ⟨rfl, rfl⟩
    have k2 : ¬ (top : Int) < (c : Int) := by omega
    have k3 : IntKind.u64.wrap ((top : Int) - (c : Int)) = ((top - c : Nat) : Int) := by
      have : (top : Int) - (c : Int) = ((top - c : Nat) : Int) := by omega
      rw [this]; exact IntWalk.u64_in _ (by omega)
    by_cases h3 : 2048 ≤ top - c
    · have k4 : (2048 : Int) ≤ ((top - c : Nat) : Int) := by omega
      have e : wd bs top true c = 9 := by rw [wd, if_neg h1, if_neg (by simp [h2]), if_pos (.inl h3)]
      rw [e]
      clear e h1 h2 h3
      generalize top - c = d at k3 k4
      go_enter Try.func37, Try.ntmps37
      go_wp2_with fail
      go_ret
      exact ⟨rfl, rfl⟩
    have k4 : ¬ (2048 : Int) ≤ ((top - c : Nat) : Int) := by omega
    have e : wd bs top true c = if (bs (c / 64 % 33)).testBit (c % 64) = true then 9 else 0 := by
      rw [wd, if_neg h1, if_neg (by simp [h2])]
      simp [h3]
    rw [e]
    generalize (bs (c / 64 % 33)).testBit (c % 64) = r at HT ⊢
    clear e h1 h2 h3
    generalize top - c = d at k3 k4
    cases r with
    | true =>
      have q : (if true = true then (9 : Int) else 0) = 9 := by simp
      rw [q]
      clear q
      go_enter Try.func37, Try.ntmps37
      go_wp2_with fail
      refine HT.out.mono ?_
      rintro e w1 ⟨rfl, rfl⟩
      go_wp2_with fail
      go_ret
      exact ⟨rfl, rfl⟩
    | false =>
      have q : (if false = true then (9 : Int) else 0) = 0 := by simp
      rw [q]
      clear q
      go_enter Try.func37, Try.ntmps37
      go_wp2_with fail
      refine HT.out.mono ?_
      rintro e w1 ⟨rfl, rfl⟩
      go_wp2_with fail
      go_ret
      exact ⟨rfl, rfl⟩

set_option maxRecDepth 100000 in
theorem would_nil (c : Int) (w : World) : Calls Try.prog 37 #[.pointer none, .int .u64 c] w fun e w' => e = .returned (.int .i64 1) ∧ w' = w := by
  go_enter Try.func37, Try.ntmps37
  go_wp2_with fail
  go_ret
  exact ⟨rfl, rfl⟩

set_option maxRecDepth 100000 in
theorem take_nil (c : Int) (w : World) : Calls Try.prog 38 #[.pointer none, .int .u64 c] w fun e w' => e = .returned (.int .i64 1) ∧ w' = w := by
  have H := would_nil c w
  go_enter Try.func38, Try.ntmps38
  go_wp2_with fail
  refine H.mono ?_
  rintro e w1 ⟨rfl, rfl⟩
  go_wp2_with fail
  go_ret
  exact ⟨rfl, rfl⟩

set_option maxRecDepth 100000 in
theorem top_nil (w : World) : Calls Try.prog 40 #[.pointer none] w fun e w' => e = .returned (.tuple #[.int .u64 0, .bool false]) ∧ w' = w := by
  go_enter Try.func40, Try.ntmps40
  go_wp2_with fail
  go_ret2
  exact ⟨rfl, rfl⟩

set_option maxRecDepth 100000 in
theorem missing_nil (w : World) : Calls Try.prog 42 #[.pointer none] w fun e w' => e = .returned (.int .i64 0) ∧ w' = w := by
  go_enter Try.func42, Try.ntmps42
  go_wp2_with fail
  go_step3
  go_wp2_with fail
  simp only [Exit.noGoto]
  go_ret
  exact ⟨rfl, rfl⟩

set_option maxRecDepth 100000 in
theorem clone_nil (w : World) : Calls Try.prog 35 #[.pointer none] w fun e w' => e = .returned (.pointer none) ∧ w' = w := by
  go_enter Try.func35, Try.ntmps35
  go_wp2_with fail
  go_ret
  exact ⟨rfl, rfl⟩

set_option maxRecDepth 100000 in
theorem new_any (w : World) : Calls Try.prog 34 #[] w fun e w' => e = .returned (.pointer (some ⟨w.heap.size, 0, none⟩)) ∧ Win w' w.heap.size (fun _ => 0) 0 false ∧ Only (fun _ => False) w w' := by
  go_enter Try.func34, Try.ntmps34
  go_wp2
  go_ret
  exact ⟨rfl, ⟨heap_alloc_new _ _, by decide, fun _ => by decide⟩, (Only.refl _ _).alloc _⟩

set_option maxRecDepth 100000 in
theorem top_any (B : Nat) (bs : Nat → Nat) (top : Nat) (any : Bool) (w : World) (h : Win w B bs top any) :
    Calls Try.prog 40 #[.pointer (some ⟨B, 0, none⟩)] w fun e w' => e = .returned (.tuple #[.int .u64 top, .bool any]) ∧ Only (fun _ => False) w w' := by
  have ht : w.cell? ⟨B, 33, none⟩ = some (.int .u64 top) := (cell_of h.block).trans arr_top
  have ha : w.cell? ⟨B, 34, none⟩ = some (.bool any) := (cell_of h.block).trans arr_any
  clear h
  go_enter Try.func40, Try.ntmps40
  go_wp2
  go_region
  all_goals
    go_wp2_with fail
    go_ret2
    exact ⟨rfl, (by (repeat (first | (with_reducible refine Only.drewN ?_ _) | (with_reducible refine Only.drew ?_) | (with_reducible exact Only.refl _ _))))⟩
end Go.Proofs.Ytcocmabhbahiaaa.winA
