/- Windows: which counters came (as at another seat). -/
import Derived.Test.YtbjnejnjlidiaaaNumF
import Derived.Laws.ShiftsVar
import Derived.Laws.Bits64b
import Derived.Deep.WholeRow
import Derived.ScopeJumps
/- The window's memory; bit, took, Would, Top, New. -/
namespace Go.Proofs.Ytbjnejnjlidiaaa.winA
open Go.RowKit Go.Lib Go.Proofs.Ytbjnejnjlidiaaa.kit Go.Proofs.Ytbjnejnjlidiaaa.numA
set_option linter.unusedVariables false
set_option linter.unusedSimpArgs false

def arr (bs : Nat → Nat) (top : Nat) (any : Bool) : Array Value := ((List.range 33).map (fun i => Value.int .u64 (bs i)) ++ [Value.int .u64 top, Value.bool any]).toArray

/-- A window at block B. -/
structure Win (w : World) (B : Nat) (bs : Nat → Nat) (top : Nat) (any : Bool) : Prop where
  block : w.heap[B]? = some (.cells (arr bs top any) 216 (0, 0))
  top_lt : top < 18446744073709551616
  lt : ∀ i, bs i < 18446744073709551616

theorem arr_size (bs : Nat → Nat) (top : Nat) (any : Bool) : (arr bs top any).size = 35 := by simp [arr]

theorem arr_block {bs : Nat → Nat} {top : Nat} {any : Bool} {i : Nat} (h : i < 33) : (arr bs top any)[i]? = some (.int .u64 (bs i)) := by
  simp [arr, List.getElem?_append, h]

theorem arr_top {bs : Nat → Nat} {top : Nat} {any : Bool} : (arr bs top any)[33]? = some (.int .u64 top) := by
  simp [arr, List.getElem?_append]

theorem arr_any {bs : Nat → Nat} {top : Nat} {any : Bool} : (arr bs top any)[34]? = some (.bool any) := by
  simp [arr, List.getElem?_append]

def upd (bs : Nat → Nat) (p v : Nat) : Nat → Nat := fun i => if i = p then v else bs i

theorem arr_upd {bs : Nat → Nat} {top : Nat} {any : Bool} {p v : Nat} (h : p < 33) : (arr bs top any).setIfInBounds p (.int .u64 v) = arr (upd bs p v) top any := by
  apply Array.ext
  · simp [arr]
  · intro i h1 h2
    have hi : i < 35 := by rw [arr_size] at h2; exact h2
    have e1 : ((arr bs top any).setIfInBounds p (.int .u64 v))[i]? = (arr (upd bs p v) top any)[i]? := by
      rw [Array.getElem?_setIfInBounds]
      by_cases hp : p = i
      · subst hp
        rw [if_pos rfl, if_pos (by rw [arr_size]; omega), arr_block h]
        simp [upd]
      · rw [if_neg hp]
        by_cases h33 : i < 33
        · rw [arr_block h33, arr_block h33, upd, if_neg (fun e => hp e.symm)]
        · by_cases e : i = 33
          · subst e; rw [arr_top, arr_top]
          · obtain rfl : i = 34 := by omega
            rw [arr_any, arr_any]
    rw [Array.getElem?_eq_getElem h1, Array.getElem?_eq_getElem h2] at e1
    exact Option.some.inj e1

theorem arr_set_top {bs : Nat → Nat} {top v : Nat} {any : Bool} : (arr bs top any).setIfInBounds 33 (.int .u64 v) = arr bs v any := by
  simp [arr, List.range, List.range.loop]

theorem arr_set_any {bs : Nat → Nat} {top : Nat} {any b : Bool} : (arr bs top any).setIfInBounds 34 (.bool b) = arr bs top b := by
  simp [arr, List.range, List.range.loop]

theorem pow_lt (c : Nat) : 2 ^ (c % 64) < 18446744073709551616 := by
  have h : c % 64 < 64 := Nat.mod_lt _ (by decide)
  calc 2 ^ (c % 64) < 2 ^ 64 := Nat.pow_lt_pow_right (by decide) h
    _ = 18446744073709551616 := by decide

set_option maxRecDepth 100000 in
theorem bit_any (c : Nat) (w : World) (hc : c < 18446744073709551616) : Calls Try.prog 193 #[.int .u64 c] w fun e w' => e = .returned (.tuple #[.int .i64 ((c / 64 % 33 : Nat) : Int), .int .u64 ((2 ^ (c % 64) : Nat) : Int)]) ∧ w' = w := by
  have hw : IntKind.u64.wrap (2 ^ (c % 64)) = ((2 ^ (c % 64) : Nat) : Int) := by
    have h := pow_lt c
    have e : ((2 : Int) ^ (c % 64)) = ((2 ^ (c % 64) : Nat) : Int) := by simp
    rw [e]
    generalize 2 ^ (c % 64) = m at h
    exact IntWalk.u64_in _ (by omega)
  generalize 2 ^ (c % 64) = m at hw ⊢
  have e1 : ((c / 64 % 33 : Nat) : Int) = (c : Int) / 64 % 33 := by omega
  rw [e1]
  clear e1
  go_enter Try.func193, Try.ntmps193
  go_wp2
  exact bodyPost_ret (v := .tuple #[.int .i64 ((c : Int) / 64 % 33), .int .u64 (m : Int)]) (by simp [results, Try.results193, go_sem, hw]) rfl ⟨rfl, rfl⟩

theorem and_bit (x k : Nat) (hx : x < 18446744073709551616) (hk : 2 ^ k < 18446744073709551616) : (bits .and .u64 (x : Int) ((2 ^ k : Nat) : Int) != 0) = x.testBit k := by
  rw [bits_and_u64_nat _ _ hx hk]
  cases h : x.testBit k with
  | true =>
    have hne : x &&& 2 ^ k ≠ 0 := by
      intro e
      have := congrArg (fun n => n.testBit k) e
      simp [Nat.testBit_and, h, Nat.testBit_two_pow] at this
    rw [bne_iff_ne]
    omega
  | false =>
    have e : x &&& 2 ^ k = 0 := by
      apply Nat.eq_of_testBit_eq
      intro i
      rw [Nat.testBit_and, Nat.testBit_two_pow, Nat.zero_testBit]
      by_cases hi : k = i
      · rw [← hi, h]; rfl
      · simp [hi]
    rw [e]
    rfl

set_option maxRecDepth 100000 in
theorem took_any (B c : Nat) (bs : Nat → Nat) (top : Nat) (any : Bool) (w : World) (hc : c < 18446744073709551616) (h : Win w B bs top any) :
    Calls Try.prog 191 #[.pointer (some ⟨B, 0, none⟩), .int .u64 c] w fun e w' => e = .returned (.bool ((bs (c / 64 % 33)).testBit (c % 64))) ∧ w' = w := by
  have hp : c / 64 % 33 < 33 := Nat.mod_lt _ (by decide)
  have hz : w.cell? ⟨B, c / 64 % 33, none⟩ = some (.int .u64 (bs (c / 64 % 33))) := (cell_of h.block).trans (arr_block hp)
  have H := bit_any c w hc
  have HB := and_bit (bs (c / 64 % 33)) (c % 64) (h.lt _) (pow_lt c)
  generalize (bs (c / 64 % 33)).testBit (c % 64) = r at HB ⊢
  generalize bs (c / 64 % 33) = x at HB hz
  generalize 2 ^ (c % 64) = m at HB H
  generalize c / 64 % 33 = p at hp hz H
  have HH := Lib.hid HB
  clear h HB
  go_enter Try.func191, Try.ntmps191
  go_wp2_with fail
  refine H.mono ?_
  rintro e w1 ⟨rfl, rfl⟩
  go_wp2_with fail
  go_ret
  exact ⟨by rw [HH.out]; rfl, rfl⟩

def wd (bs : Nat → Nat) (top : Nat) (any : Bool) (c : Nat) : Int :=
  if 18446744073709543423 ≤ c then 10 else if any = false ∨ top < c then 0 else if 2048 ≤ top - c ∨ (bs (c / 64 % 33)).testBit (c % 64) = true then 9 else 0

set_option maxRecDepth 100000 in
theorem would_any (B c : Nat) (bs : Nat → Nat) (top : Nat) (any : Bool) (w : World) (hc : c < 18446744073709551616) (h : Win w B bs top any) :
    Calls Try.prog 153 #[.pointer (some ⟨B, 0, none⟩), .int .u64 c] w fun e w' => e = .returned (.int .i64 (wd bs top any c)) ∧ w' = w := by
  have H := took_any B c bs top any w hc h
  have ht : w.cell? ⟨B, 33, none⟩ = some (.int .u64 top) := (cell_of h.block).trans arr_top
  have ha : w.cell? ⟨B, 34, none⟩ = some (.bool any) := (cell_of h.block).trans arr_any
  have hl := h.top_lt
  have HT := Lib.hid H
  clear h H
  by_cases h1 : 18446744073709543423 ≤ c
  · have k1 : (18446744073709543423 : Int) ≤ (c : Int) := by omega
    have e : wd bs top any c = 10 := by rw [wd, if_pos h1]
    rw [e]
    clear e h1
    go_enter Try.func153, Try.ntmps153
    go_wp2_with fail
    go_ret
    exact ⟨rfl, rfl⟩
  have k1 : ¬ (18446744073709543423 : Int) ≤ (c : Int) := by omega
  cases any with
  | false =>
    have e : wd bs top false c = 0 := by rw [wd, if_neg h1, if_pos (.inl rfl)]
    rw [e]
    clear e h1
    go_enter Try.func153, Try.ntmps153
    go_wp2_with fail
    go_ret
    exact ⟨rfl, rfl⟩
  | true =>
    by_cases h2 : top < c
    · have k2 : (top : Int) < (c : Int) := by omega
      have e : wd bs top true c = 0 := by rw [wd, if_neg h1, if_pos (.inr h2)]
      rw [e]
      clear e h1 h2
      go_enter Try.func153, Try.ntmps153
      go_wp2_with fail
      go_ret
      exact ⟨rfl, rfl⟩
    have k2 : ¬ (top : Int) < (c : Int) := by omega
    have k3 : IntKind.u64.wrap ((top : Int) - (c : Int)) = ((top - c : Nat) : Int) := by
      have : (top : Int) - (c : Int) = ((top - c : Nat) : Int) := by omega
      rw [this]; exact IntWalk.u64_in _ (by omega)
    by_cases h3 : 2048 ≤ top - c
    · have k4 : (2048 : Int) ≤ ((top - c : Nat) : Int) := by omega
      have e : wd bs top true c = 9 := by rw [wd, if_neg h1, if_neg (by simp [h2]), if_pos (.inl h3)]
      rw [e]
      clear e h1 h2 h3
      generalize top - c = d at k3 k4
      go_enter Try.func153, Try.ntmps153
      go_wp2_with fail
      go_ret
      exact ⟨rfl, rfl⟩
    have k4 : ¬ (2048 : Int) ≤ ((top - c : Nat) : Int) := by omega
    have e : wd bs top true c = if (bs (c / 64 % 33)).testBit (c % 64) = true then 9 else 0 := by
      rw [wd, if_neg h1, if_neg (by simp [h2])]
      simp [h3]
    rw [e]
    generalize (bs (c / 64 % 33)).testBit (c % 64) = r at HT ⊢
    clear e h1 h2 h3
    generalize top - c = d at k3 k4
    cases r with
    | true =>
      have q : (if true = true then (9 : Int) else 0) = 9 := by simp
      rw [q]
      clear q
      go_enter Try.func153, Try.ntmps153
      go_wp2_with fail
      refine HT.out.mono ?_
      rintro e w1 ⟨rfl, rfl⟩
      go_wp2_with fail
      go_ret
      exact ⟨rfl, rfl⟩
    | false =>
      have q : (if false = true then (9 : Int) else 0) = 0 := by simp
      rw [q]
      clear q
      go_enter Try.func153, Try.ntmps153
      go_wp2_with fail
      refine HT.out.mono ?_
      rintro e w1 ⟨rfl, rfl⟩
      go_wp2_with fail
      go_ret
      exact ⟨rfl, rfl⟩

set_option maxRecDepth 100000 in
theorem new_any (w : World) : Calls Try.prog 151 #[] w fun e w' => e = .returned (.pointer (some ⟨w.heap.size, 0, none⟩)) ∧ Win w' w.heap.size (fun _ => 0) 0 false ∧ Only (fun _ => False) w w' := by
  go_enter Try.func151, Try.ntmps151
  go_wp2
  go_ret
  exact ⟨rfl, ⟨heap_alloc_new _ _, by decide, fun _ => by decide⟩, (Only.refl _ _).alloc _⟩

end Go.Proofs.Ytbjnejnjlidiaaa.winA
/- The window: forward, Take, Clone. -/
namespace Go.Proofs.Ytbjnejnjlidiaaa.winB
open Go.RowKit Go.Lib Go.Proofs.Ytbjnejnjlidiaaa.kit Go.Proofs.Ytbjnejnjlidiaaa.numA Go.Proofs.Ytbjnejnjlidiaaa.winA
set_option linter.unusedVariables false
set_option linter.unusedSimpArgs false

/-- j blocks from q down, empty. -/
def clr (bs : Nat → Nat) (q : Nat) : Nat → Nat → Nat
  | 0 => bs
  | j + 1 => upd (clr bs q j) ((q - j) % 33) 0

theorem clr_lt {bs : Nat → Nat} (h : ∀ i, bs i < 18446744073709551616) (q j : Nat) : ∀ i, clr bs q j i < 18446744073709551616 := by
  induction j with
  | zero => exact h
  | succ j ih =>
    intro i
    rw [clr, upd]
    split
    · decide
    · exact ih i

def steps (top c : Nat) : Nat := if 33 < c / 64 - top / 64 then 33 else c / 64 - top / 64

set_option maxRecDepth 100000 in
set_option maxHeartbeats 400000 in
theorem forward_any (B c : Nat) (bs : Nat → Nat) (top : Nat) (any : Bool) (w : World) (hc : c < 18446744073709551616) (h : Win w B bs top any) (htc : top < c) :
    Calls Try.prog 192 #[.pointer (some ⟨B, 0, none⟩), .int .u64 c] w fun e w' => e = .returned (.tuple #[]) ∧ Win w' B (clr bs (c / 64) (steps top c)) c any ∧ Only (fun k => k = B) w w' := by
  have ht : w.cell? ⟨B, 33, none⟩ = some (.int .u64 top) := (cell_of h.block).trans arr_top
  have hlt := lt_of h.block
  have f1 : IntKind.u64.wrap ((c : Int) / 64 - (top : Int) / 64) = ((c / 64 - top / 64 : Nat) : Int) := by
    have : (c : Int) / 64 - (top : Int) / 64 = ((c / 64 - top / 64 : Nat) : Int) := by omega
    rw [this]; exact IntWalk.u64_in _ (by omega)
  have hs : steps top c ≤ 33 ∧ steps top c ≤ c / 64 := by rw [steps]; split <;> omega
  have f2 : (if (33 : Int) < ((c / 64 - top / 64 : Nat) : Int) then (33 : Int) else ((c / 64 - top / 64 : Nat) : Int)) = (steps top c : Int) := by
    rw [steps]
    split <;> split <;> omega
  generalize c / 64 - top / 64 = d at f1 f2
  generalize steps top c = F at hs f2 ⊢
  have HH := Lib.hid h
  have HS := Lib.hid hs
  clear h hs
  go_enter Try.func192, Try.ntmps192
  go_wp2_with fail
  go_loopw [18] (fun i wr => ∃ j : Nat, j ≤ F ∧ i = .int .u64 j ∧ wr.heap[B]? = some (.cells (arr (clr bs (c / 64) j) top any) 216 (0, 0)) ∧ Only (fun k => k = B) w wr) (fun i _ => F - (intOf i).toNat)
  case atStart => exact ⟨0, Nat.zero_le _, rfl, HH.out.block, Only.refl _ _⟩
  case round =>
    obtain ⟨j, hj, rfl, hb, o⟩ := hrel
    by_cases hlt2 : j < F
    · have hs := HS.out
      have j1 : (j : Int) < (F : Int) := by omega
      have f3 : IntKind.u64.wrap ((j : Int) * 64) = (j : Int) * 64 := IntWalk.u64_in _ (by omega)
      have f4 : IntKind.u64.wrap ((c : Int) - (j : Int) * 64) = ((c - j * 64 : Nat) : Int) := by
        have : (c : Int) - (j : Int) * 64 = ((c - j * 64 : Nat) : Int) := by omega
        rw [this]; exact IntWalk.u64_in _ (by omega)
      have f5 : IntKind.u64.wrap ((j : Int) + 1) = ((j + 1 : Nat) : Int) := by
        have : (j : Int) + 1 = ((j + 1 : Nat) : Int) := by omega
        rw [this]; exact IntWalk.u64_in _ (by omega)
      have hq : (c - j * 64) / 64 % 33 = (c / 64 - j) % 33 := by
        have : (c - j * 64) / 64 = c / 64 - j := by omega
        rw [this]
      have H := bit_any (c - j * 64)
      rw [hq] at H
      generalize 2 ^ ((c - j * 64) % 64) = mm at H
      have hp : (c / 64 - j) % 33 < 33 := Nat.mod_lt _ (by decide)
      have e1 : clr bs (c / 64) (j + 1) = upd (clr bs (c / 64) j) ((c / 64 - j) % 33) 0 := rfl
      have HE := Lib.hid e1
      generalize (c / 64 - j) % 33 = p at H hp HE
      have H2 := Lib.hid (fun wx => H wx (by omega))
      generalize c - j * 64 = x at f4 H2
      have hp2 : (p : Int) < 33 := by omega
      have hz : wr.cell? ⟨B, p, none⟩ = some (.int .u64 (clr bs (c / 64) j p)) := (cell_of hb).trans (arr_block hp)
      have hf : wr.frozen? ⟨B, p, none⟩ = false := free_of hb
      have HB := Lib.hid hb
      have HO := Lib.hid o
      clear hs H hb o e1 hq
      go_wp2_with fail
      refine (H2.out _).mono ?_
      rintro e w1 ⟨rfl, rfl⟩
      go_wp2_with fail
      go_roundw
      case rel =>
        refine ⟨j + 1, by omega, by go_num, ?_, HO.out.set rfl⟩
        rw [heap_set HB.out, HE.out, ← arr_upd hp]
        rfl
      case measure => simp [intOf]; omega
    · obtain rfl : j = F := by omega
      have hz : wr.cell? ⟨B, 33, none⟩ = some (.int .u64 top) := (cell_of hb).trans arr_top
      have hf : wr.frozen? ⟨B, 33, none⟩ = false := free_of hb
      have HB := Lib.hid hb
      have HO := Lib.hid o
      clear hb o
      go_wp2_with fail
      refine bodyPost_end (v := .tuple #[]) (by simp [results, Try.results192, go_sem]) rfl ?_
      refine ⟨rfl, ⟨?_, hc, clr_lt HH.out.lt _ _⟩, HO.out.set rfl⟩
      rw [heap_set HB.out, arr_set_top]

theorem bits_or (x m : Nat) (hx : x < 18446744073709551616) (hm : m < 18446744073709551616) : bits .or .u64 (x : Int) (m : Int) = ((x ||| m : Nat) : Int) ∧ x ||| m < 18446744073709551616 := by
  refine ⟨bits_or_u64_nat _ _ hx hm, ?_⟩
  have := Nat.or_lt_two_pow (n := 64) (x := x) (y := m) (by simpa using hx) (by simpa using hm)
  simpa using this

/-- What Take makes of the blocks. -/
def put (bs : Nat → Nat) (c : Nat) : Nat → Nat := upd bs (c / 64 % 33) (bs (c / 64 % 33) ||| 2 ^ (c % 64))

def fwd (bs : Nat → Nat) (top c : Nat) : Nat → Nat := if top < c then clr bs (c / 64) (steps top c) else bs

def TakePost (w : World) (B c : Nat) (bs : Nat → Nat) (top : Nat) (any : Bool) (e : Ending) (w' : World) : Prop :=
  e = .returned (.int .i64 (wd bs top any c)) ∧ Only (fun k => k = B) w w' ∧ if wd bs top any c = 0 then Win w' B (put (fwd bs top c) c) (max top c) true else w' = w

theorem win_drew {w : World} {B top : Nat} {bs : Nat → Nat} {any : Bool} (h : Win w B bs top any) : Win w.drew B bs top any := ⟨h.block, h.top_lt, h.lt⟩

/-- The end of Take: any, bit, the bit's store. -/
theorem put_win {w : World} {B c top : Nat} {bs : Nat → Nat} {any : Bool} (h : Win w B bs top any) : Win ((w.setCell ⟨B, 34, none⟩ (.bool true)).setCell ⟨B, c / 64 % 33, none⟩ (.int .u64 ((bs (c / 64 % 33) ||| 2 ^ (c % 64) : Nat) : Int))) B (put bs c) top true := by
  refine ⟨?_, h.top_lt, fun i => ?_⟩
  · rw [heap_set (heap_set h.block), arr_set_any, arr_upd (Nat.mod_lt _ (by decide))]
    rfl
  · rw [put, upd]
    split
    · exact (bits_or _ _ (h.lt _) (pow_lt c)).2
    · exact h.lt i

set_option maxRecDepth 100000 in
set_option maxHeartbeats 400000 in
theorem take_any (B c : Nat) (bs : Nat → Nat) (top : Nat) (any : Bool) (w : World) (hc : c < 18446744073709551616) (h : Win w B bs top any) :
    Calls Try.prog 154 #[.pointer (some ⟨B, 0, none⟩), .int .u64 c] w (TakePost w B c bs top any) := by
  have H := would_any B c bs top any w hc h
  by_cases h0 : wd bs top any c = 0
  · have HF : Hid (∀ e w', e = .returned (.int .i64 0) → Only (fun k => k = B) w w' → Win w' B (put (fwd bs top c) c) (max top c) true → TakePost w B c bs top any e w') :=
      fun e w' q1 q2 q3 => ⟨by rw [h0]; exact q1, q2, by rw [if_pos h0]; exact q3⟩
    rw [h0] at H
    have ht : w.cell? ⟨B, 33, none⟩ = some (.int .u64 top) := (cell_of h.block).trans arr_top
    have HB := Lib.hid (fun W => bit_any c W hc)
    have tail : ∀ (W : World) (bs' : Nat → Nat) (top' : Nat), Win W B bs' top' any → Hid (W.frozen? ⟨B, 34, none⟩ = false ∧ True) := fun W bs' top' hW => ⟨free_of hW.block, trivial⟩
    have HT := Lib.hid h
    have HL := Lib.hid h0
    by_cases h2 : top < c
    · have k2 : (top : Int) < (c : Int) := by omega
      have HW := Lib.hid (forward_any B c bs top any w hc h h2)
      have e1 : fwd bs top c = clr bs (c / 64) (steps top c) := by rw [fwd, if_pos h2]
      have e2 : max top c = c := by omega
      rw [e1, e2] at HF
      generalize clr bs (c / 64) (steps top c) = bs2 at HF HW
      clear h h0 e1 e2 tail h2
      go_enter Try.func154, Try.ntmps154
      go_wp2_with fail
      refine H.mono ?_
      rintro e w1 ⟨rfl, rfl⟩
      go_wp2_with fail
      refine HW.out.mono ?_
      rintro e w2 ⟨rfl, hw2, o2⟩
      have hf : w2.frozen? ⟨B, 34, none⟩ = false := free_of hw2.block
      have ha : w2.cell? ⟨B, 34, none⟩ = some (.bool any) := (cell_of hw2.block).trans arr_any
      have hp : c / 64 % 33 < 33 := Nat.mod_lt _ (by decide)
      have HP := Lib.hid (put_win (c := c) hw2)
      have HO := Lib.hid o2
      obtain ⟨x, hx⟩ : ∃ x, x = bs2 (c / 64 % 33) := ⟨_, rfl⟩
      have hz : w2.cell? ⟨B, c / 64 % 33, none⟩ = some (.int .u64 x) := by rw [hx]; exact (cell_of hw2.block).trans (arr_block hp)
      have hff : w2.frozen? ⟨B, c / 64 % 33, none⟩ = false := free_of hw2.block
      have hor := (bits_or x (2 ^ (c % 64)) (by rw [hx]; exact hw2.lt _) (pow_lt c)).1
      rw [← hx] at HP
      have HR := HB.out
      generalize (x ||| 2 ^ (c % 64)) = y at hor HP
      generalize 2 ^ (c % 64) = m at hor HR
      generalize c / 64 % 33 = p at *
      have hp2 : (p : Int) < 33 := by omega
      have hp3 : p ≠ 34 := by omega
      have HR := Lib.hid HR
      clear hw2 o2 HB hx
      go_wp2_with fail
      refine (HR.out _).mono ?_
      rintro e w3 ⟨rfl, rfl⟩
      go_wp2_with fail
      go_region
      all_goals
        go_wp2_with fail
        go_ret
        exact HF.out _ _ rfl ((HO.out.set rfl).set rfl).drew (win_drew HP.out)
    · have k2 : ¬ (top : Int) < (c : Int) := by omega
      have e1 : fwd bs top c = bs := by rw [fwd, if_neg h2]
      have e2 : max top c = top := by omega
      rw [e1, e2] at HF
      clear h0 e1 e2 tail h2
      have hf : w.frozen? ⟨B, 34, none⟩ = false := free_of h.block
      have ha : w.cell? ⟨B, 34, none⟩ = some (.bool any) := (cell_of h.block).trans arr_any
      have hp : c / 64 % 33 < 33 := Nat.mod_lt _ (by decide)
      have HP := Lib.hid (put_win (c := c) h)
      obtain ⟨x, hx⟩ : ∃ x, x = bs (c / 64 % 33) := ⟨_, rfl⟩
      have hz : w.cell? ⟨B, c / 64 % 33, none⟩ = some (.int .u64 x) := by rw [hx]; exact (cell_of h.block).trans (arr_block hp)
      have hff : w.frozen? ⟨B, c / 64 % 33, none⟩ = false := free_of h.block
      have hor := (bits_or x (2 ^ (c % 64)) (by rw [hx]; exact h.lt _) (pow_lt c)).1
      rw [← hx] at HP
      have HR := HB.out
      generalize (x ||| 2 ^ (c % 64)) = y at hor HP
      generalize 2 ^ (c % 64) = m at hor HR
      generalize c / 64 % 33 = p at *
      have hp2 : (p : Int) < 33 := by omega
      have hp3 : p ≠ 34 := by omega
      have HR := Lib.hid HR
      clear HB hx h
      go_enter Try.func154, Try.ntmps154
      go_wp2_with fail
      refine H.mono ?_
      rintro e w1 ⟨rfl, rfl⟩
      go_wp2_with fail
      refine (HR.out _).mono ?_
      rintro e w3 ⟨rfl, rfl⟩
      go_wp2_with fail
      go_region
      all_goals
        go_wp2_with fail
        go_ret
        exact HF.out _ _ rfl (((Only.refl (fun k => k = B) _).set (S := fun k => k = B) rfl).set (S := fun k => k = B) rfl).drew (win_drew HP.out)
  · have HF : Hid (∀ e, e = .returned (.int .i64 (wd bs top any c)) → TakePost w B c bs top any e w) := fun e q => ⟨q, Only.refl _ _, by rw [if_neg h0]⟩
    have hb : (wd bs top any c != 0) = true := by simpa using h0
    generalize wd bs top any c = d at H HF hb
    clear h h0
    go_enter Try.func154, Try.ntmps154
    go_wp2_with fail
    refine H.mono ?_
    rintro e w1 ⟨rfl, rfl⟩
    go_wp2_with fail
    go_ret
    exact HF.out _ rfl
end Go.Proofs.Ytbjnejnjlidiaaa.winB
/- The window's numbers: what a window's blocks say of the list of what was taken. -/
namespace Go.Proofs.Ytbjnejnjlidiaaa.winC
open Go.RowKit Go.Lib Go.Proofs.Ytbjnejnjlidiaaa.kit Go.Proofs.Ytbjnejnjlidiaaa.numA Go.Proofs.Ytbjnejnjlidiaaa.winA Go.Proofs.Ytbjnejnjlidiaaa.winB
set_option linter.unusedVariables false
set_option linter.unusedSimpArgs false

def mx (l : List Nat) : Nat := l.foldl max 0

theorem foldl_max (l : List Nat) (a : Nat) : l.foldl max a = max a (mx l) := by
  induction l generalizing a with
  | nil => simp [mx]
  | cons x l ih => rw [mx, List.foldl_cons, List.foldl_cons, ih, ih (max 0 x)]; omega

theorem mx_snoc (l : List Nat) (c : Nat) : mx (l ++ [c]) = max (mx l) c := by
  rw [mx, List.foldl_append]; rfl

theorem mx_cons (x : Nat) (l : List Nat) : mx (x :: l) = max x (mx l) := by
  rw [mx, List.foldl_cons, foldl_max]; omega

theorem le_mx {l : List Nat} {c : Nat} (h : c ∈ l) : c ≤ mx l := by
  induction l with
  | nil => simp at h
  | cons x l ih =>
    rw [mx_cons]
    rcases List.mem_cons.1 h with rfl | h
    · omega
    · have := ih h; omega

/-- The document's code. -/
def rwd (l : List Nat) (c : Nat) : Int :=
  if 18446744073709543423 ≤ c then 10 else if l ≠ [] ∧ (c ∈ l ∨ c < mx l ∧ 2048 ≤ mx l - c) then 9 else 0

structure Tk (bs : Nat → Nat) (top : Nat) (any : Bool) (l : List Nat) : Prop where
  anyE : any = !l.isEmpty
  topE : top = mx l
  lt : ∀ c ∈ l, c < 18446744073709543423
  nodup : l.Nodup
  bit : ∀ c, c / 64 ≤ top / 64 → top / 64 ≤ c / 64 + 32 → (bs (c / 64 % 33)).testBit (c % 64) = decide (c ∈ l)

theorem inv_new : Tk (fun _ => 0) 0 false [] := ⟨rfl, rfl, by simp, by simp, by simp⟩

theorem wd_eq {bs : Nat → Nat} {top : Nat} {any : Bool} {l : List Nat} (h : Tk bs top any l) (c : Nat) : wd bs top any c = rwd l c := by
  rw [wd, rwd]
  by_cases h1 : 18446744073709543423 ≤ c
  · rw [if_pos h1, if_pos h1]
  rw [if_neg h1, if_neg h1]
  have ht := h.topE
  by_cases hl : l = []
  · subst hl
    have : any = false := h.anyE
    rw [if_pos (.inl this), if_neg (by simp)]
  have ha : ¬ any = false := by
    rw [h.anyE]
    cases l with
    | nil => exact absurd rfl hl
    | cons => simp
  by_cases h2 : top < c
  · rw [if_pos (.inr h2), if_neg]
    rintro ⟨-, hm | hm⟩
    · have := le_mx hm; omega
    · omega
  rw [if_neg (by rintro (q | q); exact ha q; exact h2 q)]
  by_cases h3 : 2048 ≤ top - c
  · rw [if_pos (.inl h3), if_pos ⟨hl, .inr (by omega)⟩]
  · have hb := h.bit c (Nat.div_le_div_right (by omega)) (by omega)
    rw [hb]
    by_cases hm : c ∈ l
    · rw [if_pos (.inr (by simpa using hm)), if_pos ⟨hl, .inl hm⟩]
    · rw [if_neg (by simp [h3, hm]), if_neg]
      rintro ⟨-, q | q⟩
      · exact hm q
      · omega

theorem clr_at (bs : Nat → Nat) (q j p : Nat) : clr bs q j p = if ∃ i, i < j ∧ (q - i) % 33 = p then 0 else bs p := by
  induction j with
  | zero => simp [clr]
  | succ j ih =>
    rw [clr, upd]
    by_cases h : p = (q - j) % 33
    · rw [if_pos h, if_pos ⟨j, by omega, h.symm⟩]
    · rw [if_neg h, ih]
      by_cases h2 : ∃ i, i < j ∧ (q - i) % 33 = p
      · rw [if_pos h2, if_pos]
        obtain ⟨i, hi, e⟩ := h2
        exact ⟨i, by omega, e⟩
      · rw [if_neg h2, if_neg]
        rintro ⟨i, hi, e⟩
        by_cases e2 : i = j
        · subst e2; exact h e.symm
        · exact h2 ⟨i, by omega, e⟩

/-- Behind forward: the new top's blocks say the same. -/
theorem fwd_bit {bs : Nat → Nat} {top : Nat} {any : Bool} {l : List Nat} (h : Tk bs top any l) (c : Nat) (x : Nat) (h1 : x / 64 ≤ max top c / 64) (h2 : max top c / 64 ≤ x / 64 + 32) :
    (fwd bs top c (x / 64 % 33)).testBit (x % 64) = decide (x ∈ l) := by
  rw [fwd]
  by_cases hc : top < c
  · have em : max top c = c := by omega
    rw [em] at h1 h2
    rw [if_pos hc, clr_at]
    have hd : top / 64 ≤ c / 64 := Nat.div_le_div_right (by omega)
    by_cases hx : x / 64 ≤ top / 64
    · rw [if_neg]
      · exact h.bit x hx (by omega)
      · rintro ⟨i, hi, e⟩
        have hs : steps top c ≤ 33 ∧ steps top c ≤ c / 64 - top / 64 := by rw [steps]; split <;> omega
        omega
    · rw [if_pos]
      · have : x ∉ l := by
          intro hm
          have a := le_mx hm
          have b := h.topE
          have : x / 64 ≤ top / 64 := Nat.div_le_div_right (by omega)
          omega
        simp [this]
      · refine ⟨c / 64 - x / 64, ?_, ?_⟩
        · rw [steps]; split <;> omega
        · have : c / 64 - (c / 64 - x / 64) = x / 64 := by omega
          rw [this]
  · have em : max top c = top := by omega
    rw [em] at h1 h2
    rw [if_neg hc]
    exact h.bit x h1 h2

theorem inv_take {bs : Nat → Nat} {top : Nat} {any : Bool} {l : List Nat} (h : Tk bs top any l) (c : Nat) (h0 : rwd l c = 0) : Tk (put (fwd bs top c) c) (max top c) true (l ++ [c]) := by
  have hlt : c < 18446744073709543423 := by
    rw [rwd] at h0
    split at h0
    · exact absurd h0 (by decide)
    · omega
  have hn : ¬ (l ≠ [] ∧ (c ∈ l ∨ c < mx l ∧ 2048 ≤ mx l - c)) := by
    intro q
    rw [rwd, if_neg (by omega), if_pos q] at h0
    exact absurd h0 (by decide)
  have hm : c ∉ l := fun q => hn ⟨fun e => by rw [e] at q; simp at q, .inl q⟩
  have hr : ¬ (c < mx l ∧ 2048 ≤ mx l - c) := by
    intro q
    refine hn ⟨fun e => ?_, .inr q⟩
    rw [e] at q
    simp [mx] at q
  have ht := h.topE
  refine ⟨by simp, by rw [mx_snoc, ← ht], ?_, ?_, ?_⟩
  · intro x hx
    rcases List.mem_append.1 hx with hx | hx
    · exact h.lt x hx
    · have : x = c := by simpa using hx
      omega
  · rw [List.nodup_append]
    refine ⟨h.nodup, by simp, ?_⟩
    intro a ha b hb e
    have : b = c := by simpa using hb
    exact hm (by rw [← this, ← e]; exact ha)
  · intro x h1 h2
    have hb := fwd_bit h c x h1 h2
    have hc1 : c / 64 ≤ max top c / 64 := Nat.div_le_div_right (by omega)
    have hc2 : max top c / 64 ≤ c / 64 + 32 := by omega
    rw [put, upd]
    by_cases e : x / 64 % 33 = c / 64 % 33
    · have e2 : x / 64 = c / 64 := by omega
      rw [if_pos e, Nat.testBit_or, ← e, hb, Nat.testBit_two_pow]
      by_cases e3 : x = c
      · simp [e3]
      · have : ¬ c % 64 = x % 64 := by omega
        simp [this, e3]
    · have e3 : x ≠ c := by
        intro q; rw [q] at e; exact e rfl
      rw [if_neg e, hb]
      simp [e3]

end Go.Proofs.Ytbjnejnjlidiaaa.winC
/- The window: Missing. -/
namespace Go.Proofs.Ytbjnejnjlidiaaa.winD
open Go.RowKit Go.Lib Go.Proofs.Ytbjnejnjlidiaaa.kit Go.Proofs.Ytbjnejnjlidiaaa.numA Go.Proofs.Ytbjnejnjlidiaaa.winA Go.Proofs.Ytbjnejnjlidiaaa.winB Go.Proofs.Ytbjnejnjlidiaaa.winC
set_option linter.unusedVariables false
set_option linter.unusedSimpArgs false

theorem win_keep {w W : World} {B top : Nat} {bs : Nat → Nat} {any : Bool} (h : Win w B bs top any) {S : Nat → Prop} (o : Only S w W) (hs : ¬ S B) : Win W B bs top any := ⟨o.keep h.block hs, h.top_lt, h.lt⟩

end Go.Proofs.Ytbjnejnjlidiaaa.winD
/- The window, by the list of what it took; the example. -/
namespace Go.Proofs.Ytbjnejnjlidiaaa.winH
open Go.RowKit Go.Lib Go.Proofs.Ytbjnejnjlidiaaa.kit Go.Proofs.Ytbjnejnjlidiaaa.numA Go.Proofs.Ytbjnejnjlidiaaa.winA Go.Proofs.Ytbjnejnjlidiaaa.winB Go.Proofs.Ytbjnejnjlidiaaa.winC Go.Proofs.Ytbjnejnjlidiaaa.winD
set_option linter.unusedVariables false
set_option linter.unusedSimpArgs false

def At (w : World) (B : Nat) (l : List Nat) : Prop := ∃ bs top any, Win w B bs top any ∧ Tk bs top any l

abbrev ptr (B : Nat) : Value := .pointer (some ⟨B, 0, none⟩)

theorem At.keep {w W : World} {B : Nat} {l : List Nat} (h : At w B l) {S : Nat → Prop} (o : Only S w W) (hs : ¬ S B) : At W B l := by
  obtain ⟨bs, top, any, hw, ht⟩ := h
  exact ⟨bs, top, any, win_keep hw o hs, ht⟩

theorem At.lt {w : World} {B : Nat} {l : List Nat} (h : At w B l) : B < w.heap.size := by
  obtain ⟨bs, top, any, hw, ht⟩ := h
  exact lt_of hw.block

theorem Only.own {a w w' : World} {B : Nat} (h : Only (fun _ => False) a w) (k : Only (fun i => i = B) w w') (hB : a.heap.size ≤ B) : Only (fun _ => False) a w' :=
  ⟨k.os.trans h.os, k.tape.trans h.tape, k.output.trans h.output, Nat.le_trans h.size k.size, fun i hi hs => (k.block i (Nat.lt_of_lt_of_le hi h.size) (by show ¬ i = B; omega)).trans (h.block i hi id)⟩

theorem new_at (w : World) : Calls Try.prog 151 #[] w fun e w' => e = .returned (ptr w.heap.size) ∧ At w' w.heap.size [] ∧ Only (fun _ => False) w w' :=
  (new_any w).mono fun e w' ⟨q1, q2, q3⟩ => ⟨q1, ⟨_, _, _, q2, inv_new⟩, q3⟩

theorem would_at (B c : Nat) (l : List Nat) (w : World) (hc : c < 18446744073709551616) (h : At w B l) : Calls Try.prog 153 #[ptr B, .int .u64 c] w fun e w' => e = .returned (.int .i64 (rwd l c)) ∧ w' = w := by
  obtain ⟨bs, top, any, hw, ht⟩ := h
  have := would_any B c bs top any w hc hw
  rw [wd_eq ht c] at this
  exact this

def Took (w : World) (B c : Nat) (l : List Nat) (r : Int) (l' : List Nat) (e : Ending) (w' : World) : Prop := e = .returned (.int .i64 r) ∧ At w' B l' ∧ Only (fun k => k = B) w w'

theorem take_at (B c : Nat) (l : List Nat) (w : World) (hc : c < 18446744073709551616) (h : At w B l) : Calls Try.prog 154 #[ptr B, .int .u64 c] w (Took w B c l (rwd l c) (if rwd l c = 0 then l ++ [c] else l)) := by
  obtain ⟨bs, top, any, hw, ht⟩ := h
  refine (take_any B c bs top any w hc hw).mono ?_
  rintro e w' ⟨q1, q2, q3⟩
  rw [wd_eq ht c] at q1 q3
  refine ⟨q1, ?_, q2⟩
  by_cases h0 : rwd l c = 0
  · rw [if_pos h0] at q3 ⊢
    exact ⟨_, _, _, q3, inv_take ht c h0⟩
  · rw [if_neg h0] at q3 ⊢
    rw [q3]
    exact ⟨_, _, _, hw, ht⟩

end Go.Proofs.Ytbjnejnjlidiaaa.winH
