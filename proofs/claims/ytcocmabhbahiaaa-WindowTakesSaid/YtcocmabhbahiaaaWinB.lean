/- The window: forward, Take, Clone. -/
import Derived.Test.YtcocmabhbahiaaaWinA
import Derived.Deep.WholeRow
namespace Go.Proofs.Ytcocmabhbahiaaa.winB
open Go.RowKit Go.Lib Go.Proofs.Ytcocmabhbahiaaa.kit Go.Proofs.Ytcocmabhbahiaaa.numA Go.Proofs.Ytcocmabhbahiaaa.winA
set_option linter.unusedVariables false
set_option linter.unusedSimpArgs false

theorem arr_one (bs : Nat → Nat) (top : Nat) (any : Bool) : (arr bs top any).all (·.oneCell') = true := by
  simp [arr, List.range, List.range.loop, Value.oneCell']

theorem info106 (bs : Nat → Nat) (top : Nat) (any : Bool) : (Try.prog.info? 106).map (·.size) = some (arr bs top any).size := by
  rw [arr_size]; kernel_rfl

set_option maxRecDepth 100000 in
theorem clone_any (B : Nat) (bs : Nat → Nat) (top : Nat) (any : Bool) (w : World) (h : Win w B bs top any) :
    Calls Try.prog 35 #[.pointer (some ⟨B, 0, none⟩)] w fun e w' => e = .returned (.pointer (some ⟨w.heap.size, 0, none⟩)) ∧ Win w' w.heap.size bs top any ∧ Only (fun _ => False) w w' := by
  have HH := Lib.hid h
  have hi := info106 bs top any
  have h1 := arr_one bs top any
  have hb := h.block
  have hs := arr_size bs top any
  obtain ⟨c, hcd⟩ : ∃ c, c = arr bs top any := ⟨_, rfl⟩
  rw [← hcd] at hi h1 hb hs
  have HC := Lib.hid hcd
  clear h hcd
  go_enter Try.func35, Try.ntmps35
  go_wp2_with (first
    | (refine wpList_load_row rfl 106 (.tmp 7) rfl B rfl 106 c (0, 0) _ hb Try.underlying106 rfl hi ?_)
    | (refine wpList_store_row rfl 106 (.tmp 3) (.tmp 8) rfl w.heap.size c rfl rfl 106 _ (heap_alloc_new _ _) hi (by rw [hs]; rfl) h1 ?_))
  go_ret
  refine ⟨rfl, ⟨?_, HH.out.top_lt, HH.out.lt⟩, ?_⟩
  · rw [World.setRow_alloc_new, ← HC.out]
    exact heap_alloc_new _ _
  · rw [World.setRow_alloc_new]
    exact (Only.refl _ _).alloc _

/-- j blocks from q down, empty. -/
def clr (bs : Nat → Nat) (q : Nat) : Nat → Nat → Nat
  | 0 => bs
  | j + 1 => upd (clr bs q j) ((q - j) % 33) 0

theorem clr_lt {bs : Nat → Nat} (h : ∀ i, bs i < 18446744073709551616) (q j : Nat) : ∀ i, clr bs q j i < 18446744073709551616 := by
  induction j with
  | zero => exact h
  | succ j ih =>
    intro i
    rw [clr, upd]
    split
    · decide
    · exact ih i

def steps (top c : Nat) : Nat := if 33 < c / 64 - top / 64 then 33 else c / 64 - top / 64

theorem Only.setOwn {S : Nat → Prop} {a w : World} (h : Only S a w) {b o : Nat} {v : Value} (hb : S b) : Only S a (w.setCell ⟨b, o, none⟩ v) := h.set hb

set_option maxRecDepth 100000 in
set_option maxHeartbeats 400000 in
theorem forward_any (B c : Nat) (bs : Nat → Nat) (top : Nat) (any : Bool) (w : World) (hc : c < 18446744073709551616) (h : Win w B bs top any) (htc : top < c) :
    Calls Try.prog 77 #[.pointer (some ⟨B, 0, none⟩), .int .u64 c] w fun e w' => e = .returned (.tuple #[]) ∧ Win w' B (clr bs (c / 64) (steps top c)) c any ∧ Only (fun k => k = B) w w' := by
  have ht : w.cell? ⟨B, 33, none⟩ = some (.int .u64 top) := (cell_of h.block).trans arr_top
  have hlt := lt_of h.block
  have f1 : IntKind.u64.wrap ((c : Int) / 64 - (top : Int) / 64) = ((c / 64 - top / 64 : Nat) : Int) := by
    have : (c : Int) / 64 - (top : Int) / 64 = ((c / 64 - top / 64 : Nat) : Int) := by omega
    rw [this]; exact IntWalk.u64_in _ (by omega)
  have hs : steps top c ≤ 33 ∧ steps top c ≤ c / 64 := by rw [steps]; split <;> omega
  have f2 : (if (33 : Int) < ((c / 64 - top / 64 : Nat) : Int) then (33 : Int) else ((c / 64 - top / 64 : Nat) : Int)) = (steps top c : Int) := by
    rw [steps]
    split <;> split <;> omega
  generalize c / 64 - top / 64 = d at f1 f2
  generalize steps top c = F at hs f2 ⊢
  have HH := Lib.hid h
  have HS := Lib.hid hs
  clear h hs
  go_enter Try.func77, Try.ntmps77
  go_wp2_with fail
  go_loopw [18] (fun i wr => ∃ j : Nat, j ≤ F ∧ i = .int .u64 j ∧ wr.heap[B]? = some (.cells (arr (clr bs (c / 64) j) top any) 106 (0, 0)) ∧ Only (fun k => k = B) w wr) (fun i _ => F - (intOf i).toNat)
  case atStart => exact ⟨0, Nat.zero_le _, rfl, HH.out.block, Only.refl _ _⟩
  case round =>
    obtain ⟨j, hj, rfl, hb, o⟩ := hrel
    by_cases hlt2 : j < F
    · have hs := HS.out
      have j1 : (j : Int) < (F : Int) := by omega
      have f3 : IntKind.u64.wrap ((j : Int) * 64) = (j : Int) * 64 := IntWalk.u64_in _ (by omega)
      have f4 : IntKind.u64.wrap ((c : Int) - (j : Int) * 64) = ((c - j * 64 : Nat) : Int) := by
        have : (c : Int) - (j : Int) * 64 = ((c - j * 64 : Nat) : Int) := by omega
        rw [this]; exact IntWalk.u64_in _ (by omega)
      have f5 : IntKind.u64.wrap ((j : Int) + 1) = ((j + 1 : Nat) : Int) := by
        have : (j : Int) + 1 = ((j + 1 : Nat) : Int) := by omega
        rw [this]; exact IntWalk.u64_in _ (by omega)
      have hq : (c - j * 64) / 64 % 33 = (c / 64 - j) % 33 := by
        have : (c - j * 64) / 64 = c / 64 - j := by omega
        rw [this]
      have H := bit_any (c - j * 64)
      rw [hq] at H
      generalize 2 ^ ((c - j * 64) % 64) = mm at H
      have hp : (c / 64 - j) % 33 < 33 := Nat.mod_lt _ (by decide)
      have e1 : clr bs (c / 64) (j + 1) = upd (clr bs (c / 64) j) ((c / 64 - j) % 33) 0 := rfl
      have HE := Lib.hid e1
      generalize (c / 64 - j) % 33 = p at H hp HE
      have H2 := Lib.hid (fun wx => H wx (by omega))
      generalize c - j * 64 = x at f4 H2
      have hp2 : (p : Int) < 33 := by omega
      have hz : wr.cell? ⟨B, p, none⟩ = some (.int .u64 (clr bs (c / 64) j p)) := (cell_of hb).trans (arr_block hp)
      have hf : wr.frozen? ⟨B, p, none⟩ = false := free_of hb
      have HB := Lib.hid hb
      have HO := Lib.hid o
      clear hs H hb o e1 hq
      go_wp2_with fail
      refine (H2.out _).mono ?_
      rintro e w1 ⟨rfl, rfl⟩
      go_wp2_with fail
      go_roundw
      case rel =>
        refine ⟨j + 1, by omega, by go_num, ?_, HO.out.set rfl⟩
        rw [heap_set HB.out, HE.out, ← arr_upd hp]
        rfl
      case measure => simp [intOf]; omega
    · obtain rfl : j = F := by omega
      have hz : wr.cell? ⟨B, 33, none⟩ = some (.int .u64 top) := (cell_of hb).trans arr_top
      have hf : wr.frozen? ⟨B, 33, none⟩ = false := free_of hb
      have HB := Lib.hid hb
      have HO := Lib.hid o
      clear hb o
      go_wp2_with fail
      refine bodyPost_end (v := .tuple #[]) (by simp [results, Try.results77, go_sem]) rfl ?_
      refine ⟨rfl, ⟨?_, hc, clr_lt HH.out.lt _ _⟩, HO.out.set rfl⟩
      rw [heap_set HB.out, arr_set_top]

theorem bits_or (x m : Nat) (hx : x < 18446744073709551616) (hm : m < 18446744073709551616) : bits .or .u64 (x : Int) (m : Int) = ((x ||| m : Nat) : Int) ∧ x ||| m < 18446744073709551616 := by
  refine ⟨bits_or_u64_nat _ _ hx hm, ?_⟩
  have := Nat.or_lt_two_pow (n := 64) (x := x) (y := m) (by simpa using hx) (by simpa using hm)
  simpa using this

/-- What Take makes of the blocks. -/
def put (bs : Nat → Nat) (c : Nat) : Nat → Nat := upd bs (c / 64 % 33) (bs (c / 64 % 33) ||| 2 ^ (c % 64))

def fwd (bs : Nat → Nat) (top c : Nat) : Nat → Nat := if top < c then clr bs (c / 64) (steps top c) else bs

def TakePost (w : World) (B c : Nat) (bs : Nat → Nat) (top : Nat) (any : Bool) (e : Ending) (w' : World) : Prop :=
  e = .returned (.int .i64 (wd bs top any c)) ∧ Only (fun k => k = B) w w' ∧ if wd bs top any c = 0 then Win w' B (put (fwd bs top c) c) (max top c) true else w' = w

theorem win_drew {w : World} {B top : Nat} {bs : Nat → Nat} {any : Bool} (h : Win w B bs top any) : Win w.drew B bs top any := ⟨h.block, h.top_lt, h.lt⟩

/-- The end of Take: any, bit, the bit's store. -/
theorem put_win {w : World} {B c top : Nat} {bs : Nat → Nat} {any : Bool} (h : Win w B bs top any) : Win ((w.setCell ⟨B, 34, none⟩ (.bool true)).setCell ⟨B, c / 64 % 33, none⟩ (.int .u64 ((bs (c / 64 % 33) ||| 2 ^ (c % 64) : Nat) : Int))) B (put bs c) top true := by
  refine ⟨?_, h.top_lt, fun i => ?_⟩
  · rw [heap_set (heap_set h.block), arr_set_any, arr_upd (Nat.mod_lt _ (by decide))]
    rfl
  · rw [put, upd]
    split
    · exact (bits_or _ _ (h.lt _) (pow_lt c)).2
    · exact h.lt i

set_option maxRecDepth 100000 in
set_option maxHeartbeats 400000 in
theorem take_any (B c : Nat) (bs : Nat → Nat) (top : Nat) (any : Bool) (w : World) (hc : c < 18446744073709551616) (h : Win w B bs top any) :
    Calls Try.prog 38 #[.pointer (some ⟨B, 0, none⟩), .int .u64 c] w (TakePost w B c bs top any) := by
  have H := would_any B c bs top any w hc h
  by_cases h0 : wd bs top any c = 0
  · have HF : Hid (∀ e w', e = .returned (.int .i64 0) → Only (fun k => k = B) w w' → Win w' B (put (fwd bs top c) c) (max top c) true → TakePost w B c bs top any e w') :=
      fun e w' q1 q2 q3 => ⟨by rw [h0]; exact q1, q2, by rw [if_pos h0]; exact q3⟩
    rw [h0] at H
    have ht : w.cell? ⟨B, 33, none⟩ = some (.int .u64 top) := (cell_of h.block).trans arr_top
    have HB := Lib.hid (fun W => bit_any c W hc)
    have tail : ∀ (W : World) (bs' : Nat → Nat) (top' : Nat), Win W B bs' top' any → Hid (W.frozen? ⟨B, 34, none⟩ = false ∧ True) := fun W bs' top' hW => ⟨free_of hW.block, trivial⟩
    have HT := Lib.hid h
    have HL := Lib.hid h0
    by_cases h2 : top < c
    · have k2 : (top : Int) < (c : Int) := by omega
      have HW := Lib.hid (forward_any B c bs top any w hc h h2)
      have e1 : fwd bs top c = clr bs (c / 64) (steps top c) := by rw [fwd, if_pos h2]
      have e2 : max top c = c := by omega
      rw [e1, e2] at HF
      generalize clr bs (c / 64) (steps top c) = bs2 at HF HW
      clear h h0 e1 e2 tail h2
      go_enter Try.func38, Try.ntmps38
      go_wp2_with fail
      refine H.mono ?_
      rintro e w1 ⟨rfl, rfl⟩
      go_wp2_with fail
      refine HW.out.mono ?_
      rintro e w2 ⟨rfl, hw2, o2⟩
      have hf : w2.frozen? ⟨B, 34, none⟩ = false := free_of hw2.block
      have ha : w2.cell? ⟨B, 34, none⟩ = some (.bool any) := (cell_of hw2.block).trans arr_any
      have hp : c / 64 % 33 < 33 := Nat.mod_lt _ (by decide)
      have HP := Lib.hid (put_win (c := c) hw2)
      have HO := Lib.hid o2
      obtain ⟨x, hx⟩ : ∃ x, x = bs2 (c / 64 % 33) := ⟨_, rfl⟩
      have hz : w2.cell? ⟨B, c / 64 % 33, none⟩ = some (.int .u64 x) := by rw [hx]; exact (cell_of hw2.block).trans (arr_block hp)
      have hff : w2.frozen? ⟨B, c / 64 % 33, none⟩ = false := free_of hw2.block
      have hor := (bits_or x (2 ^ (c % 64)) (by rw [hx]; exact hw2.lt _) (pow_lt c)).1
      rw [← hx] at HP
      have HR := HB.out
      generalize (x ||| 2 ^ (c % 64)) = y at hor HP
      generalize 2 ^ (c % 64) = m at hor HR
      generalize c / 64 % 33 = p at *
      have hp2 : (p : Int) < 33 := by omega
      have hp3 : p ≠ 34 := by omega
      have HR := Lib.hid HR
      clear hw2 o2 HB hx
      go_wp2_with fail
      refine (HR.out _).mono ?_
      rintro e w3 ⟨rfl, rfl⟩
      go_wp2_with fail
      go_region
      all_goals
        go_wp2_with fail
        go_ret
        exact HF.out _ _ rfl ((HO.out.set rfl).set rfl).drew (win_drew HP.out)
    · have k2 : ¬ (top : Int) < (c : Int) := by omega
      have e1 : fwd bs top c = bs := by rw [fwd, if_neg h2]
      have e2 : max top c = top := by omega
      rw [e1, e2] at HF
      clear h0 e1 e2 tail h2
      have hf : w.frozen? ⟨B, 34, none⟩ = false := free_of h.block
      have ha : w.cell? ⟨B, 34, none⟩ = some (.bool any) := (cell_of h.block).trans arr_any
      have hp : c / 64 % 33 < 33 := Nat.mod_lt _ (by decide)
      have HP := Lib.hid (put_win (c := c) h)
      obtain ⟨x, hx⟩ : ∃ x, x = bs (c / 64 % 33) := ⟨_, rfl⟩
      have hz : w.cell? ⟨B, c / 64 % 33, none⟩ = some (.int .u64 x) := by rw [hx]; exact (cell_of h.block).trans (arr_block hp)
      have hff : w.frozen? ⟨B, c / 64 % 33, none⟩ = false := free_of h.block
      have hor := (bits_or x (2 ^ (c % 64)) (by rw [hx]; exact h.lt _) (pow_lt c)).1
      rw [← hx] at HP
      have HR := HB.out
      generalize (x ||| 2 ^ (c % 64)) = y at hor HP
      generalize 2 ^ (c % 64) = m at hor HR
      generalize c / 64 % 33 = p at *
      have hp2 : (p : Int) < 33 := by omega
      have hp3 : p ≠ 34 := by omega
      have HR := Lib.hid HR
      clear HB hx h
      go_enter Try.func38, Try.ntmps38
      go_wp2_with fail
      refine H.mono ?_
      rintro e w1 ⟨rfl, rfl⟩
      go_wp2_with fail
      refine (HR.out _).mono ?_
      rintro e w3 ⟨rfl, rfl⟩
      go_wp2_with fail
      go_region
      all_goals
        go_wp2_with fail
        go_ret
        exact HF.out _ _ rfl (((Only.refl (fun k => k = B) _).set (S := fun k => k = B) rfl).set (S := fun k => k = B) rfl).drew (win_drew HP.out)
  · have HF : Hid (∀ e, e = .returned (.int .i64 (wd bs top any c)) → TakePost w B c bs top any e w) := fun e q => ⟨q, Only.refl _ _, by rw [if_neg h0]⟩
    have hb : (wd bs top any c != 0) = true := by simpa using h0
    generalize wd bs top any c = d at H HF hb
    clear h h0
    go_enter Try.func38, Try.ntmps38
    go_wp2_with fail
    refine H.mono ?_
    rintro e w1 ⟨rfl, rfl⟩
    go_wp2_with fail
    go_ret
    exact HF.out _ rfl
end Go.Proofs.Ytcocmabhbahiaaa.winB
