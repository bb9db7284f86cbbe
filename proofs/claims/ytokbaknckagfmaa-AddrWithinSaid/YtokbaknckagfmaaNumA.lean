/- Contracts of num's and its document's small calls: digits, and what is a number. -/
import Derived.Test.YtokbaknckagfmaaProg
import Derived.Test.YtokbaknckagfmaaKit
import Derived.WalkKit
import Derived.WalkSpells
import Derived.Laws.RangeString
import Derived.Laws.RangeAny
import Derived.LoopTactic
import Derived.Lib.Hide
import Derived.Outline
import Derived.Laws.IdiomStrings
import Derived.Deep.OwnRows
import Derived.Scope
import Derived.WalkLawsBesides
namespace Go.Proofs.Ytokbaknckagfmaa.numA
open Go.RowKit kit
set_option linter.unusedVariables false

def Told (w : World) (v : Value) (e : Ending) (w' : World) : Prop := e = .returned v ∧ Only (fun _ => False) w w'

end Go.Proofs.Ytokbaknckagfmaa.numA
namespace Go.Proofs.Ytokbaknckagfmaa.numB
open numA

/-- The sign of a digit. -/
def sg (d : Nat) : UInt8 := UInt8.ofNat (48 + d)

/-- The digits of a number. -/
def dec (u : Nat) : List UInt8 := if u < 10 then [sg u] else dec (u / 10) ++ [sg (u % 10)]
termination_by u
decreasing_by omega

theorem dec_small {u : Nat} (h : u < 10) : dec u = [sg u] := by rw [dec, if_pos h]
theorem dec_big {u : Nat} (h : ¬ u < 10) : dec u = dec (u / 10) ++ [sg (u % 10)] := by rw [dec, if_neg h]

theorem toNat_dig {d : Nat} (h : d < 10) : (sg d).toNat = 48 + d := by
  rw [sg, UInt8.toNat_ofNat']
  omega

theorem dec_ne (u : Nat) : dec u ≠ [] := by
  by_cases h : u < 10
  · rw [dec_small h]; simp
  · rw [dec_big h]; simp

theorem dec_len (k : Nat) : ∀ u, u < 10 ^ (k + 1) → (dec u).length ≤ k + 1 := by
  induction k with
  | zero => intro u h; rw [dec_small (by simpa using h)]; simp
  | succ k ih =>
    intro u h
    by_cases h' : u < 10
    · rw [dec_small h']; simp
    · rw [dec_big h', List.length_append]
      have := ih (u / 10) (by rw [Nat.pow_succ] at h; omega)
      simp only [List.length_cons, List.length_nil]
      omega

end Go.Proofs.Ytokbaknckagfmaa.numB
namespace Go.Proofs.Ytokbaknckagfmaa.numC
open Go.RowKit kit numA numB
set_option linter.unusedVariables false

/-- The greatest number, behind a name. -/
def most : Nat := 18446744073709551615

end Go.Proofs.Ytokbaknckagfmaa.numC
namespace Go.Proofs.Ytokbaknckagfmaa.numD
open Go.RowKit kit numA numB numC
set_option linter.unusedVariables false

theorem only_setNew {S : Nat → Prop} {a w : World} (h : Only S a w) {b o : Nat} {v : Value} (hb : a.heap.size ≤ b) : Only S a (w.setCell ⟨b, o, none⟩ v) :=
  ⟨h.os, h.tape, h.output, by simpa using h.size, fun k hk hs => (heap_other (by omega)).trans (h.block k hk hs)⟩

/-- The room of a number's digits, with its last one. -/
def room (x : Int) : Array Value := #[.int .u8 0, .int .u8 0, .int .u8 0, .int .u8 0, .int .u8 0, .int .u8 0, .int .u8 0, .int .u8 0, .int .u8 0, .int .u8 0, .int .u8 0, .int .u8 0, .int .u8 0, .int .u8 0, .int .u8 0, .int .u8 0, .int .u8 0, .int .u8 0, .int .u8 0, .int .u8 x]

/-- The digits behind place b + 1 stand; those of n are still to come. -/
structure St (u n b : Nat) (w wr : World) : Prop where
  ex : ∃ (D : List UInt8) (f : Nat → Value), wr.rowIs w.heap.size 54 20 f ∧ b + 1 + D.length = 20 ∧ (∀ j, j < D.length → f (b + 1 + j) = .int .u8 ((D.getD j 0).toNat : Int)) ∧ dec u = dec n ++ D
  old : Only (fun _ => False) w wr
  le : n ≤ most

theorem St.store {u n b : Nat} {w wr : World} (h : St u n b w wr) : ∃ (D : List UInt8) (f : Nat → Value), (wr.setCell ⟨w.heap.size, b, none⟩ (.int .u8 (48 + (n : Int) % 10))).rowIs w.heap.size 54 20 f ∧
    b + D.length = 20 ∧ (∀ j, j < D.length → f (b + j) = .int .u8 ((D.getD j 0).toNat : Int)) ∧ (if n < 10 then dec u = D else dec u = dec (n / 10) ++ D) := by
  obtain ⟨D, f, hr, hl, hf, he⟩ := h.ex
  refine ⟨sg (n % 10) :: D, fun j => if j = b then .int .u8 (48 + (n : Int) % 10) else f j, hr.set b _, by simp; omega, ?_, ?_⟩
  · intro j hj
    cases j with
    | zero =>
      show (if b + 0 = b then _ else _) = _
      rw [if_pos (by omega), List.getD_cons_zero, toNat_dig (by omega)]
      congr 1
    | succ j =>
      show (if b + (j + 1) = b then _ else _) = _
      rw [if_neg (by omega), List.getD_cons_succ, ← hf j (by simp at hj; omega)]
      congr 1
      omega
  · by_cases c : n < 10
    · rw [if_pos c, he, dec_small c, Nat.mod_eq_of_lt c]
      rfl
    · rw [if_neg c, he, dec_big c]
      simp

theorem conv_row {W : World} {B b : Nat} {D : List UInt8} {f : Nat → Value} (hr : W.rowIs B 54 20 f) (hl : b + D.length = 20) (hf : ∀ j, j < D.length → f (b + j) = .int .u8 ((D.getD j 0).toNat : Int)) :
    (convert 22 9 (.slice (some ⟨B, b, none⟩) (20 - b) (20 - b))).run Try.prog W = .ok (.string ⟨D.toArray⟩) W := by
  have e : 20 - b = D.length := by omega
  rw [e]
  exact run_convert_bytes_back (P := Try.prog) W 22 9 5 ⟨B, b, none⟩ D.length D Try.underlying22 Try.underlying5 Try.underlying9 (fun j hj => by
    rw [Addr.add_lit, hr.cell (by omega), hf j hj]
    simp [hj])

theorem slice_room (W : World) (B b : Nat) (v : Value) (h : b < 20) : (Instr.sliceAt 54 (.pointer (some ⟨B, 0, none⟩)) (some (.int .i64 (b : Int))) none none).run Try.prog (W.setCell ⟨B, b, none⟩ v) = .ok (.slice (some ⟨B, b, none⟩) (20 - b) (20 - b)) (W.setCell ⟨B, b, none⟩ v) := by
  have hl : Try.prog.arrayLen 54 = 20 := by kernel_rfl
  have hs : (Try.prog.info? (Try.prog.elem 54)).map (fun i => i.size) = some 1 := by kernel_rfl
  obtain ⟨i, hi, hz⟩ := Option.map_eq_some_iff.1 hs
  rw [run_sliceAt_array_l (P := Try.prog) _ 54 ⟨B, 0, none⟩ (by kernel_rfl) .i64 b (by omega) (by rw [hl]; omega), hl]
  have hne : ¬ (20 = b) := by omega
  simp [sizeOf, typeInfo, hi, hz, slicedAt, hne, Addr.add_lit]

theorem room_row (w : World) (x : Int) : (w.alloc (.cells (room x) 54)).rowIs w.heap.size 54 20 (fun j => (room x).getD j undef) :=
  ⟨room x, heap_alloc_new w _, rfl, fun i hi => by
    have : i < (room x).size := hi
    simp [this]⟩

set_option maxRecDepth 100000 in
theorem print_any (u : Nat) (w : World) (hu : u ≤ most) : Calls Try.prog 22 #[.int .u64 u] w (numA.Told w (.string ⟨(dec u).toArray⟩)) := by
  have hlen : (dec u).length ≤ 20 := dec_len 19 u (by unfold most at hu; omega)
  have H0 := room_row w (48 + (u : Int) % 10)
  have hd0 : (48 + (u : Int) % 10) = ((sg (u % 10)).toNat : Int) := by rw [toNat_dig (by omega)]; omega
  have hf0 : ∀ j, j < [sg (u % 10)].length → (room (48 + (u : Int) % 10)).getD (19 + j) undef = .int .u8 (([sg (u % 10)].getD j 0).toNat : Int) := by
    intro j hj
    obtain rfl : j = 0 := by simpa using hj
    rw [List.getD_cons_zero, ← hd0]
    rfl
  have hcv := conv_row H0 (by rfl) hf0
  have HLEN := Lib.hid hlen
  have HU := Lib.hid hu
  have H0' := Lib.hid H0
  have HF0 := Lib.hid hf0
  have hw : Hid (IntKind.u64.wrap ((u : Int) / 10) = ((u / 10 : Nat) : Int)) := (by rw [IntWalk.u64_in _ (by unfold most at hu; omega)]; omega : IntKind.u64.wrap ((u : Int) / 10) = ((u / 10 : Nat) : Int))
  clear hlen H0 hd0 hu hf0
  unfold room at hcv
  go_enter Try.func22, Try.ntmps22
  go_wp2_with fail
  refine wp_scope_jumps 0 (fun a' w' => ∃ (n b : Nat) (u1 u5 u6 u7 u8 u9 u10 u11 u12 u13 u14 u15 u16 u17 u18 u19 : Value), a' = { tmps := #[.int .u64 n, u1, .string ⟨#[]⟩, .pointer (some ⟨w.heap.size, 0, none⟩), .int .i64 ((b : Int) + 1), u5, u6, u7, u8, u9, u10, u11, u12, u13, u14, u15, u16, u17, u18, u19], defers := [] } ∧ St u n b w w') (fun a' _ => (intOf (a'.tmps.getD 0 undef)).toNat) rfl ?_ ?_
  · go_wp2
    go_step3
    go_wp2
    · have ht : 0 < IntKind.u64.wrap ((u : Int) / 10) := by assumption
      have HT := Lib.hid ht
      clear ht
      go_step3
      rw [hw.out]
      refine ⟨rfl, u / 10, 18, _, _, _, _, _, _, _, _, _, _, _, _, _, _, _, _, rfl, ⟨⟨[sg (u % 10)], _, H0'.out, rfl, HF0.out, ?_⟩, (Only.refl _ _).alloc _, by have := HU.out; omega⟩⟩
      have := HT.out
      rw [hw.out] at this
      rw [dec_big (by omega)]
    · have ht : IntKind.u64.wrap ((u : Int) / 10) ≤ 0 := by assumption
      have HT := Lib.hid ht
      clear ht
      simp only [Exit.jump]
      go_ret
      refine ⟨?_, (Only.refl _ _).alloc _⟩
      have := HT.out
      rw [hw.out] at this
      have e : dec u = [sg (u % 10)] := by rw [dec_small (by omega), Nat.mod_eq_of_lt (by omega)]
      rw [e]
      rfl
  · rintro a' wr ⟨n, b, u1, u5, u6, u7, u8, u9, u10, u11, u12, u13, u14, u15, u16, u17, u18, u19, rfl, hS⟩
    obtain ⟨D, f, hr, hl, hf, he⟩ := hS.store
    have old := hS.old
    have hle := hS.le
    obtain ⟨D0, f0, hr0, hl0, -, -⟩ := hS.ex
    have hb1 : b < 20 := by omega
    have hcell := hr0.cell hb1
    have hfrz := hr0.frozen b
    have hcv := conv_row hr hl hf
    have HST : Hid ((¬ n < 10) → St u (n / 10) (b - 1) w (wr.setCell ⟨w.heap.size, b, none⟩ (.int .u8 (48 + (n : Int) % 10))) ∧ 1 ≤ b) := by
      intro c
      rw [if_neg c] at he
      have hb : 1 ≤ b := by
        have q := HLEN.out
        have ne := dec_ne (n / 10)
        have : 0 < (dec (n / 10)).length := List.length_pos_iff.2 ne
        rw [he, List.length_append] at q
        omega
      refine ⟨⟨⟨D, f, hr, by omega, ?_, he⟩, only_setNew old (Nat.le_refl _), by omega⟩, hb⟩
      rw [show b - 1 + 1 = b by omega]
      exact hf
    have HFIN : Hid (n < 10 → dec u = D) := by
      intro c
      rw [if_pos c] at he
      exact he
    have HOLD : Hid (Only (fun _ => False) w (wr.setCell ⟨w.heap.size, b, none⟩ (.int .u8 (48 + (n : Int) % 10)))) := only_setNew old (Nat.le_refl _)
    have HWN : Hid (IntKind.u64.wrap ((n : Int) / 10) = ((n / 10 : Nat) : Int)) := (by rw [IntWalk.u64_in _ (by unfold most at hle; omega)]; omega : IntKind.u64.wrap ((n : Int) / 10) = ((n / 10 : Nat) : Int))
    have hb2 : (b : Int) < 20 := by omega
    clear hr hl hf he old hle hr0 hl0 hS hw H0' HF0 HU HLEN
    have hsl := slice_room wr w.heap.size b (.int .u8 (48 + (n : Int) % 10)) (by omega)
    go_wp2
    · have ht : 0 < IntKind.u64.wrap ((n : Int) / 10) := by assumption
      have HT := Lib.hid ht
      clear ht
      go_step3
      have h10 : ¬ n < 10 := by
        have := HT.out
        rw [HWN.out] at this
        omega
      obtain ⟨hS2, hb3⟩ := HST.out h10
      have eb : (b : Int) = ((b - 1 : Nat) : Int) + 1 := by omega
      rw [HWN.out, eb]
      refine ⟨rfl, ⟨n / 10, b - 1, _, _, _, _, _, _, _, _, _, _, _, _, _, _, _, _, rfl, hS2⟩, ?_⟩
      simp [intOf]
      omega
    · have ht : IntKind.u64.wrap ((n : Int) / 10) ≤ 0 := by assumption
      have HT := Lib.hid ht
      clear ht
      simp only [Exit.jump]
      go_ret
      refine ⟨?_, HOLD.out⟩
      have := HT.out
      rw [HWN.out] at this
      rw [HFIN.out (by omega)]
      rfl
end Go.Proofs.Ytokbaknckagfmaa.numD
namespace Go.Proofs.Ytokbaknckagfmaa.numE
open Go.RowKit kit numA
set_option linter.unusedVariables false

/-- The sign of a number below 16. -/
def hs (n : Nat) : UInt8 := UInt8.ofNat (if n < 10 then 48 + n else 87 + n)
end Go.Proofs.Ytokbaknckagfmaa.numE
