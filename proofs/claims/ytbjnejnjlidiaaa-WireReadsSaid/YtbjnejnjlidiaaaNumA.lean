/- Contracts of num's and its document's small calls: digits, and what is a number. -/
import Derived.Test.YtbjnejnjlidiaaaProg
import Derived.Test.YtbjnejnjlidiaaaKit
import Derived.WalkKit
import Derived.WalkSpells
import Derived.Laws.RangeString
import Derived.Laws.RangeAny
import Derived.LoopTactic
import Derived.Lib.Hide
import Derived.Outline
import Derived.Laws.IdiomStrings
import Derived.Deep.OwnRows
import Derived.Scope
import Derived.WalkLawsBesides
namespace Go.Proofs.Ytbjnejnjlidiaaa.numA
open Go.RowKit kit
set_option linter.unusedVariables false

def dg (n : Int) : Int := if n < 10 then 48 + n else 87 + n

theorem digit_any (n : Int) (w : World) (h0 : 0 ≤ n) (h1 : n < 16) : Calls Try.prog 166 #[.int .u8 n] w fun e w' => e = .returned (.int .u8 (dg n)) ∧ w = w' := by
  by_cases c : n < 10
  · have e1 : dg n = 48 + n := by simp [dg, c]
    rw [e1]
    clear e1
    go_enter Try.func166, Try.ntmps166
    go_wp2
    go_ret
    exact ⟨rfl, rfl⟩
  · have e1 : dg n = 97 + n - 10 := by simp only [dg, if_neg c]; omega
    rw [e1]
    clear e1
    go_enter Try.func166, Try.ntmps166
    go_wp2
    go_ret
    exact ⟨rfl, rfl⟩

theorem digit_ref (n : Int) (w : World) (h0 : 0 ≤ n) (h1 : n < 16) : Calls Try.prog 167 #[.int .u8 n] w fun e w' => e = .returned (.int .u8 (dg n)) ∧ w = w' := by
  by_cases c : n < 10
  · have e1 : dg n = 48 + n := by simp [dg, c]
    rw [e1]
    clear e1
    go_enter Try.func167, Try.ntmps167
    go_wp2
    go_ret
    exact ⟨rfl, rfl⟩
  · have e1 : dg n = 87 + n := by simp only [dg, if_neg c]
    rw [e1]
    clear e1
    go_enter Try.func167, Try.ntmps167
    go_wp2
    go_ret
    exact ⟨rfl, rfl⟩

def dig (c : UInt8) : Bool := decide (48 ≤ c.toNat) && decide (c.toNat ≤ 57)

/-- Is the text a number's? -/
def isNum (l : List UInt8) : Bool := l.all dig && (l == [48] || (!l.isEmpty && !(l.head? == some 48)))

def Told (w : World) (v : Value) (e : Ending) (w' : World) : Prop := e = .returned v ∧ Only (fun _ => False) w w'

theorem only_iter (w : World) (s : ByteArray) (p : Nat) : Only (fun _ => False) w (w.iter s p) := (Only.refl _ w).alloc _

theorem rune_out (s : ByteArray) (p : Nat) (h : p < s.size) (hd : dig (s[p]'h) = false) : ((Utf8.decode s p).1 : Int) < 48 ∨ (57 : Int) < ((Utf8.decode s p).1 : Int) := by
  by_cases ha : (s[p]'h).toNat < 128
  · rw [decode_ascii s p h ha]
    simp only [dig, Bool.and_eq_false_iff, decide_eq_false_iff_not] at hd
    simp only
    omega
  · have := (decode_high s p h (by omega)).1
    omega
theorem byteArray_toList (s : ByteArray) : s.toList = s.data.toList :=
  ByteArray.toList_eq s

set_option maxRecDepth 100000 in
theorem isNumber_any (s : ByteArray) (w : World) (hm : s.size ≤ 9223372036854775807) : Calls Try.prog 232 #[.string s] w (Told w (.bool (isNum s.data.toList))) := by
  go_enter Try.func232, Try.ntmps232
  go_wp2
  go_loopw [4] (fun _ wr => ∃ p : Nat, p ≤ s.size ∧ wr = w.iter s p ∧ (s.data.toList.take p).all dig = true) (fun _ wr => s.size - wr.iterPos w.heap.size)
  case atStart => exact ⟨0, Nat.zero_le _, rfl, rfl⟩
  case round =>
    obtain ⟨p, hp, rfl, hall⟩ := hrel
    have HA := Lib.hid hall
    clear hall
    by_cases hlt : p < s.size
    · by_cases hd : dig (s[p]'hlt) = true
      · have hnx : ∀ ty, (Instr.next (.pointer (some ⟨w.heap.size, 0, none⟩)) true ty).run Try.prog (w.iter s p) = _ := fun ty => run_next_ascii w s p ty hlt (by simp [dig] at hd; omega)
        obtain ⟨c, hc⟩ : ∃ c : Nat, c = (s[p]'hlt).toNat := ⟨_, rfl⟩
        rw [← hc] at hnx
        have h1 : (48 : Int) ≤ (c : Int) := by simp [dig, ← hc] at hd; omega
        have h2 : (c : Int) ≤ 57 := by simp [dig, ← hc] at hd; omega
        have HD := Lib.hid hd
        clear hd hc
        go_wp2
        go_roundw
        case rel =>
          refine ⟨p + 1, by omega, rfl, ?_⟩
          have e : s.data.toList.take (p + 1) = s.data.toList.take p ++ [s[p]] := by
            rw [List.take_succ_eq_append_getElem (by simpa using hlt)]; rfl
          rw [e, List.all_append, HA.out]
          simpa using HD.out
        case measure => simp; omega
      · have hnx : ∀ ty, (Instr.next (.pointer (some ⟨w.heap.size, 0, none⟩)) true ty).run Try.prog (w.iter s p) = _ := fun ty => run_next_any w s p ty hlt
        have hro := rune_out s p hlt (by simpa using hd)
        have hfin : isNum s.data.toList = false := by
          have e : s.data.toList.all dig = false := by
            rw [List.all_eq_false]
            exact ⟨s[p], Array.mem_toList_iff.2 (Array.getElem_mem (xs := s.data) hlt), hd⟩
          simp [isNum, e]
        have HF := Lib.hid hfin
        clear hfin hd
        generalize (Utf8.decode s p).1 = r at hnx hro
        generalize (Utf8.decode s p).2 = wd at hnx
        rcases hro with hr | hr
        · go_wp2
          go_ret
          exact ⟨by rw [HF.out]; rfl, only_iter _ _ _⟩
        · have hr' : ¬ ((r : Int) < 48) := by omega
          go_wp2
          go_ret
          exact ⟨by rw [HF.out]; rfl, only_iter _ _ _⟩
    · obtain rfl : p = s.size := by omega
      have hnx : ∀ ty, (Instr.next (.pointer (some ⟨w.heap.size, 0, none⟩)) true ty).run Try.prog (w.iter s s.size) = _ := fun ty => run_next_end w s s.size ty (by omega)
      have hall : s.data.toList.all dig = true := by
        have := HA.out
        rwa [List.take_of_length_le (by simp)] at this
      have HQ := Lib.hid hall
      clear hall HA
      have ht : s.toList = s.data.toList := byteArray_toList s
      by_cases hz : s.size = 0
      · have h0 : s.toList = [] := by rw [ht]; exact List.eq_nil_of_length_eq_zero (by simpa using hz)
        have hfin : isNum s.data.toList = false := by rw [← ht, h0]; rfl
        have HF := Lib.hid hfin
        clear hfin ht hz
        go_wp2
        go_ret
        exact ⟨by rw [HF.out]; rfl, only_iter _ _ _⟩
      · have hz' : 0 < s.size := by omega
        obtain ⟨a, l, hl⟩ : ∃ a l, s.data.toList = a :: l := List.exists_cons_of_length_pos (by simpa using hz')
        have ha : s[0] = a := by
          show s.data[0] = a
          simp [← Array.getElem_toList, hl]
        have hc : s.data.toList = s[0] :: l := by rw [ha]; exact hl
        clear hl ha
        have hfin : isNum s.data.toList = (s.toList == [48] || (((s[0].toNat : Int)) != 48)) := by
          have e2 : (s.data.toList.head? == some 48) = ((s[0].toNat : Int) == 48) := by
            rw [hc, List.head?_cons, Bool.eq_iff_iff]
            simp only [beq_iff_eq, Option.some.injEq, ← UInt8.toNat_inj]
            exact ⟨fun h => by rw [h]; rfl, fun h => by have : s[0].toNat = 48 := by omega
                                                        rw [this]; rfl⟩
          have e3 : s.data.toList.isEmpty = false := by rw [hc]; rfl
          simp only [isNum, HQ.out, e2, e3, ht, Bool.true_and, Bool.not_false]
          rfl
        have HF := Lib.hid hfin
        have hne : s.toList.isEmpty = false := by rw [ht, hc]; rfl
        clear hfin ht hz hc
        by_cases h48 : (s.toList == [48]) = true
        · go_wp2
          go_ret
          exact ⟨by rw [HF.out, h48]; rfl, only_iter _ _ _⟩
        · have h48' : (s.toList == [48]) = false := by simpa using h48
          clear h48
          go_wp2
          go_ret
          exact ⟨by rw [HF.out, h48']; rfl, only_iter _ _ _⟩
end Go.Proofs.Ytbjnejnjlidiaaa.numA
namespace Go.Proofs.Ytbjnejnjlidiaaa.numB
open numA

/-- The sign of a digit. -/
def sg (d : Nat) : UInt8 := UInt8.ofNat (48 + d)

/-- The digits of a number. -/
def dec (u : Nat) : List UInt8 := if u < 10 then [sg u] else dec (u / 10) ++ [sg (u % 10)]
termination_by u
decreasing_by omega

theorem dec_small {u : Nat} (h : u < 10) : dec u = [sg u] := by rw [dec, if_pos h]
theorem dec_big {u : Nat} (h : ¬ u < 10) : dec u = dec (u / 10) ++ [sg (u % 10)] := by rw [dec, if_neg h]

/-- The number of some digits. -/
def val (l : List UInt8) : Nat := l.foldl (fun n c => 10 * n + (c.toNat - 48)) 0

theorem val_snoc (l : List UInt8) (c : UInt8) : val (l ++ [c]) = 10 * val l + (c.toNat - 48) := by simp [val]

theorem toNat_dig {d : Nat} (h : d < 10) : (sg d).toNat = 48 + d := by
  rw [sg, UInt8.toNat_ofNat']
  omega

theorem val_dec (u : Nat) : val (dec u) = u := by
  induction u using Nat.strongRecOn with
  | _ u ih =>
    by_cases h : u < 10
    · rw [dec_small h]
      have := toNat_dig h
      simp [val, this]
    · rw [dec_big h, val_snoc, ih _ (by omega), toNat_dig (by omega)]
      omega

theorem dec_ne (u : Nat) : dec u ≠ [] := by
  by_cases h : u < 10
  · rw [dec_small h]; simp
  · rw [dec_big h]; simp

theorem dec_len (k : Nat) : ∀ u, u < 10 ^ (k + 1) → (dec u).length ≤ k + 1 := by
  induction k with
  | zero => intro u h; rw [dec_small (by simpa using h)]; simp
  | succ k ih =>
    intro u h
    by_cases h' : u < 10
    · rw [dec_small h']; simp
    · rw [dec_big h', List.length_append]
      have := ih (u / 10) (by rw [Nat.pow_succ] at h; omega)
      simp only [List.length_cons, List.length_nil]
      omega

theorem dig_ofNat {d : Nat} (h : d < 10) : dig (sg d) = true := by
  have := toNat_dig h
  simp only [dig, this, Bool.and_eq_true, decide_eq_true_eq]
  omega

theorem dec_all (u : Nat) : (dec u).all dig = true := by
  induction u using Nat.strongRecOn with
  | _ u ih =>
    by_cases h : u < 10
    · rw [dec_small h]
      simp [dig_ofNat h]
    · rw [dec_big h, List.all_append, ih _ (by omega)]
      simp [dig_ofNat (by omega : u % 10 < 10)]

theorem dec_head (u : Nat) (h : 0 < u) : (dec u).head? ≠ some 48 := by
  induction u using Nat.strongRecOn with
  | _ u ih =>
    by_cases h' : u < 10
    · rw [dec_small h']
      simp only [List.head?_cons, ne_eq, Option.some.injEq, ← UInt8.toNat_inj, toNat_dig h']
      intro e
      have : (48 : UInt8).toNat = 48 := rfl
      omega
    · rw [dec_big h', List.head?_append]
      have q := ih (u / 10) (by omega) (by omega)
      cases e : (dec (u / 10)).head? with
      | none => rw [List.head?_eq_none_iff] at e; exact absurd e (dec_ne _)
      | some a => rw [e] at q; simpa using q

theorem isNum_dec (u : Nat) : isNum (dec u) = true := by
  simp only [isNum, dec_all, Bool.true_and]
  by_cases h : u = 0
  · subst h
    rw [dec_small (by omega)]
    rfl
  · have a := dec_head u (by omega)
    have b := dec_ne u
    have c : ((dec u).head? == some 48) = false := by simpa using a
    have d : (dec u).isEmpty = false := by simpa using b
    rw [c, d]
    simp

theorem val_pos (l : List UInt8) : l.all dig = true → ∀ a t, l = a :: t → a ≠ 48 → 0 < val l := by
  intro hall a t hl ha
  have key : ∀ (t : List UInt8) (n : Nat), 0 < n → 0 < t.foldl (fun n c => 10 * n + (c.toNat - 48)) n := by
    intro t
    induction t with
    | nil => intro n h; exact h
    | cons c t ih => intro n h; exact ih _ (by show 0 < 10 * n + (c.toNat - 48); omega)
  subst hl
  simp only [val, List.foldl_cons]
  apply key
  have hd : dig a = true := by simp at hall; exact hall.1
  simp only [dig, Bool.and_eq_true, decide_eq_true_eq] at hd
  have : a.toNat ≠ 48 := fun e => ha (UInt8.toNat_inj.1 e)
  omega

theorem ofNat_dig {c : UInt8} (h : dig c = true) : sg (c.toNat - 48) = c := by
  simp only [dig, Bool.and_eq_true, decide_eq_true_eq] at h
  rw [sg, show 48 + (c.toNat - 48) = c.toNat by omega]
  simp

theorem dec_val (n : Nat) : ∀ l : List UInt8, l.length = n → isNum l = true → dec (val l) = l := by
  induction n with
  | zero =>
    intro l hl h
    have : l = [] := List.eq_nil_of_length_eq_zero hl
    subst this
    simp [isNum] at h
  | succ n ih =>
    intro l hl h
    rcases l.eq_nil_or_concat with rfl | ⟨l', c, rfl⟩
    · simp at hl
    rw [List.concat_eq_append] at *
    simp only [isNum, Bool.and_eq_true] at h
    obtain ⟨hall, hh⟩ := h
    simp only [List.all_append, Bool.and_eq_true, List.all_cons, List.all_nil, Bool.and_true] at hall
    obtain ⟨ha', hc⟩ := hall
    have hcn : c.toNat - 48 < 10 := by simp only [dig, Bool.and_eq_true, decide_eq_true_eq] at hc; omega
    cases l' with
    | nil =>
      rw [val_snoc]
      have : val [] = 0 := rfl
      rw [this, dec_small (by omega), Nat.mul_zero, Nat.zero_add, ofNat_dig hc]
      rfl
    | cons a t =>
      have hne : a ≠ 48 := by
        rintro rfl
        simp at hh
      have hnum : isNum (a :: t) = true := by
        simp only [isNum, ha', Bool.true_and]
        simp [hne]
      have hv := ih (a :: t) (by simpa using hl) hnum
      have hp := val_pos (a :: t) ha' a t rfl hne
      rw [val_snoc, dec_big (by omega), show (10 * val (a :: t) + (c.toNat - 48)) / 10 = val (a :: t) by omega, hv, show (10 * val (a :: t) + (c.toNat - 48)) % 10 = c.toNat - 48 by omega, ofNat_dig hc]

theorem val_le (l : List UInt8) : ∀ m : List UInt8, val l ≤ val (l ++ m) := by
  intro m
  simp only [val, List.foldl_append]
  have key : ∀ (t : List UInt8) (n : Nat), n ≤ t.foldl (fun n c => 10 * n + (c.toNat - 48)) n := by
    intro t
    induction t with
    | nil => intro n; exact Nat.le_refl _
    | cons c t ih => intro n; exact Nat.le_trans (by show n ≤ 10 * n + (c.toNat - 48); omega) (ih _)
  exact key m _

theorem val_take (l : List UInt8) (k : Nat) : val (l.take k) ≤ val l := by
  have := val_le (l.take k) (l.drop k)
  rwa [List.take_append_drop] at this
end Go.Proofs.Ytbjnejnjlidiaaa.numB
namespace Go.Proofs.Ytbjnejnjlidiaaa.numC
open Go.RowKit kit numA numB
set_option linter.unusedVariables false

/-- The greatest number, behind a name. -/
def most : Nat := 18446744073709551615

theorem take_byte (s : ByteArray) (p : Nat) (h : p < s.size) : s.data.toList.take (p + 1) = s.data.toList.take p ++ [s[p]] := by
  rw [List.take_succ_eq_append_getElem (by simpa using h)]; rfl

theorem val_byte (s : ByteArray) (p : Nat) (h : p < s.size) : val (s.data.toList.take (p + 1)) = 10 * val (s.data.toList.take p) + (s[p].toNat - 48) := by
  rw [take_byte s p h, val_snoc]

/-- What Read answers. -/
def rd (l : List UInt8) : Value := if isNum l then (if val l ≤ most then .tuple #[.int .u64 (val l), .int .i64 0] else .tuple #[.int .u64 0, .int .i64 5]) else .tuple #[.int .u64 0, .int .i64 3]

set_option maxRecDepth 100000 in
theorem read_any (s : ByteArray) (w : World) (hm : s.size ≤ 9223372036854775807) : Calls Try.prog 219 #[.string s] w (numA.Told w (rd s.data.toList)) := by
  have N := isNumber_any s w hm
  by_cases hn : isNum s.data.toList = true
  · rw [hn] at N
    have HN := Lib.hid hn
    clear hn
    go_enter Try.func219, Try.ntmps219
    go_wp2_with fail
    refine N.mono ?_
    rintro e w1 ⟨rfl, o1⟩
    go_wp2_with fail
    go_loopw [4] (fun u wr => ∃ p : Nat, p ≤ s.size ∧ wr = w1.iter s p ∧ val (s.data.toList.take p) ≤ most ∧ u = .int .u64 (val (s.data.toList.take p))) (fun _ wr => s.size - wr.iterPos w1.heap.size)
    case atStart => exact ⟨0, Nat.zero_le _, rfl, by show 0 ≤ most; omega, rfl⟩
    case round =>
      obtain ⟨p, hp, rfl, hv, rfl⟩ := hrel
      by_cases hlt : p < s.size
      · have hdig : dig (s[p]'hlt) = true := by
          have := HN.out
          simp only [isNum, Bool.and_eq_true] at this
          exact List.all_eq_true.1 this.1 _ (Array.mem_toList_iff.2 (Array.getElem_mem (xs := s.data) hlt))
        have hnx : ∀ ty, (Instr.next (.pointer (some ⟨w1.heap.size, 0, none⟩)) true ty).run Try.prog (w1.iter s p) = _ := fun ty => run_next_ascii w1 s p ty hlt (by simp [dig] at hdig; omega)
        obtain ⟨c, hc⟩ : ∃ c : Nat, c = (s[p]'hlt).toNat := ⟨_, rfl⟩
        rw [← hc] at hnx
        have h1 : (48 : Int) ≤ (c : Int) := by simp [dig, ← hc] at hdig; omega
        have h2 : (c : Int) ≤ 57 := by simp [dig, ← hc] at hdig; omega
        have HD := Lib.hid hdig
        have HC := Lib.hid hc
        have HV := Lib.hid hv
        generalize hu : val (s.data.toList.take p) = u at *
        have HU := Lib.hid hu
        have HE := Lib.hid (val_byte s p hlt)
        have HT := Lib.hid (val_take s.data.toList (p + 1))
        clear hdig hc hv hu N
        go_wp2_with fail
        · have ht : (18446744073709551615 - ((c : Int) - 48)) / 10 < (u : Int) := by assumption
          have HH := Lib.hid ht
          clear ht
          go_ret2
          refine ⟨?_, o1.trans (only_iter _ _ _)⟩
          have e1 := HE.out
          have e2 := HT.out
          have e3 := HH.out
          rw [e1, HU.out, ← HC.out] at e2
          have : ¬ val s.data.toList ≤ most := by unfold most; omega
          rw [rd, if_pos HN.out, if_neg this]
          rfl
        · have ht : (u : Int) ≤ (18446744073709551615 - ((c : Int) - 48)) / 10 := by assumption
          have HH := Lib.hid ht
          clear ht
          go_roundw
          case rel =>
            have e1 := HE.out
            have e3 := HH.out
            rw [HU.out, ← HC.out] at e1
            refine ⟨p + 1, by omega, rfl, by rw [e1]; unfold most; omega, ?_⟩
            rw [e1]
            congr 1
            omega
          case measure => simp; omega
      · obtain rfl : p = s.size := by omega
        have hnx : ∀ ty, (Instr.next (.pointer (some ⟨w1.heap.size, 0, none⟩)) true ty).run Try.prog (w1.iter s s.size) = _ := fun ty => run_next_end w1 s s.size ty (by omega)
        have el : s.data.toList.take s.size = s.data.toList := List.take_of_length_le (by simp)
        have HR : Hid (rd s.data.toList = .tuple #[.int .u64 (val s.data.toList), .int .i64 0]) := by
          rw [el] at hv
          exact (by rw [rd, if_pos HN.out, if_pos hv] : rd s.data.toList = _)
        rw [el]
        have HV := Lib.hid hv
        clear hv N el
        go_wp2_with fail
        go_ret2
        exact ⟨by rw [HR.out]; rfl, o1.trans (only_iter _ _ _)⟩
  · have hn' : isNum s.data.toList = false := by simpa using hn
    rw [hn'] at N
    have HR : Hid (rd s.data.toList = .tuple #[.int .u64 0, .int .i64 3]) := (by rw [rd, if_neg hn] : rd s.data.toList = _)
    clear hn hn'
    go_enter Try.func219, Try.ntmps219
    go_wp2_with fail
    refine N.mono ?_
    rintro e w1 ⟨rfl, o1⟩
    go_wp2_with fail
    go_ret2
    exact ⟨by rw [HR.out]; rfl, o1⟩

theorem head_byte (s : ByteArray) (h : 0 < s.size) : ∃ l, s.data.toList = s[0] :: l := by
  obtain ⟨a, l, hl⟩ : ∃ a l, s.data.toList = a :: l := List.exists_cons_of_length_pos (by simpa using h)
  have ha : s[0] = a := by
    show s.data[0] = a
    simp [← Array.getElem_toList, hl]
  exact ⟨l, by rw [ha]; exact hl⟩

theorem isNum_of {l t : List UInt8} {c : UInt8} (h : l = c :: t) (h2 : ¬ c = 48 ∨ t = []) : isNum l = l.all dig := by
  have : (l == [48] || (!l.isEmpty && !(l.head? == some 48))) = true := by
    subst h
    by_cases e : c = 48
    · subst e
      rcases h2 with h2 | rfl
      · exact absurd rfl h2
      · rfl
    · simp [e]
  rw [isNum, this, Bool.and_true]

theorem byte_eq (c : UInt8) : ((c.toNat : Int) == 48) = (c == 48) := by
  rw [Bool.eq_iff_iff]
  simp only [beq_iff_eq, ← UInt8.toNat_inj]
  exact ⟨fun h => by have : c.toNat = 48 := by omega
                     rw [this]; rfl, fun h => by rw [h]; rfl⟩

set_option maxRecDepth 100000 in
set_option maxHeartbeats 1000000 in
theorem read_ref (s : ByteArray) (w : World) (hm : s.size ≤ 9223372036854775807) : Calls Try.prog 160 #[.string s] w (numA.Told w (rd s.data.toList)) := by
  by_cases hz : s.size = 0
  · have h0 : s.data.toList = [] := List.eq_nil_of_length_eq_zero (by simpa using hz)
    have HF : Hid (rd s.data.toList = .tuple #[.int .u64 0, .int .i64 3]) := (by rw [h0]; rfl : rd s.data.toList = _)
    have hb : ((s.size : Int) == 0) = true := by simp [hz]
    clear h0 hz
    go_enter Try.func160, Try.ntmps160
    go_wp2_with fail
    go_ret2
    exact ⟨by rw [HF.out]; rfl, Only.refl _ _⟩
  · have hpos : 0 < s.size := by omega
    have hb : ((s.size : Int) == 0) = false := beq_eq_false_iff_ne.2 (by omega)
    obtain ⟨l, hl⟩ := head_byte s hpos
    have hlen : s.size = l.length + 1 := by
      have : s.data.toList.length = l.length + 1 := by rw [hl]; rfl
      simpa using this
    clear hz
    by_cases h1 : 1 < s.size
    · have h1' : (1 : Int) < (s.size : Int) := by omega
      have hlne : l ≠ [] := by rintro rfl; simp at hlen; omega
      by_cases h48 : (s[0] == 48) = true
      · have h48' : ((s[0].toNat : Int) == 48) = true := by rw [byte_eq, h48]
        have HF : Hid (rd s.data.toList = .tuple #[.int .u64 0, .int .i64 3]) := by
          have e : s[0] = 48 := by simpa using h48
          have q : isNum s.data.toList = false := by
            rw [hl, e]
            simp [isNum, hlne]
          exact (by rw [rd, if_neg (by rw [q]; simp)] : rd s.data.toList = _)
        clear hl hlen hlne h48
        go_enter Try.func160, Try.ntmps160
        go_wp2_with fail
        go_ret2
        exact ⟨by rw [HF.out]; rfl, Only.refl _ _⟩
      · have h48' : ((s[0].toNat : Int) == 48) = false := by rw [byte_eq]; simpa using h48
        have HI : Hid (isNum s.data.toList = s.data.toList.all dig) := by
          have e : ¬ s[0] = 48 := by simpa using h48
          exact (isNum_of hl (.inl e) : isNum s.data.toList = _)
        clear hl hlen hlne h48
        go_enter Try.func160, Try.ntmps160
        go_wp2_with fail
        go_loop [4] (fun i => ∃ k : Nat, k ≤ s.size ∧ i = .int .i64 k ∧ Hid ((s.data.toList.take k).all dig = true)) (fun i => s.size - (intOf i).toNat)
        case atStart => exact ⟨0, Nat.zero_le _, rfl, rfl⟩
        case round =>
          obtain ⟨k, hk, rfl, HA⟩ := hrel
          by_cases hlt : k < s.size
          · have k1 : (k : Int) < (s.size : Int) := by omega
            by_cases hd : dig (s[k]'hlt) = true
            · have h1 : (48 : Int) ≤ ((s[k]'hlt).toNat : Int) := by simp [dig] at hd; omega
              have h2 : ((s[k]'hlt).toNat : Int) ≤ 57 := by simp [dig] at hd; omega
              have HD := Lib.hid hd
              clear hd
              go_wp2_with fail
              go_round
              case rel =>
                refine ⟨k + 1, by omega, by go_num, ?_⟩
                show (s.data.toList.take (k + 1)).all dig = true
                rw [take_byte s k hlt, List.all_append, HA.out]
                simpa using HD.out
              case measure => simp [intOf]; omega
            · have hro : ((s[k]'hlt).toNat : Int) < 48 ∨ (57 : Int) < ((s[k]'hlt).toNat : Int) := by
                simp only [dig, Bool.and_eq_true, decide_eq_true_eq] at hd
                omega
              have HF : Hid (rd s.data.toList = .tuple #[.int .u64 0, .int .i64 3]) := by
                have e : s.data.toList.all dig = false := by
                  rw [List.all_eq_false]
                  exact ⟨s[k], Array.mem_toList_iff.2 (Array.getElem_mem (xs := s.data) hlt), hd⟩
                exact (by rw [rd, if_neg (by rw [HI.out, e]; simp)] : rd s.data.toList = _)
              clear hd
              rcases hro with hr | hr
              · go_wp2_with fail
                go_ret2
                exact ⟨by rw [HF.out]; rfl, Only.refl _ _⟩
              · have hr' : ¬ (((s[k]'hlt).toNat : Int) < 48) := by omega
                go_wp2_with fail
                go_ret2
                exact ⟨by rw [HF.out]; rfl, Only.refl _ _⟩
          · obtain rfl : k = s.size := by omega
            have HN : Hid (isNum s.data.toList = true) := by
              have a := HA.out
              rw [List.take_of_length_le (by simp)] at a
              exact (HI.out.trans a)
            clear HA
            go_wp2_with fail
            go_loop [5, 6] (fun u i => ∃ p : Nat, p ≤ s.size ∧ i = .int .i64 p ∧ val (s.data.toList.take p) ≤ most ∧ u = .int .u64 (val (s.data.toList.take p))) (fun _ i => s.size - (intOf i).toNat)
            case atStart => exact ⟨0, Nat.zero_le _, rfl, by show 0 ≤ most; omega, rfl⟩
            case round =>
              obtain ⟨p, hp, rfl, hv, rfl⟩ := hrel
              by_cases hlt : p < s.size
              · have p1 : (p : Int) < (s.size : Int) := by omega
                have hdig : dig (s[p]'hlt) = true := by
                  have := HN.out
                  simp only [isNum, Bool.and_eq_true] at this
                  exact List.all_eq_true.1 this.1 _ (Array.mem_toList_iff.2 (Array.getElem_mem (xs := s.data) hlt))
                have h1 : (48 : Int) ≤ ((s[p]'hlt).toNat : Int) := by simp [dig] at hdig; omega
                have h2 : ((s[p]'hlt).toNat : Int) ≤ 57 := by simp [dig] at hdig; omega
                have HV := Lib.hid hv
                generalize hu : val (s.data.toList.take p) = u at *
                have HU := Lib.hid hu
                have HE := Lib.hid (val_byte s p hlt)
                have HT := Lib.hid (val_take s.data.toList (p + 1))
                clear hdig hv hu
                go_wp2_with fail
                · have ht : (18446744073709551615 - (((s[p]'hlt).toNat : Int) - 48)) / 10 < (u : Int) := by assumption
                  have HH := Lib.hid ht
                  clear ht
                  go_ret2
                  refine ⟨?_, Only.refl _ _⟩
                  have e1 := HE.out
                  have e2 := HT.out
                  have e3 := HH.out
                  rw [e1, HU.out] at e2
                  have : ¬ val s.data.toList ≤ most := by unfold most; omega
                  rw [rd, if_pos HN.out, if_neg this]
                  rfl
                · have ht : (u : Int) ≤ (18446744073709551615 - (((s[p]'hlt).toNat : Int) - 48)) / 10 := by assumption
                  have HH := Lib.hid ht
                  clear ht
                  go_round
                  case rel =>
                    have e1 := HE.out
                    have e3 := HH.out
                    rw [HU.out] at e1
                    refine ⟨p + 1, by omega, by go_num, by rw [e1]; unfold most; omega, ?_⟩
                    rw [e1]
                    congr 1
                    omega
                  case measure => simp [intOf]; omega
              · obtain rfl : p = s.size := by omega
                have el : s.data.toList.take s.size = s.data.toList := List.take_of_length_le (by simp)
                have HR : Hid (rd s.data.toList = .tuple #[.int .u64 (val s.data.toList), .int .i64 0]) := by
                  rw [el] at hv
                  exact (by rw [rd, if_pos HN.out, if_pos hv] : rd s.data.toList = _)
                rw [el]
                have HV := Lib.hid hv
                clear hv el
                go_wp2_with fail
                go_ret2
                exact ⟨by rw [HR.out]; rfl, Only.refl _ _⟩
    · have h1' : ¬ ((1 : Int) < (s.size : Int)) := by omega
      have hln : l = [] := List.eq_nil_of_length_eq_zero (by omega)
      have HI : Hid (isNum s.data.toList = s.data.toList.all dig) := by
        rw [hln] at hl
        exact (isNum_of hl (.inr rfl) : isNum s.data.toList = _)
      clear hl hlen hln
      go_enter Try.func160, Try.ntmps160
      go_wp2_with fail
      go_loop [4] (fun i => ∃ k : Nat, k ≤ s.size ∧ i = .int .i64 k ∧ Hid ((s.data.toList.take k).all dig = true)) (fun i => s.size - (intOf i).toNat)
      case atStart => exact ⟨0, Nat.zero_le _, rfl, rfl⟩
      case round =>
        obtain ⟨k, hk, rfl, HA⟩ := hrel
        by_cases hlt : k < s.size
        · have k1 : (k : Int) < (s.size : Int) := by omega
          by_cases hd : dig (s[k]'hlt) = true
          · have h1 : (48 : Int) ≤ ((s[k]'hlt).toNat : Int) := by simp [dig] at hd; omega
            have h2 : ((s[k]'hlt).toNat : Int) ≤ 57 := by simp [dig] at hd; omega
            have HD := Lib.hid hd
            clear hd
            go_wp2_with fail
            go_round
            case rel =>
              refine ⟨k + 1, by omega, by go_num, ?_⟩
              show (s.data.toList.take (k + 1)).all dig = true
              rw [take_byte s k hlt, List.all_append, HA.out]
              simpa using HD.out
            case measure => simp [intOf]; omega
          · have hro : ((s[k]'hlt).toNat : Int) < 48 ∨ (57 : Int) < ((s[k]'hlt).toNat : Int) := by
              simp only [dig, Bool.and_eq_true, decide_eq_true_eq] at hd
              omega
            have HF : Hid (rd s.data.toList = .tuple #[.int .u64 0, .int .i64 3]) := by
              have e : s.data.toList.all dig = false := by
                rw [List.all_eq_false]
                exact ⟨s[k], Array.mem_toList_iff.2 (Array.getElem_mem (xs := s.data) hlt), hd⟩
              exact (by rw [rd, if_neg (by rw [HI.out, e]; simp)] : rd s.data.toList = _)
            clear hd
            rcases hro with hr | hr
            · go_wp2_with fail
              go_ret2
              exact ⟨by rw [HF.out]; rfl, Only.refl _ _⟩
            · have hr' : ¬ (((s[k]'hlt).toNat : Int) < 48) := by omega
              go_wp2_with fail
              go_ret2
              exact ⟨by rw [HF.out]; rfl, Only.refl _ _⟩
        · obtain rfl : k = s.size := by omega
          have HN : Hid (isNum s.data.toList = true) := by
            have a := HA.out
            rw [List.take_of_length_le (by simp)] at a
            exact (HI.out.trans a)
          clear HA
          go_wp2_with fail
          go_loop [5, 6] (fun u i => ∃ p : Nat, p ≤ s.size ∧ i = .int .i64 p ∧ val (s.data.toList.take p) ≤ most ∧ u = .int .u64 (val (s.data.toList.take p))) (fun _ i => s.size - (intOf i).toNat)
          case atStart => exact ⟨0, Nat.zero_le _, rfl, by show 0 ≤ most; omega, rfl⟩
          case round =>
            obtain ⟨p, hp, rfl, hv, rfl⟩ := hrel
            by_cases hlt : p < s.size
            · have p1 : (p : Int) < (s.size : Int) := by omega
              have hdig : dig (s[p]'hlt) = true := by
                have := HN.out
                simp only [isNum, Bool.and_eq_true] at this
                exact List.all_eq_true.1 this.1 _ (Array.mem_toList_iff.2 (Array.getElem_mem (xs := s.data) hlt))
              have h1 : (48 : Int) ≤ ((s[p]'hlt).toNat : Int) := by simp [dig] at hdig; omega
              have h2 : ((s[p]'hlt).toNat : Int) ≤ 57 := by simp [dig] at hdig; omega
              have HV := Lib.hid hv
              generalize hu : val (s.data.toList.take p) = u at *
              have HU := Lib.hid hu
              have HE := Lib.hid (val_byte s p hlt)
              have HT := Lib.hid (val_take s.data.toList (p + 1))
              clear hdig hv hu
              go_wp2_with fail
              · have ht : (18446744073709551615 - (((s[p]'hlt).toNat : Int) - 48)) / 10 < (u : Int) := by assumption
                have HH := Lib.hid ht
                clear ht
                go_ret2
                refine ⟨?_, Only.refl _ _⟩
                have e1 := HE.out
                have e2 := HT.out
                have e3 := HH.out
                rw [e1, HU.out] at e2
                have : ¬ val s.data.toList ≤ most := by unfold most; omega
                rw [rd, if_pos HN.out, if_neg this]
                rfl
              · have ht : (u : Int) ≤ (18446744073709551615 - (((s[p]'hlt).toNat : Int) - 48)) / 10 := by assumption
                have HH := Lib.hid ht
                clear ht
                go_round
                case rel =>
                  have e1 := HE.out
                  have e3 := HH.out
                  rw [HU.out] at e1
                  refine ⟨p + 1, by omega, by go_num, by rw [e1]; unfold most; omega, ?_⟩
                  rw [e1]
                  congr 1
                  omega
                case measure => simp [intOf]; omega
            · obtain rfl : p = s.size := by omega
              have el : s.data.toList.take s.size = s.data.toList := List.take_of_length_le (by simp)
              have HR : Hid (rd s.data.toList = .tuple #[.int .u64 (val s.data.toList), .int .i64 0]) := by
                rw [el] at hv
                exact (by rw [rd, if_pos HN.out, if_pos hv] : rd s.data.toList = _)
              rw [el]
              have HV := Lib.hid hv
              clear hv el
              go_wp2_with fail
              go_ret2
              exact ⟨by rw [HR.out]; rfl, Only.refl _ _⟩
end Go.Proofs.Ytbjnejnjlidiaaa.numC
namespace Go.Proofs.Ytbjnejnjlidiaaa.numD
open Go.RowKit kit numA numB numC
set_option linter.unusedVariables false

theorem conv1 (W : World) (x : Int) (c : UInt8) (hx : x = (c.toNat : Int)) : (convert 24 9 (.slice (some ⟨W.heap.size, 0, none⟩) 1 1)).run Try.prog (W.alloc (.cells #[.int .u8 x] 5)) = .ok (.string ⟨#[c]⟩) (W.alloc (.cells #[.int .u8 x] 5)) := by
  have := run_convert_bytes_back (P := Try.prog) (W.alloc (.cells #[.int .u8 x] 5)) 24 9 5 ⟨W.heap.size, 0, none⟩ 1 [c] Try.underlying24 Try.underlying5 Try.underlying9 (fun j hj => by
    obtain rfl : j = 0 := by simpa using hj
    rw [Addr.add_lit, cell_of (heap_alloc_new W _)]
    simp [hx])
  exact this

set_option maxRecDepth 100000 in
theorem print_ref (u : Nat) (w : World) (hu : u ≤ most) : Calls Try.prog 111 #[.int .u64 u] w (numA.Told w (.string ⟨(dec u).toArray⟩)) := by
  have hlen : (dec u).length ≤ 20 := dec_len 19 u (by unfold most at hu; omega)
  go_enter Try.func111, Try.ntmps111
  go_wp2_with fail
  go_loopw [0, 3] (fun v t wr => ∃ (n : Nat) (l : List UInt8), v = .int .u64 n ∧ t = .string ⟨l.toArray⟩ ∧ n ≤ most ∧ Hid (dec u = dec n ++ l) ∧ Only (fun _ => False) w wr) (fun v _ _ => (intOf v).toNat)
  case atStart => exact ⟨u, [], rfl, rfl, hu, by exact (by simp : dec u = dec u ++ []), Only.refl _ _⟩
  case round =>
    obtain ⟨n, l, rfl, rfl, hnm, HE, ho⟩ := hrel
    have hl : l.length ≤ 20 := by have := HE.out; rw [this, List.length_append] at hlen; omega
    by_cases hn : 9 < n
    · have hn' : (9 : Int) < (n : Int) := by omega
      have hcv := conv1 wr (48 + (n : Int) % 10) (sg (n % 10)) (by rw [toNat_dig (by omega)]; omega)
      have HO := Lib.hid ho
      have HM := Lib.hid hnm
      have HW : Hid (IntKind.u64.wrap ((n : Int) / 10) = ((n / 10 : Nat) : Int)) := (by rw [IntWalk.u64_in _ (by have := HM.out; unfold most at this; omega)]; omega : IntKind.u64.wrap ((n : Int) / 10) = ((n / 10 : Nat) : Int))
      generalize hc : sg (n % 10) = c at hcv
      have HC := Lib.hid hc
      clear hc ho hlen hnm hu
      go_wp2_with fail
      go_roundw
      case rel =>
        refine ⟨n / 10, c :: l, ?_, ?_, by have := HM.out; omega, ?_, HO.out.alloc _⟩
        · rw [HW.out]
        · exact congrArg Value.string (ByteArray.ext (by simp [ByteArray.data_append]))
        · show dec u = dec (n / 10) ++ c :: l
          rw [HE.out, dec_big (by omega), ← HC.out]
          simp
      case measure => rw [HW.out]; simp [intOf]; omega
    · have hn' : ¬ (9 : Int) < (n : Int) := by omega
      have hcv := conv1 wr (48 + (n : Int)) (sg n) (by rw [toNat_dig (by omega)]; omega)
      have HO := Lib.hid ho
      have HF : Hid (dec u = sg n :: l) := by
        have := HE.out
        rw [dec_small (u := n) (by omega)] at this
        exact this
      generalize hc : sg n = c at hcv HF
      clear hc ho hlen hnm hu HE
      go_wp2_with fail
      go_ret
      refine ⟨?_, HO.out.alloc _⟩
      rw [HF.out]
      exact congrArg Ending.returned (congrArg Value.string (ByteArray.ext (by simp [ByteArray.data_append])))

theorem only_setNew {S : Nat → Prop} {a w : World} (h : Only S a w) {b o : Nat} {v : Value} (hb : a.heap.size ≤ b) : Only S a (w.setCell ⟨b, o, none⟩ v) :=
  ⟨h.os, h.tape, h.output, by simpa using h.size, fun k hk hs => (heap_other (by omega)).trans (h.block k hk hs)⟩

/-- The room of a number's digits, with its last one. -/
def room (x : Int) : Array Value := #[.int .u8 0, .int .u8 0, .int .u8 0, .int .u8 0, .int .u8 0, .int .u8 0, .int .u8 0, .int .u8 0, .int .u8 0, .int .u8 0, .int .u8 0, .int .u8 0, .int .u8 0, .int .u8 0, .int .u8 0, .int .u8 0, .int .u8 0, .int .u8 0, .int .u8 0, .int .u8 x]

/-- The digits behind place b + 1 stand; those of n are still to come. -/
structure St (u n b : Nat) (w wr : World) : Prop where
  ex : ∃ (D : List UInt8) (f : Nat → Value), wr.rowIs w.heap.size 204 20 f ∧ b + 1 + D.length = 20 ∧ (∀ j, j < D.length → f (b + 1 + j) = .int .u8 ((D.getD j 0).toNat : Int)) ∧ dec u = dec n ++ D
  old : Only (fun _ => False) w wr
  le : n ≤ most

theorem St.store {u n b : Nat} {w wr : World} (h : St u n b w wr) : ∃ (D : List UInt8) (f : Nat → Value), (wr.setCell ⟨w.heap.size, b, none⟩ (.int .u8 (48 + (n : Int) % 10))).rowIs w.heap.size 204 20 f ∧
    b + D.length = 20 ∧ (∀ j, j < D.length → f (b + j) = .int .u8 ((D.getD j 0).toNat : Int)) ∧ (if n < 10 then dec u = D else dec u = dec (n / 10) ++ D) := by
  obtain ⟨D, f, hr, hl, hf, he⟩ := h.ex
  refine ⟨sg (n % 10) :: D, fun j => if j = b then .int .u8 (48 + (n : Int) % 10) else f j, hr.set b _, by simp; omega, ?_, ?_⟩
  · intro j hj
    cases j with
    | zero =>
      show (if b + 0 = b then _ else _) = _
      rw [if_pos (by omega), List.getD_cons_zero, toNat_dig (by omega)]
      congr 1
    | succ j =>
      show (if b + (j + 1) = b then _ else _) = _
      rw [if_neg (by omega), List.getD_cons_succ, ← hf j (by simp at hj; omega)]
      congr 1
      omega
  · by_cases c : n < 10
    · rw [if_pos c, he, dec_small c, Nat.mod_eq_of_lt c]
      rfl
    · rw [if_neg c, he, dec_big c]
      simp

theorem conv_row {W : World} {B b : Nat} {D : List UInt8} {f : Nat → Value} (hr : W.rowIs B 204 20 f) (hl : b + D.length = 20) (hf : ∀ j, j < D.length → f (b + j) = .int .u8 ((D.getD j 0).toNat : Int)) :
    (convert 24 9 (.slice (some ⟨B, b, none⟩) (20 - b) (20 - b))).run Try.prog W = .ok (.string ⟨D.toArray⟩) W := by
  have e : 20 - b = D.length := by omega
  rw [e]
  exact run_convert_bytes_back (P := Try.prog) W 24 9 5 ⟨B, b, none⟩ D.length D Try.underlying24 Try.underlying5 Try.underlying9 (fun j hj => by
    rw [Addr.add_lit, hr.cell (by omega), hf j hj]
    simp [hj])

theorem slice_room (W : World) (B b : Nat) (v : Value) (h : b < 20) : (Instr.sliceAt 204 (.pointer (some ⟨B, 0, none⟩)) (some (.int .i64 (b : Int))) none none).run Try.prog (W.setCell ⟨B, b, none⟩ v) = .ok (.slice (some ⟨B, b, none⟩) (20 - b) (20 - b)) (W.setCell ⟨B, b, none⟩ v) := by
  have hl : Try.prog.arrayLen 204 = 20 := by kernel_rfl
  have hs : (Try.prog.info? (Try.prog.elem 204)).map (fun i => i.size) = some 1 := by kernel_rfl
  obtain ⟨i, hi, hz⟩ := Option.map_eq_some_iff.1 hs
  rw [run_sliceAt_array_l (P := Try.prog) _ 204 ⟨B, 0, none⟩ (by kernel_rfl) .i64 b (by omega) (by rw [hl]; omega), hl]
  have hne : ¬ (20 = b) := by omega
  simp [sizeOf, typeInfo, hi, hz, slicedAt, hne, Addr.add_lit]

theorem room_row (w : World) (x : Int) : (w.alloc (.cells (room x) 204)).rowIs w.heap.size 204 20 (fun j => (room x).getD j undef) :=
  ⟨room x, heap_alloc_new w _, rfl, fun i hi => by
    have : i < (room x).size := hi
    simp [this]⟩

set_option maxRecDepth 100000 in
theorem print_any (u : Nat) (w : World) (hu : u ≤ most) : Calls Try.prog 109 #[.int .u64 u] w (numA.Told w (.string ⟨(dec u).toArray⟩)) := by
  have hlen : (dec u).length ≤ 20 := dec_len 19 u (by unfold most at hu; omega)
  have H0 := room_row w (48 + (u : Int) % 10)
  have hd0 : (48 + (u : Int) % 10) = ((sg (u % 10)).toNat : Int) := by rw [toNat_dig (by omega)]; omega
  have hf0 : ∀ j, j < [sg (u % 10)].length → (room (48 + (u : Int) % 10)).getD (19 + j) undef = .int .u8 (([sg (u % 10)].getD j 0).toNat : Int) := by
    intro j hj
    obtain rfl : j = 0 := by simpa using hj
    rw [List.getD_cons_zero, ← hd0]
    rfl
  have hcv := conv_row H0 (by rfl) hf0
  have HLEN := Lib.hid hlen
  have HU := Lib.hid hu
  have H0' := Lib.hid H0
  have HF0 := Lib.hid hf0
  have hw : Hid (IntKind.u64.wrap ((u : Int) / 10) = ((u / 10 : Nat) : Int)) := (by rw [IntWalk.u64_in _ (by unfold most at hu; omega)]; omega : IntKind.u64.wrap ((u : Int) / 10) = ((u / 10 : Nat) : Int))
  clear hlen H0 hd0 hu hf0
  unfold room at hcv
  go_enter Try.func109, Try.ntmps109
  go_wp2_with fail
  refine wp_scope_jumps 0 (fun a' w' => ∃ (n b : Nat) (u1 u5 u6 u7 u8 u9 u10 u11 u12 u13 u14 u15 u16 u17 u18 u19 : Value), a' = { tmps := #[.int .u64 n, u1, .string ⟨#[]⟩, .pointer (some ⟨w.heap.size, 0, none⟩), .int .i64 ((b : Int) + 1), u5, u6, u7, u8, u9, u10, u11, u12, u13, u14, u15, u16, u17, u18, u19], defers := [] } ∧ St u n b w w') (fun a' _ => (intOf (a'.tmps.getD 0 undef)).toNat) rfl ?_ ?_
  · go_wp2
    go_step3
    go_wp2
    · have ht : 0 < IntKind.u64.wrap ((u : Int) / 10) := by assumption
      have HT := Lib.hid ht
      clear ht
      go_step3
      rw [hw.out]
      refine ⟨rfl, u / 10, 18, _, _, _, _, _, _, _, _, _, _, _, _, _, _, _, _, rfl, ⟨⟨[sg (u % 10)], _, H0'.out, rfl, HF0.out, ?_⟩, (Only.refl _ _).alloc _, by have := HU.out; omega⟩⟩
      have := HT.out
      rw [hw.out] at this
      rw [dec_big (by omega)]
    · have ht : IntKind.u64.wrap ((u : Int) / 10) ≤ 0 := by assumption
      have HT := Lib.hid ht
      clear ht
      simp only [Exit.jump]
      go_ret
      refine ⟨?_, (Only.refl _ _).alloc _⟩
      have := HT.out
      rw [hw.out] at this
      have e : dec u = [sg (u % 10)] := by rw [dec_small (by omega), Nat.mod_eq_of_lt (by omega)]
      rw [e]
      rfl
  · rintro a' wr ⟨n, b, u1, u5, u6, u7, u8, u9, u10, u11, u12, u13, u14, u15, u16, u17, u18, u19, rfl, hS⟩
    obtain ⟨D, f, hr, hl, hf, he⟩ := hS.store
    have old := hS.old
    have hle := hS.le
    obtain ⟨D0, f0, hr0, hl0, -, -⟩ := hS.ex
    have hb1 : b < 20 := by omega
    have hcell := hr0.cell hb1
    have hfrz := hr0.frozen b
    have hcv := conv_row hr hl hf
    have HST : Hid ((¬ n < 10) → St u (n / 10) (b - 1) w (wr.setCell ⟨w.heap.size, b, none⟩ (.int .u8 (48 + (n : Int) % 10))) ∧ 1 ≤ b) := by
      intro c
      rw [if_neg c] at he
      have hb : 1 ≤ b := by
        have q := HLEN.out
        have ne := dec_ne (n / 10)
        have : 0 < (dec (n / 10)).length := List.length_pos_iff.2 ne
        rw [he, List.length_append] at q
        omega
      refine ⟨⟨⟨D, f, hr, by omega, ?_, he⟩, only_setNew old (Nat.le_refl _), by omega⟩, hb⟩
      rw [show b - 1 + 1 = b by omega]
      exact hf
    have HFIN : Hid (n < 10 → dec u = D) := by
      intro c
      rw [if_pos c] at he
      exact he
    have HOLD : Hid (Only (fun _ => False) w (wr.setCell ⟨w.heap.size, b, none⟩ (.int .u8 (48 + (n : Int) % 10)))) := only_setNew old (Nat.le_refl _)
    have HWN : Hid (IntKind.u64.wrap ((n : Int) / 10) = ((n / 10 : Nat) : Int)) := (by rw [IntWalk.u64_in _ (by unfold most at hle; omega)]; omega : IntKind.u64.wrap ((n : Int) / 10) = ((n / 10 : Nat) : Int))
    have hb2 : (b : Int) < 20 := by omega
    clear hr hl hf he old hle hr0 hl0 hS hw H0' HF0 HU HLEN
    have hsl := slice_room wr w.heap.size b (.int .u8 (48 + (n : Int) % 10)) (by omega)
    go_wp2
    · have ht : 0 < IntKind.u64.wrap ((n : Int) / 10) := by assumption
      have HT := Lib.hid ht
      clear ht
      go_step3
      have h10 : ¬ n < 10 := by
        have := HT.out
        rw [HWN.out] at this
        omega
      obtain ⟨hS2, hb3⟩ := HST.out h10
      have eb : (b : Int) = ((b - 1 : Nat) : Int) + 1 := by omega
      rw [HWN.out, eb]
      refine ⟨rfl, ⟨n / 10, b - 1, _, _, _, _, _, _, _, _, _, _, _, _, _, _, _, _, rfl, hS2⟩, ?_⟩
      simp [intOf]
      omega
    · have ht : IntKind.u64.wrap ((n : Int) / 10) ≤ 0 := by assumption
      have HT := Lib.hid ht
      clear ht
      simp only [Exit.jump]
      go_ret
      refine ⟨?_, HOLD.out⟩
      have := HT.out
      rw [HWN.out] at this
      rw [HFIN.out (by omega)]
      rfl
end Go.Proofs.Ytbjnejnjlidiaaa.numD
namespace Go.Proofs.Ytbjnejnjlidiaaa.numE
open Go.RowKit kit numA
set_option linter.unusedVariables false

/-- The sign of a number below 16. -/
def hs (n : Nat) : UInt8 := UInt8.ofNat (if n < 10 then 48 + n else 87 + n)
def isHex (c : UInt8) : Bool := (decide (48 ≤ c.toNat) && decide (c.toNat ≤ 57)) || (decide (97 ≤ c.toNat) && decide (c.toNat ≤ 102))
def hvn (c : UInt8) : Nat := if c.toNat ≤ 57 then c.toNat - 48 else c.toNat - 87
def byte (a b : UInt8) : UInt8 := UInt8.ofNat (16 * hvn a + hvn b)

def hexs (l : List UInt8) : List UInt8 := l.flatMap fun b => [hs (b.toNat / 16), hs (b.toNat % 16)]
def unhex : List UInt8 → List UInt8
  | a :: b :: t => byte a b :: unhex t
  | _ => []

theorem hs_nat {n : Nat} (h : n < 16) : (hs n).toNat = if n < 10 then 48 + n else 87 + n := by
  rw [hs, UInt8.toNat_ofNat']
  split <;> omega

theorem hs_hex {n : Nat} (h : n < 16) : isHex (hs n) = true := by
  have := hs_nat h
  simp only [isHex, this, Bool.or_eq_true, Bool.and_eq_true, decide_eq_true_eq]
  split <;> omega

theorem hvn_hs {n : Nat} (h : n < 16) : hvn (hs n) = n := by
  have := hs_nat h
  by_cases c : n < 10
  · rw [if_pos c] at this
    rw [hvn, if_pos (by omega)]
    omega
  · rw [if_neg c] at this
    rw [hvn, if_neg (by omega)]
    omega

theorem hvn_lt {c : UInt8} (h : isHex c = true) : hvn c < 16 := by
  simp only [isHex, Bool.or_eq_true, Bool.and_eq_true, decide_eq_true_eq] at h
  simp only [hvn]
  split <;> omega

theorem hs_hvn {c : UInt8} (h : isHex c = true) : hs (hvn c) = c := by
  apply UInt8.toNat_inj.1
  rw [hs_nat (hvn_lt h)]
  simp only [isHex, Bool.or_eq_true, Bool.and_eq_true, decide_eq_true_eq] at h
  simp only [hvn]
  split <;> split at * <;> omega

theorem byte_nat {a b : UInt8} (ha : isHex a = true) (hb : isHex b = true) : (byte a b).toNat = 16 * hvn a + hvn b := by
  have := hvn_lt ha
  have := hvn_lt hb
  rw [byte, UInt8.toNat_ofNat']
  omega

theorem byte_hs (b : UInt8) : byte (hs (b.toNat / 16)) (hs (b.toNat % 16)) = b := by
  have hb := b.toNat_lt
  apply UInt8.toNat_inj.1
  rw [byte_nat (hs_hex (by omega)) (hs_hex (by omega)), hvn_hs (by omega), hvn_hs (by omega)]
  omega

theorem unhex_hexs (l : List UInt8) : unhex (hexs l) = l := by
  induction l with
  | nil => rfl
  | cons b t ih =>
    show byte (hs (b.toNat / 16)) (hs (b.toNat % 16)) :: unhex (hexs t) = b :: t
    rw [byte_hs, ih]

theorem hexs_all (l : List UInt8) : (hexs l).all isHex = true := by
  induction l with
  | nil => rfl
  | cons b t ih =>
    have hb := b.toNat_lt
    show (hs (b.toNat / 16) :: hs (b.toNat % 16) :: hexs t).all isHex = true
    simp [hs_hex (by omega : b.toNat / 16 < 16), hs_hex (by omega : b.toNat % 16 < 16), ih]

theorem hexs_len (l : List UInt8) : (hexs l).length = 2 * l.length := by
  induction l with
  | nil => rfl
  | cons b t ih =>
    show (hexs t).length + 1 + 1 = 2 * (t.length + 1)
    omega

theorem hexs_snoc (l : List UInt8) (b : UInt8) : hexs (l ++ [b]) = hexs l ++ [hs (b.toNat / 16), hs (b.toNat % 16)] := by simp [hexs]

theorem hexs_unhex (n : Nat) : ∀ l : List UInt8, l.length ≤ n → l.all isHex = true → l.length % 2 = 0 → hexs (unhex l) = l := by
  induction n with
  | zero =>
    intro l hl _ _
    have : l = [] := List.eq_nil_of_length_eq_zero (by omega)
    subst this
    rfl
  | succ n ih =>
    intro l hl ha he
    match l, hl, ha, he with
    | [], _, _, _ => rfl
    | [a], _, _, he => simp at he
    | a :: b :: t, hl, ha, he =>
      simp only [List.all_cons, Bool.and_eq_true] at ha
      obtain ⟨ha, hb, ht⟩ := ha
      have := ih t (by simp at hl; omega) ht (by simp at he; omega)
      have l1 := hvn_lt ha
      have l2 := hvn_lt hb
      show hs ((byte a b).toNat / 16) :: hs ((byte a b).toNat % 16) :: hexs (unhex t) = _
      rw [byte_nat ha hb, this, show (16 * hvn a + hvn b) / 16 = hvn a by omega, show (16 * hvn a + hvn b) % 16 = hvn b by omega, hs_hvn ha, hs_hvn hb]

theorem unhex_snoc (n : Nat) : ∀ l : List UInt8, l.length ≤ n → l.length % 2 = 0 → ∀ a b, unhex (l ++ [a, b]) = unhex l ++ [byte a b] := by
  induction n with
  | zero =>
    intro l hl _ a b
    have : l = [] := List.eq_nil_of_length_eq_zero (by omega)
    subst this
    rfl
  | succ n ih =>
    intro l hl he a b
    match l, hl, he with
    | [], _, _ => rfl
    | [c], _, he => simp at he
    | c :: d :: t, hl, he =>
      have := ih t (by simp at hl; omega) (by simp at he; omega) a b
      show byte c d :: unhex (t ++ [a, b]) = _
      rw [this]
      rfl

/-- What the document's function answers: 16 of no digit. -/
def hv16 (c : UInt8) : Int := if isHex c then (hvn c : Nat) else 16

theorem dg_hit (n : Nat) (c : UInt8) (hn : n < 16) : ((dg n == (c.toNat : Int)) = true ↔ c = hs n) := by
  have := hs_nat hn
  simp only [dg, beq_iff_eq]
  constructor
  · intro h
    apply UInt8.toNat_inj.1
    rw [this]
    split at h <;> split <;> omega
  · rintro rfl
    rw [this]
    split <;> split <;> omega

theorem value_ref (c : UInt8) (w : World) : Calls Try.prog 217 #[.int .u8 (c.toNat : Int)] w fun e w' => e = .returned (.int .u8 (hv16 c)) ∧ w = w' := by
  have hc := c.toNat_lt
  have hc' : (c.toNat : Int) < 256 := by omega
  go_enter Try.func217, Try.ntmps217
  go_wp2_with fail
  go_loop [3] (fun n => ∃ k : Nat, k ≤ 16 ∧ n = .int .u8 k ∧ Hid (∀ j, j < k → c ≠ hs j)) (fun n => 16 - (intOf n).toNat)
  case atStart => exact ⟨0, by omega, rfl, fun j hj => by omega⟩
  case round =>
    obtain ⟨k, hk, rfl, HN⟩ := hrel
    by_cases hlt : k < 16
    · have k1 : (k : Int) < 16 := by omega
      have k0 : (0 : Int) ≤ (k : Int) := by omega
      have D := digit_ref k w k0 k1
      by_cases hit : (dg k == (c.toNat : Int)) = true
      · have HF : Hid (hv16 c = (k : Int)) := by
          have e := (dg_hit k c hlt).1 hit
          exact (by rw [hv16, e, hs_hex hlt, if_pos rfl, hvn_hs hlt] : hv16 c = _)
        clear HN
        go_wp2_with fail
        refine D.mono ?_
        rintro e w' ⟨rfl, rfl⟩
        go_wp2_with fail
        go_ret
        exact ⟨by rw [HF.out]; rfl, rfl⟩
      · have hit' : (dg k == (c.toNat : Int)) = false := by simpa using hit
        have HN' : Hid (∀ j, j < k + 1 → c ≠ hs j) := by
          intro j hj
          by_cases q : j = k
          · subst q
            exact fun e => hit ((dg_hit j c hlt).2 e)
          · exact HN.out j (by omega)
        clear hit
        go_wp2_with fail
        refine D.mono ?_
        rintro e w' ⟨rfl, rfl⟩
        go_wp2_with fail
        go_round
        case rel => exact ⟨k + 1, by omega, by go_num, HN'⟩
        case measure => simp [intOf]; omega
    · obtain rfl : k = 16 := by omega
      have HF : Hid (hv16 c = 16) := by
        have q : isHex c = false := by
          cases e : isHex c with
          | false => rfl
          | true => exact absurd (hs_hvn e).symm (HN.out _ (hvn_lt e))
        exact (by simp [hv16, q] : hv16 c = 16)
      go_wp2_with fail
      go_ret
      exact ⟨by rw [HF.out]; rfl, rfl⟩
end Go.Proofs.Ytbjnejnjlidiaaa.numE
