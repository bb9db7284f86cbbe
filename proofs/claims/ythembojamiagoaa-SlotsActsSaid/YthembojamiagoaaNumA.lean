/- Contracts of num's and its document's small calls: digits, and what is a number. -/
import Derived.Test.YthembojamiagoaaProg
import Derived.Test.YthembojamiagoaaKit
import Derived.WalkKit
import Derived.WalkSpells
import Derived.Laws.RangeString
import Derived.Laws.RangeAny
import Derived.LoopTactic
import Derived.Lib.Hide
import Derived.Outline
namespace Go.Proofs.Ythembojamiagoaa.numA
open Go.RowKit Go.Proofs.Ythembojamiagoaa.kit
set_option linter.unusedVariables false

def dg (n : Int) : Int := if n < 10 then 48 + n else 87 + n

def dig (c : UInt8) : Bool := decide (48 ≤ c.toNat) && decide (c.toNat ≤ 57)

/-- Is the text a number's? -/
def isNum (l : List UInt8) : Bool := l.all dig && (l == [48] || (!l.isEmpty && !(l.head? == some 48)))

def Told (w : World) (v : Value) (e : Ending) (w' : World) : Prop := e = .returned v ∧ Only (fun _ => False) w w'

theorem only_iter (w : World) (s : ByteArray) (p : Nat) : Only (fun _ => False) w (w.iter s p) := (Only.refl _ w).alloc _

theorem rune_out (s : ByteArray) (p : Nat) (h : p < s.size) (hd : dig (s[p]'h) = false) : ((Utf8.decode s p).1 : Int) < 48 ∨ (57 : Int) < ((Utf8.decode s p).1 : Int) := by
  by_cases ha : (s[p]'h).toNat < 128
  · rw [decode_ascii s p h ha]
    simp only [dig, Bool.and_eq_false_iff, decide_eq_false_iff_not] at hd
    simp only
    omega
  · have := (decode_high s p h (by omega)).1
    omega
theorem byteArray_toList (s : ByteArray) : s.toList = s.data.toList :=
  ByteArray.toList_eq s

set_option maxRecDepth 100000 in
theorem isNumber_any (s : ByteArray) (w : World) (hm : s.size ≤ 9223372036854775807) : Calls Try.prog 45 #[.string s] w (Told w (.bool (isNum s.data.toList))) := by
  go_enter Try.func45, Try.ntmps45
  go_wp2
  go_loopw [4] (fun _ wr => ∃ p : Nat, p ≤ s.size ∧ wr = w.iter s p ∧ (s.data.toList.take p).all dig = true) (fun _ wr => s.size - wr.iterPos w.heap.size)
  case atStart => exact ⟨0, Nat.zero_le _, rfl, rfl⟩
  case round =>
    obtain ⟨p, hp, rfl, hall⟩ := hrel
    have HA := Lib.hid hall
    clear hall
    by_cases hlt : p < s.size
    · by_cases hd : dig (s[p]'hlt) = true
      · have hnx : ∀ ty, (Instr.next (.pointer (some ⟨w.heap.size, 0, none⟩)) true ty).run Try.prog (w.iter s p) = _ := fun ty => run_next_ascii w s p ty hlt (by simp [dig] at hd; omega)
        obtain ⟨c, hc⟩ : ∃ c : Nat, c = (s[p]'hlt).toNat := ⟨_, rfl⟩
        rw [← hc] at hnx
        have h1 : (48 : Int) ≤ (c : Int) := by simp [dig, ← hc] at hd; omega
        have h2 : (c : Int) ≤ 57 := by simp [dig, ← hc] at hd; omega
        have HD := Lib.hid hd
        clear hd hc
        go_wp2
        go_roundw
        case rel =>
          refine ⟨p + 1, by omega, rfl, ?_⟩
          have e : s.data.toList.take (p + 1) = s.data.toList.take p ++ [s[p]] := by
            rw [List.take_succ_eq_append_getElem (by simpa using hlt)]; rfl
          rw [e, List.all_append, HA.out]
          simpa using HD.out
        case measure => simp; omega
      · have hnx : ∀ ty, (Instr.next (.pointer (some ⟨w.heap.size, 0, none⟩)) true ty).run Try.prog (w.iter s p) = _ := fun ty => run_next_any w s p ty hlt
        have hro := rune_out s p hlt (by simpa using hd)
        have hfin : isNum s.data.toList = false := by
          have e : s.data.toList.all dig = false := by
            rw [List.all_eq_false]
            exact ⟨s[p], Array.mem_toList_iff.2 (Array.getElem_mem (xs := s.data) hlt), hd⟩
          simp [isNum, e]
        have HF := Lib.hid hfin
        clear hfin hd
        generalize (Utf8.decode s p).1 = r at hnx hro
        generalize (Utf8.decode s p).2 = wd at hnx
        rcases hro with hr | hr
        · go_wp2
          go_ret
          exact ⟨by rw [HF.out]; rfl, only_iter _ _ _⟩
        · have hr' : ¬ ((r : Int) < 48) := by omega
          go_wp2
          go_ret
          exact ⟨by rw [HF.out]; rfl, only_iter _ _ _⟩
    · obtain rfl : p = s.size := by omega
      have hnx : ∀ ty, (Instr.next (.pointer (some ⟨w.heap.size, 0, none⟩)) true ty).run Try.prog (w.iter s s.size) = _ := fun ty => run_next_end w s s.size ty (by omega)
      have hall : s.data.toList.all dig = true := by
        have := HA.out
        rwa [List.take_of_length_le (by simp)] at this
      have HQ := Lib.hid hall
      clear hall HA
      have ht : s.toList = s.data.toList := byteArray_toList s
      by_cases hz : s.size = 0
      · have h0 : s.toList = [] := by rw [ht]; exact List.eq_nil_of_length_eq_zero (by simpa using hz)
        have hfin : isNum s.data.toList = false := by rw [← ht, h0]; rfl
        have HF := Lib.hid hfin
        clear hfin ht hz
        go_wp2
        go_ret
        exact ⟨by rw [HF.out]; rfl, only_iter _ _ _⟩
      · have hz' : 0 < s.size := by omega
        obtain ⟨a, l, hl⟩ : ∃ a l, s.data.toList = a :: l := List.exists_cons_of_length_pos (by simpa using hz')
        have ha : s[0] = a := by
          show s.data[0] = a
          simp [← Array.getElem_toList, hl]
        have hc : s.data.toList = s[0] :: l := by rw [ha]; exact hl
        clear hl ha
        have hfin : isNum s.data.toList = (s.toList == [48] || (((s[0].toNat : Int)) != 48)) := by
          have e2 : (s.data.toList.head? == some 48) = ((s[0].toNat : Int) == 48) := by
            rw [hc, List.head?_cons, Bool.eq_iff_iff]
            simp only [beq_iff_eq, Option.some.injEq, ← UInt8.toNat_inj]
            exact ⟨fun h => by rw [h]; rfl, fun h => by have : s[0].toNat = 48 := by omega
                                                        rw [this]; rfl⟩
          have e3 : s.data.toList.isEmpty = false := by rw [hc]; rfl
          simp only [isNum, HQ.out, e2, e3, ht, Bool.true_and, Bool.not_false]
          rfl
        have HF := Lib.hid hfin
        have hne : s.toList.isEmpty = false := by rw [ht, hc]; rfl
        clear hfin ht hz hc
        by_cases h48 : (s.toList == [48]) = true
        · go_wp2
          go_ret
          exact ⟨by rw [HF.out, h48]; rfl, only_iter _ _ _⟩
        · have h48' : (s.toList == [48]) = false := by simpa using h48
          clear h48
          go_wp2
          go_ret
          exact ⟨by rw [HF.out, h48']; rfl, only_iter _ _ _⟩
end Go.Proofs.Ythembojamiagoaa.numA
