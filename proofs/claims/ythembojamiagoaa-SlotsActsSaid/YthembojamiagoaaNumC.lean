/- Contracts of num.Read and its document's answer. -/
import Derived.Test.YthembojamiagoaaNumB
import Derived.Laws.IdiomStrings
import Derived.Deep.OwnRows
namespace Go.Proofs.Ythembojamiagoaa.numC
open Go.RowKit Go.Proofs.Ythembojamiagoaa.kit Go.Proofs.Ythembojamiagoaa.numA Go.Proofs.Ythembojamiagoaa.numB
set_option linter.unusedVariables false

/-- The greatest number, behind a name. -/
def most : Nat := 18446744073709551615

theorem take_byte (s : ByteArray) (p : Nat) (h : p < s.size) : s.data.toList.take (p + 1) = s.data.toList.take p ++ [s[p]] := by
  rw [List.take_succ_eq_append_getElem (by simpa using h)]; rfl

theorem val_byte (s : ByteArray) (p : Nat) (h : p < s.size) : val (s.data.toList.take (p + 1)) = 10 * val (s.data.toList.take p) + (s[p].toNat - 48) := by
  rw [take_byte s p h, val_snoc]

/-- What Read answers. -/
def rd (l : List UInt8) : Value := if isNum l then (if val l ≤ most then .tuple #[.int .u64 (val l), .int .i64 0] else .tuple #[.int .u64 0, .int .i64 5]) else .tuple #[.int .u64 0, .int .i64 3]

set_option maxRecDepth 100000 in
theorem read_any (s : ByteArray) (w : World) (hm : s.size ≤ 9223372036854775807) : Calls Try.prog 40 #[.string s] w (numA.Told w (rd s.data.toList)) := by
  have N := isNumber_any s w hm
  by_cases hn : isNum s.data.toList = true
  · rw [hn] at N
    have HN := Lib.hid hn
    clear hn
    go_enter Try.func40, Try.ntmps40
    go_wp2_with fail
    refine N.mono ?_
    rintro e w1 ⟨rfl, o1⟩
    go_wp2_with fail
    go_loopw [4] (fun u wr => ∃ p : Nat, p ≤ s.size ∧ wr = w1.iter s p ∧ val (s.data.toList.take p) ≤ most ∧ u = .int .u64 (val (s.data.toList.take p))) (fun _ wr => s.size - wr.iterPos w1.heap.size)
    case atStart => exact ⟨0, Nat.zero_le _, rfl, by show 0 ≤ most; omega, rfl⟩
    case round =>
      obtain ⟨p, hp, rfl, hv, rfl⟩ := hrel
      by_cases hlt : p < s.size
      · have hdig : dig (s[p]'hlt) = true := by
          have := HN.out
          simp only [isNum, Bool.and_eq_true] at this
          exact List.all_eq_true.1 this.1 _ (Array.mem_toList_iff.2 (Array.getElem_mem (xs := s.data) hlt))
        have hnx : ∀ ty, (Instr.next (.pointer (some ⟨w1.heap.size, 0, none⟩)) true ty).run Try.prog (w1.iter s p) = _ := fun ty => run_next_ascii w1 s p ty hlt (by simp [dig] at hdig; omega)
        obtain ⟨c, hc⟩ : ∃ c : Nat, c = (s[p]'hlt).toNat := ⟨_, rfl⟩
        rw [← hc] at hnx
        have h1 : (48 : Int) ≤ (c : Int) := by simp [dig, ← hc] at hdig; omega
        have h2 : (c : Int) ≤ 57 := by simp [dig, ← hc] at hdig; omega
        have HD := Lib.hid hdig
        have HC := Lib.hid hc
        have HV := Lib.hid hv
        generalize hu : val (s.data.toList.take p) = u at *
        have HU := Lib.hid hu
        have HE := Lib.hid (val_byte s p hlt)
        have HT := Lib.hid (val_take s.data.toList (p + 1))
        clear hdig hc hv hu N
        go_wp2_with fail
        · have ht : (18446744073709551615 - ((c : Int) - 48)) / 10 < (u : Int) := by assumption
          have HH := Lib.hid ht
          clear ht
          go_ret2
          refine ⟨?_, o1.trans (only_iter _ _ _)⟩
          have e1 := HE.out
          have e2 := HT.out
          have e3 := HH.out
          rw [e1, HU.out, ← HC.out] at e2
          have : ¬ val s.data.toList ≤ most := by unfold most; omega
          rw [rd, if_pos HN.out, if_neg this]
          rfl
        · have ht : (u : Int) ≤ (18446744073709551615 - ((c : Int) - 48)) / 10 := by assumption
          have HH := Lib.hid ht
          clear ht
          go_roundw
          case rel =>
            have e1 := HE.out
            have e3 := HH.out
            rw [HU.out, ← HC.out] at e1
            refine ⟨p + 1, by omega, rfl, by rw [e1]; unfold most; omega, ?_⟩
            rw [e1]
            congr 1
            omega
          case measure => simp; omega
      · obtain rfl : p = s.size := by omega
        have hnx : ∀ ty, (Instr.next (.pointer (some ⟨w1.heap.size, 0, none⟩)) true ty).run Try.prog (w1.iter s s.size) = _ := fun ty => run_next_end w1 s s.size ty (by omega)
        have el : s.data.toList.take s.size = s.data.toList := List.take_of_length_le (by simp)
        have HR : Hid (rd s.data.toList = .tuple #[.int .u64 (val s.data.toList), .int .i64 0]) := by
          rw [el] at hv
          exact (by rw [rd, if_pos HN.out, if_pos hv] : rd s.data.toList = _)
        rw [el]
        have HV := Lib.hid hv
        clear hv N el
        go_wp2_with fail
        go_ret2
        exact ⟨by rw [HR.out]; rfl, o1.trans (only_iter _ _ _)⟩
  · have hn' : isNum s.data.toList = false := by simpa using hn
    rw [hn'] at N
    have HR : Hid (rd s.data.toList = .tuple #[.int .u64 0, .int .i64 3]) := (by rw [rd, if_neg hn] : rd s.data.toList = _)
    clear hn hn'
    go_enter Try.func40, Try.ntmps40
    go_wp2_with fail
    refine N.mono ?_
    rintro e w1 ⟨rfl, o1⟩
    go_wp2_with fail
    go_ret2
    exact ⟨by rw [HR.out]; rfl, o1⟩

theorem head_byte (s : ByteArray) (h : 0 < s.size) : ∃ l, s.data.toList = s[0] :: l := by
  obtain ⟨a, l, hl⟩ : ∃ a l, s.data.toList = a :: l := List.exists_cons_of_length_pos (by simpa using h)
  have ha : s[0] = a := by
    show s.data[0] = a
    simp [← Array.getElem_toList, hl]
  exact ⟨l, by rw [ha]; exact hl⟩

theorem isNum_of {l t : List UInt8} {c : UInt8} (h : l = c :: t) (h2 : ¬ c = 48 ∨ t = []) : isNum l = l.all dig := by
  have : (l == [48] || (!l.isEmpty && !(l.head? == some 48))) = true := by
    subst h
    by_cases e : c = 48
    · subst e
      rcases h2 with h2 | rfl
      · exact absurd rfl h2
      · rfl
    · simp [e]
  rw [isNum, this, Bool.and_true]

theorem byte_eq (c : UInt8) : ((c.toNat : Int) == 48) = (c == 48) := by
  rw [Bool.eq_iff_iff]
  simp only [beq_iff_eq, ← UInt8.toNat_inj]
  exact ⟨fun h => by have : c.toNat = 48 := by omega
                     rw [this]; rfl, fun h => by rw [h]; rfl⟩

end Go.Proofs.Ythembojamiagoaa.numC
