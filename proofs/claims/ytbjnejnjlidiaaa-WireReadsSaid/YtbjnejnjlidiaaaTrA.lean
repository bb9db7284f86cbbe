/- Term: the document's parser: its small parts. -/
import Derived.Test.YtbjnejnjlidiaaaTmA
import Derived.Test.YtbjnejnjlidiaaaNumF
import Derived.Test.YtbjnejnjlidiaaaKit
import Derived.Deep.AppendLies
import Derived.Deep.QuietTactic
import Derived.BigQuiet
import Derived.StillTailTactics
namespace Go.Proofs.Ytbjnejnjlidiaaa.trA
open Go.RowKit kit numA numB numC numE numF tmA
set_option linter.unusedVariables false
set_option linter.unusedSimpArgs false

/-- The byte at a place; 0 where none is. -/
def bt (s : ByteArray) (i : Nat) : Int := (((s.data.toList.getD i 0).toNat : Nat) : Int)

theorem bt_in (s : ByteArray) (i : Nat) (h : i < s.size) : bt s i = (((s[i]'h).toNat : Nat) : Int) := by
  have h' : i < s.data.toList.length := by simpa using h
  have : s.data.toList.getD i 0 = s[i] := by
    rw [List.getD_eq_getElem?_getD, List.getElem?_eq_getElem h']
    simp [ByteArray.getElem_eq_getElem_data]
  rw [bt, this]

theorem bt_out (s : ByteArray) (i : Nat) (h : s.size ≤ i) : bt s i = 0 := by
  have h' : s.data.toList.length ≤ i := by simpa using h
  rw [bt, List.getD_eq_getElem?_getD, List.getElem?_eq_none h']
  rfl

theorem tl_size (s : ByteArray) : s.data.toList.length = s.size := by simp

theorem at_any (s : ByteArray) (i : Nat) (w : World) (hm : s.size ≤ 1000000000) (hi : i ≤ 1000000001) : Calls Try.prog 157 #[.string s, .int .i64 i] w fun e w' => e = .returned (.int .u8 (bt s i)) ∧ w = w' := by
  have a0 : ((i : Int) < 0) = False := eq_false (by omega)
  by_cases h : i < s.size
  · have HB := Lib.hid (bt_in s i h)
    have k1 : ((i : Int) < (s.size : Int)) := by omega
    have k2 : ((s.size : Int) ≤ (i : Int)) = False := eq_false (by omega)
    go_enter Try.func157, Try.ntmps157
    go_wp2_with fail
    go_ret
    exact ⟨by rw [HB.out]; rfl, rfl⟩
  · have HB := Lib.hid (bt_out s i (by omega))
    have k2 : ((s.size : Int) ≤ (i : Int)) = True := eq_true (by omega)
    go_enter Try.func157, Try.ntmps157
    go_wp2_with fail
    go_ret
    exact ⟨by rw [HB.out]; rfl, rfl⟩

theorem kind_out (c : UInt8) (h : ∀ j, j < 11 → c ≠ letters.getD j 0) : kindOf c = 0 := by
  unfold kindOf
  rw [if_neg]
  intro q
  have q := List.contains_iff_mem.1 q
  obtain ⟨j, hj, e⟩ := List.getElem_of_mem q
  exact h j hj (by rw [← e]; simp [hj])

theorem ord0 : ((((⟨#[48, 97, 110, 120, 112, 100, 104, 107, 109, 115, 108]⟩ : ByteArray)[0]'(by decide)).toNat : Nat) : Int) = 48 := rfl
theorem ord1 : ((((⟨#[48, 97, 110, 120, 112, 100, 104, 107, 109, 115, 108]⟩ : ByteArray)[1]'(by decide)).toNat : Nat) : Int) = 97 := rfl
theorem ord2 : ((((⟨#[48, 97, 110, 120, 112, 100, 104, 107, 109, 115, 108]⟩ : ByteArray)[2]'(by decide)).toNat : Nat) : Int) = 110 := rfl
theorem ord3 : ((((⟨#[48, 97, 110, 120, 112, 100, 104, 107, 109, 115, 108]⟩ : ByteArray)[3]'(by decide)).toNat : Nat) : Int) = 120 := rfl
theorem ord4 : ((((⟨#[48, 97, 110, 120, 112, 100, 104, 107, 109, 115, 108]⟩ : ByteArray)[4]'(by decide)).toNat : Nat) : Int) = 112 := rfl
theorem ord5 : ((((⟨#[48, 97, 110, 120, 112, 100, 104, 107, 109, 115, 108]⟩ : ByteArray)[5]'(by decide)).toNat : Nat) : Int) = 100 := rfl
theorem ord6 : ((((⟨#[48, 97, 110, 120, 112, 100, 104, 107, 109, 115, 108]⟩ : ByteArray)[6]'(by decide)).toNat : Nat) : Int) = 104 := rfl
theorem ord7 : ((((⟨#[48, 97, 110, 120, 112, 100, 104, 107, 109, 115, 108]⟩ : ByteArray)[7]'(by decide)).toNat : Nat) : Int) = 107 := rfl
theorem ord8 : ((((⟨#[48, 97, 110, 120, 112, 100, 104, 107, 109, 115, 108]⟩ : ByteArray)[8]'(by decide)).toNat : Nat) : Int) = 109 := rfl
theorem ord9 : ((((⟨#[48, 97, 110, 120, 112, 100, 104, 107, 109, 115, 108]⟩ : ByteArray)[9]'(by decide)).toNat : Nat) : Int) = 115 := rfl
theorem ord10 : ((((⟨#[48, 97, 110, 120, 112, 100, 104, 107, 109, 115, 108]⟩ : ByteArray)[10]'(by decide)).toNat : Nat) : Int) = 108 := rfl

set_option maxRecDepth 100000 in
theorem kind_any (c : UInt8) (w : World) : Calls Try.prog 156 #[.int .u8 (c.toNat : Int)] w fun e w' => e = .returned (.int .i64 (kindOf c : Nat)) ∧ w = w' := by
  go_enter Try.func156, Try.ntmps156
  go_wp2_with fail
  go_loop [3] (fun i => ∃ k : Nat, k ≤ 11 ∧ i = .int .i64 k ∧ ∀ j, j < k → c ≠ letters.getD j 0) (fun i => 11 - (intOf i).toNat)
  case atStart => exact ⟨0, Nat.zero_le _, rfl, fun j h => absurd h (Nat.not_lt_zero j)⟩
  case round =>
    obtain ⟨k, hk, rfl, hn⟩ := hrel
    have HN := Lib.hid hn
    clear hn
    have e : k = 0 ∨ k = 1 ∨ k = 2 ∨ k = 3 ∨ k = 4 ∨ k = 5 ∨ k = 6 ∨ k = 7 ∨ k = 8 ∨ k = 9 ∨ k = 10 ∨ k = 11 := by omega
    rcases e with rfl | rfl | rfl | rfl | rfl | rfl | rfl | rfl | rfl | rfl | rfl | rfl
    · have HIT := Lib.hid (show c = 48 → (kindOf c : Nat) = 1 from fun q => by rw [q]; decide)
      by_cases hc : c = 48
      · have b1 : ((48 : Int) == (c.toNat : Int)) = true := by rw [hc]; rfl
        have HK := Lib.hid (HIT.out hc)
        clear hc
        have ix := ord0
        go_wp2_with fail
        go_ret
        exact ⟨by rw [HK.out]; rfl, rfl⟩
      · have b1 : ((48 : Int) == (c.toNat : Int)) = false := by
          rw [beq_eq_false_iff_ne]
          intro q
          exact hc (UInt8.toNat_inj.1 (by have : (48 : UInt8).toNat = 48 := rfl; omega))
        have HC := Lib.hid hc
        clear hc
        have ix := ord0
        go_wp2_with fail
        go_round
        case rel => exact ⟨1, by omega, rfl, fun j hj => by
          rcases Nat.lt_or_eq_of_le (Nat.le_of_lt_succ hj) with q | q
          · exact HN.out j q
          · subst q; exact HC.out⟩
        case measure => decide
    · have HIT := Lib.hid (show c = 97 → (kindOf c : Nat) = 2 from fun q => by rw [q]; decide)
      by_cases hc : c = 97
      · have b1 : ((97 : Int) == (c.toNat : Int)) = true := by rw [hc]; rfl
        have HK := Lib.hid (HIT.out hc)
        clear hc
        have ix := ord1
        go_wp2_with fail
        go_ret
        exact ⟨by rw [HK.out]; rfl, rfl⟩
      · have b1 : ((97 : Int) == (c.toNat : Int)) = false := by
          rw [beq_eq_false_iff_ne]
          intro q
          exact hc (UInt8.toNat_inj.1 (by have : (97 : UInt8).toNat = 97 := rfl; omega))
        have HC := Lib.hid hc
        clear hc
        have ix := ord1
        go_wp2_with fail
        go_round
        case rel => exact ⟨2, by omega, rfl, fun j hj => by
          rcases Nat.lt_or_eq_of_le (Nat.le_of_lt_succ hj) with q | q
          · exact HN.out j q
          · subst q; exact HC.out⟩
        case measure => decide
    · have HIT := Lib.hid (show c = 110 → (kindOf c : Nat) = 3 from fun q => by rw [q]; decide)
      by_cases hc : c = 110
      · have b1 : ((110 : Int) == (c.toNat : Int)) = true := by rw [hc]; rfl
        have HK := Lib.hid (HIT.out hc)
        clear hc
        have ix := ord2
        go_wp2_with fail
        go_ret
        exact ⟨by rw [HK.out]; rfl, rfl⟩
      · have b1 : ((110 : Int) == (c.toNat : Int)) = false := by
          rw [beq_eq_false_iff_ne]
          intro q
          exact hc (UInt8.toNat_inj.1 (by have : (110 : UInt8).toNat = 110 := rfl; omega))
        have HC := Lib.hid hc
        clear hc
        have ix := ord2
        go_wp2_with fail
        go_round
        case rel => exact ⟨3, by omega, rfl, fun j hj => by
          rcases Nat.lt_or_eq_of_le (Nat.le_of_lt_succ hj) with q | q
          · exact HN.out j q
          · subst q; exact HC.out⟩
        case measure => decide
    · have HIT := Lib.hid (show c = 120 → (kindOf c : Nat) = 4 from fun q => by rw [q]; decide)
      by_cases hc : c = 120
      · have b1 : ((120 : Int) == (c.toNat : Int)) = true := by rw [hc]; rfl
        have HK := Lib.hid (HIT.out hc)
        clear hc
        have ix := ord3
        go_wp2_with fail
        go_ret
        exact ⟨by rw [HK.out]; rfl, rfl⟩
      · have b1 : ((120 : Int) == (c.toNat : Int)) = false := by
          rw [beq_eq_false_iff_ne]
          intro q
          exact hc (UInt8.toNat_inj.1 (by have : (120 : UInt8).toNat = 120 := rfl; omega))
        have HC := Lib.hid hc
        clear hc
        have ix := ord3
        go_wp2_with fail
        go_round
        case rel => exact ⟨4, by omega, rfl, fun j hj => by
          rcases Nat.lt_or_eq_of_le (Nat.le_of_lt_succ hj) with q | q
          · exact HN.out j q
          · subst q; exact HC.out⟩
        case measure => decide
    · have HIT := Lib.hid (show c = 112 → (kindOf c : Nat) = 5 from fun q => by rw [q]; decide)
      by_cases hc : c = 112
      · have b1 : ((112 : Int) == (c.toNat : Int)) = true := by rw [hc]; rfl
        have HK := Lib.hid (HIT.out hc)
        clear hc
        have ix := ord4
        go_wp2_with fail
        go_ret
        exact ⟨by rw [HK.out]; rfl, rfl⟩
      · have b1 : ((112 : Int) == (c.toNat : Int)) = false := by
          rw [beq_eq_false_iff_ne]
          intro q
          exact hc (UInt8.toNat_inj.1 (by have : (112 : UInt8).toNat = 112 := rfl; omega))
        have HC := Lib.hid hc
        clear hc
        have ix := ord4
        go_wp2_with fail
        go_round
        case rel => exact ⟨5, by omega, rfl, fun j hj => by
          rcases Nat.lt_or_eq_of_le (Nat.le_of_lt_succ hj) with q | q
          · exact HN.out j q
          · subst q; exact HC.out⟩
        case measure => decide
    · have HIT := Lib.hid (show c = 100 → (kindOf c : Nat) = 6 from fun q => by rw [q]; decide)
      by_cases hc : c = 100
      · have b1 : ((100 : Int) == (c.toNat : Int)) = true := by rw [hc]; rfl
        have HK := Lib.hid (HIT.out hc)
        clear hc
        have ix := ord5
        go_wp2_with fail
        go_ret
        exact ⟨by rw [HK.out]; rfl, rfl⟩
      · have b1 : ((100 : Int) == (c.toNat : Int)) = false := by
          rw [beq_eq_false_iff_ne]
          intro q
          exact hc (UInt8.toNat_inj.1 (by have : (100 : UInt8).toNat = 100 := rfl; omega))
        have HC := Lib.hid hc
        clear hc
        have ix := ord5
        go_wp2_with fail
        go_round
        case rel => exact ⟨6, by omega, rfl, fun j hj => by
          rcases Nat.lt_or_eq_of_le (Nat.le_of_lt_succ hj) with q | q
          · exact HN.out j q
          · subst q; exact HC.out⟩
        case measure => decide
    · have HIT := Lib.hid (show c = 104 → (kindOf c : Nat) = 7 from fun q => by rw [q]; decide)
      by_cases hc : c = 104
      · have b1 : ((104 : Int) == (c.toNat : Int)) = true := by rw [hc]; rfl
        have HK := Lib.hid (HIT.out hc)
        clear hc
        have ix := ord6
        go_wp2_with fail
        go_ret
        exact ⟨by rw [HK.out]; rfl, rfl⟩
      · have b1 : ((104 : Int) == (c.toNat : Int)) = false := by
          rw [beq_eq_false_iff_ne]
          intro q
          exact hc (UInt8.toNat_inj.1 (by have : (104 : UInt8).toNat = 104 := rfl; omega))
        have HC := Lib.hid hc
        clear hc
        have ix := ord6
        go_wp2_with fail
        go_round
        case rel => exact ⟨7, by omega, rfl, fun j hj => by
          rcases Nat.lt_or_eq_of_le (Nat.le_of_lt_succ hj) with q | q
          · exact HN.out j q
          · subst q; exact HC.out⟩
        case measure => decide
    · have HIT := Lib.hid (show c = 107 → (kindOf c : Nat) = 8 from fun q => by rw [q]; decide)
      by_cases hc : c = 107
      · have b1 : ((107 : Int) == (c.toNat : Int)) = true := by rw [hc]; rfl
        have HK := Lib.hid (HIT.out hc)
        clear hc
        have ix := ord7
        go_wp2_with fail
        go_ret
        exact ⟨by rw [HK.out]; rfl, rfl⟩
      · have b1 : ((107 : Int) == (c.toNat : Int)) = false := by
          rw [beq_eq_false_iff_ne]
          intro q
          exact hc (UInt8.toNat_inj.1 (by have : (107 : UInt8).toNat = 107 := rfl; omega))
        have HC := Lib.hid hc
        clear hc
        have ix := ord7
        go_wp2_with fail
        go_round
        case rel => exact ⟨8, by omega, rfl, fun j hj => by
          rcases Nat.lt_or_eq_of_le (Nat.le_of_lt_succ hj) with q | q
          · exact HN.out j q
          · subst q; exact HC.out⟩
        case measure => decide
    · have HIT := Lib.hid (show c = 109 → (kindOf c : Nat) = 9 from fun q => by rw [q]; decide)
      by_cases hc : c = 109
      · have b1 : ((109 : Int) == (c.toNat : Int)) = true := by rw [hc]; rfl
        have HK := Lib.hid (HIT.out hc)
        clear hc
        have ix := ord8
        go_wp2_with fail
        go_ret
        exact ⟨by rw [HK.out]; rfl, rfl⟩
      · have b1 : ((109 : Int) == (c.toNat : Int)) = false := by
          rw [beq_eq_false_iff_ne]
          intro q
          exact hc (UInt8.toNat_inj.1 (by have : (109 : UInt8).toNat = 109 := rfl; omega))
        have HC := Lib.hid hc
        clear hc
        have ix := ord8
        go_wp2_with fail
        go_round
        case rel => exact ⟨9, by omega, rfl, fun j hj => by
          rcases Nat.lt_or_eq_of_le (Nat.le_of_lt_succ hj) with q | q
          · exact HN.out j q
          · subst q; exact HC.out⟩
        case measure => decide
    · have HIT := Lib.hid (show c = 115 → (kindOf c : Nat) = 10 from fun q => by rw [q]; decide)
      by_cases hc : c = 115
      · have b1 : ((115 : Int) == (c.toNat : Int)) = true := by rw [hc]; rfl
        have HK := Lib.hid (HIT.out hc)
        clear hc
        have ix := ord9
        go_wp2_with fail
        go_ret
        exact ⟨by rw [HK.out]; rfl, rfl⟩
      · have b1 : ((115 : Int) == (c.toNat : Int)) = false := by
          rw [beq_eq_false_iff_ne]
          intro q
          exact hc (UInt8.toNat_inj.1 (by have : (115 : UInt8).toNat = 115 := rfl; omega))
        have HC := Lib.hid hc
        clear hc
        have ix := ord9
        go_wp2_with fail
        go_round
        case rel => exact ⟨10, by omega, rfl, fun j hj => by
          rcases Nat.lt_or_eq_of_le (Nat.le_of_lt_succ hj) with q | q
          · exact HN.out j q
          · subst q; exact HC.out⟩
        case measure => decide
    · have HIT := Lib.hid (show c = 108 → (kindOf c : Nat) = 11 from fun q => by rw [q]; decide)
      by_cases hc : c = 108
      · have b1 : ((108 : Int) == (c.toNat : Int)) = true := by rw [hc]; rfl
        have HK := Lib.hid (HIT.out hc)
        clear hc
        have ix := ord10
        go_wp2_with fail
        go_ret
        exact ⟨by rw [HK.out]; rfl, rfl⟩
      · have b1 : ((108 : Int) == (c.toNat : Int)) = false := by
          rw [beq_eq_false_iff_ne]
          intro q
          exact hc (UInt8.toNat_inj.1 (by have : (108 : UInt8).toNat = 108 := rfl; omega))
        have HC := Lib.hid hc
        clear hc
        have ix := ord10
        go_wp2_with fail
        go_round
        case rel => exact ⟨11, by omega, rfl, fun j hj => by
          rcases Nat.lt_or_eq_of_le (Nat.le_of_lt_succ hj) with q | q
          · exact HN.out j q
          · subst q; exact HC.out⟩
        case measure => decide
    · have HK := Lib.hid (kind_out c HN.out)
      go_wp2_with fail
      go_ret
      exact ⟨by rw [HK.out]; rfl, rfl⟩

theorem drop_cons (s : ByteArray) (k : Nat) (h : k < s.size) : s.data.toList.drop k = s[k] :: s.data.toList.drop (k + 1) := by
  have h' : k < s.data.toList.length := by simpa using h
  rw [List.drop_eq_getElem_cons h']
  simp [ByteArray.getElem_eq_getElem_data]

theorem extract_list (s : ByteArray) (a b : Nat) (h : b ≤ s.size) : (s.extract a b).data.toList = (s.data.toList.drop a).take (b - a) := by
  rw [ByteArray.data_extract, Array.toList_extract]

theorem word_take (l : Txt) : l.take (l.length - (restOf l).length) = wordOf l := by
  have := word_rest l
  have hl : l.length = (wordOf l).length + (restOf l).length := by rw [← List.length_append, this]
  have : l.take (wordOf l).length = wordOf l := by
    conv => lhs; arg 2; rw [← this]
    exact List.take_left' rfl
  rw [show l.length - (restOf l).length = (wordOf l).length by omega, this]

/-- Where the rest of what stands behind i begins. -/
def behind (s : ByteArray) (l : Txt) : Nat := s.size - l.length

def Word (w : World) (s : ByteArray) (i : Nat) (e : Ending) (w' : World) : Prop :=
  ∃ t, e = .returned (.tuple #[.string t, .int .i64 (behind s (restOf (s.data.toList.drop i)) : Nat)]) ∧ t.data.toList = wordOf (s.data.toList.drop i) ∧ t.size ≤ s.size ∧ w = w'

set_option maxRecDepth 100000 in
theorem word_any (s : ByteArray) (i0 : Nat) (w : World) (h0 : i0 ≤ s.size) (hm : s.size ≤ 1000000000) : Calls Try.prog 159 #[.string s, .int .i64 i0] w (Word w s i0) := by
  have HM := Lib.hid hm
  have a1 : (0 : Int) ≤ (i0 : Int) := by omega
  have a2 : (i0 : Int) ≤ (s.size : Int) := by omega
  go_enter Try.func159, Try.ntmps159
  go_wp2_with fail
  go_loop [1] (fun i => ∃ k : Nat, i0 ≤ k ∧ k ≤ s.size ∧ i = .int .i64 k ∧ restOf (s.data.toList.drop i0) = restOf (s.data.toList.drop k)) (fun i => s.size - (intOf i).toNat)
  case atStart => exact ⟨i0, Nat.le_refl _, h0, rfl, rfl⟩
  case round =>
    obtain ⟨k, hk0, hk, rfl, hr⟩ := hrel
    have HR := Lib.hid hr
    clear hr
    have stopped : restOf (s.data.toList.drop k) = s.data.toList.drop k → k ≤ s.size → Word w s i0 (.returned (.tuple #[.string (s.extract i0 k), .int .i64 (k : Int)])) w := fun q hks => by
      have hl : (restOf (s.data.toList.drop i0)).length = s.size - k := by rw [HR.out, q, List.length_drop, tl_size]
      refine ⟨_, by rw [behind, hl, show s.size - (s.size - k) = k by omega], ?_, by simp; omega, rfl⟩
      have := word_take (s.data.toList.drop i0)
      rw [hl, List.length_drop, tl_size] at this
      rw [extract_list s i0 k hks, ← this, show s.size - i0 - (s.size - k) = k - i0 by omega]
    have ST := Lib.hid stopped
    clear stopped
    by_cases hlt : k < s.size
    · have k1 : (k : Int) < (s.size : Int) := by omega
      have hm2 := HM.out
      have b3 : (0 : Int) ≤ (k : Int) := by omega
      have b4 : (i0 : Int) ≤ (k : Int) := by omega
      have b5 : (k : Int) ≤ (s.size : Int) := by omega
      have HD := Lib.hid (drop_cons s k hlt)
      by_cases n1 : (s[k]'hlt) = 44
      · have b1 : (((s[k]'hlt).toNat : Int) != 44) = false := by rw [n1]; rfl
        have HF := Lib.hid (ST.out (by rw [HD.out, n1]; rfl) hk)
        clear n1
        go_wp2_with fail
        go_ret2
        exact HF.out
      have b1 : (((s[k]'hlt).toNat : Int) != 44) = true := by
        rw [bne_iff_ne]
        intro e
        exact n1 (UInt8.toNat_inj.1 (by have : (44 : UInt8).toNat = 44 := rfl; omega))
      by_cases n2 : (s[k]'hlt) = 41
      · have b2 : (((s[k]'hlt).toNat : Int) != 41) = false := by rw [n2]; rfl
        have HF := Lib.hid (ST.out (by rw [HD.out, n2]; rfl) hk)
        clear n1 n2
        go_wp2_with fail
        go_ret2
        exact HF.out
      have b2 : (((s[k]'hlt).toNat : Int) != 41) = true := by
        rw [bne_iff_ne]
        intro e
        exact n2 (UInt8.toNat_inj.1 (by have : (41 : UInt8).toNat = 41 := rfl; omega))
      have HNX := Lib.hid (show restOf (s.data.toList.drop i0) = restOf (s.data.toList.drop (k + 1)) from by
        rw [HR.out, HD.out, restOf, List.dropWhile_cons, if_pos (by simp [stop, n1, n2])]
        rfl)
      clear n1 n2
      go_wp2_with fail
      go_round
      case rel => exact ⟨k + 1, by omega, by omega, by go_num, HNX.out⟩
      case measure => simp [intOf]; omega
    · obtain rfl : k = s.size := by omega
      have HF := Lib.hid (ST.out (by rw [List.drop_eq_nil_of_le (by simp)]; rfl) (Nat.le_refl _))
      go_wp2_with fail
      go_ret2
      exact HF.out

set_option maxRecDepth 100000 in
theorem right_any (k n : Nat) (w : World) (h5 : 5 ≤ k) (h11 : k ≤ 11) : Calls Try.prog 161 #[.int .i64 k, .int .i64 n] w fun e w' => e = .returned (.bool (right k n)) ∧ w = w' := by
  have e1 : ((n : Int) == 1) = (n == 1) := by rw [Bool.eq_iff_iff]; simp; omega
  have e2 : ((n : Int) == 2) = (n == 2) := by rw [Bool.eq_iff_iff]; simp; omega
  have e3 : ((n : Int) == 3) = (n == 3) := by rw [Bool.eq_iff_iff]; simp; omega
  have e4 : decide ((1 : Int) ≤ (n : Int)) = decide (1 ≤ n) := by rw [Bool.eq_iff_iff]; simp; omega
  have E1 := Lib.hid e1
  have E2 := Lib.hid e2
  have E3 := Lib.hid e3
  have E4 := Lib.hid e4
  clear e1 e2 e3 e4
  have e : k = 5 ∨ k = 6 ∨ k = 7 ∨ k = 8 ∨ k = 9 ∨ k = 10 ∨ k = 11 := by omega
  rcases e with rfl | rfl | rfl | rfl | rfl | rfl | rfl
  · go_enter Try.func161, Try.ntmps161
    go_wp2_with fail
    go_ret
    exact ⟨by show Ending.returned (.bool ((n : Int) == 1)) = .returned (.bool (n == 1)); rw [E1.out], rfl⟩
  · go_enter Try.func161, Try.ntmps161
    go_wp2_with fail
    go_ret
    exact ⟨by show Ending.returned (.bool ((n : Int) == 2)) = .returned (.bool (n == 2)); rw [E2.out], rfl⟩
  · go_enter Try.func161, Try.ntmps161
    go_wp2_with fail
    go_ret
    exact ⟨by show Ending.returned (.bool (decide ((1 : Int) ≤ (n : Int)))) = .returned (.bool (decide (1 ≤ n))); rw [E4.out], rfl⟩
  · go_enter Try.func161, Try.ntmps161
    go_wp2_with fail
    go_ret
    exact ⟨by show Ending.returned (.bool ((n : Int) == 2)) = .returned (.bool (n == 2)); rw [E2.out], rfl⟩
  · go_enter Try.func161, Try.ntmps161
    go_wp2_with fail
    go_ret
    exact ⟨by show Ending.returned (.bool ((n : Int) == 2)) = .returned (.bool (n == 2)); rw [E2.out], rfl⟩
  · go_enter Try.func161, Try.ntmps161
    go_wp2_with fail
    go_ret
    exact ⟨by show Ending.returned (.bool ((n : Int) == 3)) = .returned (.bool (n == 3)); rw [E3.out], rfl⟩
  · go_enter Try.func161, Try.ntmps161
    go_wp2_with fail
    go_ret
    exact ⟨rfl, rfl⟩
end Go.Proofs.Ytbjnejnjlidiaaa.trA
namespace Go.Proofs.Ytbjnejnjlidiaaa.trB
open Go.RowKit kit numA numB numC numD numE numF numG tmA trA
set_option linter.unusedVariables false
set_option linter.unusedSimpArgs false

theorem res2 {fn : Func} {P : Program} {p u : Tmp} {ty : TypeId} (h : fn.results = #[.cell p ty, .tmp u]) (tmps : Array Value) (w : World) (g : Nat) (t : TypeId) (cs : Array Value) (fr : Nat × Nat) (d : TypeDesc)
    (hp : tmps.getD p undef = .pointer (some ⟨g, 0, none⟩)) (hg : w.heap[g]? = some (.cells cs t fr))
    (hu : P.underlying ty = some d) (hd : (match d with | .struct _ | .array _ _ => true | _ => false) = true) (hi : (P.info? ty).map (·.size) = some cs.size) :
    (results fn tmps).run P w = .ok (.tuple #[.agg cs, tmps.getD u undef]) w := by
  have hp' : tmps[p]?.getD undef = .pointer (some ⟨g, 0, none⟩) := by simpa using hp
  rw [results_cell_tmp h]
  simp [hp', asAddr, run_loadVar_row w g t ty cs fr d hg hu hd hi, Result.andThen]

abbrev tt : Nat → Prop := fun _ => True
def sv (p : Txt) : Value := .string ⟨p.toArray⟩
abbrev nov : Value := .agg #[.int .i64 0, .int .u64 0, .slice none 0 0, .slice none 0 0]

/-- The value v is the node d. -/
def NdV (S : Nat → Prop) (w : World) (v : Value) (d : Nd) : Prop := ∃ a n c a' n' c', v = .agg #[.int .i64 d.k, .int .u64 d.n, .slice a n c, .slice a' n' c'] ∧ Sl w S (.slice a n c) (U8 d.b) ∧ Sl w S (.slice a' n' c') (d.ps.map sv)

theorem sl_nil (w : World) (S : Nat → Prop) : Sl w S (.slice none 0 0) [] := ⟨Nat.zero_le _, none, 0, rfl, .inl rfl⟩

theorem NdV.mono {S T : Nat → Prop} {w : World} {v : Value} {d : Nd} (h : NdV S w v d) (hT : ∀ k, S k → T k) : NdV T w v d := by
  obtain ⟨a, n, c, a', n', c', e, h1, h2⟩ := h
  exact ⟨a, n, c, a', n', c', e, h1.mono hT, h2.mono hT⟩

theorem NdV.keepS {S T : Nat → Prop} {w w' : World} {v : Value} {d : Nd} (h : NdV S w v d) (o : Only T w w') (hT : ∀ k, S k → ¬ T k) : NdV S w' v d := by
  obtain ⟨a, n, c, a', n', c', e, h1, h2⟩ := h
  exact ⟨a, n, c, a', n', c', e, h1.keep o hT, h2.keep o hT⟩

theorem NdV.keep {S : Nat → Prop} {w w' : World} {v : Value} {d : Nd} (h : NdV S w v d) (o : Only (fun _ => False) w w') : NdV S w' v d := by
  obtain ⟨a, n, c, a', n', c', e, h1, h2⟩ := h
  exact ⟨a, n, c, a', n', c', e, h1.keep o fun _ _ h => h, h2.keep o fun _ _ h => h⟩

def Tmd (w : World) (s : ByteArray) (r : Option (Nd × Txt)) (e : Ending) (w' : World) : Prop :=
  Only (fun _ => False) w w' ∧ match r with
    | none => e = .returned (.tuple #[nov, .int .i64 (-1)])
    | some (d, rest) => ∃ v, NdV (fun k => w.heap.size ≤ k) w' v d ∧ e = .returned (.tuple #[v, .int .i64 (behind s rest : Nat)])

def Box4 (w : World) (B : Nat) (a b c d : Value) : Prop := w.heap[B]? = some (.cells #[a, b, c, d] 27 (0, 0))
theorem Box4.cells {w : World} {B : Nat} {a b c d : Value} (h : Box4 w B a b c d) : w.cell? ⟨B, 0, none⟩ = some a ∧ w.cell? ⟨B, 1, none⟩ = some b ∧ w.cell? ⟨B, 2, none⟩ = some c ∧ w.cell? ⟨B, 3, none⟩ = some d := ⟨cell_of h, cell_of h, cell_of h, cell_of h⟩
theorem Box4.free {w : World} {B : Nat} {a b c d : Value} (h : Box4 w B a b c d) : w.frozen? ⟨B, 0, none⟩ = false ∧ w.frozen? ⟨B, 1, none⟩ = false ∧ w.frozen? ⟨B, 2, none⟩ = false ∧ w.frozen? ⟨B, 3, none⟩ = false := ⟨free_of h, free_of h, free_of h, free_of h⟩
theorem Box4.keep {w w' : World} {B : Nat} {a b c d : Value} (h : Box4 w B a b c d) (o : Only (fun _ => False) w w') : Box4 w' B a b c d := o.keep h id
theorem Box4.new (w : World) (a b c d : Value) : Box4 (w.alloc (.cells #[a, b, c, d] 27)) w.heap.size a b c d := heap_alloc_new w _

abbrev set4 (w : World) (B : Nat) (a b c d : Value) : World := (((w.setCell ⟨B, 0, none⟩ a).setCell ⟨B, 1, none⟩ b).setCell ⟨B, 2, none⟩ c).setCell ⟨B, 3, none⟩ d
theorem Box4.put {w : World} {B : Nat} {a b c d : Value} (h : Box4 w B a b c d) (a' b' c' d' : Value) : Box4 (set4 w B a' b' c' d') B a' b' c' d' := heap_set (heap_set (heap_set (heap_set h)))
theorem only_set4 {S : Nat → Prop} {a w : World} (h : Only S a w) {B : Nat} (hb : a.heap.size ≤ B) (x y z v : Value) : Only S a (set4 w B x y z v) := only_setNew (only_setNew (only_setNew (only_setNew h hb) hb) hb) hb
theorem on_set4 (w : World) (B : Nat) (x y z v : Value) : Only (fun k => k = B) w (set4 w B x y z v) := ((((Only.refl (fun k => k = B) w).set rfl).set rfl).set rfl).set rfl

theorem nd_set4 {T : Nat → Prop} {w : World} {B : Nat} {x y z u : Value} {v : Value} {d : Nd} (hT : ∀ k, B < k → T k) (a n c a' n' c') (e : v = .agg #[.int .i64 d.k, .int .u64 d.n, .slice a n c, .slice a' n' c']) (h1 : Sl w (fun k => B < k) (.slice a n c) (U8 d.b)) (h2 : Sl w (fun k => B < k) (.slice a' n' c') (d.ps.map sv)) : NdV T (set4 w B x y z u) v d :=
  ⟨a, n, c, a', n', c', e, (h1.keep (on_set4 w B x y z u) fun k h q => by omega).mono hT, (h2.keep (on_set4 w B x y z u) fun k h q => by omega).mono hT⟩

theorem leaf_zero (s : ByteArray) (i : Nat) (w : World) : Calls Try.prog 158 #[.string s, .int .i64 i, .int .i64 1] w fun e w' => Only (fun _ => False) w w' ∧ e = .returned (.tuple #[.agg #[.int .i64 1, .int .u64 0, .slice none 0 0, .slice none 0 0], .int .i64 i]) := by
  have BN := Lib.hid (Box4.new w (.int .i64 1) (.int .u64 0) (.slice none 0 0) (.slice none 0 0))
  have ON := Lib.hid ((Only.refl (fun _ => False) w).alloc (.cells #[.int .i64 1, .int .u64 0, .slice none 0 0, .slice none 0 0] 27))
  go_enter Try.func158, Try.ntmps158
  go_wp2_with fail
  exact bodyPost_ret (res2 (p := 6) (u := 7) (ty := 27) Try.results158 _ _ w.heap.size 27 _ (0, 0) _ rfl BN.out Try.underlying27 rfl (by kernel_rfl)) rfl ⟨ON.out, rfl⟩

theorem rd_cases (l : Txt) : (isNum l = true ∧ val l ≤ most ∧ rd l = .tuple #[.int .u64 (val l : Nat), .int .i64 0]) ∨ (¬ (isNum l = true ∧ val l ≤ most) ∧ ∃ c : Int, (c == 0) = false ∧ rd l = .tuple #[.int .u64 0, .int .i64 c]) := by
  unfold rd
  by_cases h1 : isNum l = true
  · by_cases h2 : val l ≤ most
    · exact .inl ⟨h1, h2, by rw [if_pos h1, if_pos h2]⟩
    · exact .inr ⟨fun q => h2 q.2, 5, rfl, by rw [if_pos h1, if_neg h2]⟩
  · exact .inr ⟨fun q => h1 q.1, 3, rfl, by rw [if_neg h1]⟩

set_option maxRecDepth 100000 in
theorem leaf_atom (s : ByteArray) (i : Nat) (w : World) (h0 : i ≤ s.size) (hm : s.size ≤ 100000000) : Calls Try.prog 158 #[.string s, .int .i64 i, .int .i64 2] w (Tmd w s (leafR 2 (s.data.toList.drop i))) := by
  have o1 := (Only.refl (fun _ => False) w).alloc (.cells #[.int .i64 0, .int .u64 0, .slice none 0 0, .slice none 0 0] 27)
  have HB := Lib.hid (Box4.new w (.int .i64 0) (.int .u64 0) (.slice none 0 0) (.slice none 0 0))
  have WA := Lib.hid (word_any s i (w.alloc (.cells #[.int .i64 0, .int .u64 0, .slice none 0 0, .slice none 0 0] 27)) h0 (by omega))
  have O1 := Lib.hid o1
  have HM := Lib.hid hm
  clear o1 h0 hm
  go_enter Try.func158, Try.ntmps158
  go_wp2_with fail
  generalize w.alloc (.cells #[.int .i64 0, .int .u64 0, .slice none 0 0, .slice none 0 0] 27) = W1 at HB WA O1 ⊢
  obtain ⟨B, hB⟩ : ∃ B, B = w.heap.size := ⟨_, rfl⟩
  have HBB := Lib.hid hB
  rw [← hB] at HB ⊢
  clear hB
  (with_reducible refine WA.out.mono ?_)
  rintro e w1 ⟨t, rfl, ht, hts, hw⟩
  obtain rfl : W1 = w1 := hw
  have RD := Lib.hid (read_ref t W1 (by have := HM.out; omega))
  have HT := Lib.hid ht
  clear ht hts WA
  go_wp2_with fail
  (with_reducible refine RD.out.mono ?_)
  rintro e w2 ⟨he, o⟩
  have O2 := Lib.hid o
  have HB2 := Lib.hid (HB.out.keep o)
  obtain ⟨f0, f1, f2, f3⟩ := HB2.out.free
  obtain ⟨c0, c1, c2, c3⟩ := HB2.out.cells
  have hc := rd_cases t.data.toList
  rw [HT.out] at hc he
  rcases hc with ⟨h1, h2, h3⟩ | ⟨h1, c, hc, h3⟩
  · rw [h3] at he
    subst he
    obtain ⟨v, hv⟩ : ∃ v, v = val (wordOf (s.data.toList.drop i)) := ⟨_, rfl⟩
    rw [← hv] at h2 h3 ⊢
    have HV := Lib.hid (And.intro h1 (And.intro hv h2))
    by_cases hq : 4294967295 < v
    · have hq1 : ((4294967295 : Int) < (v : Int)) = True := eq_true (by omega)
      have BN := Lib.hid (HB2.out.put (.int .i64 0) (.int .u64 0) (.slice none 0 0) (.slice none 0 0))
      have ON := Lib.hid (only_set4 (O1.out.trans O2.out) (B := B) (by rw [HBB.out]; omega) (.int .i64 0) (.int .u64 0) (.slice none 0 0) (.slice none 0 0))
      have HF := Lib.hid (show leafR 2 (s.data.toList.drop i) = none from by
        rw [leafR, if_neg (by decide), if_neg]
        rw [← HV.out.2.1]
        simp [hq])
      clear O2 h1 hv h2 h3
      go_wp2_with fail
      exact bodyPost_ret (res2 (p := 6) (u := 7) (ty := 27) Try.results158 _ _ B 27 _ (0, 0) _ rfl BN.out Try.underlying27 rfl (by kernel_rfl)) rfl (by rw [HF.out]; exact ⟨ON.out, rfl⟩)
    have hq1 : ((4294967295 : Int) < (v : Int)) = False := eq_false (by omega)
    have hq2 : v ≤ 4294967295 := by omega
    have BN := Lib.hid (HB2.out.put (.int .i64 2) (.int .u64 v) (.slice none 0 0) (.slice none 0 0))
    have ON := Lib.hid (only_set4 (O1.out.trans O2.out) (B := B) (by rw [HBB.out]; omega) (.int .i64 2) (.int .u64 v) (.slice none 0 0) (.slice none 0 0))
    have HF := Lib.hid (show leafR 2 (s.data.toList.drop i) = some (⟨2, v, [], []⟩, restOf (s.data.toList.drop i)) from by
      have e1 := HV.out.2.1
      rw [leafR, if_neg (by decide), HV.out.1, ← e1, if_pos (by have := HV.out.2.2; simp [this, hq2])])
    clear O2 h1 hv h2 h3
    go_wp2_with fail
    exact bodyPost_ret (res2 (p := 6) (u := 7) (ty := 27) Try.results158 _ _ B 27 _ (0, 0) _ rfl BN.out Try.underlying27 rfl (by kernel_rfl)) rfl (by rw [HF.out]; exact ⟨ON.out, _, ⟨none, 0, 0, none, 0, 0, rfl, sl_nil _ _, sl_nil _ _⟩, rfl⟩)
  · rw [h3] at he
    subst he
    have BN := Lib.hid (HB2.out.put (.int .i64 0) (.int .u64 0) (.slice none 0 0) (.slice none 0 0))
    have ON := Lib.hid (only_set4 (O1.out.trans O2.out) (B := B) (by rw [HBB.out]; omega) (.int .i64 0) (.int .u64 0) (.slice none 0 0) (.slice none 0 0))
    have HF := Lib.hid (show leafR 2 (s.data.toList.drop i) = none from by
      rw [leafR, if_neg (by decide), if_neg]
      intro q
      simp only [Bool.and_eq_true, decide_eq_true_eq] at q
      exact h1 q.1)
    have hc2 : (c != 0) = true := by rw [bne, hc]; rfl
    clear O2 h1 h3
    go_wp2_with fail
    exact bodyPost_ret (res2 (p := 6) (u := 7) (ty := 27) Try.results158 _ _ B 27 _ (0, 0) _ rfl BN.out Try.underlying27 rfl (by kernel_rfl)) rfl (by rw [HF.out]; exact ⟨ON.out, rfl⟩)

set_option maxRecDepth 100000 in
theorem leaf_num (s : ByteArray) (i : Nat) (w : World) (h0 : i ≤ s.size) (hm : s.size ≤ 100000000) : Calls Try.prog 158 #[.string s, .int .i64 i, .int .i64 3] w (Tmd w s (leafR 3 (s.data.toList.drop i))) := by
  have o1 := (Only.refl (fun _ => False) w).alloc (.cells #[.int .i64 0, .int .u64 0, .slice none 0 0, .slice none 0 0] 27)
  have HB := Lib.hid (Box4.new w (.int .i64 0) (.int .u64 0) (.slice none 0 0) (.slice none 0 0))
  have WA := Lib.hid (word_any s i (w.alloc (.cells #[.int .i64 0, .int .u64 0, .slice none 0 0, .slice none 0 0] 27)) h0 (by omega))
  have O1 := Lib.hid o1
  have HM := Lib.hid hm
  clear o1 h0 hm
  go_enter Try.func158, Try.ntmps158
  go_wp2_with fail
  generalize w.alloc (.cells #[.int .i64 0, .int .u64 0, .slice none 0 0, .slice none 0 0] 27) = W1 at HB WA O1 ⊢
  obtain ⟨B, hB⟩ : ∃ B, B = w.heap.size := ⟨_, rfl⟩
  have HBB := Lib.hid hB
  rw [← hB] at HB ⊢
  clear hB
  (with_reducible refine WA.out.mono ?_)
  rintro e w1 ⟨t, rfl, ht, hts, hw⟩
  obtain rfl : W1 = w1 := hw
  have RD := Lib.hid (read_ref t W1 (by have := HM.out; omega))
  have HT := Lib.hid ht
  clear ht hts WA
  go_wp2_with fail
  (with_reducible refine RD.out.mono ?_)
  rintro e w2 ⟨he, o⟩
  have O2 := Lib.hid o
  have HB2 := Lib.hid (HB.out.keep o)
  obtain ⟨f0, f1, f2, f3⟩ := HB2.out.free
  obtain ⟨c0, c1, c2, c3⟩ := HB2.out.cells
  have hc := rd_cases t.data.toList
  rw [HT.out] at hc he
  rcases hc with ⟨h1, h2, h3⟩ | ⟨h1, c, hc, h3⟩
  · rw [h3] at he
    subst he
    obtain ⟨v, hv⟩ : ∃ v, v = val (wordOf (s.data.toList.drop i)) := ⟨_, rfl⟩
    rw [← hv] at h2 h3 ⊢
    have HV := Lib.hid (And.intro h1 (And.intro hv h2))

    have BN := Lib.hid (HB2.out.put (.int .i64 3) (.int .u64 v) (.slice none 0 0) (.slice none 0 0))
    have ON := Lib.hid (only_set4 (O1.out.trans O2.out) (B := B) (by rw [HBB.out]; omega) (.int .i64 3) (.int .u64 v) (.slice none 0 0) (.slice none 0 0))
    have HF := Lib.hid (show leafR 3 (s.data.toList.drop i) = some (⟨3, v, [], []⟩, restOf (s.data.toList.drop i)) from by
      have e1 := HV.out.2.1
      rw [leafR, if_neg (by decide), HV.out.1, ← e1, if_pos (by have := HV.out.2.2; simp [this])])
    clear O2 h1 hv h2 h3
    go_wp2_with fail
    exact bodyPost_ret (res2 (p := 6) (u := 7) (ty := 27) Try.results158 _ _ B 27 _ (0, 0) _ rfl BN.out Try.underlying27 rfl (by kernel_rfl)) rfl (by rw [HF.out]; exact ⟨ON.out, _, ⟨none, 0, 0, none, 0, 0, rfl, sl_nil _ _, sl_nil _ _⟩, rfl⟩)
  · rw [h3] at he
    subst he
    have BN := Lib.hid (HB2.out.put (.int .i64 0) (.int .u64 0) (.slice none 0 0) (.slice none 0 0))
    have ON := Lib.hid (only_set4 (O1.out.trans O2.out) (B := B) (by rw [HBB.out]; omega) (.int .i64 0) (.int .u64 0) (.slice none 0 0) (.slice none 0 0))
    have HF := Lib.hid (show leafR 3 (s.data.toList.drop i) = none from by
      rw [leafR, if_neg (by decide), if_neg]
      intro q
      simp only [Bool.and_eq_true, decide_eq_true_eq] at q
      exact h1 q.1)
    have hc2 : (c != 0) = true := by rw [bne, hc]; rfl
    clear O2 h1 h3
    go_wp2_with fail
    exact bodyPost_ret (res2 (p := 6) (u := 7) (ty := 27) Try.results158 _ _ B 27 _ (0, 0) _ rfl BN.out Try.underlying27 rfl (by kernel_rfl)) rfl (by rw [HF.out]; exact ⟨ON.out, rfl⟩)

set_option maxRecDepth 100000 in
theorem leaf_data (s : ByteArray) (i : Nat) (w : World) (h0 : i ≤ s.size) (hm : s.size ≤ 100000000) : Calls Try.prog 158 #[.string s, .int .i64 i, .int .i64 4] w (Tmd w s (leafR 4 (s.data.toList.drop i))) := by
  have o1 := (Only.refl (fun _ => False) w).alloc (.cells #[.int .i64 0, .int .u64 0, .slice none 0 0, .slice none 0 0] 27)
  have HB := Lib.hid (Box4.new w (.int .i64 0) (.int .u64 0) (.slice none 0 0) (.slice none 0 0))
  have WA := Lib.hid (word_any s i (w.alloc (.cells #[.int .i64 0, .int .u64 0, .slice none 0 0, .slice none 0 0] 27)) h0 (by omega))
  have O1 := Lib.hid o1
  have HM := Lib.hid hm
  clear o1 h0 hm
  go_enter Try.func158, Try.ntmps158
  go_wp2_with fail
  generalize w.alloc (.cells #[.int .i64 0, .int .u64 0, .slice none 0 0, .slice none 0 0] 27) = W1 at HB WA O1 ⊢
  obtain ⟨B, hB⟩ : ∃ B, B = w.heap.size := ⟨_, rfl⟩
  have HBB := Lib.hid hB
  rw [← hB] at HB ⊢
  clear hB
  (with_reducible refine WA.out.mono ?_)
  rintro e w1 ⟨t, rfl, ht, hts, hw⟩
  obtain rfl : W1 = w1 := hw
  have RD := Lib.hid (readHex_ref t W1 (by have := HM.out; omega))
  have HT := Lib.hid ht
  clear ht hts WA
  go_wp2_with fail
  (with_reducible refine RD.out.mono ?_)
  rintro e w2 ⟨o, hr⟩
  have O2 := Lib.hid o
  have HB2 := Lib.hid (HB.out.keep o)
  have HBL := Lib.hid (show B < W1.heap.size from lt_of HB.out)
  obtain ⟨f0, f1, f2, f3⟩ := HB2.out.free
  obtain ⟨c0, c1, c2, c3⟩ := HB2.out.cells
  rw [HT.out] at hr
  rcases hr with ⟨h1, h2, v, rfl, hl⟩ | hr
  · have hsl := Sl.of_lst hl
    obtain ⟨hx, a, c, rfl, hy⟩ := id hsl
    obtain ⟨n, hn⟩ : ∃ n, n = (U8 (unhex (wordOf (s.data.toList.drop i)))).length := ⟨_, rfl⟩
    rw [← hn] at hsl ⊢
    have HS := Lib.hid (hsl.mono (T := fun k => B < k) fun k hk => by have := HBL.out; omega)
    have HF := Lib.hid (show leafR 4 (s.data.toList.drop i) = some (⟨4, 0, unhex (wordOf (s.data.toList.drop i)), []⟩, restOf (s.data.toList.drop i)) from by
      rw [leafR, if_pos rfl, if_pos (by simp [h1, h2])])
    have BN := Lib.hid (HB2.out.put (.int .i64 4) (.int .u64 0) (.slice a n c) (.slice none 0 0))
    have ON := Lib.hid (only_set4 (O1.out.trans O2.out) (B := B) (by rw [HBB.out]; omega) (.int .i64 4) (.int .u64 0) (.slice a n c) (.slice none 0 0))
    clear O2 h1 h2 hsl hx hy hl hn
    go_wp2_with fail
    exact bodyPost_ret (res2 (p := 6) (u := 7) (ty := 27) Try.results158 _ _ B 27 _ (0, 0) _ rfl BN.out Try.underlying27 rfl (by kernel_rfl)) rfl (by rw [HF.out]; exact ⟨ON.out, _, nd_set4 (fun k hk => by have := HBB.out; omega) _ _ _ _ _ _ rfl HS.out (sl_nil _ _), rfl⟩)
  · have HF := Lib.hid (show leafR 4 (s.data.toList.drop i) = none from by
      rw [leafR, if_pos rfl, if_neg]
      intro q
      simp at q
      rcases hr with ⟨_, h2, _⟩ | ⟨h1, _⟩
      · omega
      · rw [List.all_eq_false] at h1
        obtain ⟨x, hx, hx2⟩ := h1
        exact hx2 (q.1 x hx))
    have hr2 : ∃ c : Int, (c == 0) = false ∧ e = .returned (.tuple #[.slice none 0 0, .int .i64 c]) := by
      rcases hr with ⟨_, _, rfl⟩ | ⟨_, rfl⟩
      · exact ⟨4, rfl, rfl⟩
      · exact ⟨3, rfl, rfl⟩
    obtain ⟨c, hc, rfl⟩ := hr2
    have hc2 : (c != 0) = true := by rw [bne, hc]; rfl
    have BN := Lib.hid (HB2.out.put (.int .i64 0) (.int .u64 0) (.slice none 0 0) (.slice none 0 0))
    have ON := Lib.hid (only_set4 (O1.out.trans O2.out) (B := B) (by rw [HBB.out]; omega) (.int .i64 0) (.int .u64 0) (.slice none 0 0) (.slice none 0 0))
    clear O2 hr
    go_wp2_with fail
    exact bodyPost_ret (res2 (p := 6) (u := 7) (ty := 27) Try.results158 _ _ B 27 _ (0, 0) _ rfl BN.out Try.underlying27 rfl (by kernel_rfl)) rfl (by rw [HF.out]; exact ⟨ON.out, rfl⟩)
end Go.Proofs.Ytbjnejnjlidiaaa.trB
namespace Go.Proofs.Ytbjnejnjlidiaaa.trC
open Go.RowKit kit numA numB numC numD numE numF numG tmA tmB trA trB
set_option linter.unusedVariables false
set_option linter.unusedSimpArgs false

theorem info9 : (Try.prog.info? 9).map (fun i => (i.zero, i.size, i.bytes)) = some (some (.string ⟨#[]⟩), 1, 16) := by kernel_rfl

theorem info_parts {P : Program} {t : TypeId} {z : Value} {a b : Nat} (h : (P.info? t).map (fun i => (i.zero, i.size, i.bytes)) = some (some z, a, b)) : ∃ i, P.info? t = some i ∧ i.zero = some z ∧ i.size = a ∧ i.bytes = b := by
  cases e : P.info? t with
  | none => rw [e] at h; cases h
  | some i =>
    rw [e] at h
    simp only [Option.map_some, Option.some.injEq, Prod.mk.injEq] at h
    exact ⟨i, rfl, h⟩

theorem owns_set {w : World} {base : Nat} {e : TypeId} {size : Nat} {v : Value} {n : Nat} {xs : List Value} (h : w.ownsRow base e size v n xs) {B o : Nat} {u : Value} (hB : B < base) : (w.setCell ⟨B, o, none⟩ u).ownsRow base e size v n xs := by
  refine ⟨h.1, ?_⟩
  rcases h.2 with h0 | ⟨g, cap, cur, hv, hb, hg, r⟩
  · exact .inl h0
  · exact .inr ⟨g, cap, cur, hv, hb, (heap_other (by omega)).trans hg, r⟩

theorem owns_keep {w w' : World} {base : Nat} {e : TypeId} {size : Nat} {v : Value} {n : Nat} {xs : List Value} (h : w.ownsRow base e size v n xs) (o : Only (fun _ => False) w w') : w'.ownsRow base e size v n xs := by
  refine ⟨h.1, ?_⟩
  rcases h.2 with h0 | ⟨g, cap, cur, hv, hb, hg, r⟩
  · exact .inl h0
  · exact .inr ⟨g, cap, cur, hv, hb, o.keep hg id, r⟩

theorem owns_keepS {S : Nat → Prop} {w w' : World} {base : Nat} {e : TypeId} {size : Nat} {v : Value} {n : Nat} {xs : List Value} (h : w.ownsRow base e size v n xs) (o : Only S w w') (hS : ∀ k, S k → k < base) : w'.ownsRow base e size v n xs := by
  refine ⟨h.1, ?_⟩
  rcases h.2 with h0 | ⟨g, cap, cur, hv, hb, hg, r⟩
  · exact .inl h0
  · exact .inr ⟨g, cap, cur, hv, hb, o.keep hg fun q => by have := hS g q; omega, r⟩

/-- How a kind's number, if it has one, comes out. -/
theorem head_cases (k : Nat) (l : Txt) (hk : numbered k = true) :
    headR k l = if (isNum (wordOf l) = true ∧ val (wordOf l) ≤ most) ∧ (k = 8 → 1 ≤ val (wordOf l) ∧ val (wordOf l) ≤ 3) ∧ (restOf l).head? = some 44 then some (val (wordOf l), (restOf l).tail) else none := by
  rw [headR, if_pos hk]
  by_cases h1 : isNum (wordOf l) = true ∧ val (wordOf l) ≤ most
  · by_cases h2 : k = 8 → 1 ≤ val (wordOf l) ∧ val (wordOf l) ≤ 3
    · have hc : (isNum (wordOf l) && decide (val (wordOf l) ≤ most) && !(k == 8 && (decide (val (wordOf l) < 1) || decide (3 < val (wordOf l))))) = true := by
        by_cases h8 : k = 8
        · have := h2 h8
          simp [h1.1, h1.2, h8]
          omega
        · simp [h1.1, h1.2, h8]
      rw [if_pos hc]
      cases hr : restOf l with
      | nil => simp
      | cons c r =>
        by_cases hc44 : c = 44
        · simp [hc44, h1, h2]
          exact h2
        · simp [hc44]
    · have hc : ¬ (isNum (wordOf l) && decide (val (wordOf l) ≤ most) && !(k == 8 && (decide (val (wordOf l) < 1) || decide (3 < val (wordOf l))))) = true := by
        intro q
        apply h2
        intro h8
        simp [h1.1, h1.2, h8] at q
        omega
      rw [if_neg hc, if_neg (fun q => h2 q.2.1)]
  · have hc : ¬ (isNum (wordOf l) && decide (val (wordOf l) ≤ most) && !(k == 8 && (decide (val (wordOf l) < 1) || decide (3 < val (wordOf l))))) = true := by
      intro q
      simp only [Bool.and_eq_true, decide_eq_true_eq] at q
      exact h1 q.1
    rw [if_neg hc, if_neg (fun q => h1 q.1)]
end Go.Proofs.Ytbjnejnjlidiaaa.trC
namespace Go.Proofs.Ytbjnejnjlidiaaa.trD
open Go.RowKit kit numA numB numC numD numE numF numG tmA tmB trA trB trC
set_option linter.unusedVariables false
set_option linter.unusedSimpArgs false

/-- The byte at a place, as a byte. -/
def cb (s : ByteArray) (i : Nat) : UInt8 := s.data.toList.getD i 0

theorem cb_in (s : ByteArray) (i : Nat) (h : i < s.size) : s.data.toList.drop i = cb s i :: s.data.toList.drop (i + 1) := by
  have h' : i < s.data.toList.length := by simpa using h
  rw [List.drop_eq_getElem_cons h', cb, List.getD_eq_getElem?_getD, List.getElem?_eq_getElem h']
  rfl

theorem cb_out (s : ByteArray) (i : Nat) (h : s.size ≤ i) : cb s i = 0 ∧ s.data.toList.drop i = [] := by
  have h' : s.data.toList.length ≤ i := by simpa using h
  exact ⟨by rw [cb, List.getD_eq_getElem?_getD, List.getElem?_eq_none h']; rfl, List.drop_eq_nil_of_le h'⟩

theorem at_cb (s : ByteArray) (i : Nat) (w : World) (hm : s.size ≤ 1000000000) (hi : i ≤ 1000000001) : Calls Try.prog 157 #[.string s, .int .i64 i] w fun e w' => e = .returned (.int .u8 ((cb s i).toNat : Int)) ∧ w = w' := at_any s i w hm hi

def IH (s : ByteArray) (N : Nat) : Prop := ∀ (i f : Nat) (w : World), i ≤ s.size → s.size - i ≤ N → 2 * (s.size - i) ≤ f → Calls Try.prog 104 #[.string s, .int .i64 i] w (Tmd w s (tmR f (s.data.toList.drop i)))

/-- How the walk begins: the result's block. -/
theorem resbox (s : ByteArray) (i : Nat) (w : World) : Box4 (w.alloc (.cells #[.int .i64 0, .int .u64 0, .slice none 0 0, .slice none 0 0] 27)) w.heap.size (.int .i64 0) (.int .u64 0) (.slice none 0 0) (.slice none 0 0) ∧ Only (fun _ => False) w (w.alloc (.cells #[.int .i64 0, .int .u64 0, .slice none 0 0, .slice none 0 0] 27)) := ⟨Box4.new w _ _ _ _, (Only.refl _ w).alloc _⟩

set_option maxRecDepth 100000 in
set_option maxHeartbeats 800000 in
theorem term_none (s : ByteArray) (i f : Nat) (w : World) (hm : s.size ≤ 100000000) (h0 : i ≤ s.size) (hf : 2 * (s.size - i) ≤ f) (hk : kindOf (cb s i) = 0) : Calls Try.prog 104 #[.string s, .int .i64 i] w (Tmd w s (tmR f (s.data.toList.drop i))) := by
  have HR := Lib.hid (show tmR f (s.data.toList.drop i) = none from by
    by_cases h : i < s.size
    · obtain ⟨f, rfl⟩ : ∃ g, f = g + 1 := ⟨f - 1, by omega⟩
      rw [cb_in s i h, tmR_cons, if_pos hk]
    · rw [(cb_out s i (by omega)).2, tmR_nil])
  have BN := Lib.hid (resbox s i w)
  have AT := Lib.hid (at_cb s i (w.alloc (.cells #[.int .i64 0, .int .u64 0, .slice none 0 0, .slice none 0 0] 27)) (by omega) (by omega))
  have KD := Lib.hid (kind_any (cb s i) (w.alloc (.cells #[.int .i64 0, .int .u64 0, .slice none 0 0, .slice none 0 0] 27)))
  rw [hk] at KD
  clear hk h0 hf hm
  go_enter Try.func104, Try.ntmps104
  go_wp2_with fail
  (with_reducible refine AT.out.mono ?_)
  rintro e w1 ⟨rfl, hw⟩
  obtain rfl := hw
  go_wp2_with fail
  (with_reducible refine KD.out.mono ?_)
  rintro e w1 ⟨rfl, hw⟩
  obtain rfl := hw
  go_wp2_with fail
  exact bodyPost_ret (res2 (p := 4) (u := 5) (ty := 27) Try.results104 _ _ w.heap.size 27 _ (0, 0) _ rfl BN.out.1 Try.underlying27 rfl (by kernel_rfl)) rfl (by rw [HR.out]; exact ⟨BN.out.2, rfl⟩)

set_option maxRecDepth 100000 in
set_option maxHeartbeats 800000 in
theorem term_leaf (s : ByteArray) (i f k : Nat) (w : World) (hm : s.size ≤ 100000000) (h0 : i ≤ s.size) (hf : 2 * (s.size - i) ≤ f) (hk : kindOf (cb s i) = k) (h1 : 1 ≤ k) (h4 : k ≤ 4) : Calls Try.prog 104 #[.string s, .int .i64 i] w (Tmd w s (tmR f (s.data.toList.drop i))) := by
  have hi : i < s.size := by
    rcases Nat.lt_or_ge i s.size with h | h
    · exact h
    · rw [(cb_out s i h).1, show kindOf 0 = 0 from by decide] at hk
      omega
  have hR : tmR f (s.data.toList.drop i) = if k = 1 then some (⟨1, 0, [], []⟩, s.data.toList.drop (i + 1)) else leafR k (s.data.toList.drop (i + 1)) := by
    obtain ⟨f, rfl⟩ : ∃ g, f = g + 1 := ⟨f - 1, by omega⟩
    rw [cb_in s i hi, tmR_cons, hk, if_neg (by omega), if_pos h4]
  obtain ⟨r, hr⟩ : ∃ r, r = tmR f (s.data.toList.drop i) := ⟨_, rfl⟩
  have LF : ∀ W, Calls Try.prog 158 #[.string s, .int .i64 ((i : Int) + 1), .int .i64 k] W (Tmd W s r) := fun W => by
    have e : k = 1 ∨ k = 2 ∨ k = 3 ∨ k = 4 := by omega
    rw [hr, hR]
    rcases e with rfl | rfl | rfl | rfl
    · refine (leaf_zero s (i + 1) W).mono fun e w' h => ⟨h.1, _, ⟨none, 0, 0, none, 0, 0, rfl, sl_nil _ _, sl_nil _ _⟩, ?_⟩
      rw [h.2]
      show _ = Ending.returned (.tuple #[_, .int .i64 (behind s (s.data.toList.drop (i + 1)) : Nat)])
      rw [behind, List.length_drop, tl_size, show s.size - (s.size - (i + 1)) = i + 1 by omega]
      rfl
    · exact leaf_atom s (i + 1) W (by omega) hm
    · exact leaf_num s (i + 1) W (by omega) hm
    · exact leaf_data s (i + 1) W (by omega) hm
  rw [← hr]
  have BN := Lib.hid (resbox s i w)
  have AT := Lib.hid (at_cb s i (w.alloc (.cells #[.int .i64 0, .int .u64 0, .slice none 0 0, .slice none 0 0] 27)) (by omega) (by omega))
  have KD := Lib.hid (kind_any (cb s i) (w.alloc (.cells #[.int .i64 0, .int .u64 0, .slice none 0 0, .slice none 0 0] 27)))
  rw [hk] at KD
  have LC := Lib.hid LF
  have kn0 : ((k : Int) == 0) = false := by rw [beq_eq_false_iff_ne]; omega
  have kl4 : ((k : Int) ≤ 4) = True := eq_true (by omega)
  have wi : wrap64 ((i : Int) + 1) = (i : Int) + 1 := IntWalk.wrap64_in _ (by omega)
  clear hk h0 hf hm hi hR hr LF h1 h4
  go_enter Try.func104, Try.ntmps104
  go_wp2_with fail
  (with_reducible refine AT.out.mono ?_)
  rintro e w1 ⟨rfl, hw⟩
  obtain rfl := hw
  go_wp2_with fail
  (with_reducible refine KD.out.mono ?_)
  rintro e w1 ⟨rfl, hw⟩
  obtain rfl := hw
  go_wp2_with fail
  generalize w.alloc (.cells #[.int .i64 0, .int .u64 0, .slice none 0 0, .slice none 0 0] 27) = W1 at BN ⊢
  obtain ⟨B, hB⟩ : ∃ B, B = w.heap.size := ⟨_, rfl⟩
  have HBB := Lib.hid hB
  rw [← hB] at BN ⊢
  clear hB wi AT KD
  (with_reducible refine (LC.out _).mono ?_)
  rintro e w2 ⟨o, hr⟩
  have HB2 := Lib.hid (BN.out.1.keep o)
  have O2 := Lib.hid (BN.out.2.trans o)
  have HBL := Lib.hid (show B < W1.heap.size from lt_of BN.out.1)
  obtain ⟨f0, f1, f2, f3⟩ := HB2.out.free
  obtain ⟨c0, c1, c2, c3⟩ := HB2.out.cells
  cases r with
  | none =>
    subst hr
    have BM := Lib.hid (HB2.out.put (.int .i64 0) (.int .u64 0) (.slice none 0 0) (.slice none 0 0))
    have ON := Lib.hid (only_set4 O2.out (B := B) (by rw [HBB.out]; omega) (.int .i64 0) (.int .u64 0) (.slice none 0 0) (.slice none 0 0))
    clear o LC
    go_wp2_with fail
    exact bodyPost_ret (res2 (p := 4) (u := 5) (ty := 27) Try.results104 _ _ B 27 _ (0, 0) _ rfl BM.out Try.underlying27 rfl (by kernel_rfl)) rfl ⟨ON.out, rfl⟩
  | some q =>
    obtain ⟨d, rest⟩ := q
    obtain ⟨v, hv, rfl⟩ := hr
    obtain ⟨a, n, c, a', n', c', rfl, s1, s2⟩ := hv
    have BM := Lib.hid (HB2.out.put (.int .i64 d.k) (.int .u64 d.n) (.slice a n c) (.slice a' n' c'))
    have ON := Lib.hid (only_set4 O2.out (B := B) (by rw [HBB.out]; omega) (.int .i64 d.k) (.int .u64 d.n) (.slice a n c) (.slice a' n' c'))
    have SS := Lib.hid (And.intro (s1.mono (T := fun k => B < k) fun k hk => by have := HBL.out; omega) (s2.mono (T := fun k => B < k) fun k hk => by have := HBL.out; omega))
    clear o LC s1 s2
    go_wp2_with fail
    exact bodyPost_ret (res2 (p := 4) (u := 5) (ty := 27) Try.results104 _ _ B 27 _ (0, 0) _ rfl BM.out Try.underlying27 rfl (by kernel_rfl)) rfl ⟨ON.out, _, nd_set4 (fun k hk => by have := HBB.out; omega) _ _ _ _ _ _ rfl SS.out.1 SS.out.2, rfl⟩
end Go.Proofs.Ytbjnejnjlidiaaa.trD
