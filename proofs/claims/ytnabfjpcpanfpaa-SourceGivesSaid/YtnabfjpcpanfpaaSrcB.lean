/- The document's Atom: it is read where it is made. -/
import Derived.Test.YtnabfjpcpanfpaaSrcA
namespace Go.Proofs.Ytnabfjpcpanfpaa.srcB
open Go.RowKit Go.Proofs.Ytnabfjpcpanfpaa.kit Go.Proofs.Ytnabfjpcpanfpaa.numA Go.Proofs.Ytnabfjpcpanfpaa.numB Go.Proofs.Ytnabfjpcpanfpaa.numC
set_option linter.unusedVariables false
set_option linter.unusedSimpArgs false

set_option maxRecDepth 100000 in
theorem at_byte (s : ByteArray) (k : Nat) (w : World) (h : k < s.size) (hm : s.size ≤ 1000000) : Calls Try.prog 51 #[.string s, .int .i64 k] w fun e w' => e = .returned (.int .u8 ((s[k]'h).toNat : Int)) ∧ w = w' := by
  have k1 : (k : Int) < (s.size : Int) := by omega
  have k2 : ¬ ((s.size : Int) ≤ (k : Int)) := by omega
  go_enter Try.func51, Try.ntmps51
  go_wp2_with fail
  go_ret
  exact ⟨rfl, rfl⟩

set_option maxRecDepth 100000 in
theorem kind_atom (w : World) : Calls Try.prog 50 #[.int .u8 97] w fun e w' => e = .returned (.int .i64 2) ∧ w = w' := by
  go_enter Try.func50, Try.ntmps50
  go_wp2_with fail
  go_loop [3] (fun i => i = .int .i64 0 ∨ i = .int .i64 1) (fun i => 1 - (intOf i).toNat)
  case atStart => exact .inl rfl
  case round =>
    rcases hrel with rfl | rfl
    · go_wp2_with fail
      go_round
      case rel => exact .inr rfl
      case measure => decide
    · go_wp2_with fail
      go_ret
      exact ⟨rfl, rfl⟩

set_option maxRecDepth 100000 in
theorem word_rest (s : ByteArray) (i0 : Nat) (w : World) (h0 : i0 ≤ s.size) (hm : s.size ≤ 1000000) (hall : ∀ k, i0 ≤ k → (hk : k < s.size) → s[k] ≠ 44 ∧ s[k] ≠ 41) :
    Calls Try.prog 53 #[.string s, .int .i64 i0] w fun e w' => e = .returned (.tuple #[.string (s.extract i0 s.size), .int .i64 s.size]) ∧ w = w' := by
  have HA := Lib.hid hall
  have HM := Lib.hid hm
  have a1 : (0 : Int) ≤ (i0 : Int) := by omega
  have a2 : (i0 : Int) ≤ (s.size : Int) := by omega
  clear hall
  go_enter Try.func53, Try.ntmps53
  go_wp2_with fail
  go_loop [1] (fun i => ∃ k : Nat, i0 ≤ k ∧ k ≤ s.size ∧ i = .int .i64 k) (fun i => s.size - (intOf i).toNat)
  case atStart => exact ⟨i0, Nat.le_refl _, h0, rfl⟩
  case round =>
    obtain ⟨k, hk0, hk, rfl⟩ := hrel
    by_cases hlt : k < s.size
    · have k1 : (k : Int) < (s.size : Int) := by omega
      obtain ⟨n1, n2⟩ := HA.out k hk0 hlt
      have b1 : (((s[k]'hlt).toNat : Int) != 44) = true := by
        rw [bne_iff_ne]
        intro e
        exact n1 (UInt8.toNat_inj.1 (by have : (44 : UInt8).toNat = 44 := rfl; omega))
      have b2 : (((s[k]'hlt).toNat : Int) != 41) = true := by
        rw [bne_iff_ne]
        intro e
        exact n2 (UInt8.toNat_inj.1 (by have : (41 : UInt8).toNat = 41 := rfl; omega))
      have hm2 := HM.out
      clear n1 n2
      go_wp2_with fail
      go_round
      case rel => exact ⟨k + 1, by omega, by omega, by go_num⟩
      case measure => simp [intOf]; omega
    · obtain rfl : k = s.size := by omega
      go_wp2_with fail
      go_ret2
      exact ⟨rfl, rfl⟩

theorem dec_dig (n : Nat) (c : UInt8) (h : c ∈ dec n) : c ≠ 44 ∧ c ≠ 41 := by
  have := List.all_eq_true.1 (dec_all n) c h
  simp [dig] at this
  refine ⟨?_, ?_⟩ <;> rintro rfl
  · exact absurd this.1 (by decide)
  · exact absurd this.1 (by decide)

/-- The text of an Atom. -/
structure AtomText (s : ByteArray) (n : Nat) : Prop where
  list : s.data.toList = 97 :: dec n
  le : n ≤ 4294967295

theorem AtomText.size {s : ByteArray} {n : Nat} (h : AtomText s n) : s.size = (dec n).length + 1 := by
  have : s.data.toList.length = s.size := by simp
  rw [← this, h.list]
  rfl

theorem AtomText.small {s : ByteArray} {n : Nat} (h : AtomText s n) : s.size ≤ 21 := by
  have := dec_len 19 n (by have := h.le; omega)
  rw [h.size]; omega

theorem AtomText.get {s : ByteArray} {n : Nat} (h : AtomText s n) (k : Nat) (hk : k < s.size) : s.data.toList[k]'(by simpa using hk) = s[k] := by
  simp [ByteArray.getElem_eq_getElem_data]

theorem AtomText.head {s : ByteArray} {n : Nat} (h : AtomText s n) (hk : 0 < s.size) : s[0] = 97 := by
  rw [← h.get 0 hk]
  simp [h.list]

theorem AtomText.rest {s : ByteArray} {n : Nat} (h : AtomText s n) (k : Nat) (h1 : 1 ≤ k) (hk : k < s.size) : s[k] ≠ 44 ∧ s[k] ≠ 41 := by
  have hk2 : k < (97 :: dec n).length := by have := h.size; simp; omega
  have e : s[k] = (97 :: dec n)[k]'hk2 := by
    rw [← h.get k hk]
    simp [h.list]
  obtain ⟨j, rfl⟩ : ∃ j, k = j + 1 := ⟨k - 1, by omega⟩
  rw [e, List.getElem_cons_succ]
  exact dec_dig n _ (List.getElem_mem _)

theorem AtomText.tail {s : ByteArray} {n : Nat} (h : AtomText s n) : (s.extract 1 s.size).data.toList = dec n := by
  have : (s.extract 1 s.size).data.toList = (s.data.toList.take s.size).drop 1 := by
    simp [ByteArray.data_extract, Array.toList_extract, List.extract]
    rw [h.list, h.size]
    simp
  rw [this, h.list, h.size]
  simp

def Node (w : World) (k n : Int) (i : Int) (e : Ending) (w' : World) : Prop := e = .returned (.tuple #[.agg #[.int .i64 k, .int .u64 n, .slice none 0 0, .slice none 0 0], .int .i64 i]) ∧ Only (fun _ => False) w w'

set_option maxRecDepth 100000 in
theorem leaf_atom (s : ByteArray) (n : Nat) (w : World) (h : AtomText s n) : Calls Try.prog 52 #[.string s, .int .i64 1, .int .i64 2] w (Node w 2 n s.size) := by
  have hs := h.small
  have h1 : 1 ≤ s.size := by rw [h.size]; omega
  have W1 := Lib.hid (fun W => word_rest s 1 W h1 (by omega) (fun k a b => h.rest k a b))
  have hval : rd (dec n) = .tuple #[.int .u64 n, .int .i64 0] := by
    rw [rd, if_pos (isNum_dec n), val_dec, if_pos (by have := h.le; unfold most; omega)]
  have R1 := Lib.hid (fun W => read_ref (s.extract 1 s.size) W (by have : (s.extract 1 s.size).size ≤ s.size := by simp
                                                                   omega))
  rw [h.tail, hval] at R1
  have O0 := (Only.refl (fun _ => False) w).alloc (.cells #[.int .i64 0, .int .u64 0, .slice none 0 0, .slice none 0 0] 27)
  have hb := heap_alloc_new w (.cells #[.int .i64 0, .int .u64 0, .slice none 0 0, .slice none 0 0] 27)
  have HB := Lib.hid hb
  have HO := Lib.hid O0
  have k1 : (n : Int) ≤ 4294967295 := by have := h.le; omega
  have k2 : n ≤ 4294967295 := h.le
  generalize s.extract 1 s.size = t at W1 R1
  clear hb O0 hval h
  go_enter Try.func52, Try.ntmps52
  go_wp2_with fail
  refine (W1.out _).mono ?_
  rintro e w1 ⟨rfl, rfl⟩
  go_wp2_with fail
  refine (R1.out _).mono ?_
  rintro e w2 ⟨rfl, o2⟩
  have hb2 := (o2.block w.heap.size (lt_of HB.out) id).trans HB.out
  have z0 : w2.cell? ⟨w.heap.size, 0, none⟩ = some (.int .i64 0) := cell_of hb2
  have z1 : w2.cell? ⟨w.heap.size, 1, none⟩ = some (.int .u64 0) := cell_of hb2
  have z2 : w2.cell? ⟨w.heap.size, 2, none⟩ = some (.slice none 0 0) := cell_of hb2
  have z3 : w2.cell? ⟨w.heap.size, 3, none⟩ = some (.slice none 0 0) := cell_of hb2
  have f0 : w2.frozen? ⟨w.heap.size, 0, none⟩ = false := free_of hb2
  have f1 : w2.frozen? ⟨w.heap.size, 1, none⟩ = false := free_of hb2
  have f2 : w2.frozen? ⟨w.heap.size, 2, none⟩ = false := free_of hb2
  have f3 : w2.frozen? ⟨w.heap.size, 3, none⟩ = false := free_of hb2
  have O2 := Lib.hid (HO.out.trans o2)
  clear o2 hb2
  go_wp2_with fail
  refine bodyPost_ret (v := .tuple #[.agg #[.int .i64 2, .int .u64 n, .slice none 0 0, .slice none 0 0], .int .i64 s.size]) (by simp [results, Try.results52, go_sem, z0, z1, z2, z3]) rfl ⟨rfl, ?_⟩
  exact (by (repeat (first | (with_reducible refine numD.only_setNew ?_ (Nat.le_refl _)) | (with_reducible exact O2.out))))

set_option maxRecDepth 100000 in
theorem term_atom (s : ByteArray) (n : Nat) (w : World) (h : AtomText s n) : Calls Try.prog 37 #[.string s, .int .i64 0] w (Node w 2 n s.size) := by
  have hs := h.small
  have h1 : 0 < s.size := by rw [h.size]; omega
  have A := fun W => at_byte s 0 W h1 (by omega)
  rw [h.head h1] at A
  have e97 : (((97 : UInt8).toNat : Nat) : Int) = 97 := rfl
  rw [e97] at A
  have HA := Lib.hid A
  have HK := Lib.hid kind_atom
  have HL := Lib.hid (fun W => leaf_atom s n W h)
  have O0 := (Only.refl (fun _ => False) w).alloc (.cells #[.int .i64 0, .int .u64 0, .slice none 0 0, .slice none 0 0] 27)
  have hb := heap_alloc_new w (.cells #[.int .i64 0, .int .u64 0, .slice none 0 0, .slice none 0 0] 27)
  have HB := Lib.hid hb
  have HO := Lib.hid O0
  clear hb O0 A h e97
  go_enter Try.func37, Try.ntmps37
  go_wp2_with fail
  refine (HA.out _).mono ?_
  rintro e w1 ⟨rfl, rfl⟩
  go_wp2_with fail
  refine (HK.out _).mono ?_
  rintro e w1 ⟨rfl, rfl⟩
  go_wp2_with fail
  refine (HL.out _).mono ?_
  rintro e w2 ⟨rfl, o2⟩
  have hb2 := (o2.block w.heap.size (lt_of HB.out) id).trans HB.out
  have z0 : w2.cell? ⟨w.heap.size, 0, none⟩ = some (.int .i64 0) := cell_of hb2
  have z1 : w2.cell? ⟨w.heap.size, 1, none⟩ = some (.int .u64 0) := cell_of hb2
  have z2 : w2.cell? ⟨w.heap.size, 2, none⟩ = some (.slice none 0 0) := cell_of hb2
  have z3 : w2.cell? ⟨w.heap.size, 3, none⟩ = some (.slice none 0 0) := cell_of hb2
  have f0 : w2.frozen? ⟨w.heap.size, 0, none⟩ = false := free_of hb2
  have f1 : w2.frozen? ⟨w.heap.size, 1, none⟩ = false := free_of hb2
  have f2 : w2.frozen? ⟨w.heap.size, 2, none⟩ = false := free_of hb2
  have f3 : w2.frozen? ⟨w.heap.size, 3, none⟩ = false := free_of hb2
  have O2 := Lib.hid (HO.out.trans o2)
  clear o2 hb2
  go_wp2_with fail
  refine bodyPost_ret (v := .tuple #[.agg #[.int .i64 2, .int .u64 n, .slice none 0 0, .slice none 0 0], .int .i64 s.size]) (by simp [results, Try.results37, go_sem, z0, z1, z2, z3]) rfl ⟨rfl, ?_⟩
  exact (by (repeat (first | (with_reducible refine numD.only_setNew ?_ (Nat.le_refl _)) | (with_reducible exact O2.out))))

set_option maxRecDepth 100000 in
theorem read_atom (s : ByteArray) (n : Nat) (w : World) (h : AtomText s n) : Calls Try.prog 10 #[.string s] w (numA.Told w (.agg #[.int .i64 2, .int .u64 n, .slice none 0 0, .slice none 0 0])) := by
  have hs := h.small
  have HL := Lib.hid (fun W => term_atom s n W h)
  have O0 := (Only.refl (fun _ => False) w).alloc (.cells #[.int .i64 0, .int .u64 0, .slice none 0 0, .slice none 0 0] 27)
  have hb := heap_alloc_new w (.cells #[.int .i64 0, .int .u64 0, .slice none 0 0, .slice none 0 0] 27)
  have HB := Lib.hid hb
  have HO := Lib.hid O0
  have k1 : ¬ ((65536 : Int) < (s.size : Int)) := by omega
  clear hb O0 h
  go_enter Try.func10, Try.ntmps10
  go_wp2_with fail
  refine (HL.out _).mono ?_
  rintro e w2 ⟨rfl, o2⟩
  have hb2 := (o2.block w.heap.size (lt_of HB.out) id).trans HB.out
  have hb3 := (Below.heap_alloc w2 (.cells #[.int .i64 2, .int .u64 n, .slice none 0 0, .slice none 0 0] 27) _ (lt_of hb2)).trans hb2
  have z0 : (w2.alloc (.cells #[.int .i64 2, .int .u64 n, .slice none 0 0, .slice none 0 0] 27)).cell? ⟨w.heap.size, 0, none⟩ = some (.int .i64 0) := cell_of hb3
  have z1 : (w2.alloc (.cells #[.int .i64 2, .int .u64 n, .slice none 0 0, .slice none 0 0] 27)).cell? ⟨w.heap.size, 1, none⟩ = some (.int .u64 0) := cell_of hb3
  have z2 : (w2.alloc (.cells #[.int .i64 2, .int .u64 n, .slice none 0 0, .slice none 0 0] 27)).cell? ⟨w.heap.size, 2, none⟩ = some (.slice none 0 0) := cell_of hb3
  have z3 : (w2.alloc (.cells #[.int .i64 2, .int .u64 n, .slice none 0 0, .slice none 0 0] 27)).cell? ⟨w.heap.size, 3, none⟩ = some (.slice none 0 0) := cell_of hb3
  have f0 : (w2.alloc (.cells #[.int .i64 2, .int .u64 n, .slice none 0 0, .slice none 0 0] 27)).frozen? ⟨w.heap.size, 0, none⟩ = false := free_of hb3
  have f1 : (w2.alloc (.cells #[.int .i64 2, .int .u64 n, .slice none 0 0, .slice none 0 0] 27)).frozen? ⟨w.heap.size, 1, none⟩ = false := free_of hb3
  have f2 : (w2.alloc (.cells #[.int .i64 2, .int .u64 n, .slice none 0 0, .slice none 0 0] 27)).frozen? ⟨w.heap.size, 2, none⟩ = false := free_of hb3
  have f3 : (w2.alloc (.cells #[.int .i64 2, .int .u64 n, .slice none 0 0, .slice none 0 0] 27)).frozen? ⟨w.heap.size, 3, none⟩ = false := free_of hb3
  have O2 := Lib.hid ((HO.out.trans o2).alloc (.cells #[.int .i64 2, .int .u64 n, .slice none 0 0, .slice none 0 0] 27))
  clear o2 hb2 hb3
  go_wp2_with fail
  refine bodyPost_ret (v := .agg #[.int .i64 2, .int .u64 n, .slice none 0 0, .slice none 0 0]) (by simp [results, Try.results10, go_sem, z0, z1, z2, z3]) rfl ⟨rfl, ?_⟩
  exact (by (repeat (first | (with_reducible refine numD.only_setNew ?_ (Nat.le_refl _)) | (with_reducible exact O2.out))))

theorem field_kind (k n : Int) (W : World) : (Instr.field 27 (.agg #[.int .i64 k, .int .u64 n, .slice none 0 0, .slice none 0 0]) 0).run Try.prog W = .ok (.int .i64 k) W := by
  simp [Instr.field, fieldPlace, part, isAgg, asAgg, run_underlying Try.underlying27, run_underlying Try.underlying3, go_sem]

set_option maxRecDepth 100000 in
theorem is_atom (s : ByteArray) (n : Nat) (w : World) (h : AtomText s n) : Calls Try.prog 26 #[.string s] w (numA.Told w (.bool true)) := by
  have HL := read_atom s n w h
  have hf := fun W => field_kind 2 n W
  clear h
  go_enter Try.func26, Try.ntmps26
  go_wp2_with fail
  refine HL.mono ?_
  rintro e w2 ⟨rfl, o2⟩
  go_wp2_with fail
  go_ret
  exact ⟨rfl, o2⟩

theorem atomText (n : Nat) (hn : n ≤ 4294967295) : AtomText ⟨(97 :: dec n).toArray⟩ n := ⟨by simp, hn⟩

set_option maxRecDepth 100000 in
theorem refmake_atom (n : Nat) (w : World) (hn : n ≤ 4294967295) : Calls Try.prog 19 #[.int .i64 2, .int .u64 n, .slice none 0 0, .slice none 0 0] w (numA.Told w (.string ⟨(97 :: dec n).toArray⟩)) := by
  have P := fun W => numD.print_ref n W (by unfold most; omega)
  have I := Lib.hid (fun W => is_atom _ n W (atomText n hn))
  have HE := Lib.hid (srcA.text_cons1 97 (dec n))
  have HL := Lib.hid (dec_len 19 n (by omega))
  rw [← HE.out] at I ⊢
  generalize dec n = D at P I HL
  have HP := Lib.hid P
  have hsz : (ByteArray.mk D.toArray).size = D.length := rfl
  have hl := HL.out
  clear P HE
  go_enter Try.func19, Try.ntmps19
  go_wp2_with fail
  refine (HP.out _).mono ?_
  rintro e w1 ⟨rfl, o1⟩
  have O1 := Lib.hid o1
  clear o1
  go_wp2_with fail
  refine (I.out _).mono ?_
  rintro e w2 ⟨rfl, o2⟩
  have O2 := Lib.hid (O1.out.trans o2)
  clear o2
  go_wp2_with fail
  go_ret
  exact ⟨rfl, O2.out⟩

set_option maxRecDepth 100000 in
theorem atom_ref (n : Nat) (w : World) (hn : n ≤ 4294967295) : Calls Try.prog 47 #[.int .u32 n] w (numA.Told w (.string ⟨(97 :: dec n).toArray⟩)) := by
  have H := refmake_atom n w hn
  have k1 : IntKind.u64.wrap (n : Int) = (n : Int) := IntWalk.u64_in _ (by omega)
  generalize (97 :: dec n).toArray = T at H ⊢
  go_enter Try.func47, Try.ntmps47
  go_wp2_with fail
  refine H.mono ?_
  rintro e w2 ⟨rfl, o2⟩
  go_wp2_with fail
  go_ret
  exact ⟨rfl, o2⟩
end Go.Proofs.Ytnabfjpcpanfpaa.srcB
