/- term.Kind of an Atom's text: the program reads it. -/
import Derived.Test.YthembojamiagoaaNumD
import Derived.Laws.Externs
import Derived.Deep.RegionHeld3
import Derived.BigQuiet
import Derived.Defers
import Derived.Recover
namespace Go.Proofs.Ythembojamiagoaa.prsA
open Go.RowKit Go.Proofs.Ythembojamiagoaa.kit Go.Proofs.Ythembojamiagoaa.numA Go.Proofs.Ythembojamiagoaa.numB Go.Proofs.Ythembojamiagoaa.numC
set_option linter.unusedVariables false
set_option linter.unusedSimpArgs false

/-- The text of an Atom. -/
structure AtomText (s : ByteArray) (n : Nat) : Prop where
  list : s.data.toList = 97 :: dec n
  le : n ≤ 4294967295

theorem AtomText.size {s : ByteArray} {n : Nat} (h : AtomText s n) : s.size = (dec n).length + 1 := by
  have : s.data.toList.length = s.size := by simp
  rw [← this, h.list]
  rfl

theorem AtomText.small {s : ByteArray} {n : Nat} (h : AtomText s n) : s.size ≤ 21 := by
  have := dec_len 19 n (by have := h.le; omega)
  rw [h.size]; omega

theorem AtomText.get {s : ByteArray} {n : Nat} (h : AtomText s n) (k : Nat) (hk : k < s.size) : s.data.toList[k]'(by simpa using hk) = s[k] := by
  simp [ByteArray.getElem_eq_getElem_data]

theorem AtomText.head {s : ByteArray} {n : Nat} (h : AtomText s n) (hk : 0 < s.size) : s[0] = 97 := by
  rw [← h.get 0 hk]
  simp [h.list]

theorem AtomText.digit {s : ByteArray} {n : Nat} (h : AtomText s n) (k : Nat) (h1 : 1 ≤ k) (hk : k < s.size) : 48 ≤ (s[k]).toNat ∧ (s[k]).toNat ≤ 57 := by
  have hk2 : k < (97 :: dec n).length := by have := h.size; simp; omega
  have e : s[k] = (97 :: dec n)[k]'hk2 := by
    rw [← h.get k hk]
    simp [h.list]
  obtain ⟨j, rfl⟩ : ∃ j, k = j + 1 := ⟨k - 1, by omega⟩
  rw [e, List.getElem_cons_succ]
  have := List.all_eq_true.1 (dec_all n) _ (List.getElem_mem (l := dec n) (n := j) (by simp at hk2; omega))
  simp [dig] at this
  exact ⟨this.1, this.2⟩

theorem AtomText.tail {s : ByteArray} {n : Nat} (h : AtomText s n) : (s.extract 1 s.size).data.toList = dec n := by
  have : (s.extract 1 s.size).data.toList = (s.data.toList.take s.size).drop 1 := by
    simp [ByteArray.data_extract, Array.toList_extract, List.extract]
    rw [h.list, h.size]
    simp
  rw [this, h.list, h.size]
  simp

def letters : ByteArray := ⟨#[48, 97, 110, 120, 112, 100, 104, 107, 109, 115, 108]⟩

theorem entry (w : World) : (callFunc 44 #[.string letters, .int .u8 97]).run Try.prog w = .ok (.value (.int .i64 1)) w := by
  have h := run_callFunc_extern (P := Try.prog) (e := Extern.BytealgIndexByte.indexByte) Try.func44 (by kernel_rfl) (by kernel_rfl) (by kernel_rfl) (by kernel_rfl) #[.string letters, .int .u8 97] w
  rw [h, run_indexByte_string]
  rfl

set_option maxRecDepth 100000 in
theorem index1 (w : World) : Calls Try.prog 39 #[.string letters, .int .u8 97] w fun e w' => e = .returned (.int .i64 1) ∧ w = w' := by
  have he := entry
  unfold letters at he ⊢
  go_enter Try.func39, Try.ntmps39
  go_wp2_with fail
  go_ret
  exact ⟨rfl, rfl⟩

set_option maxRecDepth 100000 in
theorem index2 (w : World) : Calls Try.prog 34 #[.string letters, .int .u8 97] w fun e w' => e = .returned (.int .i64 1) ∧ w = w' := by
  have he := index1
  unfold letters at he ⊢
  go_enter Try.func34, Try.ntmps34
  go_wp2_with fail
  refine (he _).mono ?_
  rintro e w1 ⟨rfl, rfl⟩
  go_wp2_with fail
  go_ret
  exact ⟨rfl, rfl⟩

/-- A reader at block R. -/
def Rd (w : World) (R : Nat) (s : ByteArray) (k : Nat) : Prop := w.heap[R]? = some (.cells #[.string s, .int .i64 k, .map none] 79 (0, 0))

theorem Rd.set {w : World} {R k : Nat} {s : ByteArray} (h : Rd w R s k) (x : Int) (k' : Nat) (e : x = (k' : Int)) : Rd (w.setCell ⟨R, 1, none⟩ (.int .i64 x)) R s k' := by subst e; exact heap_set h

theorem Rd.drewN {w : World} {R k n : Nat} {s : ByteArray} (h : Rd w R s k) : Rd (w.drewN n) R s k := h

theorem Rd.drew {w : World} {R k : Nat} {s : ByteArray} (h : Rd w R s k) : Rd w.drew R s k := h

theorem keep2 {W W' : World} {R : Nat} {v x : Value} (o : Only (fun _ => False) W W') (m0 : W.cell? ⟨R, 0, none⟩ = some v) (x0 : W.cell? ⟨R, 1, none⟩ = some x) : W'.cell? ⟨R, 0, none⟩ = some v ∧ W'.cell? ⟨R, 1, none⟩ = some x := by
  have lM := World.block_lt_of_cell? W _ m0
  exact ⟨(World.cell?_of_block (w := W) (a := ⟨R, 0, none⟩) (o.block R lM id)).trans m0, (World.cell?_of_block (w := W) (a := ⟨R, 1, none⟩) (o.block R lM id)).trans x0⟩

abbrev ptr (B : Nat) : Value := .pointer (some ⟨B, 0, none⟩)

def Numd (w : World) (R : Nat) (s : ByteArray) (v : Value) (e : Ending) (w' : World) : Prop := e = .returned v ∧ Rd w' R s s.size ∧ Only (fun k => k = R) w w'

set_option maxRecDepth 100000 in
set_option maxHeartbeats 1000000 in
theorem number_atom (R : Nat) (s : ByteArray) (n : Nat) (w : World) (h : AtomText s n) (hr : Rd w R s 1) : Calls Try.prog 35 #[ptr R, .int .u64 0, .int .u64 4294967295] w (Numd w R s (.int .u64 n)) := by
  have hs := h.small
  have h1 : 1 ≤ s.size := by rw [h.size]; omega
  have hval : rd (dec n) = .tuple #[.int .u64 n, .int .i64 0] := by
    rw [rd, if_pos (isNum_dec n), val_dec, if_pos (by have := h.le; unfold most; omega)]
  have R1 := fun W => read_any (s.extract 1 s.size) W (by have : (s.extract 1 s.size).size ≤ s.size := by simp
                                                          omega)
  rw [h.tail, hval] at R1
  have HR1 := Lib.hid R1
  have HD := Lib.hid (fun k a b => h.digit k a b)
  have HR := Lib.hid hr
  have HS := Lib.hid hs
  have k1 : (n : Int) ≤ 4294967295 := by have := h.le; omega
  have k2 : n ≤ 4294967295 := h.le
  have z1 : w.cell? ⟨R, 1, none⟩ = some (.int .i64 1) := cell_of hr
  clear R1 hval h hr
  go_enter Try.func35, Try.ntmps35
  go_wp2_with fail
  go_loopw [48] (fun _ wr => ∃ k : Nat, 1 ≤ k ∧ k ≤ s.size ∧ Rd wr R s k ∧ Only (fun j => j = R) w wr) (fun _ wr => s.size - (match wr.cell? ⟨R, 1, none⟩ with | some (.int _ q) => q.toNat | _ => 0))
  case atStart => exact ⟨1, Nat.le_refl _, h1, HR.out, Only.refl _ _⟩
  case round =>
    obtain ⟨k, hk0, hk, hr, o⟩ := hrel
    have y0 : wr.cell? ⟨R, 0, none⟩ = some (.string s) := cell_of hr
    have y1 : wr.cell? ⟨R, 1, none⟩ = some (.int .i64 k) := cell_of hr
    have fz : wr.frozen? ⟨R, 1, none⟩ = false := free_of hr
    have HRk := Lib.hid hr
    have HO := Lib.hid o
    clear hr o
    by_cases hlt : k < s.size
    · have j1 : (k : Int) < (s.size : Int) := by omega
      obtain ⟨d1, d2⟩ := HD.out k hk0 hlt
      have d3 : (48 : Int) ≤ ((s[k]'hlt).toNat : Int) := by omega
      have d4 : ((s[k]'hlt).toNat : Int) ≤ 57 := by omega
      have hsm := HS.out
      go_wp2_with fail
      go_quiet (fail)
      all_goals
        go_wp2_with fail
        go_roundw
        case rel => exact ⟨k + 1, by omega, by omega, HRk.out.drewN.set _ _ (by go_num), (HO.out.drewN _).set rfl⟩
        case measure =>
          have e1 : ∀ q : Nat, ((wr.drewN q).setCell ⟨R, 1, none⟩ (.int .i64 ((k : Int) + 1))).cell? ⟨R, 1, none⟩ = some (.int .i64 ((k + 1 : Nat) : Int)) := fun q => cell_of (HRk.out.drewN.set ((k : Int) + 1) (k + 1) (by omega))
          rw [y1, e1]
          show s.size - (((k + 1 : Nat) : Int)).toNat < s.size - ((k : Nat) : Int).toNat
          omega
    · have hks : k = s.size := by omega
      have j1 : decide (k < s.size) = false := by simp; omega
      rw [← hks] at HR1
      have a1 : (0 : Int) ≤ 1 := by omega
      have a2 : (1 : Int) ≤ (k : Int) := by omega
      have a3 : (k : Int) ≤ (s.size : Int) := by omega
      have HKS := Lib.hid hks
      clear hks hlt
      go_wp2_with fail
      go_quiet (fail)
      all_goals
        go_wp2_with fail
        go_region_held3 (fun w' => w'.cell? ⟨R, 0, none⟩ = some (.string s) ∧ w'.cell? ⟨R, 1, none⟩ = some (.int .i64 k)) (first | exact keep2 ((Only.refl _ wr).drewN _).drew y0 y1 | exact keep2 (((Only.refl _ wr).drewN _).drew.trans o3) y0 y1) (first | (go_at_call 40; (with_reducible refine Calls.mono (HR1.out _) ?_); rintro e w3 ⟨rfl, o3⟩))
        all_goals
          have H3 := Lib.hid HRk.out
          have H4 : Hid (Rd w3 R s s.size) := by have q : Rd w3 R s k := o3.keep (H3.out.drewN.drew) id; rw [HKS.out] at q; exact q
          have O4 := Lib.hid ((HO.out.drewN _).drew.trans (o3.mono fun _ q => q.elim))
          clear o3 H3
          go_wp2_with fail
          go_ret
          exact ⟨rfl, H4.out, O4.out⟩

set_option maxRecDepth 100000 in
set_option maxHeartbeats 1000000 in
theorem term_atom (R : Nat) (s : ByteArray) (n : Nat) (w : World) (h : AtomText s n) (hr : Rd w R s 0) : Calls Try.prog 33 #[ptr R, .pointer none] w (Numd w R s (.tuple #[.int .i64 2, .int .u64 n])) := by
  have hs := h.small
  have h1 : 0 < s.size := by rw [h.size]; omega
  have h0 := h.head h1
  have N := Lib.hid (fun W (q : Rd W R s 1) => number_atom R s n W h q)
  have HI := Lib.hid index2
  unfold letters at HI
  have HR := Lib.hid hr
  have y0 : w.cell? ⟨R, 0, none⟩ = some (.string s) := cell_of hr
  have y1 : w.cell? ⟨R, 1, none⟩ = some (.int .i64 0) := cell_of hr
  have j0 : (0 : Int) < (s.size : Int) := by omega
  have j1 : ((0 : Int) == (s.size : Int)) = false := by rw [beq_eq_false_iff_ne]; omega
  have j2 : ((s[0]'h1).toNat : Int) = 97 := by rw [h0]; rfl
  have fz : w.frozen? ⟨R, 1, none⟩ = false := free_of hr
  have j3 : IntKind.i64.wrap 2 = 2 := IntWalk.i64_in _ (by omega)
  have j4 : ((2 : Int) == 0) = false := rfl
  have j5 : ((2 : Int) == 1) = false := rfl
  have j6 : ((2 : Int) == 2) = true := rfl
  clear h hr h0
  go_enter Try.func33, Try.ntmps33
  go_wp2_with fail
  go_quiet (fail)
  go_wp2_with fail
  go_region_held3 (fun w' => w'.cell? ⟨R, 0, none⟩ = some (.string s) ∧ w'.cell? ⟨R, 1, none⟩ = some (.int .i64 0)) (first | go_keep | exact ⟨y0, y1⟩) (first | (go_at_call 34; (with_reducible refine Calls.mono (HI.out _) ?_); rintro e w3 ⟨rfl, rfl⟩))
  all_goals
    go_wp2_with fail
    refine (N.out _ (HR.out.drewN.set 1 1 rfl)).mono ?_
    rintro e w4 ⟨rfl, h4, o4⟩
    have H4 := Lib.hid h4
    have O4 := Lib.hid (((((Only.refl (fun k => k = R) w).drewN _).set (o := 1) (v := .int .i64 1) rfl)).trans o4)
    clear h4 o4
    go_wp2_with fail
    go_ret2
    exact ⟨rfl, H4.out, O4.out⟩
end Go.Proofs.Ythembojamiagoaa.prsA
