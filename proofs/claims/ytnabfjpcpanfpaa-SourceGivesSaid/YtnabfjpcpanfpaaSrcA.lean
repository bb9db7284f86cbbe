/- A map that is made with whole-number keys; the kinds with brackets (term.shapes). -/
import Derived.Test.YtnabfjpcpanfpaaNumD
import Derived.Carry
import Derived.MapKept
import Derived.Deep.WholeRow
namespace Go.Proofs.Ytnabfjpcpanfpaa.srcA
open Go.RowKit Go.Proofs.Ytnabfjpcpanfpaa.kit
set_option linter.unusedVariables false
set_option linter.unusedSimpArgs false

theorem zero75 : (Try.prog.info? 75).map (fun i => (i.zero, i.size)) = some (some (.agg #[.int .i64 0, .int .i64 0, .bool false, .int .u64 0, .int .u64 0, .bool false]), 6) := by kernel_rfl

theorem put_at {w : World} {b : Nat} {es : Array MapEntry} {clock : Nat} (hb : w.heap[b]? = some (.map es clock)) (k : Int) (v : Value) (hf : Instr.findNow (.int .i64) (.int .i64 k) es.toList 0 = some none) :
    ∃ w', (Instr.mapUpdate 77 (.map (some b)) (.int .i64 k) v).run Try.prog w = .ok () w' ∧ w'.heap[b]? = some (.map (es.push { key := .int .i64 k, val := v, born := clock }) (clock + 1)) ∧ (∀ a : World, a.heap.size ≤ b → Only (fun _ => False) a w → Only (fun _ => False) a w') := by
  have hlt : b < w.heap.size := lt_of hb
  refine ⟨{ w with heap := w.heap.setIfInBounds b (.map (es.push { key := .int .i64 k, val := v, born := clock }) (clock + 1)) }, ?_, by simp [hlt], fun a ha o => ⟨o.os, o.tape, o.output, by simpa using o.size, fun j hj hs => ?_⟩⟩
  · have hfk := MapKept.run_findKey (P := Try.prog) (w := w) (kt := 3) (k := .int .i64 k) (l := es.toList) Try.underlying3 hf
    have hck := MapKept.run_checkKey (P := Try.prog) (w := w) (kt := 3) (d := .int .i64) (k := .int .i64 k) Try.underlying3 (by simp [MapKept.IsKey]) false 9999
    have hso := MapKept.run_setObj_map (P := Try.prog) (.map (es.push { key := .int .i64 k, val := v, born := clock }) (clock + 1)) hb
    simp [Instr.mapUpdate, getObj, Sem.run_bind, run_underlying Try.underlying77, Sem.run, hb, Result.andThen, hfk, hck, hso]
  · have hne : j ≠ b := by omega
    show (w.heap.setIfInBounds b _)[j]? = a.heap[j]?
    rw [Array.getElem?_setIfInBounds, if_neg (fun e => hne e.symm)]
    exact o.block j hj hs

theorem get_none {w : World} {b : Nat} {es : Array MapEntry} {clock : Nat} (hb : w.heap[b]? = some (.map es clock)) (k : Int) (hf : Instr.findNow (.int .i64) (.int .i64 k) es.toList 0 = some none) :
    (Instr.lookup 77 (.map (some b)) (.int .i64 k) true).run Try.prog w = .ok (.tuple #[.agg #[.int .i64 0, .int .i64 0, .bool false, .int .u64 0, .int .u64 0, .bool false], .bool false]) w := by
  have hfk := MapKept.run_findKey (P := Try.prog) (w := w) (kt := 3) (k := .int .i64 k) (l := es.toList) Try.underlying3 hf
  have hck := MapKept.run_checkKey (P := Try.prog) (w := w) (kt := 3) (d := .int .i64) (k := .int .i64 k) Try.underlying3 (by simp [MapKept.IsKey]) es.isEmpty 9999
  have hz := (zero_of_info zero75).1 w
  simp [Instr.lookup, getObj, Sem.run_bind, run_underlying Try.underlying77, Sem.run, hb, Result.andThen, hfk, hck, hz]

theorem get_some {w : World} {b i : Nat} {es : Array MapEntry} {clock : Nat} {v : Value} (hb : w.heap[b]? = some (.map es clock)) (k : Int) (hf : Instr.findNow (.int .i64) (.int .i64 k) es.toList 0 = some (some (i, v))) :
    (Instr.lookup 77 (.map (some b)) (.int .i64 k) true).run Try.prog w = .ok (.tuple #[v, .bool true]) w := by
  have hfk := MapKept.run_findKey (P := Try.prog) (w := w) (kt := 3) (k := .int .i64 k) (l := es.toList) Try.underlying3 hf
  have hck := MapKept.run_checkKey (P := Try.prog) (w := w) (kt := 3) (d := .int .i64) (k := .int .i64 k) Try.underlying3 (by simp [MapKept.IsKey]) es.isEmpty 9999
  simp [Instr.lookup, getObj, Sem.run_bind, run_underlying Try.underlying77, Sem.run, hb, Result.andThen, hfk, hck]

/-- The kinds with brackets. -/
def table : Array MapEntry := #[{ key := .int .i64 5, val := .agg #[.int .i64 1, .int .i64 1, .bool false, .int .u64 0, .int .u64 0, .bool false], born := 0 }, { key := .int .i64 6, val := .agg #[.int .i64 2, .int .i64 2, .bool false, .int .u64 0, .int .u64 0, .bool true], born := 1 }, { key := .int .i64 7, val := .agg #[.int .i64 1, .int .i64 65536, .bool false, .int .u64 0, .int .u64 0, .bool false], born := 2 }, { key := .int .i64 8, val := .agg #[.int .i64 2, .int .i64 2, .bool true, .int .u64 1, .int .u64 3, .bool false], born := 3 }, { key := .int .i64 9, val := .agg #[.int .i64 2, .int .i64 2, .bool false, .int .u64 0, .int .u64 0, .bool false], born := 4 }, { key := .int .i64 10, val := .agg #[.int .i64 3, .int .i64 3, .bool true, .int .u64 0, .int .u64 18446744073709551615, .bool false], born := 5 }, { key := .int .i64 11, val := .agg #[.int .i64 0, .int .i64 65536, .bool false, .int .u64 0, .int .u64 0, .bool false], born := 6 }]

def Table (w : World) (e : Ending) (w' : World) : Prop := ∃ b, e = .returned (.map (some b)) ∧ w'.heap[b]? = some (.map table 7) ∧ Only (fun _ => False) w w'

set_option maxRecDepth 100000 in
theorem shapes_any (w : World) : Calls Try.prog 40 #[] w (Table w) := by
  have o0 := (Only.refl (fun _ => False) w).alloc (.map #[] 0)
  have h0 := heap_alloc_new w (.map #[] 0)
  obtain ⟨w1, r1, h1, p1⟩ := put_at h0 5 (.agg #[.int .i64 1, .int .i64 1, .bool false, .int .u64 0, .int .u64 0, .bool false]) (by first | rfl | decide)
  have o1 := p1 w (Nat.le_refl _) o0
  obtain ⟨w2, r2, h2, p2⟩ := put_at h1 6 (.agg #[.int .i64 2, .int .i64 2, .bool false, .int .u64 0, .int .u64 0, .bool true]) (by first | rfl | decide)
  have o2 := p2 w (Nat.le_refl _) o1
  obtain ⟨w3, r3, h3, p3⟩ := put_at h2 7 (.agg #[.int .i64 1, .int .i64 65536, .bool false, .int .u64 0, .int .u64 0, .bool false]) (by first | rfl | decide)
  have o3 := p3 w (Nat.le_refl _) o2
  obtain ⟨w4, r4, h4, p4⟩ := put_at h3 8 (.agg #[.int .i64 2, .int .i64 2, .bool true, .int .u64 1, .int .u64 3, .bool false]) (by first | rfl | decide)
  have o4 := p4 w (Nat.le_refl _) o3
  obtain ⟨w5, r5, h5, p5⟩ := put_at h4 9 (.agg #[.int .i64 2, .int .i64 2, .bool false, .int .u64 0, .int .u64 0, .bool false]) (by first | rfl | decide)
  have o5 := p5 w (Nat.le_refl _) o4
  obtain ⟨w6, r6, h6, p6⟩ := put_at h5 10 (.agg #[.int .i64 3, .int .i64 3, .bool true, .int .u64 0, .int .u64 18446744073709551615, .bool false]) (by first | rfl | decide)
  have o6 := p6 w (Nat.le_refl _) o5
  obtain ⟨w7, r7, h7, p7⟩ := put_at h6 11 (.agg #[.int .i64 0, .int .i64 65536, .bool false, .int .u64 0, .int .u64 0, .bool false]) (by first | rfl | decide)
  have o7 := p7 w (Nat.le_refl _) o6
  have HF : Hid (Table w (.returned (.map (some w.heap.size))) w7) := ⟨_, rfl, h7, o7⟩
  have hmm := @run_makeMap Try.prog
  clear h0 o0 h1 o1 h2 o2 h3 o3 h4 o4 h5 o5 h6 o6 h7 o7 p1 p2 p3 p4 p5 p6 p7
  go_enter Try.func40, Try.ntmps40
  go_wp2
  go_ret
  exact HF.out

theorem text_cons1 (c : UInt8) (l : List UInt8) : (ByteArray.mk #[c] ++ ByteArray.mk l.toArray) = ByteArray.mk (c :: l).toArray := ByteArray.mk_append_mk [c] l

set_option maxRecDepth 100000 in
theorem make_atom (n : Nat) (w : World) (hn : n ≤ 4294967295) : Calls Try.prog 17 #[.int .i64 2, .int .u64 n, .slice none 0 0, .slice none 0 0] w (numA.Told w (.string ⟨(97 :: numB.dec n).toArray⟩)) := by
  have S := shapes_any w
  have P := fun W => numD.print_any n W (by unfold numC.most; omega)
  have HE := Lib.hid (text_cons1 97 (numB.dec n))
  have HL := Lib.hid (numB.dec_len 19 n (by omega))
  generalize numB.dec n = D at P HE HL ⊢
  have k1 : (n : Int) ≤ 4294967295 := by omega
  have HP := Lib.hid P
  clear P
  go_enter Try.func17, Try.ntmps17
  go_wp2_with fail
  refine S.mono ?_
  rintro e w1 ⟨b, rfl, hb, o1⟩
  have hg := get_none hb 2 (by rfl)
  have O1 := Lib.hid o1
  clear hb o1
  go_wp2_with fail
  refine (HP.out _).mono ?_
  rintro e w2 ⟨rfl, o2⟩
  have O2 := Lib.hid ((O1.out.alloc (.cells #[.int .i64 0, .int .i64 0, .bool false, .int .u64 0, .int .u64 0, .bool false] 75)).trans o2)
  have hsz : (ByteArray.mk D.toArray).size = D.length := rfl
  have hl := HL.out
  clear o2
  go_wp2_with fail
  go_ret
  exact ⟨by rw [← HE.out]; rfl, O2.out⟩
end Go.Proofs.Ytnabfjpcpanfpaa.srcA
