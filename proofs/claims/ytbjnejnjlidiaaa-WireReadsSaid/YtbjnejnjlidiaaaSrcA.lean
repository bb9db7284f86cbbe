/- A map that is made with whole-number keys; the kinds with brackets (term.shapes). -/
import Derived.Test.YtbjnejnjlidiaaaNumA
import Derived.Carry
import Derived.MapKept
import Derived.Deep.WholeRow
import Derived.Shelf.Strings.OnBuilder
import Derived.Test.YtbjnejnjlidiaaaKit
import Derived.Test.YtbjnejnjlidiaaaProg
namespace Go.Proofs.Ytbjnejnjlidiaaa.srcA
open Go.RowKit kit
set_option linter.unusedVariables false
set_option linter.unusedSimpArgs false

theorem zero134 : (Try.prog.info? 134).map (fun i => (i.zero, i.size)) = some (some (.agg #[.int .i64 0, .int .i64 0, .bool false, .int .u64 0, .int .u64 0, .bool false]), 6) := by kernel_rfl

theorem put_at {w : World} {b : Nat} {es : Array MapEntry} {clock : Nat} (hb : w.heap[b]? = some (.map es clock)) (k : Int) (v : Value) (hf : Instr.findNow (.int .i64) (.int .i64 k) es.toList 0 = some none) :
    ∃ w', (Instr.mapUpdate 136 (.map (some b)) (.int .i64 k) v).run Try.prog w = .ok () w' ∧ w'.heap[b]? = some (.map (es.push { key := .int .i64 k, val := v, born := clock }) (clock + 1)) ∧ (∀ a : World, a.heap.size ≤ b → Only (fun _ => False) a w → Only (fun _ => False) a w') := by
  have hlt : b < w.heap.size := lt_of hb
  refine ⟨{ w with heap := w.heap.setIfInBounds b (.map (es.push { key := .int .i64 k, val := v, born := clock }) (clock + 1)) }, ?_, by simp [hlt], fun a ha o => ⟨o.os, o.tape, o.output, by simpa using o.size, fun j hj hs => ?_⟩⟩
  · have hfk := MapKept.run_findKey (P := Try.prog) (w := w) (kt := 3) (k := .int .i64 k) (l := es.toList) Try.underlying3 hf
    have hck := MapKept.run_checkKey (P := Try.prog) (w := w) (kt := 3) (d := .int .i64) (k := .int .i64 k) Try.underlying3 (by simp [MapKept.IsKey]) false 9999
    have hso := MapKept.run_setObj_map (P := Try.prog) (.map (es.push { key := .int .i64 k, val := v, born := clock }) (clock + 1)) hb
    simp [Instr.mapUpdate, getObj, Sem.run_bind, run_underlying Try.underlying136, Sem.run, hb, Result.andThen, hfk, hck, hso]
  · have hne : j ≠ b := by omega
    show (w.heap.setIfInBounds b _)[j]? = a.heap[j]?
    rw [Array.getElem?_setIfInBounds, if_neg (fun e => hne e.symm)]
    exact o.block j hj hs

theorem get_none {w : World} {b : Nat} {es : Array MapEntry} {clock : Nat} (hb : w.heap[b]? = some (.map es clock)) (k : Int) (hf : Instr.findNow (.int .i64) (.int .i64 k) es.toList 0 = some none) :
    (Instr.lookup 136 (.map (some b)) (.int .i64 k) true).run Try.prog w = .ok (.tuple #[.agg #[.int .i64 0, .int .i64 0, .bool false, .int .u64 0, .int .u64 0, .bool false], .bool false]) w := by
  have hfk := MapKept.run_findKey (P := Try.prog) (w := w) (kt := 3) (k := .int .i64 k) (l := es.toList) Try.underlying3 hf
  have hck := MapKept.run_checkKey (P := Try.prog) (w := w) (kt := 3) (d := .int .i64) (k := .int .i64 k) Try.underlying3 (by simp [MapKept.IsKey]) es.isEmpty 9999
  have hz := (zero_of_info zero134).1 w
  simp [Instr.lookup, getObj, Sem.run_bind, run_underlying Try.underlying136, Sem.run, hb, Result.andThen, hfk, hck, hz]

theorem get_some {w : World} {b i : Nat} {es : Array MapEntry} {clock : Nat} {v : Value} (hb : w.heap[b]? = some (.map es clock)) (k : Int) (hf : Instr.findNow (.int .i64) (.int .i64 k) es.toList 0 = some (some (i, v))) :
    (Instr.lookup 136 (.map (some b)) (.int .i64 k) true).run Try.prog w = .ok (.tuple #[v, .bool true]) w := by
  have hfk := MapKept.run_findKey (P := Try.prog) (w := w) (kt := 3) (k := .int .i64 k) (l := es.toList) Try.underlying3 hf
  have hck := MapKept.run_checkKey (P := Try.prog) (w := w) (kt := 3) (d := .int .i64) (k := .int .i64 k) Try.underlying3 (by simp [MapKept.IsKey]) es.isEmpty 9999
  simp [Instr.lookup, getObj, Sem.run_bind, run_underlying Try.underlying136, Sem.run, hb, Result.andThen, hfk, hck]

/-- The kinds with brackets. -/
def table : Array MapEntry := #[{ key := .int .i64 5, val := .agg #[.int .i64 1, .int .i64 1, .bool false, .int .u64 0, .int .u64 0, .bool false], born := 0 }, { key := .int .i64 6, val := .agg #[.int .i64 2, .int .i64 2, .bool false, .int .u64 0, .int .u64 0, .bool true], born := 1 }, { key := .int .i64 7, val := .agg #[.int .i64 1, .int .i64 65536, .bool false, .int .u64 0, .int .u64 0, .bool false], born := 2 }, { key := .int .i64 8, val := .agg #[.int .i64 2, .int .i64 2, .bool true, .int .u64 1, .int .u64 3, .bool false], born := 3 }, { key := .int .i64 9, val := .agg #[.int .i64 2, .int .i64 2, .bool false, .int .u64 0, .int .u64 0, .bool false], born := 4 }, { key := .int .i64 10, val := .agg #[.int .i64 3, .int .i64 3, .bool true, .int .u64 0, .int .u64 18446744073709551615, .bool false], born := 5 }, { key := .int .i64 11, val := .agg #[.int .i64 0, .int .i64 65536, .bool false, .int .u64 0, .int .u64 0, .bool false], born := 6 }]

def Table (w : World) (e : Ending) (w' : World) : Prop := ∃ b, e = .returned (.map (some b)) ∧ w'.heap[b]? = some (.map table 7) ∧ Only (fun _ => False) w w'

set_option maxRecDepth 100000 in
theorem shapes_any (w : World) : Calls Try.prog 107 #[] w (Table w) := by
  have o0 := (Only.refl (fun _ => False) w).alloc (.map #[] 0)
  have h0 := heap_alloc_new w (.map #[] 0)
  obtain ⟨w1, r1, h1, p1⟩ := put_at h0 5 (.agg #[.int .i64 1, .int .i64 1, .bool false, .int .u64 0, .int .u64 0, .bool false]) (by first | rfl | decide)
  have o1 := p1 w (Nat.le_refl _) o0
  obtain ⟨w2, r2, h2, p2⟩ := put_at h1 6 (.agg #[.int .i64 2, .int .i64 2, .bool false, .int .u64 0, .int .u64 0, .bool true]) (by first | rfl | decide)
  have o2 := p2 w (Nat.le_refl _) o1
  obtain ⟨w3, r3, h3, p3⟩ := put_at h2 7 (.agg #[.int .i64 1, .int .i64 65536, .bool false, .int .u64 0, .int .u64 0, .bool false]) (by first | rfl | decide)
  have o3 := p3 w (Nat.le_refl _) o2
  obtain ⟨w4, r4, h4, p4⟩ := put_at h3 8 (.agg #[.int .i64 2, .int .i64 2, .bool true, .int .u64 1, .int .u64 3, .bool false]) (by first | rfl | decide)
  have o4 := p4 w (Nat.le_refl _) o3
  obtain ⟨w5, r5, h5, p5⟩ := put_at h4 9 (.agg #[.int .i64 2, .int .i64 2, .bool false, .int .u64 0, .int .u64 0, .bool false]) (by first | rfl | decide)
  have o5 := p5 w (Nat.le_refl _) o4
  obtain ⟨w6, r6, h6, p6⟩ := put_at h5 10 (.agg #[.int .i64 3, .int .i64 3, .bool true, .int .u64 0, .int .u64 18446744073709551615, .bool false]) (by first | rfl | decide)
  have o6 := p6 w (Nat.le_refl _) o5
  obtain ⟨w7, r7, h7, p7⟩ := put_at h6 11 (.agg #[.int .i64 0, .int .i64 65536, .bool false, .int .u64 0, .int .u64 0, .bool false]) (by first | rfl | decide)
  have o7 := p7 w (Nat.le_refl _) o6
  have HF : Hid (Table w (.returned (.map (some w.heap.size))) w7) := ⟨_, rfl, h7, o7⟩
  have hmm := @run_makeMap Try.prog
  clear h0 o0 h1 o1 h2 o2 h3 o3 h4 o4 h5 o5 h6 o6 h7 o7 p1 p2 p3 p4 p5 p6 p7
  go_enter Try.func107, Try.ntmps107
  go_wp2
  go_ret
  exact HF.out

theorem get_val {w : World} {b i : Nat} {es : Array MapEntry} {clock : Nat} {v : Value} (hb : w.heap[b]? = some (.map es clock)) (k : Int) (hf : Instr.findNow (.int .i64) (.int .i64 k) es.toList 0 = some (some (i, v))) :
    (Instr.lookup 136 (.map (some b)) (.int .i64 k) false).run Try.prog w = .ok v w := by
  have hfk := MapKept.run_findKey (P := Try.prog) (w := w) (kt := 3) (k := .int .i64 k) (l := es.toList) Try.underlying3 hf
  have hck := MapKept.run_checkKey (P := Try.prog) (w := w) (kt := 3) (d := .int .i64) (k := .int .i64 k) Try.underlying3 (by simp [MapKept.IsKey]) es.isEmpty 9999
  simp [Instr.lookup, getObj, Sem.run_bind, run_underlying Try.underlying136, Sem.run, hb, Result.andThen, hfk, hck]
end Go.Proofs.Ytbjnejnjlidiaaa.srcA
namespace Go.Proofs.Ytbjnejnjlidiaaa.shJ
open Go.Shelf Go.RowKit kit
set_option linter.unusedVariables false
def joinRen : Go.Shelf.Ren := ⟨fun | 156 => 165 | 165 => 199 | 166 => 200 | 169 => 201 | 240 => 223 | 241 => 224 | 276 => 233 | 277 => 234 | n => n, fun | 31 => 25 | 9 => 9 | 3 => 3 | 4 => 4 | 0 => 0 | 20 => 20 | 72 => 225 | 76 => 229 | 70 => 223 | 37 => 24 | 75 => 228 | 127 => 248 | 164 => 254 | 5 => 5 | 80 => 231 | n => n, fun | n => n⟩
theorem laysJoin : Go.Proofs.Lays.n156 Try.prog joinRen := {
  mixed := by kernel_rfl
  f156 := Try.func165.trans (congrArg some (by kernel_rfl))
  f165 := Try.func199.trans (congrArg some (by kernel_rfl))
  f166 := Try.func200.trans (congrArg some (by kernel_rfl))
  f169 := Try.func201.trans (congrArg some (by kernel_rfl))
  f240 := Try.func223.trans (congrArg some (by kernel_rfl))
  f241 := Try.func224.trans (congrArg some (by kernel_rfl))
  f276 := Try.func233.trans (congrArg some (by kernel_rfl))
  f277 := Try.func234.trans (congrArg some (by kernel_rfl))
  t0 := Try.underlying0
  a0 := Try.isAgg0
  z0 := Try.sizeOf0
  v0 := Try.zeroValue0
  t3 := Try.underlying3
  a3 := Try.isAgg3
  z3 := Try.sizeOf3
  v3 := Try.zeroValue3
  t4 := Try.underlying4
  a4 := Try.isAgg4
  z4 := Try.sizeOf4
  v4 := Try.zeroValue4
  t9 := Try.underlying9
  a9 := Try.isAgg9
  z9 := Try.sizeOf9
  v9 := Try.zeroValue9
  t20 := Try.underlying20
  a20 := Try.isAgg20
  z20 := Try.sizeOf20
  v20 := Try.zeroValue20
  t31 := Try.underlying25
  a31 := Try.isAgg25
  z31 := Try.sizeOf25
  v31 := Try.zeroValue25
  t37 := Try.underlying24
  a37 := Try.isAgg24
  z37 := Try.sizeOf24
  v37 := Try.zeroValue24
  t70 := Try.underlying223
  a70 := Try.isAgg223
  z70 := Try.sizeOf223
  v70 := Try.zeroValue223
  t72 := Try.underlying225
  a72 := Try.isAgg225
  z72 := Try.sizeOf225
  v72 := Try.zeroValue225
  t75 := Try.underlying228
  a75 := Try.isAgg228
  z75 := Try.sizeOf228
  v75 := Try.zeroValue228
  t76 := Try.underlying229
  a76 := Try.isAgg229
  z76 := Try.sizeOf229
  v76 := Try.zeroValue229
  t127 := Try.underlying248
  a127 := Try.isAgg248
  z127 := Try.sizeOf248
  v127 := Try.zeroValue248
  t164 := Try.underlying254
  a164 := Try.isAgg254
  z164 := Try.sizeOf254
  v164 := Try.zeroValue254 }
theorem extraJoin : Builder.Extra Try.prog joinRen := {
  sizeBuilder := by kernel_rfl
  liesBuilder := by kernel_rfl
  t5 := Try.underlying5
  a5 := Try.isAgg5
  z5 := Try.sizeOf5
  v5 := Try.zeroValue5
  infoByte := by kernel_rfl
  cellsByte := by kernel_rfl
  sizeByte := by kernel_rfl
  neB5 := by decide }

theorem join_any (bk o c : Nat) (xs : List ByteArray) (sep : ByteArray) (w : World) (hcells : ∀ (j : Nat) x, xs[j]? = some x → w.cell? ⟨bk, o + j, none⟩ = some (.string x)) (hbk : bk < w.heap.size) (hN : xs.length ≤ 140737488355328) (hcap : xs.length ≤ c) (hlen : (Lib.join (xs.map (·.data.toList)) sep.data.toList).length ≤ 140737488355328) :
    Calls Try.prog 165 #[.slice (some ⟨bk, o, none⟩) xs.length c, .string sep] w fun e w' => e = .returned (.string ⟨(Lib.join (xs.map (·.data.toList)) sep.data.toList).toArray⟩) ∧ Only (fun _ => False) w w' :=
  (Any.strings_Join laysJoin extraJoin bk o c xs sep w hcells hbk hN hcap hlen).mono fun e w' ⟨h, b⟩ => ⟨h, ⟨b.os, b.tape, b.output, b.size, fun k hk _ => b.block k hk⟩⟩
end Go.Proofs.Ytbjnejnjlidiaaa.shJ
