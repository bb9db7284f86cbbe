/- Contracts of the law's 'same', and of packet.Read. -/
import Derived.Test.YtcocmabhbahiaaaPacD
import Derived.Deep.RegionHeld3
namespace Go.Proofs.Ytcocmabhbahiaaa.pacE
open Go.RowKit Go.Lib Go.Proofs.Ytcocmabhbahiaaa.kit Go.Proofs.Ytcocmabhbahiaaa.numA Go.Proofs.Ytcocmabhbahiaaa.numF Go.Proofs.Ytcocmabhbahiaaa.numG Go.Proofs.Ytcocmabhbahiaaa.pacA Go.Proofs.Ytcocmabhbahiaaa.pacD
set_option linter.unusedVariables false

/-- A header, as it lies in a variable. -/
abbrev header (v : Int) (s d : Value) (n : Int) : Value := .agg #[.int .i64 v, s, d, .int .i64 n]

set_option maxRecDepth 100000 in
theorem same_true (v n : Int) (s d s' d' : Value) (ls ld : List UInt8) (w : World) (h1 : By w s ls) (h2 : By w s' ls) (h3 : By w d ld) (h4 : By w d' ld) :
    Calls Try.prog 29 #[header v s d n, header v s' d' n] w (numA.Told w (.bool true)) := by
  have O : Only (fun _ => False) w ((w.alloc (.cells #[.int .i64 v, s, d, .int .i64 n] 36)).alloc (.cells #[.int .i64 v, s', d', .int .i64 n] 36)) := ((Only.refl _ w).alloc _).alloc _
  have S1 := numG.same_true (h1.keep O).sl (h2.keep O).sl
  have S2 := numG.same_true (h3.keep O).sl (h4.keep O).sl
  have HO := Lib.hid O
  clear h1 h2 h3 h4 O
  go_enter Try.func29, Try.ntmps29
  go_wp2_with fail
  refine S1.mono ?_
  rintro e w1 ⟨rfl, rfl⟩
  go_wp2_with fail
  refine S2.mono ?_
  rintro e w1 ⟨rfl, rfl⟩
  go_wp2_with fail
  go_ret
  exact ⟨rfl, HO.out⟩

/-- A header and a code. -/
def Head (w : World) (v n : Int) (ls ld : List UInt8) (c : Int) (e : Ending) (w' : World) : Prop := ∃ s d, e = .returned (.tuple #[header v s d n, .int .i64 c]) ∧ By w' s ls ∧ By w' d ld ∧ Only (fun _ => False) w w'

set_option maxRecDepth 100000 in
theorem read_bad (x : Value) (l : List UInt8) (w : World) (h : By w x l) (c : Int) (hc : c ≠ 0) (hk : lk l = .tuple #[form 0 0 0 0 0 0, .int .i64 c]) : Calls Try.prog 25 #[x] w (Head w 0 0 [] [] c) := by
  have hc1 : (c != 0) = true := by simpa using hc
  have O0 : Only (fun _ => False) w (w.alloc (.cells #[.int .i64 0, .slice none 0 0, .slice none 0 0, .int .i64 0] 36)) := (Only.refl _ w).alloc _
  have L := pacC.look_any x l _ (h.keep O0)
  rw [hk] at L
  obtain ⟨a, cap, rfl, -⟩ := h
  have HO0 := Lib.hid O0
  clear hk hc O0
  go_enter Try.func25, Try.ntmps25
  go_wp2_with fail
  refine L.mono ?_
  rintro e w3 ⟨rfl, o3⟩
  have HO := Lib.hid o3
  have hz : w3.heap[w.heap.size]? = some (.cells #[.int .i64 0, .slice none 0 0, .slice none 0 0, .int .i64 0] 36) := (o3.block w.heap.size (by simp) id).trans (heap_alloc_new w _)
  have hlt3 : w.heap.size < w3.heap.size := by have := o3.size; simp at this; omega
  have hz4 : (w3.alloc (.cells #[.int .i64 0, .int .i64 0, .int .i64 0, .int .i64 0, .int .i64 0, .int .i64 0] 100)).heap[w.heap.size]? = some (.cells #[.int .i64 0, .slice none 0 0, .slice none 0 0, .int .i64 0] 36) := (Below.heap_alloc _ _ _ hlt3).trans hz
  have z0 := cell_of (o := 0) hz4
  have z1 := cell_of (o := 1) hz4
  have z2 := cell_of (o := 2) hz4
  have z3 := cell_of (o := 3) hz4
  have f0 := free_of (o := 0) hz4
  have f1 := free_of (o := 1) hz4
  have f2 := free_of (o := 2) hz4
  have f3 := free_of (o := 3) hz4
  have y0 : (#[Value.int .i64 0, .slice none 0 0, .slice none 0 0, .int .i64 0] : Array Value)[0]? = some (.int .i64 0) := rfl
  have y1 : (#[Value.int .i64 0, .slice none 0 0, .slice none 0 0, .int .i64 0] : Array Value)[1]? = some (.slice none 0 0) := rfl
  have y2 : (#[Value.int .i64 0, .slice none 0 0, .slice none 0 0, .int .i64 0] : Array Value)[2]? = some (.slice none 0 0) := rfl
  have y3 : (#[Value.int .i64 0, .slice none 0 0, .slice none 0 0, .int .i64 0] : Array Value)[3]? = some (.int .i64 0) := rfl
  rw [y0] at z0
  rw [y1] at z1
  rw [y2] at z2
  rw [y3] at z3
  clear o3 hz hz4 y0 y1 y2 y3 hlt3
  go_wp2_with fail
  refine bodyPost_ret (v := .tuple #[header 0 (.slice none 0 0) (.slice none 0 0) 0, .int .i64 c]) ?_ rfl ?_
  · simp [results, Try.results25, go_sem, z0, z1, z2, z3]
  · refine ⟨_, _, rfl, By.empty none 0 (Nat.zero_le _), By.empty none 0 (Nat.zero_le _), ?_⟩
    have B := HO0.out.trans HO.out
    repeat (first | (with_reducible refine numD.only_setNew ?_ (Nat.le_refl _)) | (with_reducible refine Only.alloc ?_ _) | (with_reducible refine Only.drewN ?_ _) | (with_reducible refine Only.drew ?_) | (with_reducible exact B))

end Go.Proofs.Ytcocmabhbahiaaa.pacE
