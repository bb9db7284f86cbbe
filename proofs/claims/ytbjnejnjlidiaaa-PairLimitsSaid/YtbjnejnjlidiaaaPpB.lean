/- Pair: New. -/
import Derived.Test.YtbjnejnjlidiaaaPpA
import Derived.Deep.RegionHeld3
import Derived.Test.YtbjnejnjlidiaaaRgA
import Derived.Deep.DeepCutAuto
namespace Go.Proofs.Ytbjnejnjlidiaaa.ppB
open Go.RowKit kit numA numB numC numD numE tmA tmB tmC tmD tmE trA trB prR prRb prS prW prX tsA wrA wrB wrC wrD wrE winA winB winC winD winH ppA
set_option linter.unusedVariables false
set_option linter.unusedSimpArgs false

/-- What New tells: a pair of its own, with a window of its own. -/
def NewP (w : World) (ks kr : ByteArray) (lo re : Int) (bg : Bool) (made : Int) (e : Ending) (w' : World) : Prop := ∃ B G, e = .returned (.tuple #[.pointer (some ⟨B, 0, none⟩), .int .i64 0]) ∧ PB w' B (pairV ks kr lo re bg made 0 G) ∧ At w' G [] ∧ w.heap.size ≤ B ∧ w.heap.size ≤ G ∧ G ≠ B ∧ Only (fun _ => False) w w'
set_option maxRecDepth 100000 in
theorem new_ok (ks kr : ByteArray) (lo re : Int) (bg : Bool) (now : Int) (w : World) (h1 : (trJ.ndOf ks.data.toList).k ≠ 0) (h2 : (trJ.ndOf kr.data.toList).k ≠ 0) (s1 : ks.size ≤ 10000000) (s2 : kr.size ≤ 10000000) (hn : isTm now = true) : Calls Try.prog 93 #[.agg #[.string ks, .string kr], .int .u32 lo, .int .u32 re, .bool bg, .int .i64 now] w (NewP w ks kr lo re bg now) := by
  have C1 := Lib.hid (fun W => prR.kind_any ks W (by omega))
  have C2 := Lib.hid (fun W => prR.kind_any kr W (by omega))
  have C3 := Lib.hid (fun W => time_any now W)
  rw [hn] at C3
  obtain ⟨k1, hk1⟩ : ∃ k, k = (trJ.ndOf ks.data.toList).k := ⟨_, rfl⟩
  obtain ⟨k2, hk2⟩ : ∃ k, k = (trJ.ndOf kr.data.toList).k := ⟨_, rfl⟩
  rw [← hk1] at C1
  rw [← hk2] at C2
  have z1 : ((k1 : Int) == 0) = false := by rw [beq_eq_false_iff_ne]; omega
  have z2 : ((k2 : Int) == 0) = false := by rw [beq_eq_false_iff_ne]; omega
  have C4 := Lib.hid (fun W => new_at W)
  obtain ⟨X, hX⟩ : ∃ X, X = w.alloc (.cells #[.string ks, .string kr] 92) := ⟨_, rfl⟩
  obtain ⟨A, hA⟩ : ∃ A, A = w.heap.size := ⟨_, rfl⟩
  have O := Lib.hid (show Only (fun _ => False) w X from by rw [hX]; exact (Only.refl _ w).alloc _)
  have HB := Lib.hid (show X.heap[A]? = some (.cells #[.string ks, .string kr] 92 (0, 0)) from by rw [hX, hA]; exact heap_alloc_new w _)
  have HX := Lib.hid hX
  have HAE := Lib.hid hA
  clear hX hA hk1 hk2 h1 h2 s1 s2 hn
  go_enter Try.func93, Try.ntmps93
  go_wp2_with fail
  rw [← HX.out, ← HAE.out]
  have d0 : X.cell? ⟨A, 0, none⟩ = some (.string ks) := cell_of HB.out
  go_wp2_with fail
  (with_reducible refine (C1.out _).mono ?_)
  rintro e w2 ⟨rfl, o⟩
  replace O := Lib.hid (O.out.trans o)
  replace HB := Lib.hid (Only.keep o HB.out id)
  clear o d0
  have d1 : w2.cell? ⟨A, 1, none⟩ = some (.string kr) := cell_of HB.out
  go_wp2_with fail
  (with_reducible refine (C2.out _).mono ?_)
  rintro e w3 ⟨rfl, o⟩
  replace O := Lib.hid (O.out.trans o)
  replace HB := Lib.hid (Only.keep o HB.out id)
  clear o d1
  go_wp2_with fail
  (with_reducible refine (C3.out _).mono ?_)
  rintro e w4 ⟨rfl, o⟩
  replace O := Lib.hid (O.out.trans o)
  replace HB := Lib.hid (Only.keep o HB.out id)
  clear o
  go_upto_region 5 with fail
  have R := Lib.hid ((Only.refl (fun _ => False) w4).drew)
  go_region_held3 (fun w' => w'.cell? ⟨A, 0, none⟩ = some (.string ks) ∧ w'.cell? ⟨A, 1, none⟩ = some (.string kr)) (first | exact ⟨cell_of (Only.keep R.out HB.out id), cell_of (Only.keep R.out HB.out id)⟩ | exact ⟨cell_of (Only.keep (R.out.alloc _) HB.out id), cell_of (Only.keep (R.out.alloc _) HB.out id)⟩)
    (first
      | (go_at_call 151; (with_reducible refine Calls.mono (C4.out _) ?_); rintro e w7 ⟨rfl, hat, o'⟩; have HAT := Lib.hid hat; have HWS := Lib.hid o'; have R := Lib.hid (R.out.trans o'); clear o' hat))
  all_goals
    go_wp2_with fail
    go_ret2
    have e1 := O.out.size
    have e2 := R.out.size
    have e3 : w4.heap.size < w7.heap.size := At.lt HAT.out
    exact ⟨w7.heap.size, w4.heap.size, rfl, heap_alloc_new w7 _, HAT.out.keep ((Only.refl (fun _ => False) w7).alloc _) id, by omega, e1, by omega, (O.out.trans R.out).alloc _⟩


end Go.Proofs.Ytbjnejnjlidiaaa.ppB
