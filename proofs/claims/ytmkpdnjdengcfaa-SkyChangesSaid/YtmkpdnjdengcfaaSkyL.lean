/- sky: the chapter's example. -/
import Derived.Test.YtmkpdnjdengcfaaSkyK
import Derived.Laws.StructEq
namespace Go.Proofs.Ytmkpdnjdengcfaa.skyL
open Go.RowKit Go.Lib Go.Proofs.Ytmkpdnjdengcfaa.kit Go.Proofs.Ytmkpdnjdengcfaa.floA Go.Proofs.Ytmkpdnjdengcfaa.skyA Go.Proofs.Ytmkpdnjdengcfaa.skyB Go.Proofs.Ytmkpdnjdengcfaa.skyC Go.Proofs.Ytmkpdnjdengcfaa.skyD Go.Proofs.Ytmkpdnjdengcfaa.skyE Go.Proofs.Ytmkpdnjdengcfaa.skyF Go.Proofs.Ytmkpdnjdengcfaa.skyG Go.Proofs.Ytmkpdnjdengcfaa.skyH Go.Proofs.Ytmkpdnjdengcfaa.skyI Go.Proofs.Ytmkpdnjdengcfaa.skyJ Go.Proofs.Ytmkpdnjdengcfaa.skyK
set_option linter.unusedVariables false
set_option linter.unusedSimpArgs false

theorem chg_ex : chg [(0, 0), (10, 0)] 0 0 [⟨1, 0, 20⟩] 20 = [(0, 0), (6, 1)] := by decide +kernel
theorem good_ex : good [(0, 0), (10, 0)] = true := by decide +kernel
theorem route_ex : routeOk 0 0 [⟨1, 0, 20⟩] = true := by decide +kernel

theorem lgs_ex {W : World} {b : Nat} (h : Box3 W b 1 0 20 61) : Lgs W (some ⟨b, 0, none⟩) [⟨1, 0, 20⟩] := by
  refine ⟨by decide, .inr ⟨b, 0, rfl, lt_of h, fun i hi => ?_⟩⟩
  have e : i = 0 := by simp at hi; omega
  subst e
  exact h.cells

theorem pts_ex {W : World} {b : Nat} (h : W.heap[b]? = some (.cells #[.int .i64 0, .int .i64 0, .int .i64 10, .int .i64 0] 23 (0, 0))) : Pts W (some ⟨b, 0, none⟩) [(0, 0), (10, 0)] := by
  refine ⟨by decide, .inr ⟨b, 0, rfl, lt_of h, fun i hi => ?_⟩⟩
  have e : i = 0 ∨ i = 1 := by simp at hi; omega
  rcases e with rfl | rfl
  · exact ⟨cell_of h, cell_of h⟩
  · exact ⟨cell_of h, cell_of h⟩

abbrev A1 (w : World) : World := w.alloc (.cells #[.int .i64 1, .int .i64 0, .int .i64 20] 61)
abbrev A2 (w : World) : World := (A1 w).alloc (.cells #[.int .i64 0, .int .i64 0, .slice (some ⟨w.heap.size, 0, none⟩) 1 1] 26)
abbrev A3 (w : World) : World := (A2 w).alloc (.cells #[.int .i64 0, .int .i64 0, .int .i64 10, .int .i64 0] 23)

theorem ex_call (w : World) : Calls Try.prog 25 #[.slice (some ⟨w.heap.size + 2, 0, none⟩) 2 2, .agg #[.int .i64 0, .int .i64 0, .slice (some ⟨w.heap.size, 0, none⟩) 1 1], .int .i64 20] (A3 w) fun e w' => (∃ b o cap', e = .returned (.tuple #[.slice (some ⟨b, o, none⟩) 2 cap', .int .i64 0]) ∧ Pts w' (some ⟨b, o, none⟩) [(0, 0), (6, 1)]) ∧ Only (fun _ => False) w w' := by
  have s1 : (A1 w).heap.size = w.heap.size + 1 := World.size_alloc _ _
  have s2 : (A2 w).heap.size = w.heap.size + 2 := by rw [A2, World.size_alloc, s1]
  have b1 : Box3 (A1 w) w.heap.size 1 0 20 61 := heap_alloc_new w _
  have o2 : Only (fun _ => False) (A1 w) (A3 w) := ((Only.refl _ _).alloc _).alloc _
  have b2 : (A3 w).heap[w.heap.size + 2]? = some (.cells #[.int .i64 0, .int .i64 0, .int .i64 10, .int .i64 0] 23 (0, 0)) := by
    rw [← s2]
    exact heap_alloc_new (A2 w) _
  have T := changes_good _ 2 [(0, 0), (10, 0)] 0 0 _ 1 [⟨1, 0, 20⟩] 20 (A3 w) (pts_ex b2) (lgs_ex (b1.keep o2)) (by decide) good_ex route_ex (by decide)
  rw [chg_ex] at T
  refine Calls.mono T ?_
  rintro e w' ⟨⟨a', cap', rfl, hp⟩, o⟩
  obtain ⟨b, off, rfl, _⟩ := hp.at (k := 0) (by decide)
  exact ⟨⟨b, off, cap', rfl, hp⟩, ((Only.refl _ w).alloc _).trans (o2.trans o)⟩

theorem awake_true (w : World) : Calls Try.prog 6 #[] w fun e w' => e = .returned (.bool true) ∧ Only (fun _ => False) w w' := by
  have T := Lib.hid (ex_call w)
  have hh := heap_alloc_new (A1 w) (.cells #[.int .i64 0, .int .i64 0, .slice (some ⟨w.heap.size, 0, none⟩) 1 1] 26)
  rw [World.size_alloc] at hh
  have c0 := cell_of (o := 0) hh
  have c1 := cell_of (o := 1) hh
  have c2 := cell_of (o := 2) hh
  clear hh
  go_enter Try.func6, Try.ntmps6
  go_wp2_with fail
  with_reducible refine T.out.mono ?_
  rintro e w' ⟨⟨b, o, cap', rfl, hp⟩, ho⟩
  have O := Lib.hid ho
  obtain ⟨d0, d1⟩ := Pts.cells hp (k := 0) (by decide)
  obtain ⟨d2, d3⟩ := Pts.cells hp (k := 1) (by decide)
  simp only [px, py, List.getD_cons_zero, List.getD_cons_succ, Nat.zero_mul, Nat.one_mul, Nat.add_zero] at d0 d1 d2 d3
  clear ho hp
  go_wp2_with fail
  all_goals
    go_ret
    exact ⟨rfl, O.out⟩
end Go.Proofs.Ytmkpdnjdengcfaa.skyL
