/- SkyChanges' walk: its errors. -/
import Derived.Test.YtmkpdnjdengcfaaSkyZ
import Derived.Test.YtmkpdnjdengcfaaSkyW
namespace Go.Proofs.Ytmkpdnjdengcfaa.skyZa
open Go.RowKit Go.Lib Go.Proofs.Ytmkpdnjdengcfaa.kit Go.Proofs.Ytmkpdnjdengcfaa.floA Go.Proofs.Ytmkpdnjdengcfaa.skyA Go.Proofs.Ytmkpdnjdengcfaa.skyB Go.Proofs.Ytmkpdnjdengcfaa.skyC Go.Proofs.Ytmkpdnjdengcfaa.skyD Go.Proofs.Ytmkpdnjdengcfaa.skyE Go.Proofs.Ytmkpdnjdengcfaa.skyF Go.Proofs.Ytmkpdnjdengcfaa.skyG Go.Proofs.Ytmkpdnjdengcfaa.skyH Go.Proofs.Ytmkpdnjdengcfaa.skyI Go.Proofs.Ytmkpdnjdengcfaa.skyJ Go.Proofs.Ytmkpdnjdengcfaa.skyL Go.Proofs.Ytmkpdnjdengcfaa.skyO Go.Proofs.Ytmkpdnjdengcfaa.skyP Go.Proofs.Ytmkpdnjdengcfaa.skyQ Go.Proofs.Ytmkpdnjdengcfaa.skyR Go.Proofs.Ytmkpdnjdengcfaa.skyS Go.Proofs.Ytmkpdnjdengcfaa.skyT Go.Proofs.Ytmkpdnjdengcfaa.skyU Go.Proofs.Ytmkpdnjdengcfaa.skyV Go.Proofs.Ytmkpdnjdengcfaa.skyX Go.Proofs.Ytmkpdnjdengcfaa.skyZ
set_option linter.unusedVariables false
set_option linter.unusedSimpArgs false

set_option maxRecDepth 100000 in
set_option maxHeartbeats 800000 in
theorem ch_guard (ma : Option Addr) (mcap : Nat) (m : List (Int × Int)) (x y : Int) (a : Option Addr) (cap : Nat) (l : List Leg3) (U : Int) (q : Int) (w : World) (hm : Pts w ma m) (hl : Lgs w a l) (hg : 20 < m.length ∨ 10 < l.length ∨ (200 < U ∧ U ≤ 100000)) :
    Calls Try.prog 5 #[.slice ma m.length mcap, rt x y a l.length cap, .int .i64 U, .int .i64 q] w fun e w' => e = .returned (.bool true) ∧ Only (fun _ => False) w w' := by
  have o1 : Only (fun _ => False) w (w.alloc (.cells #[.int .i64 x, .int .i64 y, .slice a l.length cap] 26)) := (Only.refl _ w).alloc _
  have HB := Lib.hid (show BoxR (w.alloc (.cells #[.int .i64 x, .int .i64 y, .slice a l.length cap] 26)) w.heap.size x y (.slice a l.length cap) from heap_alloc_new w _)
  have HP := Lib.hid (hl.keep o1)
  have HM := Lib.hid (hm.keep o1)
  have O1 := Lib.hid o1
  have A := Lib.hid awake_true
  clear hm hl o1
  have HG := Lib.hid hg
  clear hg
  go_enter Try.func5, Try.ntmps5
  go_wp2_with fail
  generalize w.alloc (.cells #[.int .i64 x, .int .i64 y, .slice a l.length cap] 26) = W1 at HB HP HM O1 ⊢
  generalize w.heap.size = B at HB ⊢
  with_reducible refine (A.out _).mono ?_
  rintro e w2 ⟨rfl, o⟩
  have O := Lib.hid o
  clear o A
  obtain ⟨c0, c1, c2⟩ := (HB.out.keep O.out).cells
  by_cases g1 : 20 < m.length
  · have t1 : ((20 : Int) < (m.length : Int)) = True := eq_true (by omega)
    go_wp2_with fail
    go_ret
    exact ⟨rfl, O1.out.trans O.out⟩
  have t1 : ((20 : Int) < (m.length : Int)) = False := eq_false (by omega)
  by_cases g2 : 10 < l.length
  · have t2 : ((10 : Int) < (l.length : Int)) = True := eq_true (by omega)
    go_wp2_with fail
    go_ret
    exact ⟨rfl, O1.out.trans O.out⟩
  have t2 : ((10 : Int) < (l.length : Int)) = False := eq_false (by omega)
  have t3 : (200 < U) = True := eq_true (by have := HG.out; omega)
  have t4 : (U ≤ 100000) = True := eq_true (by have := HG.out; omega)
  clear g1 g2
  go_wp2_with fail
  go_ret
  exact ⟨rfl, O1.out.trans O.out⟩

set_option maxRecDepth 100000 in
set_option maxHeartbeats 800000 in
theorem ch_bad (ma : Option Addr) (mcap : Nat) (m : List (Int × Int)) (x y : Int) (a : Option Addr) (cap : Nat) (l : List Leg3) (U : Int) (q : Int) (w : World) (hm : Pts w ma m) (hl : Lgs w a l) (hs : m.length ≤ 20 ∧ l.length ≤ 10) (hU : ¬ (200 < U ∧ U ≤ 100000)) (hb : (good m && routeOk x y l) = false) :
    Calls Try.prog 5 #[.slice ma m.length mcap, rt x y a l.length cap, .int .i64 U, .int .i64 q] w fun e w' => e = .returned (.bool true) ∧ Only (fun _ => False) w w' := by
  have o1 : Only (fun _ => False) w (w.alloc (.cells #[.int .i64 x, .int .i64 y, .slice a l.length cap] 26)) := (Only.refl _ w).alloc _
  have HB := Lib.hid (show BoxR (w.alloc (.cells #[.int .i64 x, .int .i64 y, .slice a l.length cap] 26)) w.heap.size x y (.slice a l.length cap) from heap_alloc_new w _)
  have HP := Lib.hid (hl.keep o1)
  have HM := Lib.hid (hm.keep o1)
  have O1 := Lib.hid o1
  have A := Lib.hid awake_true
  clear hm hl o1
  have t1 : ((20 : Int) < (m.length : Int)) = False := eq_false (by omega)
  have t2 : ((10 : Int) < (l.length : Int)) = False := eq_false (by omega)
  have HS := Lib.hid hs
  have HU := Lib.hid hU
  have HBd := Lib.hid hb
  clear hs hU hb
  go_enter Try.func5, Try.ntmps5
  go_wp2_with fail
  generalize w.alloc (.cells #[.int .i64 x, .int .i64 y, .slice a l.length cap] 26) = W1 at HB HP HM O1 ⊢
  generalize w.heap.size = B at HB ⊢
  with_reducible refine (A.out _).mono ?_
  rintro e w2 ⟨rfl, o⟩
  have O := Lib.hid o
  clear o A
  obtain ⟨c0, c1, c2⟩ := (HB.out.keep O.out).cells
  have CH := Lib.hid (changes_form ma mcap m x y a cap l U w2 (HM.out.keep O.out) (by have := HS.out; omega) (HP.out.keep O.out) (by have := HS.out; omega) HBd.out)
  by_cases g : 200 < U
  all_goals
    first
      | (have t3 : (200 < U) = True := eq_true g; have t4 : (U ≤ 100000) = False := eq_false (by have := HU.out; omega))
      | (have t3 : (200 < U) = False := eq_false g)
    clear g
    go_wp2_with fail
    with_reducible refine CH.out.mono ?_
    rintro e w3 ⟨rfl, o⟩
    have O := Lib.hid (O.out.trans o)
    clear o c0 c1 c2 CH
    have PA := Lib.hid (points_any ma mcap m w3 (HM.out.keep O.out) (by have := HS.out; omega))
    go_wp2_with fail
    with_reducible refine PA.out.mono ?_
    rintro e w4 ⟨⟨a2, cap2, rfl, hp2⟩, o⟩
    have HM2 := Lib.hid hp2
    have O := Lib.hid (O.out.trans o)
    clear o hp2 PA
    obtain ⟨c0, c1, c2⟩ := (HB.out.keep O.out).cells
    have LA := Lib.hid (legs_any x y a cap l w4 (HP.out.keep O.out) (by have := HS.out; omega))
    go_wp2_with fail
    with_reducible refine LA.out.mono ?_
    rintro e w5 ⟨⟨a3, cap3, rfl, hl3⟩, o⟩
    have HL3 := Lib.hid hl3
    have O := Lib.hid (O.out.trans o)
    have HM2 := Lib.hid (HM2.out.keep o)
    clear o hl3 LA c0 c1 c2
    obtain ⟨c0, c1, c2⟩ := (HB.out.keep O.out).cells
    have MA := Lib.hid (masts_any a2 cap2 m w5 HM2.out)
    go_wp2_with fail
    cases hg : good m
    · rw [hg] at MA
      with_reducible refine MA.out.mono ?_
      rintro e w6 ⟨rfl, o⟩
      have O := Lib.hid (O.out.trans o)
      have HM2 := Lib.hid (HM2.out.keep o)
      have HL3 := Lib.hid (HL3.out.keep o)
      clear o c0 c1 c2 MA
      obtain ⟨c0, c1, c2⟩ := (HB.out.keep O.out).cells
      go_wp2_with fail
      go_ret
      exact ⟨rfl, O1.out.trans O.out⟩
    · have hr : routeOk x y l = false := by
        have := HBd.out
        rw [hg] at this
        exact this
      rw [hg] at MA
      with_reducible refine MA.out.mono ?_
      rintro e w6 ⟨rfl, o⟩
      have O := Lib.hid (O.out.trans o)
      have HM2 := Lib.hid (HM2.out.keep o)
      have HL3 := Lib.hid (HL3.out.keep o)
      clear o c0 c1 c2 MA
      obtain ⟨c0, c1, c2⟩ := (HB.out.keep O.out).cells
      go_wp2_with fail
      with_reducible refine (of_any x y _).mono ?_
      rintro e w7 ⟨rfl, o⟩
      have O := Lib.hid (O.out.trans o)
      have HM2 := Lib.hid (HM2.out.keep o)
      have HL3 := Lib.hid (HL3.out.keep o)
      clear o c0 c1 c2
      have RR := Lib.hid (refroutes_any x y a3 cap3 l w7 HL3.out (by have := HS.out; omega))
      rw [hr] at RR
      go_wp2_with fail
      with_reducible refine RR.out.mono ?_
      rintro e w8 ⟨rfl, o⟩
      have O := Lib.hid (O.out.trans o)
      have HM2 := Lib.hid (HM2.out.keep o)
      have HL3 := Lib.hid (HL3.out.keep o)
      clear o RR
      go_wp2_with fail
      go_ret
      exact ⟨rfl, O1.out.trans O.out⟩

set_option maxRecDepth 100000 in
set_option maxHeartbeats 800000 in
theorem ch_arg (ma : Option Addr) (mcap : Nat) (m : List (Int × Int)) (x y : Int) (a : Option Addr) (cap : Nat) (l : List Leg3) (U : Int) (q : Int) (w : World) (hm : Pts w ma m) (hl : Lgs w a l) (hs : m.length ≤ 20 ∧ l.length ≤ 10) (hg : good m = true) (hr : routeOk x y l = true) (hU : U < 0 ∨ 100000 < U) :
    Calls Try.prog 5 #[.slice ma m.length mcap, rt x y a l.length cap, .int .i64 U, .int .i64 q] w fun e w' => e = .returned (.bool true) ∧ Only (fun _ => False) w w' := by
  have o1 : Only (fun _ => False) w (w.alloc (.cells #[.int .i64 x, .int .i64 y, .slice a l.length cap] 26)) := (Only.refl _ w).alloc _
  have HB := Lib.hid (show BoxR (w.alloc (.cells #[.int .i64 x, .int .i64 y, .slice a l.length cap] 26)) w.heap.size x y (.slice a l.length cap) from heap_alloc_new w _)
  have HP := Lib.hid (hl.keep o1)
  have HM := Lib.hid (hm.keep o1)
  have O1 := Lib.hid o1
  have A := Lib.hid awake_true
  clear hm hl o1
  have t1 : ((20 : Int) < (m.length : Int)) = False := eq_false (by omega)
  have t2 : ((10 : Int) < (l.length : Int)) = False := eq_false (by omega)
  have HS := Lib.hid hs
  have HU := Lib.hid hU
  have HG := Lib.hid (And.intro hg hr)
  clear hs hU hg hr
  go_enter Try.func5, Try.ntmps5
  go_wp2_with fail
  generalize w.alloc (.cells #[.int .i64 x, .int .i64 y, .slice a l.length cap] 26) = W1 at HB HP HM O1 ⊢
  generalize w.heap.size = B at HB ⊢
  with_reducible refine (A.out _).mono ?_
  rintro e w2 ⟨rfl, o⟩
  have O := Lib.hid o
  clear o A
  obtain ⟨c0, c1, c2⟩ := (HB.out.keep O.out).cells
  have CH := Lib.hid (changes_arg ma mcap m x y a cap l U w2 (HM.out.keep O.out) (HP.out.keep O.out) (by have := HS.out; omega) HG.out.1 HG.out.2 HU.out)
  by_cases g : U < 0
  all_goals
    first
      | (have t3 : (200 < U) = False := eq_false (by omega); have t5 : (U < 0) = True := eq_true g)
      | (have t3 : (200 < U) = True := eq_true (by have := HU.out; omega); have t4 : (U ≤ 100000) = False := eq_false (by have := HU.out; omega); have t5 : (U < 0) = False := eq_false g; have t6 : (100000 < U) = True := eq_true (by have := HU.out; omega))
    clear g
    go_wp2_with fail
    with_reducible refine CH.out.mono ?_
    rintro e w3 ⟨rfl, o⟩
    have O := Lib.hid (O.out.trans o)
    clear o c0 c1 c2 CH
    have PA := Lib.hid (points_any ma mcap m w3 (HM.out.keep O.out) (by have := HS.out; omega))
    go_wp2_with fail
    with_reducible refine PA.out.mono ?_
    rintro e w4 ⟨⟨a2, cap2, rfl, hp2⟩, o⟩
    have HM2 := Lib.hid hp2
    have O := Lib.hid (O.out.trans o)
    clear o hp2 PA
    obtain ⟨c0, c1, c2⟩ := (HB.out.keep O.out).cells
    have LA := Lib.hid (legs_any x y a cap l w4 (HP.out.keep O.out) (by have := HS.out; omega))
    go_wp2_with fail
    with_reducible refine LA.out.mono ?_
    rintro e w5 ⟨⟨a3, cap3, rfl, hl3⟩, o⟩
    have HL3 := Lib.hid hl3
    have O := Lib.hid (O.out.trans o)
    have HM2 := Lib.hid (HM2.out.keep o)
    clear o hl3 LA c0 c1 c2
    obtain ⟨c0, c1, c2⟩ := (HB.out.keep O.out).cells
    have MA := Lib.hid (masts_any a2 cap2 m w5 HM2.out)
    go_wp2_with fail
    rw [HG.out.1] at MA
    with_reducible refine MA.out.mono ?_
    rintro e w6 ⟨rfl, o⟩
    have O := Lib.hid (O.out.trans o)
    have HM2 := Lib.hid (HM2.out.keep o)
    have HL3 := Lib.hid (HL3.out.keep o)
    clear o c0 c1 c2 MA
    obtain ⟨c0, c1, c2⟩ := (HB.out.keep O.out).cells
    go_wp2_with fail
    with_reducible refine (of_any x y _).mono ?_
    rintro e w7 ⟨rfl, o⟩
    have O := Lib.hid (O.out.trans o)
    have HM2 := Lib.hid (HM2.out.keep o)
    have HL3 := Lib.hid (HL3.out.keep o)
    clear o c0 c1 c2
    have RR := Lib.hid (refroutes_any x y a3 cap3 l w7 HL3.out (by have := HS.out; omega))
    rw [HG.out.2] at RR
    go_wp2_with fail
    with_reducible refine RR.out.mono ?_
    rintro e w8 ⟨rfl, o⟩
    have O := Lib.hid (O.out.trans o)
    have HM2 := Lib.hid (HM2.out.keep o)
    have HL3 := Lib.hid (HL3.out.keep o)
    clear o RR
    go_wp2_with fail
    go_ret
    exact ⟨rfl, O1.out.trans O.out⟩
end Go.Proofs.Ytmkpdnjdengcfaa.skyZa
