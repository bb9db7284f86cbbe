/- RoamPlans: the law's walk. -/
import Derived.Test.YtklcanjlkmkmmaaRmQ
import Derived.Test.YtklcanjlkmkmmaaRmN
import Derived.Test.YtklcanjlkmkmmaaRmM
import Derived.Test.YtklcanjlkmkmmaaRmF
import Derived.Deep.RegionHeld3
namespace Go.Proofs.Ytklcanjlkmkmmaa.rmS
open Go.RowKit Go.Lib Go.Proofs.Ytklcanjlkmkmmaa.kit Go.Proofs.Ytklcanjlkmkmmaa.floA Go.Proofs.Ytklcanjlkmkmmaa.skyA Go.Proofs.Ytklcanjlkmkmmaa.skyB Go.Proofs.Ytklcanjlkmkmmaa.skyC Go.Proofs.Ytklcanjlkmkmmaa.skyD Go.Proofs.Ytklcanjlkmkmmaa.skyE Go.Proofs.Ytklcanjlkmkmmaa.skyG Go.Proofs.Ytklcanjlkmkmmaa.rmA Go.Proofs.Ytklcanjlkmkmmaa.rmB Go.Proofs.Ytklcanjlkmkmmaa.rmC Go.Proofs.Ytklcanjlkmkmmaa.rmD Go.Proofs.Ytklcanjlkmkmmaa.rmF Go.Proofs.Ytklcanjlkmkmmaa.rmH Go.Proofs.Ytklcanjlkmkmmaa.rmK Go.Proofs.Ytklcanjlkmkmmaa.rmM Go.Proofs.Ytklcanjlkmkmmaa.rmN Go.Proofs.Ytklcanjlkmkmmaa.rmO Go.Proofs.Ytklcanjlkmkmmaa.rmQ
set_option linter.unusedVariables false
set_option linter.unusedSimpArgs false

theorem row_cellsE {E : TypeId} {w : World} {base g n cap : Nat} {l : List Ac} (h : w.ownsRow base E 5 (.slice (some ⟨g, 0, none⟩) n cap) l.length (flatA l)) {k : Nat} (hk : k < l.length) :
    w.cell? ⟨g, k * 5, none⟩ = some (.int .i64 (aa l k).k) ∧ w.cell? ⟨g, k * 5 + 1, none⟩ = some (.int .i64 (aa l k).a) ∧ w.cell? ⟨g, k * 5 + 2, none⟩ = some (.int .i64 (aa l k).n) ∧ w.cell? ⟨g, k * 5 + 3, none⟩ = some (.int .i64 (aa l k).f) ∧ w.cell? ⟨g, k * 5 + 4, none⟩ = some (.slice none 0 0) := by
  have c := fun j u (hj : j < 5) (e : (ac5 (aa l k))[j]? = some u) => h.cells (g := g) rfl (k * 5 + j) u ((flatA_get l k j hk hj).trans e)
  refine ⟨?_, ?_, ?_, ?_, ?_⟩
  · have := c 0 _ (by decide) rfl
    rw [Addr.add_lit, Nat.zero_add] at this
    exact this
  · have := c 1 _ (by decide) rfl
    rw [Addr.add_lit, Nat.zero_add] at this
    exact this
  · have := c 2 _ (by decide) rfl
    rw [Addr.add_lit, Nat.zero_add] at this
    exact this
  · have := c 3 _ (by decide) rfl
    rw [Addr.add_lit, Nat.zero_add] at this
    exact this
  · have := c 4 _ (by decide) rfl
    rw [Addr.add_lit, Nat.zero_add] at this
    exact this

theorem boxA_all {w : World} {B : Nat} {x : Ac} (h : BoxA w B x) : w.cell? ⟨B, 0, none⟩ = some (.int .i64 x.k) ∧ w.cell? ⟨B, 1, none⟩ = some (.int .i64 x.a) ∧ w.cell? ⟨B, 2, none⟩ = some (.int .i64 x.n) ∧ w.cell? ⟨B, 3, none⟩ = some (.int .i64 x.f) ∧ w.cell? ⟨B, 4, none⟩ = some (.slice none 0 0) := ⟨cell_of h, cell_of h, cell_of h, cell_of h, cell_of h⟩

theorem boxA_keep {w w' : World} {B : Nat} {x : Ac} (h : BoxA w B x) (o : Only (fun _ => False) w w') : BoxA w' B x := o.keep h id

def Done (w : World) (e : Ending) (w' : World) : Prop := e = .returned (.bool true) ∧ Only (fun _ => False) w w'

set_option maxRecDepth 100000 in
set_option maxHeartbeats 1600000 in
theorem plans_form (ma : Option Addr) (mcap : Nat) (m : List (Int × Int)) (ra : Option Addr) (rcap : Nat) (rs : List Rt) (U h t : Int) (w : World) (hm : Pts w ma m) (hr : Rts w ra rs) (hcp : ∀ k, k < rs.length → (rr rs k).l.length ≤ (rr rs k).cap) (hU : U ≤ 60 ∨ 1000 < U) (ht : t ≤ 9223372036854775807) (hj : jOk m rs = false) :
    Calls Try.prog 3 #[jn ma m.length mcap ra rs.length rcap, .int .i64 U, .int .i64 h, .int .i64 t] w (Done w) := by
  have o1 : Only (fun _ => False) w (w.alloc (.cells #[.slice ma m.length mcap, .slice ra rs.length rcap] 25)) := (Only.refl _ w).alloc _
  have HB := Lib.hid (show BoxJ (w.alloc (.cells #[.slice ma m.length mcap, .slice ra rs.length rcap] 25)) w.heap.size (.slice ma m.length mcap) (.slice ra rs.length rcap) from heap_alloc_new w _)
  have HR := Lib.hid (hr.keep o1)
  have HM := Lib.hid (hm.keep o1)
  have HC := Lib.hid hcp
  have HU := Lib.hid hU
  have HTt := Lib.hid ht
  have O1 := Lib.hid o1
  have AW := Lib.hid awake_true
  have a12 : (60 < U ∧ U ≤ 1000) = False := eq_false (by omega)
  have A1 : ((60 : Int) < U) = True ∨ ((60 : Int) < U) = False := by
    by_cases q : (60 : Int) < U
    · exact .inl (eq_true q)
    · exact .inr (eq_false q)
  have A2 : ((60 : Int) < U) = True → (U ≤ 1000) = False := fun q => eq_false (by have := of_eq_true q; omega)
  have AA := Lib.hid (And.intro A1 A2)
  clear hm hr hcp hU ht o1 a12 A1 A2
  go_enter Try.func3, Try.ntmps3
  go_wp2_with fail
  generalize w.alloc (.cells #[.slice ma m.length mcap, .slice ra rs.length rcap] 25) = W1 at HB HR HM O1 ⊢
  generalize w.heap.size = B at HB ⊢
  (with_reducible refine (AW.out _).mono ?_)
  rintro e w2 ⟨rfl, hw⟩
  obtain rfl : W1 = w2 := hw.symm
  obtain ⟨c0, c1⟩ := HB.out.cells
  have HV := Lib.hid (heavy_any ma mcap m ra rcap rs W1 HR.out)
  clear AW
  go_wp2_with fail
  (with_reducible refine HV.out.mono ?_)
  rintro e w2 ⟨⟨b, rfl, hb⟩, o⟩
  have O2 := Lib.hid o
  have HBL := Lib.hid hb
  clear o hb c0 c1 HV
  cases b
  rotate_left
  · go_wp2_with fail
    go_ret
    exact ⟨rfl, O1.out.trans O2.out⟩
  obtain ⟨c0, c1⟩ := (HB.out.keep O2.out).cells
  have LT := Lib.hid (HBL.out rfl)
  have AS := Lib.hid (as_any ma mcap m ra rcap rs w2 (HM.out.keep O2.out) LT.out.1 (HR.out.keep O2.out) LT.out.2.1 LT.out.2.2)
  clear HBL
  obtain ⟨A1, A2⟩ := AA.out
  rcases A1 with a1 | a1
  rotate_left
  all_goals (first | have a2 := A2 a1 | skip)
  all_goals clear A2 AA
  all_goals go_wp2_with fail
  all_goals
    (with_reducible refine AS.out.mono ?_)
    rintro e w3 ⟨⟨ma', mcap', ra', rcap', rs', rfl, hm', hr', lk⟩, o⟩
    have hlen := lk.len
    have O3 := Lib.hid (O2.out.trans o)
    have L3 := Lib.hid (And.intro (show m.length ≤ 1000 by have := LT.out.1; omega) (And.intro (show rs.length ≤ 1000 by have := LT.out.2.1; omega) (show ∀ k, k < rs.length → (rr rs k).l.length ≤ 1000 from fun k hk => by have := LT.out.2.2 k hk; omega)))
    have L3' := Lib.hid (And.intro (show rs'.length ≤ 1000 by rw [hlen]; exact L3.out.2.1) (show ∀ k, k < rs'.length → (rr rs' k).l.length ≤ 1000 from fun k hk => by rw [(lk.all k).2.2]; exact L3.out.2.2 k (hlen ▸ hk)))
    have HM' := Lib.hid hm'
    have HR' := Lib.hid hr'
    have LK := Lib.hid lk
    have HLN := Lib.hid hlen
    have RR := Lib.hid (refjright_any ma' mcap' m ra' rcap' rs' w3 hm' hr' L3'.out.1 L3'.out.2)
    rw [lk.jOk m] at RR
    clear hm' hr' lk o AS c0 c1 hlen
    go_wp2_with fail
    (with_reducible refine RR.out.mono ?_)
    rintro e w4 ⟨rfl, o⟩
    have O4 := Lib.hid (O3.out.trans o)
    have o34 := o
    clear RR
    obtain ⟨c0, c1⟩ := (HB.out.keep O4.out).cells
    have HM4 := Lib.hid (HM'.out.keep o)
    have HR4 := Lib.hid (HR'.out.keep o)
    clear o o34
    have HJ := Lib.hid hj
    have PP := Lib.hid (plan_form ma mcap m ra rcap rs U w4 (HM.out.keep O4.out) L3.out.1 (HR.out.keep O4.out) L3.out.2.1 L3.out.2.2 HJ.out)
    go_wp2_with fail
    (with_reducible refine PP.out.mono ?_)
    rintro e w5 ⟨rfl, o⟩
    have O5 := Lib.hid (O4.out.trans o)
    have HM5 := Lib.hid (HM4.out.keep o)
    have HR5 := Lib.hid (HR4.out.keep o)
    clear o c0 c1 PP
    obtain ⟨c0, c1⟩ := (HB.out.keep O5.out).cells
    have PM := Lib.hid (moves_bad ma mcap m ra rcap rs U 3 w5 fun W o => plan_form ma mcap m ra rcap rs U W ((HM.out.keep O5.out).keep o) L3.out.1 ((HR.out.keep O5.out).keep o) L3.out.2.1 L3.out.2.2 HJ.out)
    go_wp2_with fail
    (with_reducible refine PM.out.mono ?_)
    rintro e w6 ⟨rfl, o⟩
    have O6 := Lib.hid (O5.out.trans o)
    have HM6 := Lib.hid (HM5.out.keep o)
    have HR6 := Lib.hid (HR5.out.keep o)
    clear o c0 c1 PM
    obtain ⟨c0, c1⟩ := (HB.out.keep O6.out).cells
    have PA := Lib.hid (jat_form ma mcap m ra rcap rs h t w6 (HM.out.keep O6.out) L3.out.1 (HR.out.keep O6.out) L3.out.2.1 L3.out.2.2 HJ.out)
    go_wp2_with fail
    (with_reducible refine PA.out.mono ?_)
    rintro e w7 ⟨rfl, o⟩
    have O7 := Lib.hid (O6.out.trans o)
    have HM7 := Lib.hid (HM6.out.keep o)
    have HR7 := Lib.hid (HR6.out.keep o)
    clear o c0 c1 PA
    obtain ⟨c0, c1⟩ := (HB.out.keep O7.out).cells
    have PR := Lib.hid (jright_any ma mcap m ra rcap rs w7 (HM.out.keep O7.out) L3.out.1 (HR.out.keep O7.out) L3.out.2.1 L3.out.2.2)
    go_wp2_with fail
    (with_reducible refine PR.out.mono ?_)
    rintro e w8 ⟨rfl, o⟩
    have O8 := Lib.hid (O7.out.trans o)
    have HM8 := Lib.hid (HM7.out.keep o)
    have HR8 := Lib.hid (HR7.out.keep o)
    clear o c0 c1 PR
    obtain ⟨c0, c1⟩ := (HB.out.keep O8.out).cells
    have hj := HJ.out
    go_wp2_with fail
    go_ret
    exact ⟨by simp, O1.out.trans O8.out⟩
set_option maxRecDepth 100000 in
set_option maxHeartbeats 1600000 in
theorem plans_mid (ma : Option Addr) (mcap : Nat) (m : List (Int × Int)) (ra : Option Addr) (rcap : Nat) (rs : List Rt) (U h t : Int) (w : World) (hm : Pts w ma m) (hr : Rts w ra rs) (hcp : ∀ k, k < rs.length → (rr rs k).l.length ≤ (rr rs k).cap) (hU : 60 < U ∧ U ≤ 1000) (ht : t ≤ 9223372036854775807) :
    Calls Try.prog 3 #[jn ma m.length mcap ra rs.length rcap, .int .i64 U, .int .i64 h, .int .i64 t] w (Done w) := by
  have o1 : Only (fun _ => False) w (w.alloc (.cells #[.slice ma m.length mcap, .slice ra rs.length rcap] 25)) := (Only.refl _ w).alloc _
  have HB := Lib.hid (show BoxJ (w.alloc (.cells #[.slice ma m.length mcap, .slice ra rs.length rcap] 25)) w.heap.size (.slice ma m.length mcap) (.slice ra rs.length rcap) from heap_alloc_new w _)
  have HR := Lib.hid (hr.keep o1)
  have HM := Lib.hid (hm.keep o1)
  have HC := Lib.hid hcp
  have HU := Lib.hid hU
  have HTt := Lib.hid ht
  have O1 := Lib.hid o1
  have AW := Lib.hid awake_true
  have a1 : ((60 : Int) < U) = True := eq_true hU.1
  have a2 : (U ≤ 1000) = True := eq_true hU.2
  clear hm hr hcp hU ht o1
  go_enter Try.func3, Try.ntmps3
  go_wp2_with fail
  generalize w.alloc (.cells #[.slice ma m.length mcap, .slice ra rs.length rcap] 25) = W1 at HB HR HM O1 ⊢
  generalize w.heap.size = B at HB ⊢
  (with_reducible refine (AW.out _).mono ?_)
  rintro e w2 ⟨rfl, hw⟩
  obtain rfl : W1 = w2 := hw.symm
  obtain ⟨c0, c1⟩ := HB.out.cells
  have HV := Lib.hid (heavy_any ma mcap m ra rcap rs W1 HR.out)
  clear AW
  go_wp2_with fail
  (with_reducible refine HV.out.mono ?_)
  rintro e w2 ⟨⟨b, rfl, hb⟩, o⟩
  have O2 := Lib.hid o
  have HBL := Lib.hid hb
  clear o hb c0 c1 HV
  cases b
  all_goals
    go_wp2_with fail
    go_ret
    exact ⟨rfl, O1.out.trans O2.out⟩
set_option maxRecDepth 100000 in
set_option maxHeartbeats 1600000 in
theorem plans_none_arg (ma : Option Addr) (mcap : Nat) (m : List (Int × Int)) (ra : Option Addr) (rcap : Nat) (rs : List Rt) (U h t : Int) (w : World) (hm : Pts w ma m) (hr : Rts w ra rs) (hcp : ∀ k, k < rs.length → (rr rs k).l.length ≤ (rr rs k).cap) (hU : U ≤ 60 ∨ 1000 < U) (ht : t ≤ 9223372036854775807) (hj : jOk m rs = true) (hh : h < 0 ∨ (rs.length : Int) ≤ h) (hu : U < 0 ∨ 1000 < U) :
    Calls Try.prog 3 #[jn ma m.length mcap ra rs.length rcap, .int .i64 U, .int .i64 h, .int .i64 t] w (Done w) := by
  have o1 : Only (fun _ => False) w (w.alloc (.cells #[.slice ma m.length mcap, .slice ra rs.length rcap] 25)) := (Only.refl _ w).alloc _
  have HB := Lib.hid (show BoxJ (w.alloc (.cells #[.slice ma m.length mcap, .slice ra rs.length rcap] 25)) w.heap.size (.slice ma m.length mcap) (.slice ra rs.length rcap) from heap_alloc_new w _)
  have HR := Lib.hid (hr.keep o1)
  have HM := Lib.hid (hm.keep o1)
  have HC := Lib.hid hcp
  have HU := Lib.hid hU
  have HTt := Lib.hid ht
  have O1 := Lib.hid o1
  have AW := Lib.hid awake_true
  have a12 : (60 < U ∧ U ≤ 1000) = False := eq_false (by omega)
  have A1 : ((60 : Int) < U) = True ∨ ((60 : Int) < U) = False := by
    by_cases q : (60 : Int) < U
    · exact .inl (eq_true q)
    · exact .inr (eq_false q)
  have A2 : ((60 : Int) < U) = True → (U ≤ 1000) = False := fun q => eq_false (by have := of_eq_true q; omega)
  have AA := Lib.hid (And.intro A1 A2)
  clear hm hr hcp hU ht o1 a12 A1 A2
  have HJ := Lib.hid hj
  have HH := Lib.hid hh
  have HUU := Lib.hid hu
  clear hj hh hu
  go_enter Try.func3, Try.ntmps3
  go_wp2_with fail
  generalize w.alloc (.cells #[.slice ma m.length mcap, .slice ra rs.length rcap] 25) = W1 at HB HR HM O1 ⊢
  generalize w.heap.size = B at HB ⊢
  (with_reducible refine (AW.out _).mono ?_)
  rintro e w2 ⟨rfl, hw⟩
  obtain rfl : W1 = w2 := hw.symm
  obtain ⟨c0, c1⟩ := HB.out.cells
  have HV := Lib.hid (heavy_any ma mcap m ra rcap rs W1 HR.out)
  clear AW
  go_wp2_with fail
  (with_reducible refine HV.out.mono ?_)
  rintro e w2 ⟨⟨b, rfl, hb⟩, o⟩
  have O2 := Lib.hid o
  have HBL := Lib.hid hb
  clear o hb c0 c1 HV
  cases b
  rotate_left
  · go_wp2_with fail
    go_ret
    exact ⟨rfl, O1.out.trans O2.out⟩
  obtain ⟨c0, c1⟩ := (HB.out.keep O2.out).cells
  have LT := Lib.hid (HBL.out rfl)
  have AS := Lib.hid (as_any ma mcap m ra rcap rs w2 (HM.out.keep O2.out) LT.out.1 (HR.out.keep O2.out) LT.out.2.1 LT.out.2.2)
  clear HBL
  obtain ⟨A1, A2⟩ := AA.out
  rcases A1 with a1 | a1
  rotate_left
  all_goals (first | have a2 := A2 a1 | skip)
  all_goals clear A2 AA
  all_goals go_wp2_with fail
  all_goals
    (with_reducible refine AS.out.mono ?_)
    rintro e w3 ⟨⟨ma', mcap', ra', rcap', rs', rfl, hm', hr', lk⟩, o⟩
    have hlen := lk.len
    have O3 := Lib.hid (O2.out.trans o)
    have L3 := Lib.hid (And.intro (show m.length ≤ 1000 by have := LT.out.1; omega) (And.intro (show rs.length ≤ 1000 by have := LT.out.2.1; omega) (show ∀ k, k < rs.length → (rr rs k).l.length ≤ 1000 from fun k hk => by have := LT.out.2.2 k hk; omega)))
    have L3' := Lib.hid (And.intro (show rs'.length ≤ 1000 by rw [hlen]; exact L3.out.2.1) (show ∀ k, k < rs'.length → (rr rs' k).l.length ≤ 1000 from fun k hk => by rw [(lk.all k).2.2]; exact L3.out.2.2 k (hlen ▸ hk)))
    have HM' := Lib.hid hm'
    have HR' := Lib.hid hr'
    have LK := Lib.hid lk
    have HLN := Lib.hid hlen
    have RR := Lib.hid (refjright_any ma' mcap' m ra' rcap' rs' w3 hm' hr' L3'.out.1 L3'.out.2)
    rw [lk.jOk m] at RR
    clear hm' hr' lk o AS c0 c1 hlen
    go_wp2_with fail
    (with_reducible refine RR.out.mono ?_)
    rintro e w4 ⟨rfl, o⟩
    have O4 := Lib.hid (O3.out.trans o)
    have o34 := o
    clear RR
    obtain ⟨c0, c1⟩ := (HB.out.keep O4.out).cells
    have HM4 := Lib.hid (HM'.out.keep o)
    have HR4 := Lib.hid (HR'.out.keep o)
    clear o o34
    have PP := Lib.hid (plan_arg ma mcap m ra rcap rs U w4 (HM.out.keep O4.out) L3.out.1 (HR.out.keep O4.out) L3.out.2.1 L3.out.2.2 HJ.out HUU.out)
    go_wp2_with fail
    (with_reducible refine PP.out.mono ?_)
    rintro e w5 ⟨rfl, o⟩
    have O5 := Lib.hid (O4.out.trans o)
    have HM5 := Lib.hid (HM4.out.keep o)
    have HR5 := Lib.hid (HR4.out.keep o)
    clear o c0 c1 PP
    obtain ⟨c0, c1⟩ := (HB.out.keep O5.out).cells
    have PM := Lib.hid (moves_bad ma mcap m ra rcap rs U 2 w5 fun W o => plan_arg ma mcap m ra rcap rs U W ((HM.out.keep O5.out).keep o) L3.out.1 ((HR.out.keep O5.out).keep o) L3.out.2.1 L3.out.2.2 HJ.out HUU.out)
    go_wp2_with fail
    (with_reducible refine PM.out.mono ?_)
    rintro e w6 ⟨rfl, o⟩
    have O6 := Lib.hid (O5.out.trans o)
    have HM6 := Lib.hid (HM5.out.keep o)
    have HR6 := Lib.hid (HR5.out.keep o)
    clear o c0 c1 PM
    obtain ⟨c0, c1⟩ := (HB.out.keep O6.out).cells
    have PA := Lib.hid (jat_none ma mcap m ra rcap rs h t w6 (HM.out.keep O6.out) L3.out.1 (HR.out.keep O6.out) L3.out.2.1 L3.out.2.2 HJ.out HH.out)
    go_wp2_with fail
    (with_reducible refine PA.out.mono ?_)
    rintro e w7 ⟨rfl, o⟩
    have O7 := Lib.hid (O6.out.trans o)
    have HM7 := Lib.hid (HM6.out.keep o)
    have HR7 := Lib.hid (HR6.out.keep o)
    clear o c0 c1 PA
    obtain ⟨c0, c1⟩ := (HB.out.keep O7.out).cells
    have PR := Lib.hid (jright_any ma mcap m ra rcap rs w7 (HM.out.keep O7.out) L3.out.1 (HR.out.keep O7.out) L3.out.2.1 L3.out.2.2)
    go_wp2_with fail
    (with_reducible refine PR.out.mono ?_)
    rintro e w8 ⟨rfl, o⟩
    have O8 := Lib.hid (O7.out.trans o)
    have HM8 := Lib.hid (HM7.out.keep o)
    have HR8 := Lib.hid (HR7.out.keep o)
    clear o c0 c1 PR
    obtain ⟨c0, c1⟩ := (HB.out.keep O8.out).cells
    have hj := HJ.out
    have hl' : (rs'.length : Int) = (rs.length : Int) := by rw [HLN.out]
    have hc : (h < 0) = True ∨ ((h < 0) = False ∧ ((rs.length : Int) ≤ h) = True) := by
      by_cases q : h < 0
      · exact .inl (eq_true q)
      · exact .inr ⟨eq_false q, eq_true (by have := HH.out; omega)⟩
    have uc : (U < 0) = True ∨ ((U < 0) = False ∧ ((1000 : Int) < U) = True) := by
      by_cases q : U < 0
      · exact .inl (eq_true q)
      · exact .inr ⟨eq_false q, eq_true (by have := HUU.out; omega)⟩
    rcases hc with hc | ⟨hc, hc2⟩
    all_goals rcases uc with uc | ⟨uc, uc2⟩
    all_goals go_wp2_with fail
    all_goals go_ret
    all_goals exact ⟨by simp, O1.out.trans O8.out⟩
set_option maxRecDepth 100000 in
set_option maxHeartbeats 1600000 in
theorem plans_arg_arg (ma : Option Addr) (mcap : Nat) (m : List (Int × Int)) (ra : Option Addr) (rcap : Nat) (rs : List Rt) (U h t : Int) (w : World) (hm : Pts w ma m) (hr : Rts w ra rs) (hcp : ∀ k, k < rs.length → (rr rs k).l.length ≤ (rr rs k).cap) (hU : U ≤ 60 ∨ 1000 < U) (ht : t ≤ 9223372036854775807) (hj : jOk m rs = true) (n : Nat) (hn : h = n) (hh : n < rs.length) (h0 : t < 0) (hu : U < 0 ∨ 1000 < U) :
    Calls Try.prog 3 #[jn ma m.length mcap ra rs.length rcap, .int .i64 U, .int .i64 h, .int .i64 t] w (Done w) := by
  have o1 : Only (fun _ => False) w (w.alloc (.cells #[.slice ma m.length mcap, .slice ra rs.length rcap] 25)) := (Only.refl _ w).alloc _
  have HB := Lib.hid (show BoxJ (w.alloc (.cells #[.slice ma m.length mcap, .slice ra rs.length rcap] 25)) w.heap.size (.slice ma m.length mcap) (.slice ra rs.length rcap) from heap_alloc_new w _)
  have HR := Lib.hid (hr.keep o1)
  have HM := Lib.hid (hm.keep o1)
  have HC := Lib.hid hcp
  have HU := Lib.hid hU
  have HTt := Lib.hid ht
  have O1 := Lib.hid o1
  have AW := Lib.hid awake_true
  have a12 : (60 < U ∧ U ≤ 1000) = False := eq_false (by omega)
  have A1 : ((60 : Int) < U) = True ∨ ((60 : Int) < U) = False := by
    by_cases q : (60 : Int) < U
    · exact .inl (eq_true q)
    · exact .inr (eq_false q)
  have A2 : ((60 : Int) < U) = True → (U ≤ 1000) = False := fun q => eq_false (by have := of_eq_true q; omega)
  have AA := Lib.hid (And.intro A1 A2)
  clear hm hr hcp hU ht o1 a12 A1 A2
  have HJ := Lib.hid hj
  have HH := Lib.hid hh
  have HUU := Lib.hid hu
  subst hn
  have HT := Lib.hid h0
  clear h0
  clear hj hh hu
  go_enter Try.func3, Try.ntmps3
  go_wp2_with fail
  generalize w.alloc (.cells #[.slice ma m.length mcap, .slice ra rs.length rcap] 25) = W1 at HB HR HM O1 ⊢
  generalize w.heap.size = B at HB ⊢
  (with_reducible refine (AW.out _).mono ?_)
  rintro e w2 ⟨rfl, hw⟩
  obtain rfl : W1 = w2 := hw.symm
  obtain ⟨c0, c1⟩ := HB.out.cells
  have HV := Lib.hid (heavy_any ma mcap m ra rcap rs W1 HR.out)
  clear AW
  go_wp2_with fail
  (with_reducible refine HV.out.mono ?_)
  rintro e w2 ⟨⟨b, rfl, hb⟩, o⟩
  have O2 := Lib.hid o
  have HBL := Lib.hid hb
  clear o hb c0 c1 HV
  cases b
  rotate_left
  · go_wp2_with fail
    go_ret
    exact ⟨rfl, O1.out.trans O2.out⟩
  obtain ⟨c0, c1⟩ := (HB.out.keep O2.out).cells
  have LT := Lib.hid (HBL.out rfl)
  have AS := Lib.hid (as_any ma mcap m ra rcap rs w2 (HM.out.keep O2.out) LT.out.1 (HR.out.keep O2.out) LT.out.2.1 LT.out.2.2)
  clear HBL
  obtain ⟨A1, A2⟩ := AA.out
  rcases A1 with a1 | a1
  rotate_left
  all_goals (first | have a2 := A2 a1 | skip)
  all_goals clear A2 AA
  all_goals go_wp2_with fail
  all_goals
    (with_reducible refine AS.out.mono ?_)
    rintro e w3 ⟨⟨ma', mcap', ra', rcap', rs', rfl, hm', hr', lk⟩, o⟩
    have hlen := lk.len
    have O3 := Lib.hid (O2.out.trans o)
    have L3 := Lib.hid (And.intro (show m.length ≤ 1000 by have := LT.out.1; omega) (And.intro (show rs.length ≤ 1000 by have := LT.out.2.1; omega) (show ∀ k, k < rs.length → (rr rs k).l.length ≤ 1000 from fun k hk => by have := LT.out.2.2 k hk; omega)))
    have L3' := Lib.hid (And.intro (show rs'.length ≤ 1000 by rw [hlen]; exact L3.out.2.1) (show ∀ k, k < rs'.length → (rr rs' k).l.length ≤ 1000 from fun k hk => by rw [(lk.all k).2.2]; exact L3.out.2.2 k (hlen ▸ hk)))
    have HM' := Lib.hid hm'
    have HR' := Lib.hid hr'
    have LK := Lib.hid lk
    have HLN := Lib.hid hlen
    have RR := Lib.hid (refjright_any ma' mcap' m ra' rcap' rs' w3 hm' hr' L3'.out.1 L3'.out.2)
    rw [lk.jOk m] at RR
    clear hm' hr' lk o AS c0 c1 hlen
    go_wp2_with fail
    (with_reducible refine RR.out.mono ?_)
    rintro e w4 ⟨rfl, o⟩
    have O4 := Lib.hid (O3.out.trans o)
    have o34 := o
    clear RR
    obtain ⟨c0, c1⟩ := (HB.out.keep O4.out).cells
    have HM4 := Lib.hid (HM'.out.keep o)
    have HR4 := Lib.hid (HR'.out.keep o)
    clear o o34
    have PP := Lib.hid (plan_arg ma mcap m ra rcap rs U w4 (HM.out.keep O4.out) L3.out.1 (HR.out.keep O4.out) L3.out.2.1 L3.out.2.2 HJ.out HUU.out)
    go_wp2_with fail
    (with_reducible refine PP.out.mono ?_)
    rintro e w5 ⟨rfl, o⟩
    have O5 := Lib.hid (O4.out.trans o)
    have HM5 := Lib.hid (HM4.out.keep o)
    have HR5 := Lib.hid (HR4.out.keep o)
    clear o c0 c1 PP
    obtain ⟨c0, c1⟩ := (HB.out.keep O5.out).cells
    have PM := Lib.hid (moves_bad ma mcap m ra rcap rs U 2 w5 fun W o => plan_arg ma mcap m ra rcap rs U W ((HM.out.keep O5.out).keep o) L3.out.1 ((HR.out.keep O5.out).keep o) L3.out.2.1 L3.out.2.2 HJ.out HUU.out)
    go_wp2_with fail
    (with_reducible refine PM.out.mono ?_)
    rintro e w6 ⟨rfl, o⟩
    have O6 := Lib.hid (O5.out.trans o)
    have HM6 := Lib.hid (HM5.out.keep o)
    have HR6 := Lib.hid (HR5.out.keep o)
    clear o c0 c1 PM
    obtain ⟨c0, c1⟩ := (HB.out.keep O6.out).cells
    have PA := Lib.hid (jat_arg ma mcap m ra rcap rs n t w6 (HM.out.keep O6.out) L3.out.1 (HR.out.keep O6.out) L3.out.2.1 L3.out.2.2 HJ.out HH.out HT.out)
    go_wp2_with fail
    (with_reducible refine PA.out.mono ?_)
    rintro e w7 ⟨rfl, o⟩
    have O7 := Lib.hid (O6.out.trans o)
    have HM7 := Lib.hid (HM6.out.keep o)
    have HR7 := Lib.hid (HR6.out.keep o)
    clear o c0 c1 PA
    obtain ⟨c0, c1⟩ := (HB.out.keep O7.out).cells
    have PR := Lib.hid (jright_any ma mcap m ra rcap rs w7 (HM.out.keep O7.out) L3.out.1 (HR.out.keep O7.out) L3.out.2.1 L3.out.2.2)
    go_wp2_with fail
    (with_reducible refine PR.out.mono ?_)
    rintro e w8 ⟨rfl, o⟩
    have O8 := Lib.hid (O7.out.trans o)
    have HM8 := Lib.hid (HM7.out.keep o)
    have HR8 := Lib.hid (HR7.out.keep o)
    clear o c0 c1 PR
    obtain ⟨c0, c1⟩ := (HB.out.keep O8.out).cells
    have hj := HJ.out
    have hl' : (rs'.length : Int) = (rs.length : Int) := by rw [HLN.out]
    have nn : (0 : Int) ≤ (n : Int) := by omega
    have nn2 : ((rs.length : Int) ≤ (n : Int)) = False := eq_false (by have := HH.out; omega)
    have n0 : ((n : Int) < 0) = False := eq_false (by omega)
    have tt : (t < 0) = True := eq_true HT.out
    have uc : (U < 0) = True ∨ ((U < 0) = False ∧ ((1000 : Int) < U) = True) := by
      by_cases q : U < 0
      · exact .inl (eq_true q)
      · exact .inr ⟨eq_false q, eq_true (by have := HUU.out; omega)⟩
    rcases uc with uc | ⟨uc, uc2⟩
    all_goals go_wp2_with fail
    all_goals go_ret
    all_goals exact ⟨by simp, O1.out.trans O8.out⟩
set_option maxRecDepth 100000 in
set_option maxHeartbeats 1600000 in
theorem plans_good_arg (ma : Option Addr) (mcap : Nat) (m : List (Int × Int)) (ra : Option Addr) (rcap : Nat) (rs : List Rt) (U h t : Int) (w : World) (hm : Pts w ma m) (hr : Rts w ra rs) (hcp : ∀ k, k < rs.length → (rr rs k).l.length ≤ (rr rs k).cap) (hU : U ≤ 60 ∨ 1000 < U) (ht : t ≤ 9223372036854775807) (hj : jOk m rs = true) (n : Nat) (hn : h = n) (hh : n < rs.length) (h0 : 0 ≤ t) (hu : U < 0 ∨ 1000 < U) :
    Calls Try.prog 3 #[jn ma m.length mcap ra rs.length rcap, .int .i64 U, .int .i64 h, .int .i64 t] w (Done w) := by
  have o1 : Only (fun _ => False) w (w.alloc (.cells #[.slice ma m.length mcap, .slice ra rs.length rcap] 25)) := (Only.refl _ w).alloc _
  have HB := Lib.hid (show BoxJ (w.alloc (.cells #[.slice ma m.length mcap, .slice ra rs.length rcap] 25)) w.heap.size (.slice ma m.length mcap) (.slice ra rs.length rcap) from heap_alloc_new w _)
  have HR := Lib.hid (hr.keep o1)
  have HM := Lib.hid (hm.keep o1)
  have HC := Lib.hid hcp
  have HU := Lib.hid hU
  have HTt := Lib.hid ht
  have O1 := Lib.hid o1
  have AW := Lib.hid awake_true
  have a12 : (60 < U ∧ U ≤ 1000) = False := eq_false (by omega)
  have A1 : ((60 : Int) < U) = True ∨ ((60 : Int) < U) = False := by
    by_cases q : (60 : Int) < U
    · exact .inl (eq_true q)
    · exact .inr (eq_false q)
  have A2 : ((60 : Int) < U) = True → (U ≤ 1000) = False := fun q => eq_false (by have := of_eq_true q; omega)
  have AA := Lib.hid (And.intro A1 A2)
  clear hm hr hcp hU ht o1 a12 A1 A2
  have HJ := Lib.hid hj
  have HH := Lib.hid hh
  have HUU := Lib.hid hu
  subst hn
  have HT := Lib.hid h0
  clear h0
  clear hj hh hu
  go_enter Try.func3, Try.ntmps3
  go_wp2_with fail
  generalize w.alloc (.cells #[.slice ma m.length mcap, .slice ra rs.length rcap] 25) = W1 at HB HR HM O1 ⊢
  generalize w.heap.size = B at HB ⊢
  (with_reducible refine (AW.out _).mono ?_)
  rintro e w2 ⟨rfl, hw⟩
  obtain rfl : W1 = w2 := hw.symm
  obtain ⟨c0, c1⟩ := HB.out.cells
  have HV := Lib.hid (heavy_any ma mcap m ra rcap rs W1 HR.out)
  clear AW
  go_wp2_with fail
  (with_reducible refine HV.out.mono ?_)
  rintro e w2 ⟨⟨b, rfl, hb⟩, o⟩
  have O2 := Lib.hid o
  have HBL := Lib.hid hb
  clear o hb c0 c1 HV
  cases b
  rotate_left
  · go_wp2_with fail
    go_ret
    exact ⟨rfl, O1.out.trans O2.out⟩
  obtain ⟨c0, c1⟩ := (HB.out.keep O2.out).cells
  have LT := Lib.hid (HBL.out rfl)
  have AS := Lib.hid (as_any ma mcap m ra rcap rs w2 (HM.out.keep O2.out) LT.out.1 (HR.out.keep O2.out) LT.out.2.1 LT.out.2.2)
  clear HBL
  obtain ⟨A1, A2⟩ := AA.out
  rcases A1 with a1 | a1
  rotate_left
  all_goals (first | have a2 := A2 a1 | skip)
  all_goals clear A2 AA
  all_goals go_wp2_with fail
  all_goals
    (with_reducible refine AS.out.mono ?_)
    rintro e w3 ⟨⟨ma', mcap', ra', rcap', rs', rfl, hm', hr', lk⟩, o⟩
    have hlen := lk.len
    have O3 := Lib.hid (O2.out.trans o)
    have L3 := Lib.hid (And.intro (show m.length ≤ 1000 by have := LT.out.1; omega) (And.intro (show rs.length ≤ 1000 by have := LT.out.2.1; omega) (show ∀ k, k < rs.length → (rr rs k).l.length ≤ 1000 from fun k hk => by have := LT.out.2.2 k hk; omega)))
    have L3' := Lib.hid (And.intro (show rs'.length ≤ 1000 by rw [hlen]; exact L3.out.2.1) (show ∀ k, k < rs'.length → (rr rs' k).l.length ≤ 1000 from fun k hk => by rw [(lk.all k).2.2]; exact L3.out.2.2 k (hlen ▸ hk)))
    have HM' := Lib.hid hm'
    have HR' := Lib.hid hr'
    have LK := Lib.hid lk
    have HLN := Lib.hid hlen
    have RR := Lib.hid (refjright_any ma' mcap' m ra' rcap' rs' w3 hm' hr' L3'.out.1 L3'.out.2)
    rw [lk.jOk m] at RR
    clear hm' hr' lk o AS c0 c1 hlen
    go_wp2_with fail
    (with_reducible refine RR.out.mono ?_)
    rintro e w4 ⟨rfl, o⟩
    have O4 := Lib.hid (O3.out.trans o)
    have o34 := o
    clear RR
    obtain ⟨c0, c1⟩ := (HB.out.keep O4.out).cells
    have HM4 := Lib.hid (HM'.out.keep o)
    have HR4 := Lib.hid (HR'.out.keep o)
    clear o o34
    have PP := Lib.hid (plan_arg ma mcap m ra rcap rs U w4 (HM.out.keep O4.out) L3.out.1 (HR.out.keep O4.out) L3.out.2.1 L3.out.2.2 HJ.out HUU.out)
    go_wp2_with fail
    (with_reducible refine PP.out.mono ?_)
    rintro e w5 ⟨rfl, o⟩
    have O5 := Lib.hid (O4.out.trans o)
    have HM5 := Lib.hid (HM4.out.keep o)
    have HR5 := Lib.hid (HR4.out.keep o)
    clear o c0 c1 PP
    obtain ⟨c0, c1⟩ := (HB.out.keep O5.out).cells
    have PM := Lib.hid (moves_bad ma mcap m ra rcap rs U 2 w5 fun W o => plan_arg ma mcap m ra rcap rs U W ((HM.out.keep O5.out).keep o) L3.out.1 ((HR.out.keep O5.out).keep o) L3.out.2.1 L3.out.2.2 HJ.out HUU.out)
    go_wp2_with fail
    (with_reducible refine PM.out.mono ?_)
    rintro e w6 ⟨rfl, o⟩
    have O6 := Lib.hid (O5.out.trans o)
    have HM6 := Lib.hid (HM5.out.keep o)
    have HR6 := Lib.hid (HR5.out.keep o)
    clear o c0 c1 PM
    obtain ⟨c0, c1⟩ := (HB.out.keep O6.out).cells
    have PA := Lib.hid (jat_good ma mcap m ra rcap rs n t w6 (HM.out.keep O6.out) L3.out.1 (HR.out.keep O6.out) L3.out.2.1 L3.out.2.2 HC.out HJ.out HH.out HT.out HTt.out)
    go_wp2_with fail
    (with_reducible refine PA.out.mono ?_)
    rintro e w7 ⟨rfl, o⟩
    have O7 := Lib.hid (O6.out.trans o)
    have HM7 := Lib.hid (HM6.out.keep o)
    have HR7 := Lib.hid (HR6.out.keep o)
    clear o c0 c1 PA
    obtain ⟨c0, c1⟩ := (HB.out.keep O7.out).cells
    have PR := Lib.hid (jright_any ma mcap m ra rcap rs w7 (HM.out.keep O7.out) L3.out.1 (HR.out.keep O7.out) L3.out.2.1 L3.out.2.2)
    go_wp2_with fail
    (with_reducible refine PR.out.mono ?_)
    rintro e w8 ⟨rfl, o⟩
    have O8 := Lib.hid (O7.out.trans o)
    have HM8 := Lib.hid (HM7.out.keep o)
    have HR8 := Lib.hid (HR7.out.keep o)
    clear o c0 c1 PR
    obtain ⟨c0, c1⟩ := (HB.out.keep O8.out).cells
    have hj := HJ.out
    have hl' : (rs'.length : Int) = (rs.length : Int) := by rw [HLN.out]
    have nn : (0 : Int) ≤ (n : Int) := by omega
    have nn2 : ((rs.length : Int) ≤ (n : Int)) = False := eq_false (by have := HH.out; omega)
    have n0 : ((n : Int) < 0) = False := eq_false (by omega)
    have tt : (t < 0) = False := eq_false (by have := HT.out; omega)
    have uc : (U < 0) = True ∨ ((U < 0) = False ∧ ((1000 : Int) < U) = True) := by
      by_cases q : U < 0
      · exact .inl (eq_true q)
      · exact .inr ⟨eq_false q, eq_true (by have := HUU.out; omega)⟩
    have RA := Lib.hid (refjat_any ma' mcap' m ra' rcap' rs' n t w8 HM8.out HR8.out (by rw [LK.out.jOk]; exact HJ.out) (by rw [HLN.out]; exact HH.out) HT.out HTt.out)
    rw [LK.out.addr] at RA
    have PX := Lib.hid (RA.out)
    go_wp2_with fail
    (with_reducible refine PX.out.mono ?_)
    rintro e w9 ⟨rfl, o⟩
    have O9 := Lib.hid (O8.out.trans o)
    have HM9 := Lib.hid (HM8.out.keep o)
    have HR9 := Lib.hid (HR8.out.keep o)
    clear o c0 c1 RA PX
    obtain ⟨c0, c1⟩ := (HB.out.keep O9.out).cells
    rcases uc with uc | ⟨uc, uc2⟩
    all_goals go_wp2_with fail
    all_goals go_ret
    all_goals exact ⟨by simp, O1.out.trans O9.out⟩
end Go.Proofs.Ytklcanjlkmkmmaa.rmS
