/- Roam: where a host is at a second. -/
import Derived.Test.YtklcanjlkmkmmaaRmB
namespace Go.Proofs.Ytklcanjlkmkmmaa.rmC
open Go.RowKit Go.Proofs.Ytklcanjlkmkmmaa.kit Go.Proofs.Ytklcanjlkmkmmaa.floA Go.Proofs.Ytklcanjlkmkmmaa.skyA Go.Proofs.Ytklcanjlkmkmmaa.skyB Go.Proofs.Ytklcanjlkmkmmaa.skyC Go.Proofs.Ytklcanjlkmkmmaa.skyD Go.Proofs.Ytklcanjlkmkmmaa.skyE Go.Proofs.Ytklcanjlkmkmmaa.skyF Go.Proofs.Ytklcanjlkmkmmaa.skyG Go.Proofs.Ytklcanjlkmkmmaa.skyH Go.Proofs.Ytklcanjlkmkmmaa.skyI Go.Proofs.Ytklcanjlkmkmmaa.skyK Go.Proofs.Ytklcanjlkmkmmaa.skyO Go.Proofs.Ytklcanjlkmkmmaa.skyP Go.Proofs.Ytklcanjlkmkmmaa.skyQ Go.Proofs.Ytklcanjlkmkmmaa.skyT Go.Proofs.Ytklcanjlkmkmmaa.rmA Go.Proofs.Ytklcanjlkmkmmaa.rmB
set_option linter.unusedVariables false
set_option linter.unusedSimpArgs false

set_option maxHeartbeats 800000 in
theorem jat_form (ma : Option Addr) (mcap : Nat) (m : List (Int × Int)) (ra : Option Addr) (rcap : Nat) (rs : List Rt) (h : Int) (t : Int) (w : World) (hm : Pts w ma m) (hml : m.length ≤ 1000) (hr : Rts w ra rs) (hrl : rs.length ≤ 1000) (hll : ∀ k, k < rs.length → (rr rs k).l.length ≤ 1000) (hj : jOk m rs = false) :
    Calls Try.prog 10 #[jn ma m.length mcap ra rs.length rcap, .int .i64 h, .int .i64 t] w fun e w' => e = .returned (.tuple #[.int .i64 0, .int .i64 3]) ∧ Only (fun _ => False) w w' := by
  have o1 : Only (fun _ => False) w (w.alloc (.cells #[.slice ma m.length mcap, .slice ra rs.length rcap] 25)) := (Only.refl _ w).alloc _
  have HB := Lib.hid (show BoxJ (w.alloc (.cells #[.slice ma m.length mcap, .slice ra rs.length rcap] 25)) w.heap.size (.slice ma m.length mcap) (.slice ra rs.length rcap) from heap_alloc_new w _)
  have HR := Lib.hid (hr.keep o1)
  have HM := Lib.hid (hm.keep o1)
  have JR := Lib.hid (jright_any ma mcap m ra rcap rs _ (hm.keep o1) hml (hr.keep o1) hrl hll)
  have O1 := Lib.hid o1
  rw [hj] at JR
  clear hm hml hr hrl hll o1 hj
  go_enter Try.func10, Try.ntmps10
  go_wp2_with fail
  generalize w.alloc (.cells #[.slice ma m.length mcap, .slice ra rs.length rcap] 25) = W1 at HB HR HM JR O1 ⊢
  generalize w.heap.size = B at HB ⊢
  with_reducible refine JR.out.mono ?_
  rintro e w2 ⟨rfl, o⟩
  have O := Lib.hid o
  obtain ⟨c0, c1⟩ := (HB.out.keep o).cells
  clear o JR
  go_wp2_with fail
  exact bodyPost_ret (v := .tuple #[.int .i64 0, .int .i64 3]) (by simp [results, Try.results10, go_sem]) rfl ⟨rfl, O1.out.trans O.out⟩

set_option maxHeartbeats 800000 in
theorem jat_none (ma : Option Addr) (mcap : Nat) (m : List (Int × Int)) (ra : Option Addr) (rcap : Nat) (rs : List Rt) (h : Int) (t : Int) (w : World) (hm : Pts w ma m) (hml : m.length ≤ 1000) (hr : Rts w ra rs) (hrl : rs.length ≤ 1000) (hll : ∀ k, k < rs.length → (rr rs k).l.length ≤ 1000) (hj : jOk m rs = true) (hh : h < 0 ∨ (rs.length : Int) ≤ h) :
    Calls Try.prog 10 #[jn ma m.length mcap ra rs.length rcap, .int .i64 h, .int .i64 t] w fun e w' => e = .returned (.tuple #[.int .i64 0, .int .i64 6]) ∧ Only (fun _ => False) w w' := by
  have o1 : Only (fun _ => False) w (w.alloc (.cells #[.slice ma m.length mcap, .slice ra rs.length rcap] 25)) := (Only.refl _ w).alloc _
  have HB := Lib.hid (show BoxJ (w.alloc (.cells #[.slice ma m.length mcap, .slice ra rs.length rcap] 25)) w.heap.size (.slice ma m.length mcap) (.slice ra rs.length rcap) from heap_alloc_new w _)
  have HR := Lib.hid (hr.keep o1)
  have HM := Lib.hid (hm.keep o1)
  have JR := Lib.hid (jright_any ma mcap m ra rcap rs _ (hm.keep o1) hml (hr.keep o1) hrl hll)
  have O1 := Lib.hid o1
  rw [hj] at JR
  have HH := Lib.hid hh
  clear hm hml hr hrl hll o1 hj hh
  go_enter Try.func10, Try.ntmps10
  go_wp2_with fail
  generalize w.alloc (.cells #[.slice ma m.length mcap, .slice ra rs.length rcap] 25) = W1 at HB HR HM JR O1 ⊢
  generalize w.heap.size = B at HB ⊢
  with_reducible refine JR.out.mono ?_
  rintro e w2 ⟨rfl, o⟩
  have O := Lib.hid o
  obtain ⟨c0, c1⟩ := (HB.out.keep o).cells
  clear o JR
  by_cases g : h < 0
  · have t1 : (h < 0) = True := eq_true g
    go_wp2_with fail
    exact bodyPost_ret (v := .tuple #[.int .i64 0, .int .i64 6]) (by simp [results, Try.results10, go_sem]) rfl ⟨rfl, O1.out.trans O.out⟩
  · have t1 : (h < 0) = False := eq_false g
    have t2 : ((rs.length : Int) ≤ h) = True := eq_true (by have := HH.out; omega)
    go_wp2_with fail
    exact bodyPost_ret (v := .tuple #[.int .i64 0, .int .i64 6]) (by simp [results, Try.results10, go_sem]) rfl ⟨rfl, O1.out.trans O.out⟩

set_option maxHeartbeats 800000 in
theorem jat_arg (ma : Option Addr) (mcap : Nat) (m : List (Int × Int)) (ra : Option Addr) (rcap : Nat) (rs : List Rt) (h : Nat) (t : Int) (w : World) (hm : Pts w ma m) (hml : m.length ≤ 1000) (hr : Rts w ra rs) (hrl : rs.length ≤ 1000) (hll : ∀ k, k < rs.length → (rr rs k).l.length ≤ 1000) (hj : jOk m rs = true) (hh : h < rs.length) (ht : t < 0) :
    Calls Try.prog 10 #[jn ma m.length mcap ra rs.length rcap, .int .i64 h, .int .i64 t] w fun e w' => e = .returned (.tuple #[.int .i64 0, .int .i64 2]) ∧ Only (fun _ => False) w w' := by
  have o1 : Only (fun _ => False) w (w.alloc (.cells #[.slice ma m.length mcap, .slice ra rs.length rcap] 25)) := (Only.refl _ w).alloc _
  have HB := Lib.hid (show BoxJ (w.alloc (.cells #[.slice ma m.length mcap, .slice ra rs.length rcap] 25)) w.heap.size (.slice ma m.length mcap) (.slice ra rs.length rcap) from heap_alloc_new w _)
  have HR := Lib.hid (hr.keep o1)
  have HM := Lib.hid (hm.keep o1)
  have JR := Lib.hid (jright_any ma mcap m ra rcap rs _ (hm.keep o1) hml (hr.keep o1) hrl hll)
  have O1 := Lib.hid o1
  rw [hj] at JR
  have HH := Lib.hid hh
  have HRo := Lib.hid (route_of (jOk_parts hj).2.1 hh)
  have HT := Lib.hid ht
  clear hm hml hr hrl hll o1 hj hh ht
  go_enter Try.func10, Try.ntmps10
  go_wp2_with fail
  generalize w.alloc (.cells #[.slice ma m.length mcap, .slice ra rs.length rcap] 25) = W1 at HB HR HM JR O1 ⊢
  generalize w.heap.size = B at HB ⊢
  with_reducible refine JR.out.mono ?_
  rintro e w2 ⟨rfl, o⟩
  have O := Lib.hid o
  obtain ⟨c0, c1⟩ := (HB.out.keep o).cells
  clear o JR
  have t1 : ((h : Int) < 0) = False := eq_false (by omega)
  have t2 : ((rs.length : Int) ≤ (h : Int)) = False := eq_false (by have := HH.out; omega)
  have i1 : (h : Int) < (rs.length : Int) := by have := HH.out; omega
  have i0 : (0 : Int) ≤ (h : Int) := by omega
  obtain ⟨b, off, rfl, hb, d0, d1, d2, hl⟩ := (HR.out.keep O.out).at HH.out
  have AG := Lib.hid (at_arg (rr rs h).x (rr rs h).y (rr rs h).a (rr rs h).cap (rr rs h).l t w2 hl HRo.out HT.out)
  clear hl hb
  go_wp2_with fail
  with_reducible refine AG.out.mono ?_
  rintro e w3 ⟨rfl, o⟩
  have O := Lib.hid ((O.out.trans o).alloc (.cells #[.int .i64 0, .int .i64 0] 50))
  clear o AG
  go_wp2_with fail
  exact bodyPost_ret (v := .tuple #[.int .i64 0, .int .i64 2]) (by simp [results, Try.results10, go_sem]) rfl ⟨rfl, O1.out.trans O.out⟩

set_option maxHeartbeats 800000 in
theorem jat_good (ma : Option Addr) (mcap : Nat) (m : List (Int × Int)) (ra : Option Addr) (rcap : Nat) (rs : List Rt) (h : Nat) (t : Int) (w : World) (hm : Pts w ma m) (hml : m.length ≤ 1000) (hr : Rts w ra rs) (hrl : rs.length ≤ 1000) (hll : ∀ k, k < rs.length → (rr rs k).l.length ≤ 1000) (hcp : ∀ k, k < rs.length → (rr rs k).l.length ≤ (rr rs k).cap) (hj : jOk m rs = true) (hh : h < rs.length) (h0 : 0 ≤ t) (h63 : t ≤ 9223372036854775807) :
    Calls Try.prog 10 #[jn ma m.length mcap ra rs.length rcap, .int .i64 h, .int .i64 t] w fun e w' => e = .returned (.tuple #[.int .i64 (addr m rs h t), .int .i64 0]) ∧ Only (fun _ => False) w w' := by
  have o1 : Only (fun _ => False) w (w.alloc (.cells #[.slice ma m.length mcap, .slice ra rs.length rcap] 25)) := (Only.refl _ w).alloc _
  have HB := Lib.hid (show BoxJ (w.alloc (.cells #[.slice ma m.length mcap, .slice ra rs.length rcap] 25)) w.heap.size (.slice ma m.length mcap) (.slice ra rs.length rcap) from heap_alloc_new w _)
  have HR := Lib.hid (hr.keep o1)
  have HM := Lib.hid (hm.keep o1)
  have JR := Lib.hid (jright_any ma mcap m ra rcap rs _ (hm.keep o1) hml (hr.keep o1) hrl hll)
  have O1 := Lib.hid o1
  rw [hj] at JR
  obtain ⟨hg, hro, hl1, hl8⟩ := jOk_parts hj
  obtain ⟨g1, g2, g3⟩ := good_parts hg
  have hro' := route_of hro hh
  obtain ⟨p0, p1⟩ := pmid (route_parts hro').1 (route_parts hro').2.2 h0 (Nat.le_refl (rr rs h).l.length)
  have hin : inP 16777216 (posX (rr rs h).x (rr rs h).l t) (posY (rr rs h).y (rr rs h).l t) = true := inP_iff.2 ⟨p0.1, p0.2, p1.1, p1.2⟩
  have HH := Lib.hid hh
  have HAt := Lib.hid (fun (w' : World) (hl : Lgs w' (rr rs h).a (rr rs h).l) => at_good (rr rs h).x (rr rs h).y (rr rs h).a (rr rs h).cap (rr rs h).l t w' hl (hcp h hh) hro' h0 h63)
  have NE := Lib.hid (fun (w' : World) (o : Only (fun _ => False) (w.alloc (.cells #[.slice ma m.length mcap, .slice ra rs.length rcap] 25)) w') => nearest_good ma mcap m _ _ w' ((hm.keep o1).keep o) hg hin)
  have hbe := best_le m (posX (rr rs h).x (rr rs h).l t) (posY (rr rs h).y (rr rs h).l t) m.length
  have ha : addr m rs h t = 8 * ((best m (posX (rr rs h).x (rr rs h).l t) (posY (rr rs h).y (rr rs h).l t) m.length : Nat) : Int) + h + 1 := rfl
  rw [ha]
  generalize best m (posX (rr rs h).x (rr rs h).l t) (posY (rr rs h).y (rr rs h).l t) m.length = n at NE hbe ⊢
  generalize posX (rr rs h).x (rr rs h).l t = PX at NE HAt
  generalize posY (rr rs h).y (rr rs h).l t = PY at NE HAt
  have AD := Lib.hid (address_good (h : Int) (n : Int) (by omega) (by omega))
  clear hm hml hr hrl hll o1 hj hh h0 h63 hcp hg hro hl1 hl8 g1 g2 g3 hro' p0 p1 hin hbe ha
  go_enter Try.func10, Try.ntmps10
  go_wp2_with fail
  generalize w.alloc (.cells #[.slice ma m.length mcap, .slice ra rs.length rcap] 25) = W1 at HB HR HM JR O1 NE ⊢
  generalize w.heap.size = B at HB ⊢
  with_reducible refine JR.out.mono ?_
  rintro e w2 ⟨rfl, o⟩
  have O := Lib.hid o
  obtain ⟨c0, c1⟩ := (HB.out.keep o).cells
  clear o JR
  have t1 : ((h : Int) < 0) = False := eq_false (by omega)
  have t2 : ((rs.length : Int) ≤ (h : Int)) = False := eq_false (by have := HH.out; omega)
  have i1 : (h : Int) < (rs.length : Int) := by have := HH.out; omega
  have i0 : (0 : Int) ≤ (h : Int) := by omega
  obtain ⟨b, off, rfl, hb, d0, d1, d2, hl⟩ := (HR.out.keep O.out).at HH.out
  have AG := Lib.hid (HAt.out w2 hl)
  clear hl hb HAt
  go_wp2_with fail
  with_reducible refine AG.out.mono ?_
  rintro e w3 ⟨rfl, o⟩
  have O3 := Lib.hid (O.out.trans o)
  have HP := Lib.hid (show Box (w3.alloc (.cells #[.int .i64 PX, .int .i64 PY] 50)) w3.heap.size PX PY 50 from heap_alloc_new w3 _)
  have O := Lib.hid (O3.out.alloc (.cells #[.int .i64 PX, .int .i64 PY] 50))
  clear o AG c0 c1 d0 d1 d2
  obtain ⟨c0, c1⟩ := (HB.out.keep O.out).cells
  obtain ⟨d0, d1⟩ := HP.out.cells
  go_wp2_with fail
  with_reducible refine (NE.out _ O.out).mono ?_
  rintro e w4 ⟨rfl, o⟩
  have O := Lib.hid (O.out.trans o)
  clear o NE c0 c1 d0 d1
  go_wp2_with fail
  with_reducible refine (AD.out _).mono ?_
  rintro e w5 ⟨rfl, rfl⟩
  go_wp2_with fail
  exact bodyPost_ret (v := .tuple #[.int .i64 (8 * (n : Int) + h + 1), .int .i64 0]) (by simp [results, Try.results10, go_sem]) rfl ⟨rfl, O1.out.trans O.out⟩
end Go.Proofs.Ytklcanjlkmkmmaa.rmC
