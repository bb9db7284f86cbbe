/- Term: the document's Make. -/
import Derived.Test.YtbjnejnjlidiaaaTsF
namespace Go.Proofs.Ytbjnejnjlidiaaa.tsI
open Go.RowKit kit numA numB numC numD numE numF numG numH numI tmA tmB tmC tmD tmE srcA trA trB trD prA prC prR prS prW prX tsA tsB tsF tsG tsH
set_option linter.unusedVariables false
set_option linter.unusedSimpArgs false

theorem agr_nil (x : Txt) : agr x [] = [] := by rw [agr, nd_nil, if_neg (by decide)]

abbrev bt0 (t : Txt) : ByteArray := ⟨t.toArray⟩
theorem bt_size (t : Txt) : (⟨t.toArray⟩ : ByteArray).size = t.length := by simp [ByteArray.size]
theorem made_told {f : FuncId} {args : Array Value} {w0 w : World} {t : Txt} {b : ByteArray} (h : Calls Try.prog f args w0 (Made w t)) (hb : b.data.toList = t) : Calls Try.prog f args w0 (numA.Told w (.string b)) := by
  refine h.mono ?_
  rintro e w' ⟨o, rfl⟩
  subst hb
  exact ⟨rfl, o⟩

theorem mkI5 (ps : List Txt) : mkI 5 0 [] ps = mkT 5 0 [] ps := rfl

/-- A text that isn't empty, as the walk asks. -/
theorem ne_facts {b : ByteArray} (h : b.data.toList ≠ []) : b.toList.isEmpty = false ∧ ((b.toList = []) = False) ∧ (b.toList == []) = false ∧ (!b.toList.isEmpty) = true := by
  rw [byteArray_toList]
  refine ⟨?_, eq_false h, ?_, ?_⟩
  · cases hb : b.data.toList with
    | nil => exact absurd hb h
    | cons c r => rfl
  · rw [beq_eq_false_iff_ne]
    exact h
  · cases hb : b.data.toList with
    | nil => exact absurd hb h
    | cons c r => rfl

set_option maxRecDepth 100000 in
theorem agrees_no (x y z : ByteArray) (w : World) (h : 1000 < x.size ∨ 1000 < y.size ∨ 1000 < z.size) : Calls Try.prog 6 #[.string x, .string y, .string z] w (numA.Told w (.bool true)) := by
  have AW := Lib.hid (awake_any w)
  have key : (1000 < x.size) ∨ (¬ 1000 < x.size ∧ 1000 < y.size) ∨ (¬ 1000 < x.size ∧ ¬ 1000 < y.size ∧ 1000 < z.size) := by omega
  clear h
  rcases key with h | ⟨h, h'⟩ | ⟨h, h', h''⟩
  · have k1 : ((1000 : Int) < (x.size : Int)) = True := eq_true (by omega)
    clear h
    go_enter Try.func6, Try.ntmps6
    go_wp2_with fail
    (with_reducible refine AW.out.mono ?_)
    rintro e w1 ⟨rfl, o⟩
    have O1 := Lib.hid o
    clear o
    go_wp2_with fail
    go_ret
    exact ⟨rfl, O1.out⟩
  · have k1 : ((1000 : Int) < (x.size : Int)) = False := eq_false (by omega)
    have k2 : ((1000 : Int) < (y.size : Int)) = True := eq_true (by omega)
    clear h h'
    go_enter Try.func6, Try.ntmps6
    go_wp2_with fail
    (with_reducible refine AW.out.mono ?_)
    rintro e w1 ⟨rfl, o⟩
    have O1 := Lib.hid o
    clear o
    go_wp2_with fail
    go_ret
    exact ⟨rfl, O1.out⟩
  · have k1 : ((1000 : Int) < (x.size : Int)) = False := eq_false (by omega)
    have k2 : ((1000 : Int) < (y.size : Int)) = False := eq_false (by omega)
    have k3 : ((1000 : Int) < (z.size : Int)) = True := eq_true (by omega)
    clear h h' h''
    go_enter Try.func6, Try.ntmps6
    go_wp2_with fail
    (with_reducible refine AW.out.mono ?_)
    rintro e w1 ⟨rfl, o⟩
    have O1 := Lib.hid o
    clear o
    go_wp2_with fail
    go_ret
    exact ⟨rfl, O1.out⟩

set_option maxRecDepth 100000 in
set_option maxHeartbeats 2000000 in
theorem agrees_any (x y z : ByteArray) (w : World) : Calls Try.prog 6 #[.string x, .string y, .string z] w (numA.Told w (.bool true)) := by
  by_cases h : 1000 < x.size ∨ 1000 < y.size ∨ 1000 < z.size
  · exact agrees_no x y z w h
  have hx : x.size ≤ 1000 := by omega
  have hy : y.size ≤ 1000 := by omega
  have hz : z.size ≤ 1000 := by omega
  have lx : x.data.toList.length ≤ 1000 := by rw [tl_size]; exact hx
  have ly : y.data.toList.length ≤ 1000 := by rw [tl_size]; exact hy
  have lz : z.data.toList.length ≤ 1000 := by rw [tl_size]; exact hz
  have k1 : ((1000 : Int) < (x.size : Int)) = False := eq_false (by omega)
  have k2 : ((1000 : Int) < (y.size : Int)) = False := eq_false (by omega)
  have k3 : ((1000 : Int) < (z.size : Int)) = False := eq_false (by omega)
  have AW := Lib.hid (awake_any w)
  have IX := Lib.hid (fun W => refIs x W (by omega))
  have IY := Lib.hid (fun W => refIs y W (by omega))
  have IZ := Lib.hid (fun W => refIs z W (by omega))
  cases hix : isT x.data.toList
  · have hP : mkT 5 0 [] [x.data.toList] = [] := by rw [pub_ok (by omega), if_neg (by rw [hix]; decide)]
    have MX := Lib.hid (fun W => made_told (make1 5 0 0 rfl (by decide) x W (by omega)) (b := ⟨#[]⟩) hP.symm)
    rw [hix] at IX
    cases hiy : isT y.data.toList
    · have hQ : mkT 5 0 [] [y.data.toList] = [] := by rw [pub_ok (by omega), if_neg (by rw [hiy]; decide)]
      have MY := Lib.hid (fun W => made_told (make1 5 0 0 rfl (by decide) y W (by omega)) (b := ⟨#[]⟩) hQ.symm)
      rw [hiy] at IY
      have AG := Lib.hid (fun W => made_told (agree_any x ⟨#[]⟩ W (by omega) (by decide)) (b := ⟨#[]⟩) (agr_nil _).symm)
      clear h hx hy hz lx ly lz hix hiy hP hQ IZ
      go_enter Try.func6, Try.ntmps6
      go_wp2_with fail
      (with_reducible refine AW.out.mono ?_)
      rintro e w1 ⟨rfl, o⟩
      have O1 := Lib.hid o
      clear o
      go_wp2_with fail
      (with_reducible refine (MX.out _).mono ?_)
      rintro e w2 ⟨rfl, o⟩
      have O2 := Lib.hid (O1.out.trans o)
      clear o
      go_wp2_with fail
      (with_reducible refine (MY.out _).mono ?_)
      rintro e w3 ⟨rfl, o⟩
      have O3 := Lib.hid (O2.out.trans o)
      clear o
      go_wp2_with fail
      (with_reducible refine (IX.out _).mono ?_)
      rintro e w4 ⟨rfl, o⟩
      have O4 := Lib.hid (O3.out.trans o)
      clear o
      go_wp2_with fail
      (with_reducible refine (IX.out _).mono ?_)
      rintro e w5 ⟨rfl, o⟩
      have O5 := Lib.hid (O4.out.trans o)
      clear o
      go_wp2_with fail
      (with_reducible refine (IY.out _).mono ?_)
      rintro e w6 ⟨rfl, o⟩
      have O6 := Lib.hid (O5.out.trans o)
      clear o
      go_wp2_with fail
      (with_reducible refine (AG.out _).mono ?_)
      rintro e w7 ⟨rfl, o⟩
      have O7 := Lib.hid (O6.out.trans o)
      clear o
      go_wp2_with fail
      go_ret
      exact ⟨rfl, O7.out⟩
    · obtain ⟨Q, hQ⟩ : ∃ Q : ByteArray, Q = ⟨(mkT 5 0 [] [y.data.toList]).toArray⟩ := ⟨_, rfl⟩
      have hQt : Q.data.toList = mkT 5 0 [] [y.data.toList] := by rw [hQ]
      have hne : Q.data.toList ≠ [] := by rw [hQt, pub_ok (by omega), if_pos hiy]; simp
      have qs : Q.size ≤ 2000 := by
        rw [sz_of hQt, pub_ok (by omega), if_pos hiy]
        simp only [List.length_cons, List.length_append, List.length_nil]
        omega
      obtain ⟨q1, q2, q3, q4⟩ := ne_facts hne
      have hag : agr x.data.toList Q.data.toList = [] := by
        rw [hQt, agr_pub (by omega), if_pos hiy]
        by_cases hd : mkT 6 0 [] [x.data.toList, y.data.toList] = []
        · exact hd
        · have := ((dh_ok (by omega) (by omega)).1 hd).1
          rw [hix] at this
          cases this
      have AG := Lib.hid (fun W => made_told (agree_any x Q W (by omega) (by omega)) (b := ⟨#[]⟩) hag.symm)
      have MY := Lib.hid (fun W => made_told (make1 5 0 0 rfl (by decide) y W (by omega)) hQt)
      rw [hiy] at IY
      clear h hx hy hz lx ly lz hix hiy hP hQ hQt hne qs hag IZ
      go_enter Try.func6, Try.ntmps6
      go_wp2_with fail
      (with_reducible refine AW.out.mono ?_)
      rintro e w1 ⟨rfl, o⟩
      have O1 := Lib.hid o
      clear o
      go_wp2_with fail
      (with_reducible refine (MX.out _).mono ?_)
      rintro e w2 ⟨rfl, o⟩
      have O2 := Lib.hid (O1.out.trans o)
      clear o
      go_wp2_with fail
      (with_reducible refine (MY.out _).mono ?_)
      rintro e w3 ⟨rfl, o⟩
      have O3 := Lib.hid (O2.out.trans o)
      clear o
      go_wp2_with fail
      (with_reducible refine (IX.out _).mono ?_)
      rintro e w4 ⟨rfl, o⟩
      have O4 := Lib.hid (O3.out.trans o)
      clear o
      go_wp2_with fail
      (with_reducible refine (IX.out _).mono ?_)
      rintro e w5 ⟨rfl, o⟩
      have O5 := Lib.hid (O4.out.trans o)
      clear o
      go_wp2_with fail
      (with_reducible refine (IY.out _).mono ?_)
      rintro e w6 ⟨rfl, o⟩
      have O6 := Lib.hid (O5.out.trans o)
      clear o
      go_wp2_with fail
      (with_reducible refine (AG.out _).mono ?_)
      rintro e w7 ⟨rfl, o⟩
      have O7 := Lib.hid (O6.out.trans o)
      clear o
      go_wp2_with fail
      go_ret
      exact ⟨rfl, O7.out⟩
  · obtain ⟨P, hPe⟩ : ∃ P : ByteArray, P = ⟨(mkT 5 0 [] [x.data.toList]).toArray⟩ := ⟨_, rfl⟩
    have hPt : P.data.toList = mkT 5 0 [] [x.data.toList] := by rw [hPe]
    have pne : P.data.toList ≠ [] := by rw [hPt, pub_ok (by omega), if_pos hix]; simp
    have ps : P.size ≤ 2000 := by
      rw [sz_of hPt, pub_ok (by omega), if_pos hix]
      simp only [List.length_cons, List.length_append, List.length_nil]
      omega
    obtain ⟨p1, p2, p3, p4⟩ := ne_facts pne
    have MX := Lib.hid (fun W => made_told (make1 5 0 0 rfl (by decide) x W (by omega)) hPt)
    rw [hix] at IX
    cases hiy : isT y.data.toList
    · have hQ : mkT 5 0 [] [y.data.toList] = [] := by rw [pub_ok (by omega), if_neg (by rw [hiy]; decide)]
      have MY := Lib.hid (fun W => made_told (make1 5 0 0 rfl (by decide) y W (by omega)) (b := ⟨#[]⟩) hQ.symm)
      rw [hiy] at IY
      have AG := Lib.hid (fun W => made_told (agree_any x ⟨#[]⟩ W (by omega) (by decide)) (b := ⟨#[]⟩) (agr_nil _).symm)
      clear h hx hy hz lx ly lz hix hiy hPe hPt pne ps hQ IZ
      go_enter Try.func6, Try.ntmps6
      go_wp2_with fail
      (with_reducible refine AW.out.mono ?_)
      rintro e w1 ⟨rfl, o⟩
      have O1 := Lib.hid o
      clear o
      go_wp2_with fail
      (with_reducible refine (MX.out _).mono ?_)
      rintro e w2 ⟨rfl, o⟩
      have O2 := Lib.hid (O1.out.trans o)
      clear o
      go_wp2_with fail
      (with_reducible refine (MY.out _).mono ?_)
      rintro e w3 ⟨rfl, o⟩
      have O3 := Lib.hid (O2.out.trans o)
      clear o
      go_wp2_with fail
      (with_reducible refine (IX.out _).mono ?_)
      rintro e w4 ⟨rfl, o⟩
      have O4 := Lib.hid (O3.out.trans o)
      clear o
      go_wp2_with fail
      (with_reducible refine (IY.out _).mono ?_)
      rintro e w5 ⟨rfl, o⟩
      have O5 := Lib.hid (O4.out.trans o)
      clear o
      go_wp2_with fail
      (with_reducible refine (IX.out _).mono ?_)
      rintro e w6 ⟨rfl, o⟩
      have O6 := Lib.hid (O5.out.trans o)
      clear o
      go_wp2_with fail
      (with_reducible refine (IY.out _).mono ?_)
      rintro e w7 ⟨rfl, o⟩
      have O7 := Lib.hid (O6.out.trans o)
      clear o
      go_wp2_with fail
      (with_reducible refine (AG.out _).mono ?_)
      rintro e w8 ⟨rfl, o⟩
      have O8 := Lib.hid (O7.out.trans o)
      clear o
      go_wp2_with fail
      go_ret
      exact ⟨rfl, O8.out⟩
    · obtain ⟨Q, hQ⟩ : ∃ Q : ByteArray, Q = ⟨(mkT 5 0 [] [y.data.toList]).toArray⟩ := ⟨_, rfl⟩
      have hQt : Q.data.toList = mkT 5 0 [] [y.data.toList] := by rw [hQ]
      have qs : Q.size ≤ 2000 := by
        rw [sz_of hQt, pub_ok (by omega), if_pos hiy]
        simp only [List.length_cons, List.length_append, List.length_nil]
        omega
      obtain ⟨A, hA⟩ : ∃ A : ByteArray, A = ⟨(mkT 6 0 [] [x.data.toList, y.data.toList]).toArray⟩ := ⟨_, rfl⟩
      have ane : mkT 6 0 [] [x.data.toList, y.data.toList] ≠ [] := (dh_ok (by omega) (by omega)).2 ⟨hix, hiy⟩
      have hAt : A.data.toList = mkT 6 0 [] [x.data.toList, y.data.toList] := by rw [hA]
      have hnd : nd A.data.toList = nodeOf 6 0 [] [x.data.toList, y.data.toList] := by rw [hAt, nd_make (by decide) ane]
      have asz : A.size ≤ 65536 := by
        rw [sz_of hAt]
        rcases nd_cases A.data.toList with ⟨e, _⟩ | ⟨_, hl, _⟩
        · rw [hnd] at e
          cases e
        · rwa [hAt] at hl
      have ax : A.data.toList = agr x.data.toList Q.data.toList := by rw [hQt, agr_pub (by omega), if_pos hiy, hAt]
      have ay : A.data.toList = agr y.data.toList P.data.toList := by rw [hPt, agr_pub (by omega), if_pos hix, mk_swap, hAt]
      have AX := Lib.hid (fun W => made_told (agree_any x Q W (by omega) (by omega)) ax)
      have AY := Lib.hid (fun W => made_told (agree_any y P W (by omega) (by omega)) ay)
      have PB := Lib.hid (fun W => made_told (pub_any y W (by omega)) hQt)
      have RA := Lib.hid (fun W => made_told (refagree_any x Q W (by omega) (by omega)) ax)
      clear ax ay
      have KD := Lib.hid (fun W => kind_any A W (by omega))
      rw [show trJ.ndOf A.data.toList = nodeOf 6 0 [] [x.data.toList, y.data.toList] from hnd] at KD
      simp only [nodeOf, Int.cast_ofNat_Int] at KD
      have MY := Lib.hid (fun W => made_told (make1 5 0 0 rfl (by decide) y W (by omega)) hQt)
      rw [hiy] at IY
      cases hiz : isT z.data.toList
      · rw [hiz] at IZ
        clear h hx hy hz lx ly lz hix hiy hPe hPt pne ps hQ hQt qs hA ane hAt hnd asz hiz
        go_enter Try.func6, Try.ntmps6
        go_wp2_with fail
        (with_reducible refine AW.out.mono ?_)
        rintro e w1 ⟨rfl, o⟩
        have O1 := Lib.hid o
        clear o
        go_wp2_with fail
        (with_reducible refine (MX.out _).mono ?_)
        rintro e w2 ⟨rfl, o⟩
        have O2 := Lib.hid (O1.out.trans o)
        clear o
        go_wp2_with fail
        (with_reducible refine (MY.out _).mono ?_)
        rintro e w3 ⟨rfl, o⟩
        have O3 := Lib.hid (O2.out.trans o)
        clear o
        go_wp2_with fail
        (with_reducible refine (IX.out _).mono ?_)
        rintro e w4 ⟨rfl, o⟩
        have O4 := Lib.hid (O3.out.trans o)
        clear o
        go_wp2_with fail
        (with_reducible refine (IY.out _).mono ?_)
        rintro e w5 ⟨rfl, o⟩
        have O5 := Lib.hid (O4.out.trans o)
        clear o
        go_wp2_with fail
        (with_reducible refine (AX.out _).mono ?_)
        rintro e w6 ⟨rfl, o⟩
        have O6 := Lib.hid (O5.out.trans o)
        clear o
        go_wp2_with fail
        (with_reducible refine (AY.out _).mono ?_)
        rintro e w7 ⟨rfl, o⟩
        have O7 := Lib.hid (O6.out.trans o)
        clear o
        go_wp2_with fail
        (with_reducible refine (PB.out _).mono ?_)
        rintro e w8 ⟨rfl, o⟩
        have O8 := Lib.hid (O7.out.trans o)
        clear o
        go_wp2_with fail
        (with_reducible refine (RA.out _).mono ?_)
        rintro e w9 ⟨rfl, o⟩
        have O9 := Lib.hid (O8.out.trans o)
        clear o
        go_wp2_with fail
        (with_reducible refine (KD.out _).mono ?_)
        rintro e w10 ⟨rfl, o⟩
        have O10 := Lib.hid (O9.out.trans o)
        clear o
        go_wp2_with fail
        (with_reducible refine (IZ.out _).mono ?_)
        rintro e w11 ⟨rfl, o⟩
        have O11 := Lib.hid (O10.out.trans o)
        clear o
        go_wp2_with fail
        go_ret
        exact ⟨rfl, O11.out⟩
      · obtain ⟨R, hR⟩ : ∃ R : ByteArray, R = ⟨(mkT 5 0 [] [z.data.toList]).toArray⟩ := ⟨_, rfl⟩
        have hRt : R.data.toList = mkT 5 0 [] [z.data.toList] := by rw [hR]
        have rs : R.size ≤ 2000 := by
          rw [sz_of hRt, pub_ok (by omega), if_pos hiz]
          simp only [List.length_cons, List.length_append, List.length_nil]
          omega
        have cne : mkT 6 0 [] [x.data.toList, z.data.toList] ≠ [] := (dh_ok (by omega) (by omega)).2 ⟨hix, hiz⟩
        obtain ⟨C, hC⟩ : ∃ C : ByteArray, C = ⟨(mkT 6 0 [] [x.data.toList, z.data.toList]).toArray⟩ := ⟨_, rfl⟩
        have AZ := Lib.hid (fun W => made_told (agree_any x R W (by omega) (by omega)) (show C.data.toList = _ from by rw [hRt, agr_pub (by omega), if_pos hiz, hC]))
        have MZ := Lib.hid (fun W => made_told (make1 5 0 0 rfl (by decide) z W (by omega)) hRt)
        rw [hiz] at IZ
        have inj : C = A ↔ z = y := by
          constructor
          · intro e
            rw [hC, hA] at e
            have e2 : mkT 6 0 [] [x.data.toList, z.data.toList] = mkT 6 0 [] [x.data.toList, y.data.toList] := congrArg (fun b : ByteArray => b.data.toList) e
            have n1 := nd_make (k := 6) (n := 0) (b := []) (by decide) cne
            rw [e2, nd_make (by decide) ane] at n1
            simp only [nodeOf, Nd.mk.injEq] at n1
            have := srt_inj n1.2.2.2.symm
            exact ByteArray.ext (Array.ext' this)
          · rintro rfl
            rw [hC, hA]
        by_cases hzy : z = y
        · have hca := inj.2 hzy
          have e1 := beq_t hca
          have e2 := eq_t hca
          have e3 := beq_t hzy
          have e4 := eq_t hzy
          clear h hx hy hz lx ly lz hix hiy hPe hPt pne ps hQ hQt qs hA ane hAt hnd asz hiz hR hRt rs cne hC inj hzy hca
          go_enter Try.func6, Try.ntmps6
          go_wp2_with fail
          (with_reducible refine AW.out.mono ?_)
          rintro e w1 ⟨rfl, o⟩
          have O1 := Lib.hid o
          clear o
          go_wp2_with fail
          (with_reducible refine (MX.out _).mono ?_)
          rintro e w2 ⟨rfl, o⟩
          have O2 := Lib.hid (O1.out.trans o)
          clear o
          go_wp2_with fail
          (with_reducible refine (MY.out _).mono ?_)
          rintro e w3 ⟨rfl, o⟩
          have O3 := Lib.hid (O2.out.trans o)
          clear o
          go_wp2_with fail
          (with_reducible refine (IX.out _).mono ?_)
          rintro e w4 ⟨rfl, o⟩
          have O4 := Lib.hid (O3.out.trans o)
          clear o
          go_wp2_with fail
          (with_reducible refine (IY.out _).mono ?_)
          rintro e w5 ⟨rfl, o⟩
          have O5 := Lib.hid (O4.out.trans o)
          clear o
          go_wp2_with fail
          (with_reducible refine (AX.out _).mono ?_)
          rintro e w6 ⟨rfl, o⟩
          have O6 := Lib.hid (O5.out.trans o)
          clear o
          go_wp2_with fail
          (with_reducible refine (AY.out _).mono ?_)
          rintro e w7 ⟨rfl, o⟩
          have O7 := Lib.hid (O6.out.trans o)
          clear o
          go_wp2_with fail
          (with_reducible refine (PB.out _).mono ?_)
          rintro e w8 ⟨rfl, o⟩
          have O8 := Lib.hid (O7.out.trans o)
          clear o
          go_wp2_with fail
          (with_reducible refine (RA.out _).mono ?_)
          rintro e w9 ⟨rfl, o⟩
          have O9 := Lib.hid (O8.out.trans o)
          clear o
          go_wp2_with fail
          (with_reducible refine (KD.out _).mono ?_)
          rintro e w10 ⟨rfl, o⟩
          have O10 := Lib.hid (O9.out.trans o)
          clear o
          go_wp2_with fail
          (with_reducible refine (IZ.out _).mono ?_)
          rintro e w11 ⟨rfl, o⟩
          have O11 := Lib.hid (O10.out.trans o)
          clear o
          go_wp2_with fail
          (with_reducible refine (MZ.out _).mono ?_)
          rintro e w12 ⟨rfl, o⟩
          have O12 := Lib.hid (O11.out.trans o)
          clear o
          go_wp2_with fail
          (with_reducible refine (AZ.out _).mono ?_)
          rintro e w13 ⟨rfl, o⟩
          have O13 := Lib.hid (O12.out.trans o)
          clear o
          go_wp2_with fail
          go_ret
          exact ⟨rfl, O13.out⟩
        · have hca : ¬ C = A := fun q => hzy (inj.1 q)
          have e1 := beq_f hca
          have e2 := eq_f hca
          have e3 := beq_f hzy
          have e4 := eq_f hzy
          clear h hx hy hz lx ly lz hix hiy hPe hPt pne ps hQ hQt qs hA ane hAt hnd asz hiz hR hRt rs cne hC inj hzy hca
          go_enter Try.func6, Try.ntmps6
          go_wp2_with fail
          (with_reducible refine AW.out.mono ?_)
          rintro e w1 ⟨rfl, o⟩
          have O1 := Lib.hid o
          clear o
          go_wp2_with fail
          (with_reducible refine (MX.out _).mono ?_)
          rintro e w2 ⟨rfl, o⟩
          have O2 := Lib.hid (O1.out.trans o)
          clear o
          go_wp2_with fail
          (with_reducible refine (MY.out _).mono ?_)
          rintro e w3 ⟨rfl, o⟩
          have O3 := Lib.hid (O2.out.trans o)
          clear o
          go_wp2_with fail
          (with_reducible refine (IX.out _).mono ?_)
          rintro e w4 ⟨rfl, o⟩
          have O4 := Lib.hid (O3.out.trans o)
          clear o
          go_wp2_with fail
          (with_reducible refine (IY.out _).mono ?_)
          rintro e w5 ⟨rfl, o⟩
          have O5 := Lib.hid (O4.out.trans o)
          clear o
          go_wp2_with fail
          (with_reducible refine (AX.out _).mono ?_)
          rintro e w6 ⟨rfl, o⟩
          have O6 := Lib.hid (O5.out.trans o)
          clear o
          go_wp2_with fail
          (with_reducible refine (AY.out _).mono ?_)
          rintro e w7 ⟨rfl, o⟩
          have O7 := Lib.hid (O6.out.trans o)
          clear o
          go_wp2_with fail
          (with_reducible refine (PB.out _).mono ?_)
          rintro e w8 ⟨rfl, o⟩
          have O8 := Lib.hid (O7.out.trans o)
          clear o
          go_wp2_with fail
          (with_reducible refine (RA.out _).mono ?_)
          rintro e w9 ⟨rfl, o⟩
          have O9 := Lib.hid (O8.out.trans o)
          clear o
          go_wp2_with fail
          (with_reducible refine (KD.out _).mono ?_)
          rintro e w10 ⟨rfl, o⟩
          have O10 := Lib.hid (O9.out.trans o)
          clear o
          go_wp2_with fail
          (with_reducible refine (IZ.out _).mono ?_)
          rintro e w11 ⟨rfl, o⟩
          have O11 := Lib.hid (O10.out.trans o)
          clear o
          go_wp2_with fail
          (with_reducible refine (MZ.out _).mono ?_)
          rintro e w12 ⟨rfl, o⟩
          have O12 := Lib.hid (O11.out.trans o)
          clear o
          go_wp2_with fail
          (with_reducible refine (AZ.out _).mono ?_)
          rintro e w13 ⟨rfl, o⟩
          have O13 := Lib.hid (O12.out.trans o)
          clear o
          go_wp2_with fail
          go_ret
          exact ⟨rfl, O13.out⟩


theorem agrees_walk (x : ByteArray) (hx : x.size ≤ 9223372036854775807) (y : ByteArray) (hy : y.size ≤ 9223372036854775807) (z : ByteArray) (hz : z.size ≤ 9223372036854775807) {w : World} : Calls Try.prog 6 #[.string x, .string y, .string z] w fun e w' => e = .returned (.bool true) ∧ Below w.heap.size w w' :=
  (agrees_any x y z w).mono fun e w' ⟨he, o⟩ => ⟨he, o.below (fun k h => h.elim) (Nat.le_refl _)⟩
end Go.Proofs.Ytbjnejnjlidiaaa.tsI
