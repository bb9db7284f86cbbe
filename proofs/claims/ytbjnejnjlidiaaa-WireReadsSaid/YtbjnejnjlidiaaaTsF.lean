/- Term: the document's Make. -/
import Derived.Test.YtbjnejnjlidiaaaTsA
import Derived.Test.YtbjnejnjlidiaaaTsE
import Derived.Test.YtbjnejnjlidiaaaPrX
namespace Go.Proofs.Ytbjnejnjlidiaaa.tsF
open Go.RowKit kit numA numB numC numD numE numF numG numH numI tmA tmB tmC tmD tmE srcA trA trB trD prA prC prS prW prX tsA tsB
set_option linter.unusedVariables false
set_option linter.unusedSimpArgs false

theorem head_ne {k : Nat} {c : UInt8} {r t : Txt} {n : Nat} {d : Nd} (h5 : 5 ≤ k) (h11 : k ≤ 11) (hc : kindOf c ≤ 4) (h : letter k :: r = c :: t) : False := by
  rw [List.cons.injEq] at h
  have := letter_kind k (by omega) h11
  rw [h.1] at this
  omega

theorem isT_num {n : Nat} (hn : n ≤ most) : isT (110 :: dec n) = true := isT_iff.2 ⟨⟨_, T.num n hn⟩, by have := dec_short hn; rw [List.length_cons]; omega⟩

theorem isT_atom {n : Nat} (hn : n ≤ most) : isT (97 :: dec n) = decide (n ≤ 4294967295) := by
  by_cases h : n ≤ 4294967295
  · rw [decide_eq_true h]
    exact isT_iff.2 ⟨⟨_, T.atom n h⟩, by have := dec_short hn; rw [List.length_cons]; omega⟩
  · rw [decide_eq_false h, ← Bool.not_eq_true]
    intro hi
    obtain ⟨⟨d, hd⟩, _⟩ := isT_iff.1 hi
    generalize ht : (97 : UInt8) :: dec n = t at hd
    cases hd with
    | zero => simp at ht
    | atom m hm =>
      rw [List.cons.injEq] at ht
      have := congrArg val ht.2
      rw [val_dec, val_dec] at this
      omega
    | num m hm => simp at ht
    | data b => simp at ht
    | node k m ps h5 h11 => exact head_ne (n := 0) (d := default) h5 h11 (by decide) ht.symm

theorem isT_data {b : Txt} : isT (120 :: hexs b) = decide (b.length ≤ 32767) := by
  by_cases h : b.length ≤ 32767
  · rw [decide_eq_true h]
    exact isT_iff.2 ⟨⟨_, T.data b⟩, by rw [List.length_cons, hexs_len]; omega⟩
  · rw [decide_eq_false h, ← Bool.not_eq_true]
    intro hi
    have := (isT_iff.1 hi).2
    rw [List.length_cons, hexs_len] at this
    omega

set_option maxRecDepth 100000 in
theorem refmake_full (k : Int) (n : Nat) (b : Txt) (ps : List Txt) (S T : Nat → Prop) (bv lv : Value) (w : World) (h : k < 5 ∨ 11 < k) (hn : n ≤ most) (hb : Sl w T bv (U8 b)) (hbl : b.length ≤ 100000000) (hp : ps ≠ []) (hsl : Sl w S lv (ps.map sv)) : Calls Try.prog 32 #[.int .i64 k, .int .u64 n, bv, lv] w (Made w (mkI k n b ps)) := by
  obtain ⟨a, m, cap, rfl⟩ : ∃ a m cap, lv = .slice a m cap := by
    obtain ⟨_, a, cap, h, _⟩ := hsl
    exact ⟨a, _, cap, h⟩
  obtain rfl := sl_len hsl
  have HM := Lib.hid (mkI_no (n := n) (b := b) h hp)
  have l1 : 0 < ps.length := List.length_pos_iff.2 hp
  have PN := Lib.hid (fun W => print_ref n W hn)
  have HB := Lib.hid (fun (W : World) (o : Only (fun _ => False) w W) => hex_ref T _ b W (hb.keep o fun _ _ h => h) hbl)
  have key : k = 1 ∨ k = 2 ∨ k = 3 ∨ k = 4 ∨ k < 1 ∨ (1 ≤ k ∧ 11 < k) := by omega
  obtain ⟨L2, hL2⟩ : ∃ L2 : ByteArray, (⟨#[48, 97, 110, 120, 112, 100, 104, 107, 109, 115, 108]⟩ : ByteArray).extract 1 2 = L2 ∧ L2.size = 1 := ⟨_, rfl, rfl⟩
  obtain ⟨L3, hL3⟩ : ∃ L3 : ByteArray, (⟨#[48, 97, 110, 120, 112, 100, 104, 107, 109, 115, 108]⟩ : ByteArray).extract 2 3 = L3 ∧ L3.size = 1 := ⟨_, rfl, rfl⟩
  obtain ⟨L4, hL4⟩ : ∃ L4 : ByteArray, (⟨#[48, 97, 110, 120, 112, 100, 104, 107, 109, 115, 108]⟩ : ByteArray).extract 3 4 = L4 ∧ L4.size = 1 := ⟨_, rfl, rfl⟩
  have dl : (⟨(dec n).toArray⟩ : ByteArray).size ≤ 20 := by have := dec_short hn; simpa [ByteArray.size] using this
  have hl : (⟨(hexs b).toArray⟩ : ByteArray).size = 2 * b.length := by rw [← hexs_len]; simp [ByteArray.size]
  have A2 := fun W => run_string_add_sum (P := Try.prog) W L2 ⟨(dec n).toArray⟩ (by omega)
  have A3 := fun W => run_string_add_sum (P := Try.prog) W L3 ⟨(dec n).toArray⟩ (by omega)
  have A4 := fun W => run_string_add_sum (P := Try.prog) W L4 ⟨(hexs b).toArray⟩ (by omega)
  have E2 := Lib.hid hL2.1
  have E3 := Lib.hid hL3.1
  have E4 := Lib.hid hL4.1
  clear h hp hsl hn hb hbl hL2 hL3 hL4 dl hl
  rcases key with rfl | rfl | rfl | rfl | h | h
  · clear A2 A3 A4
    go_enter Try.func32, Try.ntmps32
    go_wp2_with fail
    go_ret
    exact ⟨Only.refl _ _, by rw [HM.out]; rfl⟩
  · go_enter Try.func32, Try.ntmps32
    go_wp2_with fail
    rw [E2.out]
    (with_reducible refine (PN.out _).mono ?_)
    rintro e w2 ⟨rfl, o2⟩
    have O2 := Lib.hid o2
    clear o2
    go_wp2_with fail
    go_ret
    exact ⟨O2.out, by rw [HM.out]; rfl⟩
  · go_enter Try.func32, Try.ntmps32
    go_wp2_with fail
    rw [E3.out]
    (with_reducible refine (PN.out _).mono ?_)
    rintro e w2 ⟨rfl, o2⟩
    have O2 := Lib.hid o2
    clear o2
    go_wp2_with fail
    go_ret
    exact ⟨O2.out, by rw [HM.out]; rfl⟩
  · go_enter Try.func32, Try.ntmps32
    go_wp2_with fail
    rw [E4.out]
    (with_reducible refine (HB.out _ (Only.refl _ _)).mono ?_)
    rintro e w2 ⟨rfl, o2⟩
    have O2 := Lib.hid o2
    clear o2
    go_wp2_with fail
    go_ret
    exact ⟨O2.out, by rw [HM.out]; rfl⟩
  · clear A2 A3 A4
    have h1 : (k < 1) = True := eq_true h
    clear h
    go_enter Try.func32, Try.ntmps32
    go_wp2_with fail
    go_ret
    exact ⟨Only.refl _ _, by rw [HM.out]; rfl⟩
  · clear A2 A3 A4
    have h1 : (k < 1) = False := eq_false (by omega)
    have h2 : (11 < k) = True := eq_true h.2
    clear h
    go_enter Try.func32, Try.ntmps32
    go_wp2_with fail
    go_ret
    exact ⟨Only.refl _ _, by rw [HM.out]; rfl⟩

set_option maxRecDepth 100000 in
theorem refmake_leaf (k : Int) (n : Nat) (b : Txt) (T : Nat → Prop) (bv lv : Value) (w : World) (h : k < 5 ∨ 11 < k) (hn : n ≤ most) (hb : Sl w T bv (U8 b)) (hbl : b.length ≤ 40000000) (hsl : emp lv) : Calls Try.prog 32 #[.int .i64 k, .int .u64 n, bv, lv] w (Made w (mkI k n b [])) := by
  obtain ⟨a, cap, rfl⟩ := hsl
  have PN := Lib.hid (fun W => print_ref n W hn)
  have HB := Lib.hid (fun (W : World) (o : Only (fun _ => False) w W) => hex_ref T _ b W (hb.keep o fun _ _ h => h) (by omega))
  have key : k = 1 ∨ k = 2 ∨ k = 3 ∨ k = 4 ∨ k < 1 ∨ (1 ≤ k ∧ 11 < k) := by omega
  obtain ⟨L1, hL1⟩ : ∃ L1 : ByteArray, (⟨#[48, 97, 110, 120, 112, 100, 104, 107, 109, 115, 108]⟩ : ByteArray).extract 0 1 = L1 ∧ L1.data.toList = [48] := ⟨_, rfl, rfl⟩
  obtain ⟨L2, hL2⟩ : ∃ L2 : ByteArray, (⟨#[48, 97, 110, 120, 112, 100, 104, 107, 109, 115, 108]⟩ : ByteArray).extract 1 2 = L2 ∧ L2.data.toList = [97] := ⟨_, rfl, rfl⟩
  obtain ⟨L3, hL3⟩ : ∃ L3 : ByteArray, (⟨#[48, 97, 110, 120, 112, 100, 104, 107, 109, 115, 108]⟩ : ByteArray).extract 2 3 = L3 ∧ L3.data.toList = [110] := ⟨_, rfl, rfl⟩
  obtain ⟨L4, hL4⟩ : ∃ L4 : ByteArray, (⟨#[48, 97, 110, 120, 112, 100, 104, 107, 109, 115, 108]⟩ : ByteArray).extract 3 4 = L4 ∧ L4.data.toList = [120] := ⟨_, rfl, rfl⟩
  obtain ⟨D, hD⟩ : ∃ D : ByteArray, D = ⟨(dec n).toArray⟩ := ⟨_, rfl⟩
  obtain ⟨X, hX⟩ : ∃ X : ByteArray, X = ⟨(hexs b).toArray⟩ := ⟨_, rfl⟩
  rw [← hD] at PN
  rw [← hX] at HB
  have hDt : D.data.toList = dec n := by rw [hD]
  have hXt : X.data.toList = hexs b := by rw [hX]
  have dl := sz_of hDt
  have hl := sz_of hXt
  have ds := dec_short hn
  rw [hexs_len] at hl
  have z1 := sz_of hL1.2
  have z2 := sz_of hL2.2
  have z3 := sz_of hL3.2
  have z4 := sz_of hL4.2
  simp only [List.length_cons, List.length_nil, Nat.zero_add] at z1 z2 z3 z4
  have A2 := fun W => run_string_add_sum (P := Try.prog) W L2 D (by omega)
  have A3 := fun W => run_string_add_sum (P := Try.prog) W L3 D (by omega)
  have A4 := fun W => run_string_add_sum (P := Try.prog) W L4 X (by omega)
  obtain ⟨Y2, hY2⟩ : ∃ Y : ByteArray, Y = L2 ++ D := ⟨_, rfl⟩
  obtain ⟨Y3, hY3⟩ : ∃ Y : ByteArray, Y = L3 ++ D := ⟨_, rfl⟩
  obtain ⟨Y4, hY4⟩ : ∃ Y : ByteArray, Y = L4 ++ X := ⟨_, rfl⟩
  rw [← hY2] at A2
  rw [← hY3] at A3
  rw [← hY4] at A4
  have t2 : Y2.data.toList = 97 :: dec n := by rw [hY2, ByteArray.data_append, Array.toList_append, hL2.2, hDt]; rfl
  have t3 : Y3.data.toList = 110 :: dec n := by rw [hY3, ByteArray.data_append, Array.toList_append, hL3.2, hDt]; rfl
  have t4 : Y4.data.toList = 120 :: hexs b := by rw [hY4, ByteArray.data_append, Array.toList_append, hL4.2, hXt]; rfl
  have I1 := Lib.hid (fun W => refIs L1 W (by omega))
  have I2 := Lib.hid (fun W => refIs Y2 W (by rw [hY2, ByteArray.size_append]; omega))
  have I3 := Lib.hid (fun W => refIs Y3 W (by rw [hY3, ByteArray.size_append]; omega))
  have I4 := Lib.hid (fun W => refIs Y4 W (by rw [hY4, ByteArray.size_append]; omega))
  rw [hL1.2, show isT [48] = true from by decide +kernel] at I1
  rw [t2, isT_atom hn] at I2
  rw [t3, isT_num hn] at I3
  rw [t4, isT_data] at I4
  have E1 := Lib.hid hL1
  have E2 := Lib.hid hL2.1
  have E3 := Lib.hid hL3.1
  have E4 := Lib.hid hL4.1
  have T1 := Lib.hid (ext_of hL1.2)
  have T2 := Lib.hid (ext_of t2)
  have T3 := Lib.hid (ext_of t3)
  have T4 := Lib.hid (ext_of t4)
  clear h hn hb hbl hL1 hL2 hL3 hL4 dl hl hD hX hDt hXt hY2 hY3 hY4 t2 t3 t4 z1 z2 z3 z4 ds
  rcases key with rfl | rfl | rfl | rfl | h | h
  · clear A2 A3 A4
    go_enter Try.func32, Try.ntmps32
    go_wp2_with fail
    rw [E1.out.1]
    (with_reducible refine (I1.out _).mono ?_)
    rintro e w2 ⟨rfl, o2⟩
    have O2 := Lib.hid o2
    clear o2
    go_wp2_with fail
    go_ret
    exact ⟨O2.out, by rw [T1.out]; rfl⟩
  · by_cases hc : n ≤ 4294967295
    · have HM := Lib.hid (show mkI 2 n b [] = 97 :: dec n from by
        show mkT 2 n b [] = _
        rw [mkT, if_neg (by decide), if_pos rfl, if_pos ⟨rfl, hc⟩])
      rw [decide_eq_true hc] at I2
      clear hc
      go_enter Try.func32, Try.ntmps32
      go_wp2_with fail
      rw [E2.out]
      (with_reducible refine (PN.out _).mono ?_)
      rintro e w2 ⟨rfl, o2⟩
      have O2 := Lib.hid o2
      clear o2
      go_wp2_with fail
      (with_reducible refine (I2.out _).mono ?_)
      rintro e w3 ⟨rfl, o3⟩
      have O3 := Lib.hid (O2.out.trans o3)
      clear o3
      go_wp2_with fail
      go_ret
      exact ⟨O3.out, by rw [HM.out, T2.out]; rfl⟩
    · have HM := Lib.hid (show mkI 2 n b [] = [] from by
        show mkT 2 n b [] = _
        rw [mkT, if_neg (by decide), if_pos rfl, if_neg (fun q => hc q.2)])
      rw [decide_eq_false hc] at I2
      clear hc
      go_enter Try.func32, Try.ntmps32
      go_wp2_with fail
      rw [E2.out]
      (with_reducible refine (PN.out _).mono ?_)
      rintro e w2 ⟨rfl, o2⟩
      have O2 := Lib.hid o2
      clear o2
      go_wp2_with fail
      (with_reducible refine (I2.out _).mono ?_)
      rintro e w3 ⟨rfl, o3⟩
      have O3 := Lib.hid (O2.out.trans o3)
      clear o3
      go_wp2_with fail
      go_ret
      exact ⟨O3.out, by rw [HM.out]; rfl⟩
  · go_enter Try.func32, Try.ntmps32
    go_wp2_with fail
    rw [E3.out]
    (with_reducible refine (PN.out _).mono ?_)
    rintro e w2 ⟨rfl, o2⟩
    have O2 := Lib.hid o2
    clear o2
    go_wp2_with fail
    (with_reducible refine (I3.out _).mono ?_)
    rintro e w3 ⟨rfl, o3⟩
    have O3 := Lib.hid (O2.out.trans o3)
    clear o3
    go_wp2_with fail
    go_ret
    exact ⟨O3.out, by rw [T3.out]; rfl⟩
  · by_cases hc : b.length ≤ 32767
    · have HM := Lib.hid (show mkI 4 n b [] = 120 :: hexs b from by
        show mkT 4 n b [] = _
        rw [mkT, if_neg (by decide), if_neg (by decide), if_neg (by decide), if_pos rfl, if_pos ⟨rfl, hc⟩])
      rw [decide_eq_true hc] at I4
      clear hc
      go_enter Try.func32, Try.ntmps32
      go_wp2_with fail
      rw [E4.out]
      (with_reducible refine (HB.out _ (Only.refl _ _)).mono ?_)
      rintro e w2 ⟨rfl, o2⟩
      have O2 := Lib.hid o2
      clear o2
      go_wp2_with fail
      (with_reducible refine (I4.out _).mono ?_)
      rintro e w3 ⟨rfl, o3⟩
      have O3 := Lib.hid (O2.out.trans o3)
      clear o3
      go_wp2_with fail
      go_ret
      exact ⟨O3.out, by rw [HM.out, T4.out]; rfl⟩
    · have HM := Lib.hid (show mkI 4 n b [] = [] from by
        show mkT 4 n b [] = _
        rw [mkT, if_neg (by decide), if_neg (by decide), if_neg (by decide), if_pos rfl, if_neg (fun q => hc q.2)])
      rw [decide_eq_false hc] at I4
      clear hc
      go_enter Try.func32, Try.ntmps32
      go_wp2_with fail
      rw [E4.out]
      (with_reducible refine (HB.out _ (Only.refl _ _)).mono ?_)
      rintro e w2 ⟨rfl, o2⟩
      have O2 := Lib.hid o2
      clear o2
      go_wp2_with fail
      (with_reducible refine (I4.out _).mono ?_)
      rintro e w3 ⟨rfl, o3⟩
      have O3 := Lib.hid (O2.out.trans o3)
      clear o3
      go_wp2_with fail
      go_ret
      exact ⟨O3.out, by rw [HM.out]; rfl⟩
  · clear A2 A3 A4
    have HM := Lib.hid (show mkI k n b [] = [] from by rw [mkI, if_neg (by omega)])
    have h1 : (k < 1) = True := eq_true h
    clear h
    go_enter Try.func32, Try.ntmps32
    go_wp2_with fail
    go_ret
    exact ⟨Only.refl _ _, by rw [HM.out]; rfl⟩
  · clear A2 A3 A4
    have HM := Lib.hid (show mkI k n b [] = [] from by rw [mkI, if_neg (by omega)])
    have h1 : (k < 1) = False := eq_false (by omega)
    have h2 : (11 < k) = True := eq_true h.2
    clear h
    go_enter Try.func32, Try.ntmps32
    go_wp2_with fail
    go_ret
    exact ⟨Only.refl _ _, by rw [HM.out]; rfl⟩

theorem refmake_any (k : Int) (n : Nat) (b : Txt) (ps : List Txt) (S T : Nat → Prop) (bv lv : Value) (w : World) (hn : n ≤ most) (hb : Sl w T bv (U8 b)) (hbl : b.length ≤ 40000000) (hsl : Sl w S lv (ps.map sv)) (ht : total ps ≤ 50000000) (hlen : ps.length ≤ 1000000) : Calls Try.prog 32 #[.int .i64 k, .int .u64 n, bv, lv] w (Made w (mkI k n b ps)) := by
  by_cases h : k < 5 ∨ 11 < k
  · by_cases hp : ps = []
    · subst hp
      refine refmake_leaf k n b T bv lv w h hn hb hbl ?_
      obtain ⟨_, a, c, e, _⟩ := hsl
      exact ⟨a, c, e⟩
    · exact refmake_full k n b ps S T bv lv w h hn hb (by omega) hp hsl
  · obtain ⟨j, rfl⟩ : ∃ j : Nat, k = j := ⟨k.toNat, by omega⟩
    rw [mkI_nat (by omega) (by omega)]
    have e : (j = 5 ∨ j = 7 ∨ j = 9 ∨ j = 11) ∨ (j = 8 ∨ j = 10) ∨ j = 6 := by omega
    rcases e with e | e | e
    · exact refmake_o j n b ps S bv lv w e hn hsl ht hlen
    · exact refmake_n j n b ps S bv lv w e hn hsl ht hlen
    · exact refmake_6 j n b ps S bv lv w e hn hsl ht hlen

theorem strs_total {xs : List ByteArray} {B : Nat} (h : (xs.map (·.size)).sum ≤ B) : total (xs.map (·.data.toList)) ≤ B := by
  have e : total (xs.map (·.data.toList)) = (xs.map (·.size)).sum := by
    unfold total
    rw [List.map_map]
    congr 1
  rw [e]
  exact h

theorem refmake_lst (k n : Int) (N : Nat) (hN : (N : Int) = n) (hm : N ≤ most) (xs : List ByteArray) (w : World) (hx : (xs.map (·.size)).sum ≤ 50000000) (hl : xs.length ≤ 1000) : Calls Try.prog 32 #[.int .i64 k, .int .u64 n, .slice none 0 0, .slice (some ⟨w.heap.size, 0, none⟩) xs.length xs.length] (w.alloc (.cells (xs.map Value.string).toArray 9)) (Made w (mkI k N [] (xs.map (·.data.toList)))) := by
  subst hN
  refine (refmake_any k N [] (xs.map (·.data.toList)) _ (fun _ => False) (.slice none 0 0) _ _ hm (sl_nil _ _) (Nat.zero_le _) (sl_strs w xs hl) (strs_total hx) (by rw [List.length_map]; omega)).mono ?_
  rintro e w' ⟨o, rfl⟩
  exact ⟨((Only.refl _ w).alloc _).trans o, rfl⟩

theorem refmake1 (k n : Int) (N : Nat) (hN : (N : Int) = n) (hm : N ≤ most) (x : ByteArray) (w : World) (hx : x.size ≤ 10000000) : Calls Try.prog 32 #[.int .i64 k, .int .u64 n, .slice none 0 0, .slice (some ⟨w.heap.size, 0, none⟩) 1 1] (w.alloc (.cells #[.string x] 9)) (Made w (mkI k N [] [x.data.toList])) :=
  refmake_lst k n N hN hm [x] w (by simp; omega) (by simp)

theorem refmake2 (k n : Int) (N : Nat) (hN : (N : Int) = n) (hm : N ≤ most) (x y : ByteArray) (w : World) (hx : x.size ≤ 10000000) (hy : y.size ≤ 10000000) : Calls Try.prog 32 #[.int .i64 k, .int .u64 n, .slice none 0 0, .slice (some ⟨w.heap.size, 0, none⟩) 2 2] (w.alloc (.cells #[.string x, .string y] 9)) (Made w (mkI k N [] [x.data.toList, y.data.toList])) :=
  refmake_lst k n N hN hm [x, y] w (by simp; omega) (by simp)

theorem refmake3 (k n : Int) (N : Nat) (hN : (N : Int) = n) (hm : N ≤ most) (x y z : ByteArray) (w : World) (hx : x.size ≤ 10000000) (hy : y.size ≤ 10000000) (hz : z.size ≤ 10000000) : Calls Try.prog 32 #[.int .i64 k, .int .u64 n, .slice none 0 0, .slice (some ⟨w.heap.size, 0, none⟩) 3 3] (w.alloc (.cells #[.string x, .string y, .string z] 9)) (Made w (mkI k N [] [x.data.toList, y.data.toList, z.data.toList])) :=
  refmake_lst k n N hN hm [x, y, z] w (by simp; omega) (by simp)

set_option maxRecDepth 100000 in
theorem seal_any (n : Nat) (key u v : ByteArray) (w : World) (hn : n ≤ most) (h1 : key.size ≤ 10000000) (h2 : u.size ≤ 10000000) (h3 : v.size ≤ 10000000) : Calls Try.prog 38 #[.int .u64 n, .string key, .string u, .string v] w (Made w (mkT 10 n [] [key.data.toList, u.data.toList, v.data.toList])) := by
  have MK := Lib.hid (fun W => refmake3 10 n n rfl hn key u v W h1 h2 h3)
  clear hn h1 h2 h3
  go_enter Try.func38, Try.ntmps38
  go_wp2_with fail
  (with_reducible refine (MK.out _).mono ?_)
  rintro e w2 ⟨o, rfl⟩
  have O := Lib.hid o
  clear o
  go_wp2_with fail
  go_ret
  exact ⟨O.out, rfl⟩

set_option maxRecDepth 100000 in
theorem pub_any (x : ByteArray) (w : World) (h1 : x.size ≤ 10000000) : Calls Try.prog 40 #[.string x] w (Made w (mkT 5 0 [] [x.data.toList])) := by
  have MK := Lib.hid (fun W => refmake1 5 0 0 rfl (by decide) x W h1)
  clear h1
  go_enter Try.func40, Try.ntmps40
  go_wp2_with fail
  (with_reducible refine (MK.out _).mono ?_)
  rintro e w2 ⟨o, rfl⟩
  have O := Lib.hid o
  clear o
  go_wp2_with fail
  go_ret
  exact ⟨O.out, rfl⟩
end Go.Proofs.Ytbjnejnjlidiaaa.tsF
namespace Go.Proofs.Ytbjnejnjlidiaaa.tsG
open Go.RowKit kit numA numB numC numD numE numF numG numH numI tmA tmB tmC tmD tmE srcA trA trB trD prA prC prS prW prX tsA tsB tsF
set_option linter.unusedVariables false
set_option linter.unusedSimpArgs false

set_option maxRecDepth 100000 in
theorem refopen_any (s key : ByteArray) (n : Nat) (v : ByteArray) (w : World) (hm : s.size ≤ 100000000) : Calls Try.prog 34 #[.string s, .string key, .int .u64 n, .string v] w (numA.Told w (.tuple #[.string ⟨(opn s.data.toList key.data.toList n v.data.toList).1.toArray⟩, .int .i64 ((opn s.data.toList key.data.toList n v.data.toList).2 : Nat)])) := by
  have PT := Lib.hid (trJ.read_nd s w hm)
  clear hm
  obtain ⟨k, hk⟩ : ∃ k, k = (nd s.data.toList).k := ⟨_, rfl⟩
  obtain ⟨m, hmm⟩ : ∃ m, m = (nd s.data.toList).n := ⟨_, rfl⟩
  have HK := Lib.hid (show (trJ.ndOf s.data.toList).k = k from hk.symm)
  have HM := Lib.hid (show (trJ.ndOf s.data.toList).n = m from hmm.symm)
  by_cases h10 : k = 10
  · obtain ⟨a, b, c, hps⟩ := nd3 (by rw [← hk]; exact h10)
    have HPS := Lib.hid (show (trJ.ndOf s.data.toList).ps = [a, b, c] from hps)
    have ho : opn s.data.toList key.data.toList n v.data.toList = if a = key.data.toList ∧ m = n ∧ c = v.data.toList then (b, 0) else ([], 8) := by
      rw [opn, if_pos (by rw [← hk]; exact h10), hps, ← hmm]
      rfl
    have c10 : ((k : Int) != 10) = false := by rw [bne_eq_false_iff_eq]; omega
    obtain ⟨sa, hsa⟩ : ∃ sa : ByteArray, sa = ⟨a.toArray⟩ := ⟨_, rfl⟩
    obtain ⟨sc, hsc⟩ : ∃ sc : ByteArray, sc = ⟨c.toArray⟩ := ⟨_, rfl⟩
    have HSA := Lib.hid hsa
    have HSC := Lib.hid hsc
    have ea : a = key.data.toList ↔ sa = key := by rw [hsa, bytes_eq]
    have ec : c = v.data.toList ↔ sc = v := by rw [hsc, bytes_eq]
    have HO := Lib.hid ho
    have EA := Lib.hid ea
    have EC := Lib.hid ec
    clear hk hmm h10 hps ho hsa hsc ea ec
    have fin : ∀ (X : Txt × Nat), opn s.data.toList key.data.toList n v.data.toList = X → Hid (opn s.data.toList key.data.toList n v.data.toList = X) := fun X h => Lib.hid h
    by_cases h1 : sa = key
    · by_cases h2 : m = n
      · by_cases h3 : sc = v
        · have HR := fin (b, 0) (by rw [HO.out, if_pos ⟨EA.out.2 h1, h2, EC.out.2 h3⟩])
          have q1 : (sa.toList == key.toList) = true := beq_t h1
          have q1' : (sa.toList = key.toList) = True := eq_t h1
          have q2 : ((m : Int) == n) = true := by simp [h2]
          have q2' : ((m : Int) != n) = false := by simp [h2]
          have q3 : (sc.toList == v.toList) = true := beq_t h3
          have q3' : (sc.toList = v.toList) = True := eq_t h3
          clear h1 h2 h3 HO fin
          go_enter Try.func34, Try.ntmps34
          go_wp2_with fail
          (with_reducible refine PT.out.mono ?_)
          rintro e w2 ⟨o, x, rfl, ab, nb, cb, a', n', c', rfl, -, sl⟩
          have O := Lib.hid (fun c => o.alloc c)
          rw [HPS.out] at sl
          obtain ⟨g, oo, cc, hsl, -, hg, hc⟩ := sl_lits sl (by simp)
          injection hsl with q1 q2 q3
          subst q1 q2 q3
          have x0 := hc 0 (by simp)
          have x1 := hc 1 (by simp)
          have x2 := hc 2 (by simp)
          simp only [List.getD_cons_zero, List.getD_cons_succ, Nat.add_zero] at x0 x1 x2
          rw [← HSA.out] at x0
          rw [← HSC.out] at x2
          clear o sl PT hc
          rw [HK.out, HM.out]
          simp only [List.length_cons, List.length_nil, Nat.zero_add, Nat.reduceAdd]
          go_wp2_with fail
          all_goals
            go_ret2
            exact ⟨by rw [HR.out]; rfl, O.out _⟩
        · have HR := fin ([], 8) (by rw [HO.out, if_neg (fun q => h3 (EC.out.1 q.2.2))])
          have q1 : (sa.toList == key.toList) = true := beq_t h1
          have q1' : (sa.toList = key.toList) = True := eq_t h1
          have q2 : ((m : Int) == n) = true := by simp [h2]
          have q2' : ((m : Int) != n) = false := by simp [h2]
          have q3 : (sc.toList == v.toList) = false := beq_f h3
          have q3' : (sc.toList = v.toList) = False := eq_f h3
          clear h1 h2 h3 HO fin
          go_enter Try.func34, Try.ntmps34
          go_wp2_with fail
          (with_reducible refine PT.out.mono ?_)
          rintro e w2 ⟨o, x, rfl, ab, nb, cb, a', n', c', rfl, -, sl⟩
          have O := Lib.hid (fun c => o.alloc c)
          rw [HPS.out] at sl
          obtain ⟨g, oo, cc, hsl, -, hg, hc⟩ := sl_lits sl (by simp)
          injection hsl with q1 q2 q3
          subst q1 q2 q3
          have x0 := hc 0 (by simp)
          have x1 := hc 1 (by simp)
          have x2 := hc 2 (by simp)
          simp only [List.getD_cons_zero, List.getD_cons_succ, Nat.add_zero] at x0 x1 x2
          rw [← HSA.out] at x0
          rw [← HSC.out] at x2
          clear o sl PT hc
          rw [HK.out, HM.out]
          simp only [List.length_cons, List.length_nil, Nat.zero_add, Nat.reduceAdd]
          go_wp2_with fail
          all_goals
            go_ret2
            exact ⟨by rw [HR.out]; rfl, O.out _⟩
      · have HR := fin ([], 8) (by rw [HO.out, if_neg (fun q => h2 q.2.1)])
        have q1 : (sa.toList == key.toList) = true := beq_t h1
        have q1' : (sa.toList = key.toList) = True := eq_t h1
        have q2 : ((m : Int) == n) = false := by rw [beq_eq_false_iff_ne]; omega
        have q2' : ((m : Int) != n) = true := by rw [bne_iff_ne]; omega
        clear h1 h2 HO fin
        go_enter Try.func34, Try.ntmps34
        go_wp2_with fail
        (with_reducible refine PT.out.mono ?_)
        rintro e w2 ⟨o, x, rfl, ab, nb, cb, a', n', c', rfl, -, sl⟩
        have O := Lib.hid (fun c => o.alloc c)
        rw [HPS.out] at sl
        obtain ⟨g, oo, cc, hsl, -, hg, hc⟩ := sl_lits sl (by simp)
        injection hsl with q1 q2 q3
        subst q1 q2 q3
        have x0 := hc 0 (by simp)
        have x1 := hc 1 (by simp)
        have x2 := hc 2 (by simp)
        simp only [List.getD_cons_zero, List.getD_cons_succ, Nat.add_zero] at x0 x1 x2
        rw [← HSA.out] at x0
        rw [← HSC.out] at x2
        clear o sl PT hc
        rw [HK.out, HM.out]
        simp only [List.length_cons, List.length_nil, Nat.zero_add, Nat.reduceAdd]
        go_wp2_with fail
        all_goals
          go_ret2
          exact ⟨by rw [HR.out]; rfl, O.out _⟩
    · have HR := fin ([], 8) (by rw [HO.out, if_neg (fun q => h1 (EA.out.1 q.1))])
      have q1 : (sa.toList == key.toList) = false := beq_f h1
      have q1' : (sa.toList = key.toList) = False := eq_f h1
      clear h1 HO fin
      go_enter Try.func34, Try.ntmps34
      go_wp2_with fail
      (with_reducible refine PT.out.mono ?_)
      rintro e w2 ⟨o, x, rfl, ab, nb, cb, a', n', c', rfl, -, sl⟩
      have O := Lib.hid (fun c => o.alloc c)
      rw [HPS.out] at sl
      obtain ⟨g, oo, cc, hsl, -, hg, hc⟩ := sl_lits sl (by simp)
      injection hsl with q1 q2 q3
      subst q1 q2 q3
      have x0 := hc 0 (by simp)
      have x1 := hc 1 (by simp)
      have x2 := hc 2 (by simp)
      simp only [List.getD_cons_zero, List.getD_cons_succ, Nat.add_zero] at x0 x1 x2
      rw [← HSA.out] at x0
      rw [← HSC.out] at x2
      clear o sl PT hc
      rw [HK.out, HM.out]
      simp only [List.length_cons, List.length_nil, Nat.zero_add, Nat.reduceAdd]
      go_wp2_with fail
      all_goals
        go_ret2
        exact ⟨by rw [HR.out]; rfl, O.out _⟩
  · have HR := Lib.hid (show opn s.data.toList key.data.toList n v.data.toList = ([], 3) from by rw [opn, if_neg (by rw [← hk]; exact h10)])
    have c10 : ((k : Int) != 10) = true := by rw [bne_iff_ne]; omega
    clear hk hmm h10
    go_enter Try.func34, Try.ntmps34
    go_wp2_with fail
    (with_reducible refine PT.out.mono ?_)
    rintro e w2 ⟨o, x, rfl, ab, nb, cb, a', n', c', rfl, -, -⟩
    have O := Lib.hid (o.alloc (.cells #[.int .i64 (trJ.ndOf s.data.toList).k, .int .u64 (trJ.ndOf s.data.toList).n, .slice ab nb cb, .slice a' n' c'] 27))
    clear o PT
    rw [HK.out, HM.out] at O ⊢
    go_wp2_with fail
    go_ret2
    exact ⟨by rw [HR.out]; rfl, O.out⟩

set_option maxRecDepth 100000 in
theorem refagree_any (x p : ByteArray) (w : World) (hx : x.size ≤ 10000000) (hm : p.size ≤ 10000000) : Calls Try.prog 37 #[.string x, .string p] w (Made w (agr x.data.toList p.data.toList)) := by
  have PT := Lib.hid (trJ.read_nd p w (by omega))
  obtain ⟨k, hk⟩ : ∃ k, k = (nd p.data.toList).k := ⟨_, rfl⟩
  have HK := Lib.hid (show (trJ.ndOf p.data.toList).k = k from hk.symm)
  by_cases h5 : k = 5
  · obtain ⟨a, hps⟩ := nd1 (t := p.data.toList) (by rw [← hk]; exact h5)
    have HPS := Lib.hid (show (trJ.ndOf p.data.toList).ps = [a] from hps)
    have al : a.length ≤ 10000000 := by
      have := (nd_parts (t := p.data.toList) (p := a) (by rw [hps]; simp)).2
      rw [tl_size] at this
      omega
    have HA := Lib.hid (show agr x.data.toList p.data.toList = mkT 6 0 [] [x.data.toList, a] from by
      rw [agr, if_pos (by rw [← hk]; exact h5), hps]
      rfl)
    have c5 : ((k : Int) != 5) = false := by rw [bne_eq_false_iff_eq]; omega
    obtain ⟨sa, hsa⟩ : ∃ sa : ByteArray, sa = ⟨a.toArray⟩ := ⟨_, rfl⟩
    have HSA := Lib.hid hsa
    have MK := Lib.hid (fun W B (hB : W.heap.size = B) => (show Calls Try.prog 32 #[.int .i64 6, .int .u64 0, .slice none 0 0, .slice (some ⟨B, 0, none⟩) 2 2] (W.alloc (.cells #[.string x, .string sa] 9)) (Made W (mkI 6 0 [] [x.data.toList, sa.data.toList])) from by subst hB; exact refmake2 6 0 0 rfl (by decide) x sa W hx (by rw [hsa]; simpa [ByteArray.size] using al)))
    clear hk h5 hps hsa hx hm al
    go_enter Try.func37, Try.ntmps37
    go_wp2_with fail
    (with_reducible refine PT.out.mono ?_)
    rintro e w2 ⟨o, v, rfl, ab, nb, cb, a', n', c', rfl, -, sl⟩
    have O := Lib.hid (o.alloc (.cells #[.int .i64 (trJ.ndOf p.data.toList).k, .int .u64 (trJ.ndOf p.data.toList).n, .slice ab nb cb, .slice a' n' c'] 27))
    rw [HPS.out] at sl
    obtain ⟨g, oo, cc, hsl, -, hg, hc⟩ := sl_lits sl (by simp)
    injection hsl with q1 q2 q3
    subst q1 q2 q3
    have x0 := hc 0 (by simp)
    simp only [List.getD_cons_zero, List.getD_cons_succ, Nat.add_zero] at x0
    rw [← HSA.out] at x0
    clear o sl PT hc
    rw [HK.out] at O ⊢
    simp only [List.length_cons, List.length_nil, Nat.zero_add, Nat.reduceAdd] at O ⊢
    go_wp2_with fail
    (with_reducible refine (MK.out _ _ (World.size_alloc _ _)).mono ?_)
    rintro e w4 ⟨o, rfl⟩
    have O4 := Lib.hid (O.out.trans o)
    clear o MK
    go_wp2_with fail
    go_ret
    exact ⟨O4.out, by rw [HA.out, HSA.out]; rfl⟩
  · have HA := Lib.hid (show agr x.data.toList p.data.toList = [] from by rw [agr, if_neg (by rw [← hk]; exact h5)])
    have c5 : ((k : Int) != 5) = true := by rw [bne_iff_ne]; omega
    clear hk h5 hx hm
    go_enter Try.func37, Try.ntmps37
    go_wp2_with fail
    (with_reducible refine PT.out.mono ?_)
    rintro e w2 ⟨o, v, rfl, ab, nb, cb, a', n', c', rfl, -, -⟩
    have O := Lib.hid (o.alloc (.cells #[.int .i64 (trJ.ndOf p.data.toList).k, .int .u64 (trJ.ndOf p.data.toList).n, .slice ab nb cb, .slice a' n' c'] 27))
    clear o PT
    rw [HK.out] at O ⊢
    go_wp2_with fail
    go_ret
    exact ⟨O.out, by rw [HA.out]; rfl⟩
end Go.Proofs.Ytbjnejnjlidiaaa.tsG
namespace Go.Proofs.Ytbjnejnjlidiaaa.tsH
open Go.RowKit kit numA numB numC numD numE numF numG numH numI tmA tmB tmC tmD tmE srcA trA trB trD prA prC prR prS prW prX tsA tsB tsF tsG
set_option linter.unusedVariables false
set_option linter.unusedSimpArgs false

theorem aw1 : opn [115, 40, 55, 44, 97, 49, 44, 120, 48, 48, 44, 48, 41] [97, 49] 7 [48] = ([120, 48, 48], 0) := by decide +kernel
theorem aw2 : agr [97, 49] [112, 40, 97, 48, 41] = [100, 40, 97, 48, 44, 97, 49, 41] := by decide +kernel

set_option maxRecDepth 100000 in
theorem awake_any (w : World) : Calls Try.prog 22 #[] w (numA.Told w (.bool true)) := by
  have OA := Lib.hid (fun W => open_any ⟨#[115, 40, 55, 44, 97, 49, 44, 120, 48, 48, 44, 48, 41]⟩ ⟨#[97, 49]⟩ 7 ⟨#[48]⟩ W (by decide))
  have AA := Lib.hid (fun W => agree_any ⟨#[97, 49]⟩ ⟨#[112, 40, 97, 48, 41]⟩ W (by decide) (by decide))
  simp only [Int.cast_ofNat_Int] at OA
  rw [aw1] at OA
  rw [aw2] at AA
  go_enter Try.func22, Try.ntmps22
  go_wp2_with fail
  (with_reducible refine (OA.out _).mono ?_)
  rintro e w2 ⟨rfl, o⟩
  have O := Lib.hid o
  clear o
  go_wp2_with fail
  (with_reducible refine (AA.out _).mono ?_)
  rintro e w3 ⟨o, rfl⟩
  have O3 := Lib.hid (O.out.trans o)
  clear o
  go_wp2_with fail
  go_ret
  exact ⟨rfl, O3.out⟩

end Go.Proofs.Ytbjnejnjlidiaaa.tsH
