/- Term: the program's Make. -/
import Derived.Test.YtbjnejnjlidiaaaPrT
import Derived.Test.YtbjnejnjlidiaaaPrU
import Derived.Test.YtbjnejnjlidiaaaPrV
import Derived.Test.YtbjnejnjlidiaaaTmA
import Derived.Test.YtbjnejnjlidiaaaNumF
import Derived.Deep.DeepFit
namespace Go.Proofs.Ytbjnejnjlidiaaa.prW
open Go.RowKit Go.Proofs.Ytbjnejnjlidiaaa.kit Go.Proofs.Ytbjnejnjlidiaaa.numA Go.Proofs.Ytbjnejnjlidiaaa.numB Go.Proofs.Ytbjnejnjlidiaaa.numC Go.Proofs.Ytbjnejnjlidiaaa.numD Go.Proofs.Ytbjnejnjlidiaaa.numE Go.Proofs.Ytbjnejnjlidiaaa.numF Go.Proofs.Ytbjnejnjlidiaaa.numG Go.Proofs.Ytbjnejnjlidiaaa.numH Go.Proofs.Ytbjnejnjlidiaaa.tmA Go.Proofs.Ytbjnejnjlidiaaa.tmB Go.Proofs.Ytbjnejnjlidiaaa.tmC Go.Proofs.Ytbjnejnjlidiaaa.tmD Go.Proofs.Ytbjnejnjlidiaaa.tmE Go.Proofs.Ytbjnejnjlidiaaa.srcA Go.Proofs.Ytbjnejnjlidiaaa.trA Go.Proofs.Ytbjnejnjlidiaaa.trB Go.Proofs.Ytbjnejnjlidiaaa.prA Go.Proofs.Ytbjnejnjlidiaaa.prC Go.Proofs.Ytbjnejnjlidiaaa.prR Go.Proofs.Ytbjnejnjlidiaaa.prS Go.Proofs.Ytbjnejnjlidiaaa.shJ
set_option linter.unusedVariables false
set_option linter.unusedSimpArgs false

theorem find_no (k : Int) (h : k < 5 ∨ 11 < k) : Instr.findNow (.int .i64) (.int .i64 k) table.toList 0 = some none := by
  have e5 : ((k : Int) == 5) = false := by rw [beq_eq_false_iff_ne]; omega
  rcases MapKept.findNow_spec (d := .int .i64) (k := .int .i64 k) (by simp [MapKept.IsKey]) table.toList 0 (by simp [table, MapKept.IsKey]) with ⟨h1, _⟩ | ⟨j, e, h1, h2, h3⟩
  · exact h1
  · exfalso
    have hm := List.mem_of_getElem? h2
    simp only [table, List.mem_cons, List.not_mem_nil, or_false] at hm
    rcases hm with rfl | rfl | rfl | rfl | rfl | rfl | rfl <;> (simp at h3; omega)

theorem look_ok {w : World} {b k : Nat} (h : w.heap[b]? = some (.map table 7)) (h5 : 5 ≤ k) (h11 : k ≤ 11) : (Instr.lookup 136 (.map (some b)) (.int .i64 k) true).run Try.prog w = .ok (.tuple #[shv k, .bool true]) w := by
  have e : k = 5 ∨ k = 6 ∨ k = 7 ∨ k = 8 ∨ k = 9 ∨ k = 10 ∨ k = 11 := by omega
  rcases e with rfl | rfl | rfl | rfl | rfl | rfl | rfl
  · exact get_some (i := 0) (v := shv 5) h 5 rfl
  · exact get_some (i := 1) (v := shv 6) h 6 rfl
  · exact get_some (i := 2) (v := shv 7) h 7 rfl
  · exact get_some (i := 3) (v := shv 8) h 8 rfl
  · exact get_some (i := 4) (v := shv 9) h 9 rfl
  · exact get_some (i := 5) (v := shv 10) h 10 rfl
  · exact get_some (i := 6) (v := shv 11) h 11 rfl

theorem build_any (k n : Nat) (ps : List Txt) (S : Nat → Prop) (lv : Value) (w : World) (h5 : 5 ≤ k) (h11 : k ≤ 11) (hn : n ≤ most) (hsl : Sl w S lv (ps.map sv)) (hpl : ∀ p ∈ ps, p.length ≤ 100000000) (hlen : ps.length ≤ 1000000) : Calls Try.prog 108 #[shv k, .string ⟨#[letter k]⟩, .int .u64 n, lv] w (Made w (mkT k n [] ps)) := by
  have e : (k = 5 ∨ k = 7 ∨ k = 9 ∨ k = 11) ∨ (k = 8 ∨ k = 10) ∨ k = 6 := by omega
  rcases e with e | e | e
  · exact build_o k n ps S lv w e hn hsl hpl hlen
  · exact build_n k n ps S lv w e hn hsl hpl hlen
  · exact build_6 k n ps S lv w e hn hsl hpl hlen

/-- What is made; nothing of a kind that isn't there. -/
def mkI (k : Int) (n : Nat) (b : Txt) (ps : List Txt) : Txt := if 1 ≤ k ∧ k ≤ 11 then mkT k.toNat n b ps else []

theorem mkI_nat {k n : Nat} {b : Txt} {ps : List Txt} (h1 : 1 ≤ k) (h11 : k ≤ 11) : mkI k n b ps = mkT k n b ps := by
  rw [mkI, if_pos (by omega)]
  rfl

theorem mk_b {k n : Nat} {b : Txt} {ps : List Txt} (h5 : 5 ≤ k) (h11 : k ≤ 11) : mkT k n b ps = mkT k n [] ps := by
  rw [mk_br h5 h11, mk_br h5 h11]

set_option maxRecDepth 100000 in
set_option maxHeartbeats 2000000 in
theorem make_br (k n : Nat) (b : Txt) (ps : List Txt) (S : Nat → Prop) (bv lv : Value) (w : World) (h5 : 5 ≤ k) (h11 : k ≤ 11) (hn : n ≤ most) (hsl : Sl w S lv (ps.map sv)) (hpl : ∀ p ∈ ps, p.length ≤ 100000000) (hlen : ps.length ≤ 1000000) : Calls Try.prog 30 #[.int .i64 k, .int .u64 n, bv, lv] w (Made w (mkT k n b ps)) := by
  have HM := Lib.hid (mk_b (n := n) (b := b) (ps := ps) h5 h11)
  have H5 := Lib.hid (And.intro h5 h11)
  have HB := Lib.hid (fun (X : ByteArray) (hX : X = ⟨#[letter k]⟩) W (o : Only (fun _ => False) w W) => (show Calls Try.prog 108 #[.agg #[.int .i64 (least k : Nat), .int .i64 (mostk k : Nat), .bool (numbered k), .int .u64 (lowk k : Nat), .int .u64 (highk k : Nat), .bool (k == 6)], .string X, .int .u64 n, lv] W (Made W (mkT k n [] ps)) from by rw [hX]; exact build_any k n ps S lv W h5 h11 hn (hsl.keep (T := fun _ => False) o fun _ _ h => h) hpl hlen))
  have LK := fun (W : World) (g : Nat) (hg : W.heap[g]? = some (.map table 7)) => look_ok hg h5 h11
  unfold shv at LK
  have HLK := Lib.hid LK
  clear LK hn hsl hpl hlen
  generalize least k = A0 at HB HLK
  generalize mostk k = A1 at HB HLK
  generalize numbered k = A2 at HB HLK
  generalize lowk k = A3 at HB HLK
  generalize highk k = A4 at HB HLK
  generalize (k == 6) = A5 at HB HLK
  have e : k = 5 ∨ k = 6 ∨ k = 7 ∨ k = 8 ∨ k = 9 ∨ k = 10 ∨ k = 11 := by omega
  clear h5 h11
  rcases e with rfl | rfl | rfl | rfl | rfl | rfl | rfl
  all_goals
    go_enter Try.func30, Try.ntmps30
    go_wp2_with fail
    (with_reducible refine (shapes_any w).mono ?_)
    rintro e w1 ⟨g, rfl, hg, o1⟩
    have O1 := Lib.hid o1
    have LK := HLK.out _ _ hg
    first | simp only [Nat.cast_ofNat] at LK | simp only [Int.cast_ofNat_Int] at LK | simp only [Int.natCast_ofNat] at LK
    clear hg o1
    go_wp2_with fail
    have O2 := Lib.hid (O1.out.alloc (.cells #[.int .i64 (A0 : Nat), .int .i64 (A1 : Nat), .bool A2, .int .u64 (A3 : Nat), .int .u64 (A4 : Nat), .bool A5] 134))
    go_region_with ((go_at_call 108; (with_reducible refine (HB.out _ ?_ _ O2.out.drew).mono ?_); exact rfl; rintro e w3 ⟨o3, rfl⟩))
    all_goals
      have O3 := Lib.hid (O2.out.drew.trans o3)
      clear o3
      go_wp2_with fail
      go_ret
      exact ⟨O3.out, by rw [HM.out]; rfl⟩

theorem mkI_no {k : Int} {n : Nat} {b : Txt} {ps : List Txt} (h : k < 5 ∨ 11 < k) (hp : ps ≠ []) : mkI k n b ps = [] := by
  unfold mkI
  split
  · rename_i hk
    have e : k = 1 ∨ k = 2 ∨ k = 3 ∨ k = 4 := by omega
    rcases e with rfl | rfl | rfl | rfl
    · show mkT 1 n b ps = []
      rw [mkT, if_pos rfl, if_neg hp]
    · show mkT 2 n b ps = []
      rw [mkT, if_neg (by decide), if_pos rfl, if_neg (fun q => hp q.1)]
    · show mkT 3 n b ps = []
      rw [mkT, if_neg (by decide), if_neg (by decide), if_pos rfl, if_neg hp]
    · show mkT 4 n b ps = []
      rw [mkT, if_neg (by decide), if_neg (by decide), if_neg (by decide), if_pos rfl, if_neg (fun q => hp q.1)]
  · rfl

set_option maxRecDepth 100000 in
theorem make_full (k : Int) (n : Nat) (b : Txt) (ps : List Txt) (S : Nat → Prop) (bv lv : Value) (w : World) (h : k < 5 ∨ 11 < k) (hp : ps ≠ []) (hsl : Sl w S lv (ps.map sv)) : Calls Try.prog 30 #[.int .i64 k, .int .u64 n, bv, lv] w (Made w (mkI k n b ps)) := by
  obtain ⟨a, m, cap, rfl⟩ : ∃ a m cap, lv = .slice a m cap := by
    obtain ⟨_, a, cap, h, _⟩ := hsl
    exact ⟨a, _, cap, h⟩
  obtain rfl := sl_len hsl
  have HM := Lib.hid (mkI_no (n := n) (b := b) h hp)
  have HK := Lib.hid h
  have l1 : 0 < ps.length := List.length_pos_iff.2 hp
  clear h hp hsl
  go_enter Try.func30, Try.ntmps30
  go_wp2_with fail
  (with_reducible refine (shapes_any w).mono ?_)
  rintro e w1 ⟨g, rfl, hg, o1⟩
  have O1 := Lib.hid o1
  have LK := get_none hg k (find_no k HK.out)
  clear hg o1
  go_wp2_with fail
  go_ret
  exact ⟨O1.out.alloc _, by rw [HM.out]; rfl⟩

def emp (v : Value) : Prop := ∃ a c, v = .slice a 0 c

set_option maxRecDepth 100000 in
theorem make_leaf (k : Int) (n : Nat) (b : Txt) (T : Nat → Prop) (bv lv : Value) (w : World) (h : k < 5 ∨ 11 < k) (hn : n ≤ most) (hb : Sl w T bv (U8 b)) (hbl : b.length ≤ 100000000) (hsl : emp lv) : Calls Try.prog 30 #[.int .i64 k, .int .u64 n, bv, lv] w (Made w (mkI k n b [])) := by
  obtain ⟨a, cap, rfl⟩ := hsl
  obtain ⟨a', m', cap', rfl⟩ : ∃ a m cap, bv = .slice a m cap := by
    obtain ⟨_, a, cap, h, _⟩ := hb
    exact ⟨a, _, cap, h⟩
  obtain rfl : m' = b.length := by
    obtain ⟨_, a'', cap'', h, _⟩ := hb
    injection h with h1 h2 h3
    rw [U8_len] at h2
    omega
  have HB := Lib.hid (fun (W : World) (o : Only (fun _ => False) w W) => hex_any T _ b W (hb.keep o fun _ _ h => h) hbl)
  have HK := Lib.hid h
  have HN := Lib.hid hn
  have HBL := Lib.hid hbl
  have PN := Lib.hid (fun W => print_any n W hn)
  have dl : (⟨(dec n).toArray⟩ : ByteArray).size ≤ 20 := by have := dec_short hn; simpa [ByteArray.size] using this
  have hl : (⟨(hexs b).toArray⟩ : ByteArray).size = 2 * b.length := by rw [← hexs_len]; simp [ByteArray.size]
  have A1 := fun W => run_string_add_sum (P := Try.prog) W ⟨#[97]⟩ ⟨(dec n).toArray⟩ (by have : (⟨#[97]⟩ : ByteArray).size = 1 := rfl; omega)
  have A2 := fun W => run_string_add_sum (P := Try.prog) W ⟨#[110]⟩ ⟨(dec n).toArray⟩ (by have : (⟨#[110]⟩ : ByteArray).size = 1 := rfl; omega)
  have A3 := fun W => run_string_add_sum (P := Try.prog) W ⟨#[120]⟩ ⟨(hexs b).toArray⟩ (by have : (⟨#[120]⟩ : ByteArray).size = 1 := rfl; omega)
  clear hn hb hbl dl hl
  have key : k = 1 ∨ k = 2 ∨ k = 3 ∨ k = 4 ∨ (k ≠ 1 ∧ k ≠ 2 ∧ k ≠ 3 ∧ k ≠ 4) := by omega
  rcases key with rfl | rfl | rfl | rfl | hk
  · clear h
    go_enter Try.func30, Try.ntmps30
    go_wp2_with fail
    (with_reducible refine (shapes_any w).mono ?_)
    rintro e w1 ⟨g, rfl, hg, o1⟩
    have O1 := Lib.hid o1
    have LK := get_none hg 1 (find_no 1 HK.out)
    clear hg o1
    go_wp2_with fail
    go_ret
    exact ⟨O1.out.alloc _, rfl⟩
  · clear h
    by_cases hc : n ≤ 4294967295
    · have c1 : ((n : Int) ≤ 4294967295) = True := eq_true (by omega)
      have HM := Lib.hid (show mkI 2 n b [] = 97 :: dec n from by
        show mkT 2 n b [] = _
        rw [mkT, if_neg (by decide), if_pos rfl, if_pos ⟨rfl, hc⟩])
      clear hc
      go_enter Try.func30, Try.ntmps30
      go_wp2_with fail
      (with_reducible refine (shapes_any w).mono ?_)
      rintro e w1 ⟨g, rfl, hg, o1⟩
      have O1 := Lib.hid o1
      have LK := get_none hg 2 (find_no 2 HK.out)
      clear hg o1
      go_wp2_with fail
      (with_reducible refine (PN.out _).mono ?_)
      rintro e w2 ⟨rfl, o2⟩
      have O2 := Lib.hid ((O1.out.alloc _).trans o2)
      clear o2
      go_wp2_with fail
      go_ret
      exact ⟨O2.out, by rw [HM.out]; rfl⟩
    · have c1 : ((n : Int) ≤ 4294967295) = False := eq_false (by omega)
      have HM := Lib.hid (show mkI 2 n b [] = [] from by
        show mkT 2 n b [] = _
        rw [mkT, if_neg (by decide), if_pos rfl, if_neg (fun q => hc q.2)])
      clear hc
      go_enter Try.func30, Try.ntmps30
      go_wp2_with fail
      (with_reducible refine (shapes_any w).mono ?_)
      rintro e w1 ⟨g, rfl, hg, o1⟩
      have O1 := Lib.hid o1
      have LK := get_none hg 2 (find_no 2 HK.out)
      clear hg o1
      go_wp2_with fail
      go_ret
      exact ⟨O1.out.alloc _, by rw [HM.out]; rfl⟩
  · clear h
    go_enter Try.func30, Try.ntmps30
    go_wp2_with fail
    (with_reducible refine (shapes_any w).mono ?_)
    rintro e w1 ⟨g, rfl, hg, o1⟩
    have O1 := Lib.hid o1
    have LK := get_none hg 3 (find_no 3 HK.out)
    clear hg o1
    go_wp2_with fail
    (with_reducible refine (PN.out _).mono ?_)
    rintro e w2 ⟨rfl, o2⟩
    have O2 := Lib.hid ((O1.out.alloc _).trans o2)
    clear o2
    go_wp2_with fail
    go_ret
    exact ⟨O2.out, rfl⟩
  · clear h
    by_cases hc : b.length ≤ 32767
    · have c1 : ((b.length : Int) ≤ 32767) = True := eq_true (by omega)
      have HM := Lib.hid (show mkI 4 n b [] = 120 :: hexs b from by
        show mkT 4 n b [] = _
        rw [mkT, if_neg (by decide), if_neg (by decide), if_neg (by decide), if_pos rfl, if_pos ⟨rfl, hc⟩])
      clear hc
      go_enter Try.func30, Try.ntmps30
      go_wp2_with fail
      (with_reducible refine (shapes_any w).mono ?_)
      rintro e w1 ⟨g, rfl, hg, o1⟩
      have O1 := Lib.hid o1
      have LK := get_none hg 4 (find_no 4 HK.out)
      clear hg o1
      go_wp2_with fail
      (with_reducible refine (HB.out _ (O1.out.alloc _)).mono ?_)
      rintro e w2 ⟨rfl, o2⟩
      have O2 := Lib.hid ((O1.out.alloc _).trans o2)
      clear o2
      go_wp2_with fail
      go_ret
      exact ⟨O2.out, by rw [HM.out]; rfl⟩
    · have c1 : ((b.length : Int) ≤ 32767) = False := eq_false (by omega)
      have HM := Lib.hid (show mkI 4 n b [] = [] from by
        show mkT 4 n b [] = _
        rw [mkT, if_neg (by decide), if_neg (by decide), if_neg (by decide), if_pos rfl, if_neg (fun q => hc q.2)])
      clear hc
      go_enter Try.func30, Try.ntmps30
      go_wp2_with fail
      (with_reducible refine (shapes_any w).mono ?_)
      rintro e w1 ⟨g, rfl, hg, o1⟩
      have O1 := Lib.hid o1
      have LK := get_none hg 4 (find_no 4 HK.out)
      clear hg o1
      go_wp2_with fail
      go_ret
      exact ⟨O1.out.alloc _, by rw [HM.out]; rfl⟩
  · have HM := Lib.hid (show mkI k n b [] = [] from by
      unfold mkI
      rw [if_neg (by omega)])
    have e1 : (k == 1) = false := by rw [beq_eq_false_iff_ne]; omega
    have e2 : (k == 2) = false := by rw [beq_eq_false_iff_ne]; omega
    have e3 : (k == 3) = false := by rw [beq_eq_false_iff_ne]; omega
    have e4 : (k == 4) = false := by rw [beq_eq_false_iff_ne]; omega
    clear h hk
    go_enter Try.func30, Try.ntmps30
    go_wp2_with fail
    (with_reducible refine (shapes_any w).mono ?_)
    rintro e w1 ⟨g, rfl, hg, o1⟩
    have O1 := Lib.hid o1
    have LK := get_none hg k (find_no k HK.out)
    clear hg o1
    go_wp2_with fail
    go_ret
    exact ⟨O1.out.alloc _, by rw [HM.out]; rfl⟩

theorem make_any (k : Int) (n : Nat) (b : Txt) (ps : List Txt) (S T : Nat → Prop) (bv lv : Value) (w : World) (hn : n ≤ most) (hb : Sl w T bv (U8 b)) (hbl : b.length ≤ 100000000) (hsl : Sl w S lv (ps.map sv)) (hpl : ∀ p ∈ ps, p.length ≤ 100000000) (hlen : ps.length ≤ 1000000) : Calls Try.prog 30 #[.int .i64 k, .int .u64 n, bv, lv] w (Made w (mkI k n b ps)) := by
  by_cases h : k < 5 ∨ 11 < k
  · by_cases hp : ps = []
    · subst hp
      refine make_leaf k n b T bv lv w h hn hb hbl ?_
      obtain ⟨_, a, c, e, _⟩ := hsl
      exact ⟨a, c, e⟩
    · exact make_full k n b ps S bv lv w h hp hsl
  · obtain ⟨j, rfl⟩ : ∃ j : Nat, k = j := ⟨k.toNat, by omega⟩
    rw [mkI_nat (by omega) (by omega)]
    exact make_br j n b ps S bv lv w (by omega) (by omega) hn hsl hpl hlen
end Go.Proofs.Ytbjnejnjlidiaaa.prW
