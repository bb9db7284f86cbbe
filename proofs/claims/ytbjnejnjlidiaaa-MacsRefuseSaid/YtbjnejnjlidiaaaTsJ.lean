/- Term: the document's Make. -/
import Derived.Test.YtbjnejnjlidiaaaTsI
namespace Go.Proofs.Ytbjnejnjlidiaaa.tsJ
open Go.RowKit kit numA numB numC numD numE numF numG numH numI tmA tmB tmC tmD tmE srcA trA trB trD prA prC prR prS prW prX tsA tsB tsF tsG tsH tsI
set_option linter.unusedVariables false
set_option linter.unusedSimpArgs false

theorem total_le {C : Nat} : ∀ l : List Txt, (∀ p ∈ l, p.length ≤ C) → total l ≤ l.length * C
  | [], _ => by simp [total]
  | x :: l, h => by
    have h1 := total_le l fun p hp => h p (List.mem_cons_of_mem _ hp)
    have h2 := h x (by simp)
    simp only [total, List.map_cons, List.sum_cons, List.length_cons, Nat.add_mul, Nat.one_mul] at h1 ⊢
    omega

theorem total_100 {ps : List Txt} (h : ∀ p ∈ ps, p.length ≤ 140737488351232) (hl : ps.length ≤ 100) : total ps ≤ 100000000000000000 :=
  Nat.le_trans (total_le ps h) (Nat.le_trans (Nat.mul_le_mul_right 140737488351232 hl) (Nat.le_of_ble_eq_true rfl))

theorem mkI_nd {k : Int} {n : Nat} {b : Txt} {ps : List Txt} (hn : n ≤ most) (h : mkI k n b ps ≠ []) : ∃ K : Nat, k = K ∧ K ≤ 11 ∧ nd (mkI k n b ps) = nodeOf K n b ps ∧ mkI k n b ps = mkT K n b ps := by
  by_cases hk : 1 ≤ k ∧ k ≤ 11
  · obtain ⟨K, rfl⟩ : ∃ K : Nat, k = K := ⟨k.toNat, by omega⟩
    rw [mkI_nat (by omega) (by omega)] at h ⊢
    exact ⟨K, rfl, by omega, nd_make hn h, rfl⟩
  · exact absurd (by rw [mkI, if_neg hk]) h

theorem mkI_len {k : Int} {n : Nat} {b : Txt} {ps : List Txt} (hn : n ≤ most) : (mkI k n b ps).length ≤ 65536 := by
  by_cases h : mkI k n b ps = []
  · rw [h]
    simp
  · obtain ⟨K, rfl, _, hnd, e⟩ := mkI_nd hn h
    rw [e] at h ⊢
    exact (rdT_iff.1 (read_make hn h)).2

set_option maxRecDepth 100000 in
set_option maxHeartbeats 2000000 in
theorem makes_any (k : Int) (n : Nat) (b : Txt) (ps : List Txt) (S T : Nat → Prop) (bv lv : Value) (w : World) (hn : n ≤ most) (hb : Sl w T bv (U8 b)) (hsl : Sl w S lv (ps.map sv)) (hpl : ∀ p ∈ ps, p.length ≤ 140737488351232) : Calls Try.prog 4 #[.int .i64 k, .int .u64 n, bv, lv] w (numA.Told w (.bool true)) := by
  have HB := Lib.hid hb
  have HSL := Lib.hid hsl
  obtain ⟨a, m, cap, rfl⟩ : ∃ a m cap, lv = .slice a m cap := by
    obtain ⟨_, a, cap, h, _⟩ := hsl
    exact ⟨a, _, cap, h⟩
  obtain rfl := sl_len hsl
  obtain ⟨a', m', cap', rfl⟩ : ∃ a m cap, bv = .slice a m cap := by
    obtain ⟨_, a, cap, h, _⟩ := hb
    exact ⟨a, _, cap, h⟩
  obtain rfl : m' = b.length := by
    obtain ⟨_, a'', cap'', h, _⟩ := hb
    injection h with h1 h2 h3
    rw [U8_len] at h2
    omega
  have AW := Lib.hid (awake_any w)
  clear hb hsl
  by_cases h1 : 1000 < b.length
  · have k1 : ((1000 : Int) < (b.length : Int)) = True := eq_true (by omega)
    clear h1 hpl
    go_enter Try.func4, Try.ntmps4
    go_wp2_with fail
    (with_reducible refine AW.out.mono ?_)
    rintro e w1 ⟨rfl, o⟩
    have O1 := Lib.hid o
    clear o
    go_wp2_with fail
    go_ret
    exact ⟨rfl, O1.out⟩
  have k1 : ((1000 : Int) < (b.length : Int)) = False := eq_false (by omega)
  by_cases h2 : 100 < ps.length
  · have k2 : ((100 : Int) < (ps.length : Int)) = True := eq_true (by omega)
    clear h1 h2 hpl
    go_enter Try.func4, Try.ntmps4
    go_wp2_with fail
    (with_reducible refine AW.out.mono ?_)
    rintro e w1 ⟨rfl, o⟩
    have O1 := Lib.hid o
    clear o
    go_wp2_with fail
    go_ret
    exact ⟨rfl, O1.out⟩
  have k2 : ((100 : Int) < (ps.length : Int)) = False := eq_false (by omega)
  have htot := total_100 hpl (by omega)
  have SZ := Lib.hid (fun W (o : Only (fun _ => False) w W) => size_any ps S _ W (HSL.out.keep o fun _ _ h => h) (by omega) htot)
  by_cases h3 : 2000 < total ps
  · have k3 : ((2000 : Int) < (total ps : Int)) = True := eq_true (by omega)
    clear h1 h2 h3 hpl htot
    go_enter Try.func4, Try.ntmps4
    go_wp2_with fail
    (with_reducible refine AW.out.mono ?_)
    rintro e w1 ⟨rfl, o⟩
    have O1 := Lib.hid o
    clear o
    go_wp2_with fail
    (with_reducible refine (SZ.out _ O1.out).mono ?_)
    rintro e w2 ⟨rfl, hw⟩
    obtain rfl := hw
    go_wp2_with fail
    go_ret
    exact ⟨rfl, O1.out⟩
  have k3 : ((2000 : Int) < (total ps : Int)) = False := eq_false (by omega)
  obtain ⟨M, hM⟩ : ∃ M : ByteArray, M.data.toList = mkI k n b ps := ⟨⟨(mkI k n b ps).toArray⟩, rfl⟩
  have hms : M.size ≤ 65536 := by rw [sz_of hM]; exact mkI_len hn
  have HMS := Lib.hid hms
  have MA := Lib.hid (fun W (o : Only (fun _ => False) w W) => made_told (make_any k n b ps S T _ _ W hn (HB.out.keep o fun _ _ h => h) (by omega) (HSL.out.keep o fun _ _ h => h) (fun p hp => by have := len_total hp; omega) (by omega)) hM)
  have MR := Lib.hid (fun W (o : Only (fun _ => False) w W) => made_told (refmake_any k n b ps S T _ _ W hn (HB.out.keep o fun _ _ h => h) (by omega) (HSL.out.keep o fun _ _ h => h) (by omega) (by omega)) hM)
  by_cases h0 : mkI k n b ps = []
  · obtain rfl : M = ⟨#[]⟩ := by rw [ext_of hM, h0]
    clear h1 h2 h3 hpl htot hM hms h0
    go_enter Try.func4, Try.ntmps4
    go_wp2_with fail
    (with_reducible refine AW.out.mono ?_)
    rintro e w1 ⟨rfl, o⟩
    have O1 := Lib.hid o
    clear o
    go_wp2_with fail
    (with_reducible refine (SZ.out _ O1.out).mono ?_)
    rintro e w2 ⟨rfl, hw⟩
    obtain rfl := hw
    go_wp2_with fail
    (with_reducible refine (MA.out _ O1.out).mono ?_)
    rintro e w3 ⟨rfl, o⟩
    have O3 := Lib.hid (O1.out.trans o)
    clear o
    go_wp2_with fail
    (with_reducible refine (MR.out _ O3.out).mono ?_)
    rintro e w4 ⟨rfl, o⟩
    have O4 := Lib.hid (O3.out.trans o)
    clear o
    go_wp2_with fail
    go_ret
    exact ⟨rfl, O4.out⟩
  obtain ⟨q1, q2, q3, q4⟩ := ne_facts (b := M) (by rw [hM]; exact h0)
  by_cases h6 : k = 6
  · subst h6
    clear h1 h2 h3 hpl htot hM hms h0
    go_enter Try.func4, Try.ntmps4
    go_wp2_with fail
    (with_reducible refine AW.out.mono ?_)
    rintro e w1 ⟨rfl, o⟩
    have O1 := Lib.hid o
    clear o
    go_wp2_with fail
    (with_reducible refine (SZ.out _ O1.out).mono ?_)
    rintro e w2 ⟨rfl, hw⟩
    obtain rfl := hw
    go_wp2_with fail
    (with_reducible refine (MA.out _ O1.out).mono ?_)
    rintro e w3 ⟨rfl, o⟩
    have O3 := Lib.hid (O1.out.trans o)
    clear o
    go_wp2_with fail
    (with_reducible refine (MR.out _ O3.out).mono ?_)
    rintro e w4 ⟨rfl, o⟩
    have O4 := Lib.hid (O3.out.trans o)
    clear o
    go_wp2_with fail
    go_ret
    exact ⟨rfl, O4.out⟩
  have e6 : (k == 6) = false := by rw [beq_eq_false_iff_ne]; omega
  obtain ⟨K, rfl, hK, hnd, _⟩ := mkI_nd hn h0
  have hnd' : trJ.ndOf M.data.toList = nodeOf K n b ps := by rw [hM]; exact hnd
  have KI := Lib.hid (fun W => kind_any M W (by omega))
  have PA := Lib.hid (fun W => parts_any M W (by omega))
  have HND := Lib.hid hnd'
  have HPS := Lib.hid (show (nodeOf K n b ps).ps = ps from by
    show srt K ps = ps
    rw [srt, if_neg (fun q => h6 (by rw [q.1]; rfl))])
  have HLEN := Lib.hid (show ps.length ≤ 1000000 by omega)
  clear h1 h2 h3 hpl htot hM hms h0 hnd hnd' h6
  go_enter Try.func4, Try.ntmps4
  go_wp2_with fail
  (with_reducible refine AW.out.mono ?_)
  rintro e w1 ⟨rfl, o⟩
  have O1 := Lib.hid o
  clear o
  go_wp2_with fail
  (with_reducible refine (SZ.out _ O1.out).mono ?_)
  rintro e w2 ⟨rfl, hw⟩
  obtain rfl := hw
  go_wp2_with fail
  (with_reducible refine (MA.out _ O1.out).mono ?_)
  rintro e w3 ⟨rfl, o⟩
  have O3 := Lib.hid (O1.out.trans o)
  clear o
  go_wp2_with fail
  (with_reducible refine (MR.out _ O3.out).mono ?_)
  rintro e w4 ⟨rfl, o⟩
  have O4 := Lib.hid (O3.out.trans o)
  clear o
  go_wp2_with fail
  (with_reducible refine (KI.out _).mono ?_)
  rintro e w5 ⟨rfl, o⟩
  have O5 := Lib.hid (O4.out.trans o)
  clear o
  rw [HND.out, show (nodeOf K n b ps).k = K from rfl]
  go_wp2_with fail
  (with_reducible refine (PA.out _).mono ?_)
  rintro e w6 ⟨o, v, rfl, sl⟩
  have O6 := Lib.hid (O5.out.trans o)
  rw [HND.out, HPS.out] at sl
  have SM := Lib.hid (same_any ps ps _ S _ _ w6 sl (HSL.out.keep O6.out fun _ _ h => h) HLEN.out)
  rw [show (ps == ps) = true from beq_self_eq_true _] at SM
  clear o sl
  go_wp2_with fail
  (with_reducible refine SM.out.mono ?_)
  rintro e w7 ⟨rfl, o⟩
  have O7 := Lib.hid (O6.out.trans o)
  clear o
  go_wp2_with fail
  go_ret
  exact ⟨rfl, O7.out⟩

theorem makes_walk (k : Int) (hk : (Lit.int .i64 k).wf = true) (n : Int) (hn : (Lit.int .u64 n).wf = true) (a : Option Addr) (len cap : Nat) (b : Txt) {w : World} (hb : Sl w (fun k => k < w.heap.size) (.slice a len cap) (U8 b)) (a' : Option Addr) (len' cap' : Nat) (ps : List Txt) (hp : Sl w (fun k => k < w.heap.size) (.slice a' len' cap') (ps.map sv) ∧ ∀ q ∈ ps, q.length ≤ 140737488351232) : Calls Try.prog 4 #[.int .i64 k, .int .u64 n, .slice a len cap, .slice a' len' cap'] w fun e w' => e = .returned (.bool true) ∧ Below w.heap.size w w' := by
  have hb' := bounds_u64 hn
  obtain ⟨N, rfl⟩ := Int.eq_ofNat_of_zero_le hb'.1
  exact (makes_any k N b ps _ _ _ _ w (by unfold most; omega) hb hp.1 hp.2).mono fun e w' ⟨he, o⟩ => ⟨he, o.below (fun k h => h.elim) (Nat.le_refl _)⟩
end Go.Proofs.Ytbjnejnjlidiaaa.tsJ
