/- Macs: the document's Second, Sign, Cookie. -/
import Derived.Test.YtbjnejnjlidiaaaMaE
namespace Go.Proofs.Ytbjnejnjlidiaaa.maF
open Go.RowKit kit numA numB numC numD numE tmA tmB tmC tmD tmE trA trB prR prS prW prX tsA tsB tsF tsI wrA wrB wrC wrD wrE wrF wrG wrH wrI wrJ wrK wrL mkA maA maB maC maD maE
set_option linter.unusedVariables false
set_option linter.unusedSimpArgs false

set_option maxRecDepth 100000 in
set_option maxHeartbeats 800000 in
theorem refsecond_e (m : Msg) (c b : ByteArray) (w : World) (hc : c.data.toList = []) (hb : b.data.toList = secondT m c.data.toList) (ht : ∀ i, (m.t i).size ≤ 10000000) (hz : c.size ≤ 10000000) (hs : 0 ≤ m.s ∧ m.s ≤ 4294967295) (hr : 0 ≤ m.r ∧ m.r ≤ 4294967295) : Calls Try.prog 84 #[mval m, .string c] w (numA.Told w (.string b)) := by
  obtain rfl : c = ⟨#[]⟩ := by
    have e : c = ⟨c.data.toList.toArray⟩ := by simp
    rw [e, hc]
  have HB := Lib.hid (show Value.string b = .string ⟨#[48]⟩ from by rw [str_of hb]; rfl)
  have HA := Lib.hid (show MsgAt (w.alloc (.cells m.row 61)) w.heap.size m from heap_alloc_new w _)
  have O := Lib.hid (show Only (fun _ => False) w (w.alloc (.cells m.row 61)) from (Only.refl _ w).alloc _)
  obtain ⟨d0, d1, d2, d3, d4, d5, d6, d7, d8, d9, d10, d11, d12⟩ := MsgAt.cells HA.out
  simp only [mval, Msg.row] at d0 d1 d2 d3 d4 d5 d6 d7 d8 d9 d10 d11 d12
  unfold mval
  clear ht hs hr hb hc hz
  go_enter Try.func84, Try.ntmps84
  go_wp2_with fail
  go_ret
  exact ⟨by rw [HB.out]; rfl, O.out⟩

set_option maxRecDepth 100000 in
set_option maxHeartbeats 800000 in
theorem refsecond_t (m : Msg) (c b : ByteArray) (w : World) (hc : c.data.toList ≠ []) (hb : b.data.toList = secondT m c.data.toList) (ht : ∀ i, (m.t i).size ≤ 10000000) (hz : c.size ≤ 10000000) (hs : 0 ≤ m.s ∧ m.s ≤ 4294967295) (hr : 0 ≤ m.r ∧ m.r ≤ 4294967295) : Calls Try.prog 84 #[mval m, .string c] w (numA.Told w (.string b)) := by
  obtain ⟨x1, x2, x3, x4⟩ := ne_facts hc
  obtain ⟨y, hy⟩ : ∃ y : ByteArray, y.data.toList = signedM m := ⟨⟨(signedM m).toArray⟩, rfl⟩
  have CB := Lib.hid (fun W => told_str hy (rsigned_any m W ht hs hr))
  simp only [mval] at CB
  have CM := Lib.hid (fun W => refmac_any c y b W (by rw [hb, hy, secondT, if_neg hc]) hz (u_le hy (Nat.le_trans (signedM_len m) (by decide))))
  have HA := Lib.hid (show MsgAt (w.alloc (.cells m.row 61)) w.heap.size m from heap_alloc_new w _)
  have O := Lib.hid (show Only (fun _ => False) w (w.alloc (.cells m.row 61)) from (Only.refl _ w).alloc _)
  obtain ⟨d0, d1, d2, d3, d4, d5, d6, d7, d8, d9, d10, d11, d12⟩ := MsgAt.cells HA.out
  simp only [mval, Msg.row] at d0 d1 d2 d3 d4 d5 d6 d7 d8 d9 d10 d11 d12
  unfold mval
  clear ht hs hr hb hc hz hy
  go_enter Try.func84, Try.ntmps84
  go_wp2_with fail
  (with_reducible refine (CB.out _).mono ?_)
  rintro e wx1 ⟨rfl, o⟩
  replace O := Lib.hid (O.out.trans o)
  clear o
  go_wp2_with fail
  (with_reducible refine (CM.out _).mono ?_)
  rintro e wx2 ⟨rfl, o⟩
  replace O := Lib.hid (O.out.trans o)
  clear o
  go_wp2_with fail
  go_ret
  exact ⟨rfl, O.out⟩

theorem refsecond_any (m : Msg) (c b : ByteArray) (w : World) (hb : b.data.toList = secondT m c.data.toList) (ht : ∀ i, (m.t i).size ≤ 10000000) (hz : c.size ≤ 10000000) (hs : 0 ≤ m.s ∧ m.s ≤ 4294967295) (hr : 0 ≤ m.r ∧ m.r ≤ 4294967295) : Calls Try.prog 84 #[mval m, .string c] w (numA.Told w (.string b)) := by
  by_cases hc : c.data.toList = []
  · exact refsecond_e m c b w hc hb ht hz hs hr
  · exact refsecond_t m c b w hc hb ht hz hs hr

theorem put_sz {m : Msg} {i : Nat} {b : ByteArray} {n : Nat} (ht : ∀ i, (m.t i).size ≤ n) (h1 : b.size ≤ n) : ∀ j, ((m.put i b).t j).size ≤ n := by
  intro j
  by_cases h : j = i <;> simp [Msg.put, h, h1, ht]
theorem second_most (m : Msg) (c : Txt) : (secondT m c).length ≤ 65536 := by
  unfold secondT
  split
  · decide
  · exact mac_most _ _

set_option maxRecDepth 100000 in
set_option maxHeartbeats 3200000 in
theorem refsign_any (m : Msg) (p c b1 b2 : ByteArray) (w : World) (hb1 : b1.data.toList = firstT (sumsM m ⟨#[48]⟩ ⟨#[48]⟩) p.data.toList) (hb2 : b2.data.toList = secondT ((sumsM m ⟨#[48]⟩ ⟨#[48]⟩).put 11 b1) c.data.toList) (ht : ∀ i, (m.t i).size ≤ 10000000) (hz : p.size ≤ 10000000) (hcz : c.size ≤ 10000000) (hs : 0 ≤ m.s ∧ m.s ≤ 4294967295) (hr : 0 ≤ m.r ∧ m.r ≤ 4294967295) : Calls Try.prog 85 #[mval m, .string p, .string c] w (numA.Told w (.agg (((sumsM m ⟨#[48]⟩ ⟨#[48]⟩).put 11 b1).put 12 b2).row)) := by
  obtain ⟨m0, hm0⟩ : ∃ m0, m0 = sumsM m ⟨#[48]⟩ ⟨#[48]⟩ := ⟨_, rfl⟩
  rw [← hm0] at hb1 hb2 ⊢
  have hb1z : b1.size ≤ 10000000 := Nat.le_trans (u_le hb1 (mac_most _ _)) (by decide)
  have hb2z : b2.size ≤ 10000000 := Nat.le_trans (u_le hb2 (second_most _ _)) (by decide)
  have ht0 : ∀ i, (m0.t i).size ≤ 10000000 := by rw [hm0]; exact sums_sz ht (by decide) (by decide)
  obtain ⟨m1, hm1⟩ : ∃ m1, m1 = m0.put 11 b1 := ⟨_, rfl⟩
  rw [← hm1] at hb2 ⊢
  have ht1 : ∀ i, (m1.t i).size ≤ 10000000 := by rw [hm1]; exact put_sz ht0 hb1z
  have C1 := Lib.hid (fun W => (show Calls Try.prog 82 #[.agg m0.row, .string p] W _ from reffirst_any m0 p b1 W hb1 ht0 hz (by rw [hm0]; exact hs) (by rw [hm0]; exact hr)))
  have C2 := Lib.hid (fun W => (show Calls Try.prog 84 #[.agg m1.row, .string c] W _ from refsecond_any m1 c b2 W hb2 ht1 hcz (by rw [hm1, hm0]; exact hs) (by rw [hm1, hm0]; exact hr)))
  have HM0 := Lib.hid hm0
  have HM1 := Lib.hid hm1
  have HA := Lib.hid (show MsgAt ((w.alloc (.cells m.row 61)).alloc (.cells (zeroM 0).row 61)) w.heap.size m from MsgAt.keep (heap_alloc_new w _) ((Only.refl (fun _ => False) _).alloc _) id)
  have HG := Lib.hid (show MsgAt ((w.alloc (.cells m.row 61)).alloc (.cells (zeroM 0).row 61)) (w.heap.size + 1) (zeroM 0) from by have h := heap_alloc_new (w.alloc (.cells m.row 61)) (.cells (zeroM 0).row 61); rw [World.size_alloc] at h; exact h)
  have O := Lib.hid (show Only (fun _ => False) w ((w.alloc (.cells m.row 61)).alloc (.cells (zeroM 0).row 61)) from ((Only.refl _ w).alloc _).alloc _)
  obtain ⟨Y, hY⟩ : ∃ Y, Y = (w.alloc (.cells m.row 61)).alloc (.cells (zeroM 0).row 61) := ⟨_, rfl⟩
  rw [← hY] at HA O HG
  obtain ⟨A, hA⟩ : ∃ A, A = w.heap.size := ⟨_, rfl⟩
  rw [← hA] at HA HG
  have HY := Lib.hid hY
  have HAE := Lib.hid hA
  simp only [Msg.row, zeroM] at HY
  clear hY hA
  have R := Lib.hid (Only.refl (fun _ => False) Y)
  obtain ⟨d0, d1, d2, d3, d4, d5, d6, d7, d8, d9, d10, d11, d12⟩ := MsgAt.cells HA.out
  have f11 := MsgAt.free HA.out 11
  have f12 := MsgAt.free HA.out 12
  unfold mval
  clear hb1 hb2 hb1z hb2z ht0 hm1 ht1 ht hs hr hz hcz hm0
  go_enter Try.func85, Try.ntmps85
  go_upto_region 1 with fail
  rw [← HY.out, ← HAE.out]
  go_upto_region 3 with fail
  obtain ⟨Z, hZ⟩ : ∃ Z, Z = (Y.setCell ⟨A, 11, none⟩ (.string ⟨#[48]⟩)).setCell ⟨A, 12, none⟩ (.string ⟨#[48]⟩) := ⟨_, rfl⟩
  rw [← hZ]
  replace O := Lib.hid (show Only (fun k => A ≤ k) w Z from by rw [hZ]; exact ((O.out.mono fun _ h => h.elim).set (Nat.le_refl _)).set (Nat.le_refl _))
  replace HG := Lib.hid (show MsgAt Z (A + 1) (zeroM 0) from by rw [hZ]; exact MsgAt.set (MsgAt.set HG.out (by omega)) (by omega))
  replace HA := Lib.hid (show MsgAt Z A m0 from by rw [hZ, HM0.out]; exact (HA.out.put (i := 11) (by decide) (by decide) ⟨#[48]⟩).put (i := 12) (by decide) (by decide) ⟨#[48]⟩)
  clear hZ d0 d1 d2 d3 d4 d5 d6 d7 d8 d9 d10 d11 d12 f11 f12 R
  have hi := info61 m0
  go_wp2_with (refine wpList_load_row rfl 61 (.tmp 3) rfl A rfl 61 m0.row (0, 0) _ HA.out Try.underlying61 rfl hi ?_)
  (with_reducible refine (C1.out _).mono ?_)
  rintro e w2 ⟨rfl, o⟩
  replace O := Lib.hid (O.out.trans (o.mono fun _ h => h.elim))
  replace HA := Lib.hid (MsgAt.keep HA.out o id)
  replace HG := Lib.hid (MsgAt.keep HG.out o id)
  clear o
  have d11 := MsgAt.text HA.out (i := 11) (by decide) (by decide)
  have f11 := MsgAt.free HA.out 11
  go_upto_region 4 with fail
  obtain ⟨Z2, hZ2⟩ : ∃ Z, Z = w2.setCell ⟨A, 11, none⟩ (.string b1) := ⟨_, rfl⟩
  rw [← hZ2]
  replace O := Lib.hid (show Only (fun k => A ≤ k) w Z2 from by rw [hZ2]; exact O.out.set (Nat.le_refl _))
  replace HG := Lib.hid (show MsgAt Z2 (A + 1) (zeroM 0) from by rw [hZ2]; exact MsgAt.set HG.out (by omega))
  replace HA := Lib.hid (show MsgAt Z2 A m1 from by rw [hZ2, HM1.out]; exact HA.out.put (i := 11) (by decide) (by decide) b1)
  clear hZ2 d11 f11 hi
  have hi := info61 m1
  go_wp2_with (refine wpList_load_row rfl 61 (.tmp 3) rfl A rfl 61 m1.row (0, 0) _ HA.out Try.underlying61 rfl hi ?_)
  (with_reducible refine (C2.out _).mono ?_)
  rintro e w3 ⟨rfl, o⟩
  replace O := Lib.hid (O.out.trans (o.mono fun _ h => h.elim))
  replace HA := Lib.hid (MsgAt.keep HA.out o id)
  replace HG := Lib.hid (MsgAt.keep HG.out o id)
  clear o
  have d12 := MsgAt.text HA.out (i := 12) (by decide) (by decide)
  have f12 := MsgAt.free HA.out 12
  go_upto_region 5 with fail
  obtain ⟨Z3, hZ3⟩ : ∃ Z, Z = w3.setCell ⟨A, 12, none⟩ (.string b2) := ⟨_, rfl⟩
  rw [← hZ3]
  replace O := Lib.hid (show Only (fun k => A ≤ k) w Z3 from by rw [hZ3]; exact O.out.set (Nat.le_refl _))
  replace HG := Lib.hid (show MsgAt Z3 (A + 1) (zeroM 0) from by rw [hZ3]; exact MsgAt.set HG.out (by omega))
  replace HA := Lib.hid (show MsgAt Z3 A (m1.put 12 b2) from by rw [hZ3]; exact HA.out.put (i := 12) (by decide) (by decide) b2)
  clear hZ3 d12 f12 hi
  have hi := info61 (m1.put 12 b2)
  have h1 := one61 (m1.put 12 b2)
  obtain ⟨c2, hc2⟩ : ∃ c2, c2 = (m1.put 12 b2).row := ⟨_, rfl⟩
  have HCE := Lib.hid hc2
  have hsz : (zeroM 0).row.size = c2.size := by rw [hc2]; rfl
  replace HA := Lib.hid (show Z3.heap[A]? = some (.cells c2 61 (0, 0)) from by rw [hc2]; exact HA.out)
  rw [← hc2] at hi h1
  clear hc2
  go_wp2_with (first | (refine wpList_load_row rfl 61 (.tmp 3) rfl A rfl 61 c2 (0, 0) _ HA.out Try.underlying61 rfl hi ?_) | (refine wpList_store_row rfl 61 (.tmp 6) (.tmp 17) rfl (A + 1) c2 rfl rfl 61 _ HG.out hi hsz h1 ?_))
  exact bodyPost_ret (results_cell_row (p := 6) (ty := 61) Try.results85 _ _ (A + 1) 61 c2 (0, 0) _ rfl (setRow_heap _ _ _ _ _ _ HG.out) Try.underlying61 rfl hi) rfl ⟨by rw [HCE.out], Only.old (only_row (O.out.mono fun k h => by rw [← HAE.out]; exact h) _ (by rw [← HAE.out]; omega))⟩

set_option maxRecDepth 100000 in
theorem cookie_any (s b : ByteArray) (n : Int) (w : World) (h0 : 0 ≤ n) (h1 : n ≤ 9223372036854775807) (hb : b.data.toList = macT s.data.toList (numT n)) (hz : s.size ≤ 10000000) : Calls Try.prog 90 #[.string s, .int .i64 n] w (numA.Told w (.string b)) := by
  obtain ⟨y, hy⟩ : ∃ y : ByteArray, y.data.toList = numT n := ⟨⟨(numT n).toArray⟩, rfl⟩
  have u1 : IntKind.u64.wrap n = n := IntWalk.u64_in _ (by omega)
  have g0 : (n < 0) = False := eq_false (by omega)
  have hnm : n.toNat ≤ most := by unfold most; omega
  have hc : (n.toNat : Int) = n := Int.toNat_of_nonneg h0
  have CN := Lib.hid (fun W => (show Calls Try.prog 30 #[.int .i64 3, .int .u64 n, .slice none 0 0, .slice none 0 0] W _ from by rw [← hc]; exact told_str (by rw [hy]; rfl) (make_any 3 n.toNat [] [] (fun _ => False) (fun _ => False) (.slice none 0 0) (.slice none 0 0) W hnm (sl_nil _ _) (Nat.zero_le _) (sl_nil _ _) (fun p hp => by cases hp) (Nat.zero_le _))))
  have CM := Lib.hid (fun W => mac_any s y b W (by rw [hb, hy]) (Nat.le_trans hz (by decide)) (u_le hy (Nat.le_trans (numT_65 h0 (by unfold most; omega)) (by decide))))
  have O := Lib.hid (Only.refl (fun _ => False) w)
  clear hb hy h0 h1 hz hnm hc
  go_enter Try.func90, Try.ntmps90
  go_wp2_with fail
  (with_reducible refine (CN.out _).mono ?_)
  rintro e wx3 ⟨rfl, o⟩
  replace O := Lib.hid (O.out.trans o)
  clear o
  go_wp2_with fail
  (with_reducible refine (CM.out _).mono ?_)
  rintro e wx4 ⟨rfl, o⟩
  replace O := Lib.hid (O.out.trans o)
  clear o
  go_wp2_with fail
  go_ret
  exact ⟨rfl, O.out⟩

set_option maxRecDepth 100000 in
theorem refcookie_any (s b : ByteArray) (n : Int) (w : World) (h0 : 0 ≤ n) (h1 : n ≤ 9223372036854775807) (hb : b.data.toList = macT s.data.toList (numT n)) (hz : s.size ≤ 10000000) : Calls Try.prog 91 #[.string s, .int .i64 n] w (numA.Told w (.string b)) := by
  obtain ⟨y, hy⟩ : ∃ y : ByteArray, y.data.toList = numT n := ⟨⟨(numT n).toArray⟩, rfl⟩
  have u1 : IntKind.u64.wrap n = n := IntWalk.u64_in _ (by omega)
  have g0 : (n < 0) = False := eq_false (by omega)
  have hnm : n.toNat ≤ most := by unfold most; omega
  have hc : (n.toNat : Int) = n := Int.toNat_of_nonneg h0
  have CN := Lib.hid (fun W => (show Calls Try.prog 125 #[.int .u64 n] W _ from told_str hy (refnumber_any n W h0 (by unfold most; omega))))
  have CM := Lib.hid (fun W => refmac_any s y b W (by rw [hb, hy]) hz (u_le hy (Nat.le_trans (numT_65 h0 (by unfold most; omega)) (by decide))))
  have O := Lib.hid (Only.refl (fun _ => False) w)
  clear hb hy h0 h1 hz hnm hc
  go_enter Try.func91, Try.ntmps91
  go_wp2_with fail
  (with_reducible refine (CN.out _).mono ?_)
  rintro e wx5 ⟨rfl, o⟩
  replace O := Lib.hid (O.out.trans o)
  clear o
  go_wp2_with fail
  (with_reducible refine (CM.out _).mono ?_)
  rintro e wx6 ⟨rfl, o⟩
  replace O := Lib.hid (O.out.trans o)
  clear o
  go_wp2_with fail
  go_ret
  exact ⟨rfl, O.out⟩

set_option maxRecDepth 100000 in
theorem cookie_neg (s : ByteArray) (n : Int) (w : World) (h : n < 0) : Calls Try.prog 90 #[.string s, .int .i64 n] w (numA.Told w (.string ⟨#[]⟩)) := by
  have g0 : (n < 0) = True := eq_true h
  clear h
  go_enter Try.func90, Try.ntmps90
  go_wp2_with fail
  go_ret
  exact ⟨rfl, Only.refl _ _⟩


end Go.Proofs.Ytbjnejnjlidiaaa.maF
