/- Pair: awake. -/
import Derived.Test.YtbjnejnjlidiaaaPpE
namespace Go.Proofs.Ytbjnejnjlidiaaa.ppF
open Go.RowKit kit numA numB numC numD numE tmA tmB tmC tmD tmE trA trB prR prS prW prX tsA tsB tsF tsI wrA wrB wrC wrD wrE wrF wrG wrH wrI wrJ mkA maA maB maC noA noB noC noD noE tsG noF numF prRb winA winB winC winD winH ppA ppB ppC ppD ppE
set_option linter.unusedVariables false
set_option linter.unusedSimpArgs false

theorem mkb (t : Txt) : ∃ b : ByteArray, b.data.toList = t := ⟨⟨t.toArray⟩, rfl⟩
theorem bext {a b : ByteArray} (h : a.data.toList = b.data.toList) : a = b := by
  have e : a = ⟨a.data.toList.toArray⟩ := by simp
  have f : b = ⟨b.data.toList.toArray⟩ := by simp
  rw [e, f, h]
theorem trans_right {re : Int} {n : Nat} {sl : ByteArray} (h : fitB sl.data.toList = true) : rightM (transM re n sl) = true := by
  unfold rightM
  simp only [Bool.and_eq_true]
  refine ⟨by simp [transM], ?_, ?_⟩
  · unfold rterms rtexts
    rw [show (transM re n sl).k = 4 from rfl, if_neg (by decide), if_neg (by decide), if_neg (by decide), if_pos rfl]
    simp only [List.map_cons, List.map_nil, List.all_cons, List.all_nil, Bool.and_true]
    exact h
  · rw [eqM_iff]
    unfold keepM
    rw [if_neg (by rw [show (transM re n sl).k = 4 from rfl]; decide), if_neg (by rw [show (transM re n sl).k = 4 from rfl]; decide), if_neg (by rw [show (transM re n sl).k = 4 from rfl]; decide)]
    simp [transM]
theorem trans_sz {re : Int} {n k : Nat} {sl : ByteArray} (h : sl.size ≤ k) (i : Nat) : ((transM re n sl).t i).size ≤ k := by
  show (if i = 10 then sl else (⟨#[]⟩ : ByteArray)).size ≤ k
  by_cases h10 : i = 10
  · rw [if_pos h10]; exact h
  · rw [if_neg h10]; exact Nat.zero_le _
/-- What is sealed under a number: the seal, and what opens it. -/
theorem seal_n {n : Nat} {k d : Txt} (hn : n ≤ most) (hk : Ok k 20) (hd : Ok d 20) : Ok (mkT 10 n [] [k, d, [48]]) 100 ∧ opn (mkT 10 n [] [k, d, [48]]) k n [48] = (d, 0) := by
  have hz : Ok [48] 1 := ok_zero
  have := hk.2; have := hd.2
  have hne : mkT 10 n [] [k, d, [48]] ≠ [] := mk_good (by decide) (by decide) hn (by simp [least]) (by simp [mostk]) (fun _ => ⟨Nat.zero_le _, by unfold highk most at *; simpa using hn⟩) (by simp [hk.1, hd.1, hz.1]) (by simp [total]; omega)
  refine ⟨⟨(mk_isT hn).2 hne, ?_⟩, ?_⟩
  · have h := mk_le (k := 10) (n := n) (b := []) (ps := [k, d, [48]]) (by decide) (by decide) hn
    simp only [total, List.map_cons, List.map_nil, List.sum_cons, List.sum_nil, List.length_cons, List.length_nil] at h
    omega
  · have e : nd (mkT 10 n [] [k, d, [48]]) = ⟨10, n, [], [k, d, [48]]⟩ := by
      rw [nd_make hn hne]
      rfl
    rw [opn, e, if_pos rfl, if_pos ⟨rfl, rfl, rfl⟩]
    rfl
theorem lit1 : Ok (⟨#[97, 49]⟩ : ByteArray).data.toList 20 := ⟨by decide +kernel, by decide⟩
theorem lit2 : Ok (⟨#[97, 50]⟩ : ByteArray).data.toList 20 := ⟨by decide +kernel, by decide⟩
theorem litd : Ok (⟨#[120, 48, 55]⟩ : ByteArray).data.toList 20 := ⟨by decide +kernel, by decide⟩
theorem lite : Ok (⟨#[120]⟩ : ByteArray).data.toList 20 := ⟨by decide +kernel, by decide⟩
theorem mk7 : (⟨#[120, 48, 55]⟩ : ByteArray).data.toList = mkI 4 0 [7] [] := by decide +kernel
theorem mk0 : (⟨#[120]⟩ : ByteArray).data.toList = mkI 4 0 [] [] := by decide +kernel
theorem nd7 : trJ.ndOf (⟨#[120, 48, 55]⟩ : ByteArray).data.toList = ⟨4, 0, [7], []⟩ := by decide +kernel
theorem nd0 : trJ.ndOf (⟨#[120]⟩ : ByteArray).data.toList = ⟨4, 0, [], []⟩ := by decide +kernel
theorem k1 : (trJ.ndOf (⟨#[97, 49]⟩ : ByteArray).data.toList).k ≠ 0 := by decide +kernel
theorem k2 : (trJ.ndOf (⟨#[97, 50]⟩ : ByteArray).data.toList).k ≠ 0 := by decide +kernel
set_option maxRecDepth 100000 in
set_option maxHeartbeats 4000000 in
theorem awake_any (w : World) : Calls Try.prog 92 #[] w (numA.Told w (.bool true)) := by
  obtain ⟨sl, hsl⟩ := mkb (mkT 10 0 [] [[97, 49], [120, 48, 55], [48]])
  obtain ⟨hok, hop⟩ := seal_n (n := 0) (k := [97, 49]) (d := [120, 48, 55]) (by decide) lit1 litd
  rw [← hsl] at hok hop
  have hr := trans_right (re := 2) (n := 0) (ok_fit hok (by decide))
  have zs : sl.size ≤ 10000000 := by have := hok.2; rw [tl_size] at this; omega
  obtain ⟨m, hm⟩ : ∃ m, m = transM 2 0 sl := ⟨_, rfl⟩
  have C1 := Lib.hid (fun W => (show Calls Try.prog 93 #[.agg #[.string ⟨#[97, 49]⟩, .string ⟨#[97, 50]⟩], .int .u32 1, .int .u32 2, .bool true, .int .i64 0] W (NewP W ⟨#[97, 49]⟩ ⟨#[97, 50]⟩ 1 2 true 0) from new_ok ⟨#[97, 49]⟩ ⟨#[97, 50]⟩ 1 2 true 0 W k1 k2 (by decide) (by decide) (by decide)))
  have C2 := Lib.hid (fun W => (show Calls Try.prog 93 #[.agg #[.string ⟨#[97, 50]⟩, .string ⟨#[97, 49]⟩], .int .u32 2, .int .u32 1, .bool false, .int .i64 0] W (NewP W ⟨#[97, 50]⟩ ⟨#[97, 49]⟩ 2 1 false 0) from new_ok ⟨#[97, 50]⟩ ⟨#[97, 49]⟩ 2 1 false 0 W k2 k1 (by decide) (by decide) (by decide)))
  have C3 := Lib.hid (fun (W : World) (B G g : Nat) (h : PB W B (pairV ⟨#[97, 49]⟩ ⟨#[97, 50]⟩ 1 2 true 0 0 G)) (hb : W.cell? ⟨g, 0, none⟩ = some (.int .u8 7)) (hg : g < W.heap.size) => (show Calls Try.prog 95 #[.pointer (some ⟨B, 0, none⟩), .int .i64 0, .slice (some ⟨g, 0, none⟩) 1 1] W (SealP W B ⟨#[97, 49]⟩ ⟨#[97, 50]⟩ 1 2 true 0 0 G (.tuple #[.agg m.row, .int .i64 0]) 1) from by
    rw [hm]
    exact seal_ok B ⟨#[97, 49]⟩ ⟨#[97, 50]⟩ 1 2 true 0 0 G 0 (some ⟨g, 0, none⟩) 1 [7] ⟨#[120, 48, 55]⟩ sl W h (by decide) (by decide) (by decide) (by decide) (by decide) (by decide) ⟨by decide, _, _, rfl, .inr ⟨g, 0, rfl, hg, hg, by
      intro i hi
      obtain rfl : i = 0 := by simp [U8] at hi; omega
      exact hb⟩⟩ mk7 hsl hr))
  have HO := Lib.hid (show m.k = 4 ∧ rightM m = true ∧ m.r = 2 ∧ m.c = ((0 : Nat) : Int) ∧ (∀ i, (m.t i).size ≤ 10000000) ∧ opn (m.t 10).data.toList [97, 49] 0 [48] = ([120, 48, 55], 0) from by
    rw [hm]
    exact ⟨rfl, hr, rfl, rfl, trans_sz zs, hop⟩)
  have C4 := Lib.hid (fun (W : World) (B G : Nat) (h : PB W B (pairV ⟨#[97, 50]⟩ ⟨#[97, 49]⟩ 2 1 false 0 0 G)) => (show Calls Try.prog 98 #[.pointer (some ⟨B, 0, none⟩), .int .i64 180000, .agg m.row] W (numA.Told W (.tuple #[.slice none 0 0, .int .i64 10])) from open_old B _ _ 2 1 false 0 0 G 180000 m W h HO.out.1 HO.out.2.1 HO.out.2.2.1 HO.out.2.2.2.2.1 (by decide) (by decide) (by decide)))
  have C5 := Lib.hid (fun (W : World) (B G : Nat) (h : PB W B (pairV ⟨#[97, 50]⟩ ⟨#[97, 49]⟩ 2 1 false 0 0 G)) (hat : At W G []) (hbg : B ≠ G) => (show Calls Try.prog 98 #[.pointer (some ⟨B, 0, none⟩), .int .i64 179999, .agg m.row] W (OpenP W B G (pairV ⟨#[97, 50]⟩ ⟨#[97, 49]⟩ 2 1 false 0 0 G) [0] [7]) from by
    have h5 := open_ok B ⟨#[97, 50]⟩ ⟨#[97, 49]⟩ 2 1 false 0 0 G 179999 m [] 0 ⟨#[120, 48, 55]⟩ W h HO.out.1 HO.out.2.1 HO.out.2.2.1 HO.out.2.2.2.2.1 (by decide) (by decide) hat HO.out.2.2.2.1 (by decide) (by decide) (by decide) hbg HO.out.2.2.2.2.2 (by decide) (by rw [nd7])
    rw [nd7] at h5
    exact h5))
  have O := Lib.hid (Only.refl (fun _ => False) w)
  clear hsl hok hop hr zs hm
  go_enter Try.func92, Try.ntmps92
  go_wp2_with fail
  (with_reducible refine (C1.out _).mono ?_)
  rintro e w2 ⟨B1, G1, rfl, hp1, hat1, hb1, hg1, hne1, o⟩
  have HP1 := Lib.hid hp1
  have HB1 := Lib.hid (show w.heap.size ≤ B1 from Nat.le_trans O.out.size hb1)
  replace O := Lib.hid (O.out.trans o)
  clear o hat1 hb1 hg1 hne1 hp1
  go_wp2_with fail
  (with_reducible refine (C2.out _).mono ?_)
  rintro e w3 ⟨B2, G2, rfl, hp2, hat2, hb2, hg2, hne2, o⟩
  have HP2 := Lib.hid hp2
  have HA2 := Lib.hid hat2
  have HB2 := Lib.hid (show w.heap.size ≤ B2 ∧ w.heap.size ≤ G2 from by have := O.out.size; omega)
  have HN := Lib.hid (show B1 ≠ B2 ∧ B1 ≠ G2 ∧ B2 ≠ G2 from by have := PB.lt HP1.out; omega)
  replace O := Lib.hid (O.out.trans o)
  replace HP1 := Lib.hid (HP1.out.keep o id)
  clear o hat2 hb2 hg2 hne2 hp2
  go_wp2_with fail
  obtain ⟨V, hV⟩ : ∃ V, V = w3.alloc (.cells #[.int .u8 7] 5) := ⟨_, rfl⟩
  obtain ⟨g, hg⟩ : ∃ g, g = w3.heap.size := ⟨_, rfl⟩
  have oV : Only (fun _ => False) w3 V := by rw [hV]; exact (Only.refl _ _).alloc _
  have hbk : V.heap[g]? = some (.cells #[.int .u8 7] 5 (0, 0)) := by rw [hV, hg]; exact heap_alloc_new w3 _
  rw [← hV, ← hg]
  (with_reducible refine (C3.out V B1 G1 g (HP1.out.keep oV id) (cell_of hbk) (lt_of hbk)).mono ?_)
  rintro e w4 ⟨rfl, hp, o⟩
  replace HP2 := Lib.hid ((HP2.out.keep oV id).keep o (fun e => HN.out.1 e.symm))
  replace HA2 := Lib.hid ((HA2.out.keep oV id).keep o (fun e => HN.out.2.1 e.symm))
  replace O := Lib.hid (prQ.only_own (O.out.trans oV) o (fun i e => by rw [e]; exact HB1.out))
  clear o hp hbk oV hV hg HP1
  have HN := Lib.hid (show (w4.alloc (.cells #[.int .i64 0, .int .u32 0, .int .u32 0, .int .u64 0, .string ⟨#[]⟩, .string ⟨#[]⟩, .string ⟨#[]⟩, .string ⟨#[]⟩, .string ⟨#[]⟩, .string ⟨#[]⟩, .string ⟨#[]⟩, .string ⟨#[]⟩, .string ⟨#[]⟩] 61)).heap[w4.heap.size]? = some (.cells #[.int .i64 0, .int .u32 0, .int .u32 0, .int .u64 0, .string ⟨#[]⟩, .string ⟨#[]⟩, .string ⟨#[]⟩, .string ⟨#[]⟩, .string ⟨#[]⟩, .string ⟨#[]⟩, .string ⟨#[]⟩, .string ⟨#[]⟩, .string ⟨#[]⟩] 61 (0, 0)) from heap_alloc_new w4 _)
  go_upto_region 4 with (refine wpList_store_row rfl 61 (.tmp 5) (.tmp 25) rfl w4.heap.size m.row rfl rfl 61 _ HN.out (info61 m) (size61 (zeroM 0) m) (one61 m) ?_)
  obtain ⟨V5, hV5⟩ : ∃ Z, Z = (w4.alloc (.cells #[.int .i64 0, .int .u32 0, .int .u32 0, .int .u64 0, .string ⟨#[]⟩, .string ⟨#[]⟩, .string ⟨#[]⟩, .string ⟨#[]⟩, .string ⟨#[]⟩, .string ⟨#[]⟩, .string ⟨#[]⟩, .string ⟨#[]⟩, .string ⟨#[]⟩] 61)).setRow w4.heap.size m.row := ⟨_, rfl⟩
  obtain ⟨G5, hG5⟩ : ∃ G, G = w4.heap.size := ⟨_, rfl⟩
  rw [← hV5, ← hG5]
  have HM := Lib.hid (show V5.heap[G5]? = some (.cells m.row 61 (0, 0)) from by rw [hV5, hG5]; exact setRow_heap _ _ _ _ _ _ HN.out)
  have oS : Only (fun _ => False) w4 V5 := by rw [hV5, World.setRow_alloc_new]; exact (Only.refl _ _).alloc _
  replace O := Lib.hid (O.out.trans oS)
  clear hV5 hG5 HN
  replace HM := Lib.hid (show Blk V5 G5 61 m.row from HM.out)
  replace HP2 := Lib.hid (PB.keep HP2.out oS id)
  replace HA2 := Lib.hid (At.keep HA2.out oS id)
  clear oS
  go_wp2_with (refine wpList_load_row rfl 61 (.tmp 5) rfl G5 rfl 61 m.row (0, 0) _ HM.out Try.underlying61 rfl (info61 m) ?_)
  (with_reducible refine (C4.out _ B2 G2 HP2.out).mono ?_)
  rintro e w5 ⟨rfl, o⟩
  replace O := Lib.hid (O.out.trans o)
  replace HP2 := Lib.hid (PB.keep HP2.out o id)
  replace HA2 := Lib.hid (At.keep HA2.out o id)
  replace HM := Lib.hid (Blk.keep HM.out o id)
  clear o
  go_wp2_with (refine wpList_load_row rfl 61 (.tmp 5) rfl G5 rfl 61 m.row (0, 0) _ HM.out Try.underlying61 rfl (info61 m) ?_)
  (with_reducible refine (C5.out _ B2 G2 HP2.out HA2.out HN.out.2.2).mono ?_)
  rintro e w6 ⟨⟨v, rfl, sl⟩, -, -, o⟩
  replace O := Lib.hid (prQ.only_own O.out o (fun i e => by rw [e]; exact HB2.out.2))
  obtain ⟨-, a, cap, rfl, h | ⟨q, z, rfl, -, hq, hc⟩⟩ := sl
  · cases h
  have x0 := hc 0 (by simp [U8])
  simp only [U8, List.map_cons, List.map_nil, List.getD_cons_zero, Nat.add_zero] at x0
  have x1 : w6.cell? ⟨q, z, none⟩ = some (.int .u8 7) := x0
  clear o hc x0
  go_wp2_with fail
  go_ret
  exact ⟨rfl, O.out⟩


end Go.Proofs.Ytbjnejnjlidiaaa.ppF
