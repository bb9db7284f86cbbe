/- Pair: limits. -/
import Derived.Test.YtbjnejnjlidiaaaPpF
import Derived.Below
namespace Go.Proofs.Ytbjnejnjlidiaaa.ppH
open Go.RowKit kit numA numB numC numD numE tmA tmB tmC tmD tmE trA trB prR prS prW prX tsA tsB tsF tsI wrA wrB wrC wrD wrE wrF wrG wrH wrI wrJ mkA maA maB maC noA noB noC noD noE tsG noF numF prRb winA winB winC winD winH ppA ppB ppC ppD ppE ppF
set_option linter.unusedVariables false
set_option linter.unusedSimpArgs false

theorem age_is {made age : Int} (h : 0 ≤ age) : ageOf (made + age) made = age := by
  unfold ageOf
  rw [if_pos (by omega)]
  omega
set_option maxRecDepth 100000 in
set_option maxHeartbeats 4000000 in
theorem lim_old (made age : Int) (n : Nat) (w : World) (hm0 : 0 ≤ made) (hm1 : made ≤ 1000000000000) (ha0 : 0 ≤ age) (ha1 : age ≤ 1000000) (hy : ¬ (age < 180000 ∧ n < 18446744073709543423)) : Calls Try.prog 20 #[.int .i64 made, .int .i64 age, .int .u64 (n : Nat)] w (numA.Told w (.bool true)) := by
  have g1 : (made < 0) = False := eq_false (by omega)
  have g2 : (1000000000000 < made) = False := eq_false (by omega)
  have g3 : (age < 0) = False := eq_false (by omega)
  have g4 : (1000000 < age) = False := eq_false (by omega)
  have t1 : wrap64 (made + age) = made + age := IntWalk.wrap64_in _ (by omega)
  have htm : isTm made = true := isTm_iff.2 (by omega)
  have htn : isTm (made + age) = true := isTm_iff.2 (by omega)
  have AW := Lib.hid (fun W => ppF.awake_any W)
  have C1 := Lib.hid (fun W => (show Calls Try.prog 93 #[.agg #[.string ⟨#[97, 49]⟩, .string ⟨#[97, 50]⟩], .int .u32 1, .int .u32 2, .bool true, .int .i64 made] W (NewP W ⟨#[97, 49]⟩ ⟨#[97, 50]⟩ 1 2 true made) from new_ok ⟨#[97, 49]⟩ ⟨#[97, 50]⟩ 1 2 true made W k1 k2 (by decide) (by decide) htm))
  have C2 := Lib.hid (fun W => (show Calls Try.prog 93 #[.agg #[.string ⟨#[97, 50]⟩, .string ⟨#[97, 49]⟩], .int .u32 2, .int .u32 1, .bool false, .int .i64 made] W (NewP W ⟨#[97, 50]⟩ ⟨#[97, 49]⟩ 2 1 false made) from new_ok ⟨#[97, 50]⟩ ⟨#[97, 49]⟩ 2 1 false made W k2 k1 (by decide) (by decide) htm))
  have CS := Lib.hid (fun (W : World) (B G : Nat) (h : PB W B (pairV ⟨#[97, 49]⟩ ⟨#[97, 50]⟩ 1 2 true made 0 G)) => skip_ok B ⟨#[97, 49]⟩ ⟨#[97, 50]⟩ 1 2 true made 0 G n W h (Nat.zero_le _))
  have hf : freshP made n (made + age) = false := by
    unfold freshP
    rw [age_is ha0]
    cases hd : decide (180000 ≤ age)
    · have h2 : ¬ n < 18446744073709543423 := fun h => hy ⟨by have := of_decide_eq_false hd; omega, h⟩
      rw [decide_eq_false h2]; simp
    · simp
  have C3 := Lib.hid (fun (W : World) (B G : Nat) (h : PB W B (pairV ⟨#[97, 49]⟩ ⟨#[97, 50]⟩ 1 2 true made n G)) => seal_old B ⟨#[97, 49]⟩ ⟨#[97, 50]⟩ 1 2 true made n G (made + age) (.slice none 0 0) W h htn htm hf)
  have C4 := Lib.hid (fun (W : World) (B G : Nat) (h : PB W B (pairV ⟨#[97, 49]⟩ ⟨#[97, 50]⟩ 1 2 true made n G)) => (show Calls Try.prog 96 #[.pointer (some ⟨B, 0, none⟩), .int .i64 (made + age)] W (numA.Told W (.bool false)) from by rw [← hf]; exact fresh_any B ⟨#[97, 49]⟩ ⟨#[97, 50]⟩ 1 2 true made n G (made + age) W h htm))
  have C5 := Lib.hid (fun (W : World) (B G : Nat) (h : PB W B (pairV ⟨#[97, 49]⟩ ⟨#[97, 50]⟩ 1 2 true made n G)) => sent_any B ⟨#[97, 49]⟩ ⟨#[97, 50]⟩ 1 2 true made n G W h)
  obtain ⟨yb, hyb⟩ : ∃ b, b = decide (age < 180000) := ⟨_, rfl⟩
  have HY := Lib.hid hy
  clear hy hf
  have O := Lib.hid (Only.refl (fun _ => False) w)
  clear hm0 hm1 ha0 ha1 htm htn
  go_enter Try.func20, Try.ntmps20
  go_wp2_with fail
  (with_reducible refine (AW.out _).mono ?_)
  rintro e w1 ⟨rfl, o⟩
  replace O := Lib.hid (O.out.trans o)
  clear o
  go_wp2_with fail
  clear g1 g2 g3 g4
  (with_reducible refine (C1.out _).mono ?_)
  rintro e w2 ⟨B1, G1, rfl, hp1, hat1, hb1, hg1, hne1, o⟩
  have HP1 := Lib.hid hp1
  have HB1 := Lib.hid (show w.heap.size ≤ B1 from Nat.le_trans O.out.size hb1)
  replace O := Lib.hid (O.out.trans o)
  clear o hat1 hb1 hg1 hne1 hp1
  go_wp2_with fail
  (with_reducible refine (C2.out _).mono ?_)
  rintro e w3 ⟨B2, G2, rfl, hp2, hat2, hb2, hg2, hne2, o⟩
  have HP2 := Lib.hid hp2
  have HA2 := Lib.hid hat2
  have HB2 := Lib.hid (show w.heap.size ≤ B2 ∧ w.heap.size ≤ G2 from by have := O.out.size; omega)
  have HN := Lib.hid (show B1 ≠ B2 ∧ B1 ≠ G2 ∧ B2 ≠ G2 from by have := PB.lt HP1.out; omega)
  replace O := Lib.hid (O.out.trans o)
  replace HP1 := Lib.hid (HP1.out.keep o id)
  clear o hat2 hb2 hg2 hne2 hp2
  go_wp2_with fail
  (with_reducible refine (CS.out _ _ _ HP1.out).mono ?_)
  rintro e w4 ⟨rfl, hp1, o⟩
  replace HP1 := Lib.hid hp1
  replace HP2 := Lib.hid (HP2.out.keep o (fun e => HN.out.1 e.symm))
  replace HA2 := Lib.hid (HA2.out.keep o (fun e => HN.out.2.1 e.symm))
  replace O := Lib.hid (prQ.only_own O.out o (fun i e => by rw [e]; exact HB1.out))
  clear o hp1
  go_wp2_with fail
  clear HP2 HA2 HN C1 C2 CS
  (with_reducible refine (C3.out _ _ _ HP1.out).mono ?_)
  rintro e w5 ⟨rfl, o⟩
  replace O := Lib.hid (O.out.trans o)
  replace HP1 := Lib.hid (PB.keep HP1.out o id)
  clear o
  have HN := Lib.hid (show (w5.alloc (.cells #[.int .i64 0, .int .u32 0, .int .u32 0, .int .u64 0, .string ⟨#[]⟩, .string ⟨#[]⟩, .string ⟨#[]⟩, .string ⟨#[]⟩, .string ⟨#[]⟩, .string ⟨#[]⟩, .string ⟨#[]⟩, .string ⟨#[]⟩, .string ⟨#[]⟩] 61)).heap[w5.heap.size]? = some (.cells #[.int .i64 0, .int .u32 0, .int .u32 0, .int .u64 0, .string ⟨#[]⟩, .string ⟨#[]⟩, .string ⟨#[]⟩, .string ⟨#[]⟩, .string ⟨#[]⟩, .string ⟨#[]⟩, .string ⟨#[]⟩, .string ⟨#[]⟩, .string ⟨#[]⟩] 61 (0, 0)) from heap_alloc_new w5 _)
  go_upto_region 9 with (refine wpList_store_row rfl 61 (.tmp 11) (.tmp 57) rfl w5.heap.size (zeroM 0).row rfl rfl 61 _ HN.out (info61 (zeroM 0)) (size61 (zeroM 0) (zeroM 0)) (one61 (zeroM 0)) ?_)
  obtain ⟨V6, hV6⟩ : ∃ Z, Z = (w5.alloc (.cells #[.int .i64 0, .int .u32 0, .int .u32 0, .int .u64 0, .string ⟨#[]⟩, .string ⟨#[]⟩, .string ⟨#[]⟩, .string ⟨#[]⟩, .string ⟨#[]⟩, .string ⟨#[]⟩, .string ⟨#[]⟩, .string ⟨#[]⟩, .string ⟨#[]⟩] 61)).setRow w5.heap.size (zeroM 0).row := ⟨_, rfl⟩
  obtain ⟨G6, hG6⟩ : ∃ G, G = w5.heap.size := ⟨_, rfl⟩
  rw [← hV6, ← hG6]
  have HM := Lib.hid (show V6.heap[G6]? = some (.cells (zeroM 0).row 61 (0, 0)) from by rw [hV6, hG6]; exact setRow_heap _ _ _ _ _ _ HN.out)
  have oS : Only (fun _ => False) w5 V6 := by rw [hV6, World.setRow_alloc_new]; exact (Only.refl _ _).alloc _
  replace O := Lib.hid (O.out.trans oS)
  clear hV6 hG6 HN
  replace HM := Lib.hid (show Blk V6 G6 61 (zeroM 0).row from HM.out)
  replace HP1 := Lib.hid (PB.keep HP1.out oS id)
  clear oS
  clear HM
  have gq : ((n : Int) == (n : Int)) = true := beq_self_eq_true _
  by_cases hya : age < 180000
  · have g5 : (age < 180000) = True := eq_true hya
    have g6 : ((n : Int) < 18446744073709543423) = False := eq_false (fun h => HY.out ⟨hya, by omega⟩)
    clear hya
    go_wp2_with fail
    (with_reducible refine (C4.out _ _ _ HP1.out).mono ?_)
    rintro e w7 ⟨rfl, o⟩
    replace O := Lib.hid (O.out.trans o)
    replace HP1 := Lib.hid (HP1.out.keep o id)
    clear o
    go_wp2_with fail
    (with_reducible refine (C5.out _ _ _ HP1.out).mono ?_)
    rintro e w8 ⟨rfl, o⟩
    replace O := Lib.hid (O.out.trans o)
    clear o
    go_wp2_with fail
    go_ret
    exact ⟨rfl, O.out⟩
  · have g5 : (age < 180000) = False := eq_false hya
    clear hya
    go_wp2_with fail
    (with_reducible refine (C4.out _ _ _ HP1.out).mono ?_)
    rintro e w7 ⟨rfl, o⟩
    replace O := Lib.hid (O.out.trans o)
    replace HP1 := Lib.hid (HP1.out.keep o id)
    clear o
    go_wp2_with fail
    (with_reducible refine (C5.out _ _ _ HP1.out).mono ?_)
    rintro e w8 ⟨rfl, o⟩
    replace O := Lib.hid (O.out.trans o)
    clear o
    go_wp2_with fail
    go_ret
    exact ⟨rfl, O.out⟩

theorem rwd_new {n : Nat} (h : n < 18446744073709543423) : rwd [] n = 0 := by
  unfold rwd
  rw [if_neg (by omega), if_neg (by simp)]
theorem rwd_again {n : Nat} (h : n < 18446744073709543423) : rwd [n] n = 9 := by
  unfold rwd
  rw [if_neg (by omega), if_pos (by simp)]
set_option maxRecDepth 100000 in
set_option maxHeartbeats 8000000 in
theorem lim_young (made age : Int) (n : Nat) (w : World) (hm0 : 0 ≤ made) (hm1 : made ≤ 1000000000000) (ha0 : 0 ≤ age) (ha1 : age ≤ 1000000) (hy1 : age < 180000) (hy2 : n < 18446744073709543423) : Calls Try.prog 20 #[.int .i64 made, .int .i64 age, .int .u64 (n : Nat)] w (numA.Told w (.bool true)) := by
  have g1 : (made < 0) = False := eq_false (by omega)
  have g2 : (1000000000000 < made) = False := eq_false (by omega)
  have g3 : (age < 0) = False := eq_false (by omega)
  have g4 : (1000000 < age) = False := eq_false (by omega)
  have t1 : wrap64 (made + age) = made + age := IntWalk.wrap64_in _ (by omega)
  have htm : isTm made = true := isTm_iff.2 (by omega)
  have htn : isTm (made + age) = true := isTm_iff.2 (by omega)
  have AW := Lib.hid (fun W => ppF.awake_any W)
  have t2 : wrap64 (made + 180000) = made + 180000 := IntWalk.wrap64_in _ (by omega)
  have htx : isTm (made + 180000) = true := isTm_iff.2 (by omega)
  have hmo : n ≤ most := by unfold most; omega
  obtain ⟨sl, hsl⟩ := mkb (mkT 10 n [] [[97, 49], [120], [48]])
  obtain ⟨hok, hop⟩ := seal_n (n := n) (k := [97, 49]) (d := [120]) hmo lit1 lite
  rw [← hsl] at hok hop
  have hr := trans_right (re := 2) (n := n) (ok_fit hok (by decide))
  have zs : sl.size ≤ 10000000 := by have := hok.2; rw [tl_size] at this; omega
  obtain ⟨m, hm⟩ : ∃ m, m = transM 2 n sl := ⟨_, rfl⟩
  have hf : freshP made n (made + age) = true := by
    unfold freshP
    rw [age_is ha0, htn, decide_eq_false (by omega : ¬ 180000 ≤ age), decide_eq_true hy2]
    rfl
  have C1 := Lib.hid (fun W => (show Calls Try.prog 93 #[.agg #[.string ⟨#[97, 49]⟩, .string ⟨#[97, 50]⟩], .int .u32 1, .int .u32 2, .bool true, .int .i64 made] W (NewP W ⟨#[97, 49]⟩ ⟨#[97, 50]⟩ 1 2 true made) from new_ok ⟨#[97, 49]⟩ ⟨#[97, 50]⟩ 1 2 true made W k1 k2 (by decide) (by decide) htm))
  have C2 := Lib.hid (fun W => (show Calls Try.prog 93 #[.agg #[.string ⟨#[97, 50]⟩, .string ⟨#[97, 49]⟩], .int .u32 2, .int .u32 1, .bool false, .int .i64 made] W (NewP W ⟨#[97, 50]⟩ ⟨#[97, 49]⟩ 2 1 false made) from new_ok ⟨#[97, 50]⟩ ⟨#[97, 49]⟩ 2 1 false made W k2 k1 (by decide) (by decide) htm))
  have CS := Lib.hid (fun (W : World) (B G : Nat) (h : PB W B (pairV ⟨#[97, 49]⟩ ⟨#[97, 50]⟩ 1 2 true made 0 G)) => skip_ok B ⟨#[97, 49]⟩ ⟨#[97, 50]⟩ 1 2 true made 0 G n W h (Nat.zero_le _))
  have C3 := Lib.hid (fun (W : World) (B G : Nat) (h : PB W B (pairV ⟨#[97, 49]⟩ ⟨#[97, 50]⟩ 1 2 true made n G)) => (show Calls Try.prog 95 #[.pointer (some ⟨B, 0, none⟩), .int .i64 (made + age), .slice none 0 0] W (SealP W B ⟨#[97, 49]⟩ ⟨#[97, 50]⟩ 1 2 true made n G (.tuple #[.agg m.row, .int .i64 0]) (n + 1)) from by
    rw [hm]
    exact seal_ok B ⟨#[97, 49]⟩ ⟨#[97, 50]⟩ 1 2 true made n G (made + age) none 0 [] ⟨#[120]⟩ sl W h htn htm hf hy2 (by decide) (by decide) (sl_nil _ _) mk0 hsl hr))
  obtain ⟨lb, hlb⟩ : ∃ b, b = decide (n + 1 < 18446744073709543423) := ⟨_, rfl⟩
  have C4 := Lib.hid (fun (W : World) (B G : Nat) (h : PB W B (pairV ⟨#[97, 49]⟩ ⟨#[97, 50]⟩ 1 2 true made (n + 1) G)) => (show Calls Try.prog 96 #[.pointer (some ⟨B, 0, none⟩), .int .i64 (made + age)] W (numA.Told W (.bool lb)) from by
    have h1 := fresh_any B ⟨#[97, 49]⟩ ⟨#[97, 50]⟩ 1 2 true made (n + 1) G (made + age) W h htm
    unfold freshP at h1
    rw [age_is ha0, htn, decide_eq_false (by omega : ¬ 180000 ≤ age), ← hlb] at h1
    exact h1))
  have HO := Lib.hid (show m.k = 4 ∧ rightM m = true ∧ m.r = 2 ∧ m.c = (n : Int) ∧ (∀ i, (m.t i).size ≤ 10000000) ∧ opn (m.t 10).data.toList [97, 49] n [48] = ([120], 0) from by
    rw [hm]
    exact ⟨rfl, hr, rfl, rfl, trans_sz zs, hop⟩)
  have C5 := Lib.hid (fun (W : World) (B G : Nat) (h : PB W B (pairV ⟨#[97, 50]⟩ ⟨#[97, 49]⟩ 2 1 false made 0 G)) (hat : At W G []) (hbg : B ≠ G) => (show Calls Try.prog 98 #[.pointer (some ⟨B, 0, none⟩), .int .i64 (made + age), .agg m.row] W (OpenP W B G (pairV ⟨#[97, 50]⟩ ⟨#[97, 49]⟩ 2 1 false made 0 G) [n] (trJ.ndOf (⟨#[120]⟩ : ByteArray).data.toList).b) from
    open_ok B ⟨#[97, 50]⟩ ⟨#[97, 49]⟩ 2 1 false made 0 G (made + age) m [] n ⟨#[120]⟩ W h HO.out.1 HO.out.2.1 HO.out.2.2.1 HO.out.2.2.2.2.1 htn htm hat HO.out.2.2.2.1 (by omega) (by rw [age_is ha0]; omega) (rwd_new hy2) hbg HO.out.2.2.2.2.2 (by decide) (by rw [nd0])))
  have C6 := Lib.hid (fun (W : World) (B G : Nat) (h : PB W B (pairV ⟨#[97, 50]⟩ ⟨#[97, 49]⟩ 2 1 false made 0 G)) (hat : At W G [n]) => (show Calls Try.prog 98 #[.pointer (some ⟨B, 0, none⟩), .int .i64 (made + age), .agg m.row] W (numA.Told W (.tuple #[.slice none 0 0, .int .i64 9])) from by
    have h1 := open_stale B ⟨#[97, 50]⟩ ⟨#[97, 49]⟩ 2 1 false made 0 G (made + age) m [n] n W h HO.out.1 HO.out.2.1 HO.out.2.2.1 HO.out.2.2.2.2.1 htn htm hat HO.out.2.2.2.1 (by omega) (by rw [age_is ha0]; omega) (by rw [rwd_again hy2]; decide)
    rw [rwd_again hy2] at h1
    exact h1))
  have C7 := Lib.hid (fun (W : World) (B G : Nat) (h : PB W B (pairV ⟨#[97, 50]⟩ ⟨#[97, 49]⟩ 2 1 false made 0 G)) => (show Calls Try.prog 98 #[.pointer (some ⟨B, 0, none⟩), .int .i64 (made + 180000), .agg m.row] W (numA.Told W (.tuple #[.slice none 0 0, .int .i64 10])) from open_old B ⟨#[97, 50]⟩ ⟨#[97, 49]⟩ 2 1 false made 0 G (made + 180000) m W h HO.out.1 HO.out.2.1 HO.out.2.2.1 HO.out.2.2.2.2.1 htx htm (by rw [age_is (by decide)]; decide)))
  have C8 := Lib.hid (fun (W : World) (B G : Nat) (h : PB W B (pairV ⟨#[97, 49]⟩ ⟨#[97, 50]⟩ 1 2 true made (n + 1) G)) => sent_any B ⟨#[97, 49]⟩ ⟨#[97, 50]⟩ 1 2 true made (n + 1) G W h)
  have g5 : (age < 180000) = True := eq_true hy1
  have g6 : ((n : Int) < 18446744073709543423) = True := eq_true (by omega)
  have e6 : IntKind.u64.wrap ((n : Int) + 1) = (n : Int) + 1 := IntWalk.u64_in _ (by omega)
  have HL := Lib.hid hlb
  have HY := Lib.hid hy2
  clear hy1 hy2 hf hsl hok hop hr zs hm htx hmo hlb
  have O := Lib.hid (Only.refl (fun _ => False) w)
  clear hm0 hm1 ha0 ha1 htm htn
  go_enter Try.func20, Try.ntmps20
  go_wp2_with fail
  (with_reducible refine (AW.out _).mono ?_)
  rintro e w1 ⟨rfl, o⟩
  replace O := Lib.hid (O.out.trans o)
  clear o
  go_wp2_with fail
  clear g1 g2 g3 g4
  (with_reducible refine (C1.out _).mono ?_)
  rintro e w2 ⟨B1, G1, rfl, hp1, hat1, hb1, hg1, hne1, o⟩
  have HP1 := Lib.hid hp1
  have HB1 := Lib.hid (show w.heap.size ≤ B1 from Nat.le_trans O.out.size hb1)
  replace O := Lib.hid (O.out.trans o)
  clear o hat1 hb1 hg1 hne1 hp1
  go_wp2_with fail
  (with_reducible refine (C2.out _).mono ?_)
  rintro e w3 ⟨B2, G2, rfl, hp2, hat2, hb2, hg2, hne2, o⟩
  have HP2 := Lib.hid hp2
  have HA2 := Lib.hid hat2
  have HB2 := Lib.hid (show w.heap.size ≤ B2 ∧ w.heap.size ≤ G2 from by have := O.out.size; omega)
  have HN := Lib.hid (show B1 ≠ B2 ∧ B1 ≠ G2 ∧ B2 ≠ G2 from by have := PB.lt HP1.out; omega)
  replace O := Lib.hid (O.out.trans o)
  replace HP1 := Lib.hid (HP1.out.keep o id)
  clear o hat2 hb2 hg2 hne2 hp2
  go_wp2_with fail
  (with_reducible refine (CS.out _ _ _ HP1.out).mono ?_)
  rintro e w4 ⟨rfl, hp1, o⟩
  replace HP1 := Lib.hid hp1
  replace HP2 := Lib.hid (HP2.out.keep o (fun e => HN.out.1 e.symm))
  replace HA2 := Lib.hid (HA2.out.keep o (fun e => HN.out.2.1 e.symm))
  replace O := Lib.hid (prQ.only_own O.out o (fun i e => by rw [e]; exact HB1.out))
  clear o hp1
  go_wp2_with fail
  (with_reducible refine (C3.out _ _ _ HP1.out).mono ?_)
  rintro e w5 ⟨rfl, hp, o⟩
  replace HP1 := Lib.hid hp
  replace HP2 := Lib.hid (HP2.out.keep o (fun e => HN.out.1 e.symm))
  replace HA2 := Lib.hid (HA2.out.keep o (fun e => HN.out.2.1 e.symm))
  replace O := Lib.hid (prQ.only_own O.out o (fun i e => by rw [e]; exact HB1.out))
  clear o hp
  have HGL := Lib.hid (show G2 < w5.heap.size from At.lt HA2.out)
  have HN := Lib.hid (show (w5.alloc (.cells #[.int .i64 0, .int .u32 0, .int .u32 0, .int .u64 0, .string ⟨#[]⟩, .string ⟨#[]⟩, .string ⟨#[]⟩, .string ⟨#[]⟩, .string ⟨#[]⟩, .string ⟨#[]⟩, .string ⟨#[]⟩, .string ⟨#[]⟩, .string ⟨#[]⟩] 61)).heap[w5.heap.size]? = some (.cells #[.int .i64 0, .int .u32 0, .int .u32 0, .int .u64 0, .string ⟨#[]⟩, .string ⟨#[]⟩, .string ⟨#[]⟩, .string ⟨#[]⟩, .string ⟨#[]⟩, .string ⟨#[]⟩, .string ⟨#[]⟩, .string ⟨#[]⟩, .string ⟨#[]⟩] 61 (0, 0)) from heap_alloc_new w5 _)
  go_upto_region 9 with (refine wpList_store_row rfl 61 (.tmp 11) (.tmp 57) rfl w5.heap.size m.row rfl rfl 61 _ HN.out (info61 m) (size61 (zeroM 0) m) (one61 m) ?_)
  obtain ⟨V6, hV6⟩ : ∃ Z, Z = (w5.alloc (.cells #[.int .i64 0, .int .u32 0, .int .u32 0, .int .u64 0, .string ⟨#[]⟩, .string ⟨#[]⟩, .string ⟨#[]⟩, .string ⟨#[]⟩, .string ⟨#[]⟩, .string ⟨#[]⟩, .string ⟨#[]⟩, .string ⟨#[]⟩, .string ⟨#[]⟩] 61)).setRow w5.heap.size m.row := ⟨_, rfl⟩
  obtain ⟨G6, hG6⟩ : ∃ G, G = w5.heap.size := ⟨_, rfl⟩
  rw [← hV6, ← hG6]
  have HM := Lib.hid (show V6.heap[G6]? = some (.cells m.row 61 (0, 0)) from by rw [hV6, hG6]; exact setRow_heap _ _ _ _ _ _ HN.out)
  have oS : Only (fun _ => False) w5 V6 := by rw [hV6, World.setRow_alloc_new]; exact (Only.refl _ _).alloc _
  replace O := Lib.hid (O.out.trans oS)
  have HG := Lib.hid (show G6 ≠ G2 from by rw [hG6]; have := HGL.out; omega)
  clear hV6 hG6 HN
  replace HM := Lib.hid (show Blk V6 G6 61 m.row from HM.out)
  replace HP1 := Lib.hid (PB.keep HP1.out oS id)
  replace HP2 := Lib.hid (PB.keep HP2.out oS id)
  replace HA2 := Lib.hid (At.keep HA2.out oS id)
  clear oS
  cases lb
  · have g7 : ((n : Int) + 1 < 18446744073709543423) = False := eq_false (fun h => by have := of_decide_eq_false HL.out.symm; omega)
    go_wp2_with fail
    (with_reducible refine (C4.out _ _ _ HP1.out).mono ?_)
    rintro e w7 ⟨rfl, o⟩
    replace O := Lib.hid (O.out.trans o)
    replace HM := Lib.hid (Blk.keep HM.out o id)
    replace HP1 := Lib.hid (PB.keep HP1.out o id)
    replace HP2 := Lib.hid (PB.keep HP2.out o id)
    replace HA2 := Lib.hid (At.keep HA2.out o id)
    clear o
    go_wp2_with (refine wpList_load_row rfl 61 (.tmp 11) rfl G6 rfl 61 m.row (0, 0) _ HM.out Try.underlying61 rfl (info61 m) ?_)
    (with_reducible refine (C5.out _ _ _ HP2.out HA2.out HN.out.2.2).mono ?_)
    rintro e w8 ⟨⟨v, rfl, sl⟩, hp, hat, o⟩
    have hg6 : G6 ≠ G2 := HG.out
    replace HM := Lib.hid (Blk.keep HM.out o hg6)
    replace HP1 := Lib.hid (PB.keep HP1.out o HN.out.2.1)
    replace HP2 := Lib.hid hp
    replace HA2 := Lib.hid hat
    replace O := Lib.hid (prQ.only_own O.out o (fun i e => by rw [e]; exact HB2.out.2))
    clear o hp hat sl hg6
    go_wp2_with (refine wpList_load_row rfl 61 (.tmp 11) rfl G6 rfl 61 m.row (0, 0) _ HM.out Try.underlying61 rfl (info61 m) ?_)
    (with_reducible refine (C6.out _ _ _ HP2.out HA2.out).mono ?_)
    rintro e w9 ⟨rfl, o⟩
    replace O := Lib.hid (O.out.trans o)
    replace HM := Lib.hid (Blk.keep HM.out o id)
    replace HP1 := Lib.hid (PB.keep HP1.out o id)
    replace HP2 := Lib.hid (PB.keep HP2.out o id)
    replace HA2 := Lib.hid (At.keep HA2.out o id)
    clear o
    go_wp2_with (refine wpList_load_row rfl 61 (.tmp 11) rfl G6 rfl 61 m.row (0, 0) _ HM.out Try.underlying61 rfl (info61 m) ?_)
    (with_reducible refine (C7.out _ _ _ HP2.out).mono ?_)
    rintro e x1 ⟨rfl, o⟩
    replace O := Lib.hid (O.out.trans o)
    replace HM := Lib.hid (Blk.keep HM.out o id)
    replace HP1 := Lib.hid (PB.keep HP1.out o id)
    replace HP2 := Lib.hid (PB.keep HP2.out o id)
    replace HA2 := Lib.hid (At.keep HA2.out o id)
    clear o
    go_wp2_with fail
    (with_reducible refine (C8.out _ _ _ HP1.out).mono ?_)
    rintro e x2 ⟨rfl, o⟩
    replace O := Lib.hid (O.out.trans o)
    replace HM := Lib.hid (Blk.keep HM.out o id)
    clear o
    have d3 : x2.cell? ⟨G6, 3, none⟩ = some (.int .u64 (n : Nat)) := by
      have h := (MsgAt.nums (show MsgAt x2 G6 m from HM.out)).2.2.2
      rw [HO.out.2.2.2.1] at h
      exact h
    go_wp2_with fail
    go_ret
    exact ⟨rfl, O.out⟩
  · have g7 : ((n : Int) + 1 < 18446744073709543423) = True := eq_true (by have := of_decide_eq_true HL.out.symm; omega)
    go_wp2_with fail
    (with_reducible refine (C4.out _ _ _ HP1.out).mono ?_)
    rintro e w7 ⟨rfl, o⟩
    replace O := Lib.hid (O.out.trans o)
    replace HM := Lib.hid (Blk.keep HM.out o id)
    replace HP1 := Lib.hid (PB.keep HP1.out o id)
    replace HP2 := Lib.hid (PB.keep HP2.out o id)
    replace HA2 := Lib.hid (At.keep HA2.out o id)
    clear o
    go_wp2_with (refine wpList_load_row rfl 61 (.tmp 11) rfl G6 rfl 61 m.row (0, 0) _ HM.out Try.underlying61 rfl (info61 m) ?_)
    (with_reducible refine (C5.out _ _ _ HP2.out HA2.out HN.out.2.2).mono ?_)
    rintro e w8 ⟨⟨v, rfl, sl⟩, hp, hat, o⟩
    have hg6 : G6 ≠ G2 := HG.out
    replace HM := Lib.hid (Blk.keep HM.out o hg6)
    replace HP1 := Lib.hid (PB.keep HP1.out o HN.out.2.1)
    replace HP2 := Lib.hid hp
    replace HA2 := Lib.hid hat
    replace O := Lib.hid (prQ.only_own O.out o (fun i e => by rw [e]; exact HB2.out.2))
    clear o hp hat sl hg6
    go_wp2_with (refine wpList_load_row rfl 61 (.tmp 11) rfl G6 rfl 61 m.row (0, 0) _ HM.out Try.underlying61 rfl (info61 m) ?_)
    (with_reducible refine (C6.out _ _ _ HP2.out HA2.out).mono ?_)
    rintro e w9 ⟨rfl, o⟩
    replace O := Lib.hid (O.out.trans o)
    replace HM := Lib.hid (Blk.keep HM.out o id)
    replace HP1 := Lib.hid (PB.keep HP1.out o id)
    replace HP2 := Lib.hid (PB.keep HP2.out o id)
    replace HA2 := Lib.hid (At.keep HA2.out o id)
    clear o
    go_wp2_with (refine wpList_load_row rfl 61 (.tmp 11) rfl G6 rfl 61 m.row (0, 0) _ HM.out Try.underlying61 rfl (info61 m) ?_)
    (with_reducible refine (C7.out _ _ _ HP2.out).mono ?_)
    rintro e x1 ⟨rfl, o⟩
    replace O := Lib.hid (O.out.trans o)
    replace HM := Lib.hid (Blk.keep HM.out o id)
    replace HP1 := Lib.hid (PB.keep HP1.out o id)
    replace HP2 := Lib.hid (PB.keep HP2.out o id)
    replace HA2 := Lib.hid (At.keep HA2.out o id)
    clear o
    go_wp2_with fail
    (with_reducible refine (C8.out _ _ _ HP1.out).mono ?_)
    rintro e x2 ⟨rfl, o⟩
    replace O := Lib.hid (O.out.trans o)
    replace HM := Lib.hid (Blk.keep HM.out o id)
    clear o
    have d3 : x2.cell? ⟨G6, 3, none⟩ = some (.int .u64 (n : Nat)) := by
      have h := (MsgAt.nums (show MsgAt x2 G6 m from HM.out)).2.2.2
      rw [HO.out.2.2.2.1] at h
      exact h
    go_wp2_with fail
    go_ret
    exact ⟨rfl, O.out⟩

set_option maxRecDepth 100000 in
set_option maxHeartbeats 1600000 in
theorem lim_out (made age : Int) (n : Nat) (w : World) (hg : ¬ (0 ≤ made ∧ made ≤ 1000000000000 ∧ 0 ≤ age ∧ age ≤ 1000000)) : Calls Try.prog 20 #[.int .i64 made, .int .i64 age, .int .u64 (n : Nat)] w (numA.Told w (.bool true)) := by
  have AW := Lib.hid (fun W => ppF.awake_any W)
  have O := Lib.hid (Only.refl (fun _ => False) w)
  by_cases h0 : made < 0
  · have g1 : (made < 0) = True := eq_true h0
    clear hg
    go_enter Try.func20, Try.ntmps20
    go_wp2_with fail
    (with_reducible refine (AW.out _).mono ?_)
    rintro e w1 ⟨rfl, o⟩
    replace O := Lib.hid (O.out.trans o)
    clear o
    go_wp2_with fail
    go_ret
    exact ⟨rfl, O.out⟩
  by_cases h1 : 1000000000000 < made
  · have g1 : (made < 0) = False := eq_false h0
    have g2 : (1000000000000 < made) = True := eq_true h1
    clear hg h0
    go_enter Try.func20, Try.ntmps20
    go_wp2_with fail
    (with_reducible refine (AW.out _).mono ?_)
    rintro e w1 ⟨rfl, o⟩
    replace O := Lib.hid (O.out.trans o)
    clear o
    go_wp2_with fail
    go_ret
    exact ⟨rfl, O.out⟩
  by_cases h2 : age < 0
  · have g1 : (made < 0) = False := eq_false h0
    have g2 : (1000000000000 < made) = False := eq_false h1
    have g3 : (age < 0) = True := eq_true h2
    clear hg h0 h1
    go_enter Try.func20, Try.ntmps20
    go_wp2_with fail
    (with_reducible refine (AW.out _).mono ?_)
    rintro e w1 ⟨rfl, o⟩
    replace O := Lib.hid (O.out.trans o)
    clear o
    go_wp2_with fail
    go_ret
    exact ⟨rfl, O.out⟩
  have h3 : 1000000 < age := by omega
  have g1 : (made < 0) = False := eq_false h0
  have g2 : (1000000000000 < made) = False := eq_false h1
  have g3 : (age < 0) = False := eq_false h2
  have g4 : (1000000 < age) = True := eq_true h3
  clear hg h0 h1 h2
  go_enter Try.func20, Try.ntmps20
  go_wp2_with fail
  (with_reducible refine (AW.out _).mono ?_)
  rintro e w1 ⟨rfl, o⟩
  replace O := Lib.hid (O.out.trans o)
  clear o
  go_wp2_with fail
  go_ret
  exact ⟨rfl, O.out⟩

theorem lim_any (made age : Int) (n : Nat) (w : World) : Calls Try.prog 20 #[.int .i64 made, .int .i64 age, .int .u64 (n : Nat)] w (numA.Told w (.bool true)) := by
  by_cases hg : 0 ≤ made ∧ made ≤ 1000000000000 ∧ 0 ≤ age ∧ age ≤ 1000000
  · obtain ⟨h0, h1, h2, h3⟩ := hg
    by_cases hy : age < 180000 ∧ n < 18446744073709543423
    · exact lim_young made age n w h0 h1 h2 h3 hy.1 hy.2
    · exact lim_old made age n w h0 h1 h2 h3 hy
  · exact lim_out made age n w hg
theorem lim_walk (made : Int) (_ : (Lit.int .i64 made).wf = true) (age : Int) (_ : (Lit.int .i64 age).wf = true) (n : Int) (hn : (Lit.int .u64 n).wf = true) {w : World} : Calls Try.prog 20 #[.int .i64 made, .int .i64 age, .int .u64 n] w fun e w' => e = .returned (.bool true) ∧ Below w.heap.size w w' := by
  have b := bounds_u64 hn
  obtain ⟨N, rfl⟩ := Int.eq_ofNat_of_zero_le b.1
  refine (lim_any made age N w).mono ?_
  rintro e w' ⟨rfl, o⟩
  exact ⟨rfl, o.below (fun _ h => h.elim) (Nat.le_refl _)⟩

end Go.Proofs.Ytbjnejnjlidiaaa.ppH
