/- Noise: any answer. -/
import Derived.Test.YtbjnejnjlidiaaaNpA
namespace Go.Proofs.Ytbjnejnjlidiaaa.npB
open Go.RowKit kit numA numB numC numD numE tmA tmB tmC tmD tmE trA trB prR prS prW prX tsA tsB tsF tsI wrA wrB wrC wrD wrE wrF wrG wrH wrI wrJ mkA maA maB maC noA noB noC noD noE tsG noF noG noH noJ noK noL noM noN noO noP wrL noS noU noY npA
set_option linter.unusedVariables false
set_option linter.unusedSimpArgs false

def CutL (V : World) (a b c : Value) (p q r : Value) (wx : World) : Prop := p = a ∧ q = b ∧ r = c ∧ Only (fun _ => False) V wx
set_option maxRecDepth 100000 in
set_option maxHeartbeats 16000000 in
theorem nf_main (x : Int) (e c h : ByteArray) (y : Int) (p : ByteArray) (N : Int) (ee c2 h2 : ByteArray) (s q : ByteArray) (m : Msg) (w : World) (hb : bigN [e.data.toList, c.data.toList, h.data.toList, p.data.toList, ee.data.toList, c2.data.toList, h2.data.toList, s.data.toList, q.data.toList] = false) (hv : decide ((4000 : Int) < bytesM m) = false) (ht : ∀ i, (m.t i).size ≤ 4000) (ze : e.size ≤ 200) (zc : c.size ≤ 200) (zh : h.size ≤ 200) (zp : p.size ≤ 200) (zee : ee.size ≤ 200) (zc2 : c2.size ≤ 200) (zh2 : h2.size ≤ 200) (zs : s.size ≤ 200) (zq : q.size ≤ 200) : Calls Try.prog 15 #[.agg (startV x e c h), .agg (heardV y p N ee c2 h2), .string s, .string q, mval m] w (numA.Told w (.bool true)) := by
  have AW := Lib.hid (fun W => awake_any W)
  have BG := Lib.hid (fun W => (show Calls Try.prog 67 #[.slice (some ⟨W.heap.size, 0, none⟩) 9 9] (W.alloc (.cells #[.string e, .string c, .string h, .string p, .string ee, .string c2, .string h2, .string s, .string q] 9)) (numA.Told W (.bool false)) from big_blk [e, c, h, p, ee, c2, h2, s, q] false W (by simp) hb W.heap.size rfl))
  have HV := Lib.hid (fun W => (show Calls Try.prog 54 #[.agg m.row, .int .i64 4000] W (numA.Told W (.bool false)) from by have h := heavy_any m 4000 W (fun i => Nat.le_trans (ht i) (by decide)); rw [hv] at h; exact h))
  simp only [Msg.row] at HV
  obtain ⟨b1, hb1⟩ : ∃ b, b = isT s.data.toList := ⟨_, rfl⟩
  have IS := Lib.hid (fun W => (show Calls Try.prog 39 #[.string s] W (numA.Told W (.bool b1)) from by rw [hb1]; exact trJ.is_any s W (by omega)))
  obtain ⟨b2, hb2⟩ : ∃ b, b = isT q.data.toList := ⟨_, rfl⟩
  have IQ := Lib.hid (fun W => (show Calls Try.prog 39 #[.string q] W (numA.Told W (.bool b2)) from by rw [hb2]; exact trJ.is_any q W (by omega)))
  obtain ⟨b3, hb3⟩ : ∃ b, b = isT e.data.toList := ⟨_, rfl⟩
  have IE := Lib.hid (fun W => (show Calls Try.prog 39 #[.string e] W (numA.Told W (.bool b3)) from by rw [hb3]; exact trJ.is_any e W (by omega)))
  obtain ⟨b4, hb4⟩ : ∃ b, b = isT c.data.toList := ⟨_, rfl⟩
  have IC := Lib.hid (fun W => (show Calls Try.prog 39 #[.string c] W (numA.Told W (.bool b4)) from by rw [hb4]; exact trJ.is_any c W (by omega)))
  obtain ⟨b5, hb5⟩ : ∃ b, b = isT h.data.toList := ⟨_, rfl⟩
  have IH := Lib.hid (fun W => (show Calls Try.prog 39 #[.string h] W (numA.Told W (.bool b5)) from by rw [hb5]; exact trJ.is_any h W (by omega)))
  obtain ⟨b6, hb6⟩ : ∃ b, b = isT c2.data.toList := ⟨_, rfl⟩
  have I6 := Lib.hid (fun W => (show Calls Try.prog 39 #[.string c2] W (numA.Told W (.bool b6)) from by rw [hb6]; exact trJ.is_any c2 W (by omega)))
  obtain ⟨b7, hb7⟩ : ∃ b, b = isT h2.data.toList := ⟨_, rfl⟩
  have I7 := Lib.hid (fun W => (show Calls Try.prog 39 #[.string h2] W (numA.Told W (.bool b7)) from by rw [hb7]; exact trJ.is_any h2 W (by omega)))
  obtain ⟨k4, hk4⟩ : ∃ k, k = (trJ.ndOf (m.t 4).data.toList).k := ⟨_, rfl⟩
  have RD4 := Lib.hid (fun W => trJ.read_nd (m.t 4) W (Nat.le_trans (ht 4) (by decide)))
  have Hk4 := Lib.hid hk4.symm
  obtain ⟨kp, hkp⟩ : ∃ k, k = (trJ.ndOf p.data.toList).k := ⟨_, rfl⟩
  have RDP := Lib.hid (fun W => trJ.read_nd p W (by omega))
  have Hkp := Lib.hid hkp.symm
  obtain ⟨ke, hke⟩ : ∃ k, k = (trJ.ndOf ee.data.toList).k := ⟨_, rfl⟩
  have RDE := Lib.hid (fun W => trJ.read_nd ee W (by omega))
  have Hke := Lib.hid hke.symm
  obtain ⟨br, hbr⟩ : ∃ b, b = rightM m := ⟨_, rfl⟩
  have RM := Lib.hid (fun W => (show Calls Try.prog 56 #[.agg m.row] W (numA.Told W (.bool br)) from by rw [hbr]; exact refright_any m W (fun i => Nat.le_trans (ht i) (by decide))))
  simp only [Msg.row] at RM
  obtain ⟨cd, K1, K2, hfv, hcd, hk0, hk1⟩ := fin_ex x e.data.toList c.data.toList h.data.toList s.data.toList q.data.toList m
  have CF := Lib.hid (fun W => (show Calls Try.prog 75 #[.agg (startV x e c h), .string s, .string q, .agg m.row] W (numA.Told W (.tuple #[.agg (keysV K1 K2), .int .i64 (cd : Nat)])) from by
    have h0 := finish_any x e c h s q m W (fun i => Nat.le_trans (ht i) (by decide)) (by omega) (by omega) (by omega) (by omega) (by omega)
    rw [hfv] at h0
    exact h0))
  obtain ⟨M, L1, L2, ad, hAE, CA0⟩ := ansE_ex y N p ee c2 h2 s q zp zee zc2 zh2 zs zq
  have CA := Lib.hid CA0
  obtain ⟨ab, hab⟩ : ∃ b, b = ansB s.data.toList q.data.toList p.data.toList ee.data.toList c2.data.toList h2.data.toList := ⟨_, rfl⟩
  rw [← hab] at hAE
  have HSZ := Lib.hid hAE.sz
  obtain ⟨rb, hrb⟩ : ∃ b, b = (b1 && b2) := ⟨_, rfl⟩
  have HAB := Lib.hid (show ab = (rb && ((kp == 5) && ((ke == 5) && (b6 && b7)))) from by rw [hab, hrb, hb1, hb2, hkp, hke, hb6, hb7]; unfold ansB pubB; simp only [Bool.and_assoc]; rfl)
  obtain ⟨g, hg⟩ : ∃ g, g = (rb && (b3 && (b4 && (b5 && (br && ((m.k == 2) && (k4 == 5))))))) := ⟨_, rfl⟩
  have hgd : g = true ↔ [s.data.toList, q.data.toList, e.data.toList, c.data.toList, h.data.toList].all isT = true ∧ (m.k == 2 && rightM m) = true ∧ pubB (m.t 4).data.toList = true := by
    rw [hg, hrb, hb1, hb2, hb3, hb4, hb5, hbr, hk4]
    unfold pubB
    simp only [List.all_cons, List.all_nil, Bool.and_true, Bool.and_eq_true]
    constructor
    · rintro ⟨⟨a1, a2⟩, a3, a4, a5, a6, a7, a8⟩; exact ⟨⟨a1, a2, a3, a4, a5⟩, ⟨a7, a6⟩, a8⟩
    · rintro ⟨⟨a1, a2, a3, a4, a5⟩, ⟨a7, a6⟩, a8⟩; exact ⟨⟨a1, a2⟩, a3, a4, a5, a6, a7, a8⟩
  obtain ⟨E, hE⟩ := mkb (sealT (finK e.data.toList c.data.toList s.data.toList q.data.toList (m.t 4).data.toList) zeroT (finW e.data.toList c.data.toList h.data.toList s.data.toList q.data.toList (m.t 4).data.toList))
  obtain ⟨T, hT⟩ := mkb (kdfT 1 (finC e.data.toList c.data.toList s.data.toList q.data.toList (m.t 4).data.toList) zeroT)
  obtain ⟨K, hK⟩ := mkb (kdfT 2 (finC e.data.toList c.data.toList s.data.toList q.data.toList (m.t 4).data.toList) zeroT)
  have HC3 := Lib.hid (show g = false → cd = 3 from by
    intro hgf
    rw [hcd]
    unfold finR
    rw [if_neg (fun z => by have := hgd.2 z; rw [hgf] at this; cases this)])
  have HC := Lib.hid (show g = true → cd = if m.r = x then (if (m.t 7).data.toList = E.data.toList then 0 else 8) else 6 from fun hgt => by rw [hcd]; exact finR_is hE (hgd.1 hgt))
  have HK0 := Lib.hid hk0
  have HK1 := Lib.hid (show cd = 0 → K1.data.toList = T.data.toList ∧ K2.data.toList = K.data.toList from fun h => by rw [hT, hK]; exact hk1 h)
  obtain ⟨ua, hua⟩ := mkb (agr e.data.toList (m.t 4).data.toList)
  obtain ⟨va, hva⟩ := mkb (agr s.data.toList (m.t 4).data.toList)
  have P4 := Lib.hid (fun W => told_str (b := ua) hua (refagree_any e (m.t 4) W (by omega) (Nat.le_trans (ht 4) (by decide))))
  have P5 := Lib.hid (fun W => told_str (b := va) hva (refagree_any s (m.t 4) W (by omega) (Nat.le_trans (ht 4) (by decide))))
  have zua : ua.size ≤ 10000000 := u_le hua (Nat.le_trans (agr_most _ _) (by decide))
  have zva : va.size ≤ 10000000 := u_le hva (Nat.le_trans (agr_most _ _) (by decide))
  have P6 := Lib.hid (fun W => (show Calls Try.prog 73 #[.agg #[.string c, .string h], .string (m.t 4), .string ua, .string va, .string q] W (numA.Told W (.tuple #[.string E, .string T, .string K])) from reflast_any c h (m.t 4) ua va q E T K W (by rw [hE, hua, hva]; rfl) (by rw [hT, hua, hva]; rfl) (by rw [hK, hua, hva]; rfl) (by omega) (by omega) (Nat.le_trans (ht 4) (by decide)) zua zva (by omega)))
  have E1 := fun W => laid_eqlM (zeroM 0) (zeroM 0) W
  rw [(eqM_iff (zeroM 0) (zeroM 0)).2 ⟨rfl, rfl, rfl, rfl, rfl, rfl, rfl, rfl, rfl, rfl, rfl, rfl, rfl⟩] at E1
  have E2 := fun W => eql_eqKy ⟨#[]⟩ ⟨#[]⟩ ⟨#[]⟩ ⟨#[]⟩ W
  rw [(eqKy_iff ⟨#[]⟩ ⟨#[]⟩ ⟨#[]⟩ ⟨#[]⟩).2 ⟨rfl, rfl⟩] at E2
  have E4 := fun W => neq_eqKy ⟨#[]⟩ ⟨#[]⟩ ⟨#[]⟩ ⟨#[]⟩ W
  rw [(eqKy_iff ⟨#[]⟩ ⟨#[]⟩ ⟨#[]⟩ ⟨#[]⟩).2 ⟨rfl, rfl⟩] at E4
  have E3 := fun W => neq_eqKy T K T K W
  rw [(eqKy_iff T K T K).2 ⟨rfl, rfl⟩] at E3
  simp only [mval, Msg.row, zeroM] at E1
  simp only [keysV, Bool.not_true] at E2 E3 E4
  have RMM := Lib.hid (fun W (hR : rightM M = true) => (show Calls Try.prog 56 #[.agg M.row] W (numA.Told W (.bool true)) from by rw [← hR]; exact refright_any M W (fun i => Nat.le_trans (HSZ.out.1 i) (by decide))))
  simp only [Msg.row] at RMM
  have IL1 := Lib.hid (fun W (hT : isT L1.data.toList = true) => (show Calls Try.prog 39 #[.string L1] W (numA.Told W (.bool true)) from by rw [← hT]; exact trJ.is_any L1 W (by have := HSZ.out; omega)))
  have IL2 := Lib.hid (fun W (hT : isT L2.data.toList = true) => (show Calls Try.prog 39 #[.string L2] W (numA.Told W (.bool true)) from by rw [← hT]; exact trJ.is_any L2 W (by have := HSZ.out; omega)))
  have HNO := Lib.hid hAE.no
  have HYES := Lib.hid hAE.yes
  have HRB := Lib.hid hrb
  have HG := Lib.hid hg
  clear hb hv ht hfv hcd hk0 hk1 CA0 hAE hab hrb hg hgd hE hT hK hua hva zua zva hbr hb1 hb2 hb3 hb4 hb5 hb6 hb7 hk4 hkp hke ze zc zh zp zee zc2 zh2 zs zq
  obtain ⟨A, hA⟩ : ∃ A, A = w.heap.size := ⟨_, rfl⟩
  obtain ⟨X, hX⟩ : ∃ X, X = ((w.alloc (.cells (startV x e c h) 74)).alloc (.cells (heardV y p N ee c2 h2) 82)).alloc (.cells m.row 61) := ⟨_, rfl⟩
  have O := Lib.hid (show Only (fun _ => False) w X from by rw [hX]; exact (((Only.refl _ w).alloc _).alloc _).alloc _)
  have HS := Lib.hid (show Blk X A 74 (startV x e c h) from by rw [hX, hA]; exact Blk.keep (Blk.new w 74 _) (((Only.refl (fun _ => False) _).alloc _).alloc _) id)
  have HH := Lib.hid (show Blk X (A + 1) 82 (heardV y p N ee c2 h2) from by
    have h0 := Blk.new (w.alloc (.cells (startV x e c h) 74)) 82 (heardV y p N ee c2 h2)
    simp only [World.size_alloc] at h0
    rw [hX, hA]
    exact Blk.keep h0 ((Only.refl (fun _ => False) _).alloc _) id)
  have HM := Lib.hid (show Blk X (A + 2) 61 m.row from by
    have h0 := Blk.new ((w.alloc (.cells (startV x e c h) 74)).alloc (.cells (heardV y p N ee c2 h2) 82)) 61 m.row
    simp only [World.size_alloc] at h0
    rw [hX, hA]
    exact h0)
  have HX := Lib.hid hX
  have HAE := Lib.hid hA
  simp only [Msg.row, startV, heardV] at HX
  clear hX hA
  unfold mval
  go_enter Try.func15, Try.ntmps15
  go_upto_region 1 with fail
  rw [← HX.out, ← HAE.out]
  go_wp2_with fail
  (with_reducible refine (AW.out _).mono ?_)
  rintro e w2 ⟨rfl, o⟩
  replace O := Lib.hid (O.out.trans o)
  replace HS := Lib.hid (Blk.keep HS.out o id)
  replace HH := Lib.hid (Blk.keep HH.out o id)
  replace HM := Lib.hid (Blk.keep HM.out o id)
  clear o
  have s1 := Blk.cell HS.out 1
  have s2 := Blk.cell HS.out 2
  have s3 := Blk.cell HS.out 3
  have t1 := Blk.cell HH.out 1
  have t3 := Blk.cell HH.out 3
  have t4 := Blk.cell HH.out 4
  have t5 := Blk.cell HH.out 5
  simp only [startV] at s1 s2 s3
  simp only [heardV] at t1 t3 t4 t5
  go_wp2_with fail
  (with_reducible refine (BG.out _).mono ?_)
  rintro e w3 ⟨rfl, o⟩
  replace O := Lib.hid (O.out.trans o)
  replace HS := Lib.hid (Blk.keep HS.out o id)
  replace HH := Lib.hid (Blk.keep HH.out o id)
  replace HM := Lib.hid (Blk.keep HM.out o id)
  clear o
  clear s1 s2 s3 t1 t3 t4 t5
  obtain ⟨d0, d1, d2, d3, d4, d5, d6, d7, d8, d9, d10, d11, d12⟩ := MsgAt.cells (show MsgAt _ (A + 2) m from HM.out)
  go_wp2_with fail
  (with_reducible refine (HV.out _).mono ?_)
  rintro e w4 ⟨rfl, o⟩
  replace O := Lib.hid (O.out.trans o)
  replace HS := Lib.hid (Blk.keep HS.out o id)
  replace HH := Lib.hid (Blk.keep HH.out o id)
  replace HM := Lib.hid (Blk.keep HM.out o id)
  clear o
  clear d0 d1 d2 d3 d4 d5 d6 d7 d8 d9 d10 d11 d12
  go_wp2_with (first | (refine wpList_load_row rfl 74 (.tmp 5) rfl A rfl 74 (startV x e c h) (0, 0) _ HS.out Try.underlying74 rfl (info74 _ _ _ _) ?_) | (refine wpList_load_row rfl 61 (.tmp 9) rfl (A + 2) rfl 61 m.row (0, 0) _ HM.out Try.underlying61 rfl (info61 m) ?_))
  (with_reducible refine (CF.out _).mono ?_)
  rintro e w5 ⟨rfl, o⟩
  replace O := Lib.hid (O.out.trans o)
  replace HS := Lib.hid (Blk.keep HS.out o id)
  replace HH := Lib.hid (Blk.keep HH.out o id)
  replace HM := Lib.hid (Blk.keep HM.out o id)
  clear o
  have HN := Lib.hid (show (w5.alloc (.cells #[.string ⟨#[]⟩, .string ⟨#[]⟩] 92)).heap[w5.heap.size]? = some (.cells #[.string ⟨#[]⟩, .string ⟨#[]⟩] 92 (0, 0)) from heap_alloc_new w5 _)
  go_upto_region 6 with (refine wpList_store_row rfl 92 (.tmp 11) (.tmp 51) rfl w5.heap.size (keysV K1 K2) rfl rfl 92 _ HN.out (info92 _ _) rfl (one92 _ _) ?_)
  obtain ⟨V1, hV1⟩ : ∃ Z, Z = (w5.alloc (.cells #[.string ⟨#[]⟩, .string ⟨#[]⟩] 92)).setRow w5.heap.size (keysV K1 K2) := ⟨_, rfl⟩
  obtain ⟨G1, hG1⟩ : ∃ G, G = w5.heap.size := ⟨_, rfl⟩
  rw [← hV1, ← hG1]
  have HKY := Lib.hid (show V1.heap[G1]? = some (.cells (keysV K1 K2) 92 (0, 0)) from by rw [hV1, hG1]; exact setRow_heap _ _ _ _ _ _ HN.out)
  have oS : Only (fun _ => False) w5 V1 := by rw [hV1, World.setRow_alloc_new]; exact (Only.refl _ _).alloc _
  replace O := Lib.hid (O.out.trans oS)
  clear hV1 hG1 HN
  replace HKY := Lib.hid (show Blk V1 G1 92 (keysV K1 K2) from HKY.out)
  replace HS := Lib.hid (Blk.keep HS.out oS id)
  replace HH := Lib.hid (Blk.keep HH.out oS id)
  replace HM := Lib.hid (Blk.keep HM.out oS id)
  clear oS
  go_wp2_with (refine wpList_load_row rfl 82 (.tmp 6) rfl (A + 1) rfl 82 (heardV y p N ee c2 h2) (0, 0) _ HH.out Try.underlying82 rfl (info82 _ _ _ _ _ _) ?_)
  (with_reducible refine (CA.out _).mono ?_)
  rintro e w6 ⟨rfl, o⟩
  replace O := Lib.hid (O.out.trans o)
  replace HS := Lib.hid (Blk.keep HS.out o id)
  replace HH := Lib.hid (Blk.keep HH.out o id)
  replace HM := Lib.hid (Blk.keep HM.out o id)
  replace HKY := Lib.hid (Blk.keep HKY.out o id)
  clear o
  have HN1 := Lib.hid (show Blk ((w6.alloc (.cells #[.int .i64 0, .int .u32 0, .int .u32 0, .int .u64 0, .string ⟨#[]⟩, .string ⟨#[]⟩, .string ⟨#[]⟩, .string ⟨#[]⟩, .string ⟨#[]⟩, .string ⟨#[]⟩, .string ⟨#[]⟩, .string ⟨#[]⟩, .string ⟨#[]⟩] 61)).alloc (.cells #[.string ⟨#[]⟩, .string ⟨#[]⟩] 92)) w6.heap.size 61 #[.int .i64 0, .int .u32 0, .int .u32 0, .int .u64 0, .string ⟨#[]⟩, .string ⟨#[]⟩, .string ⟨#[]⟩, .string ⟨#[]⟩, .string ⟨#[]⟩, .string ⟨#[]⟩, .string ⟨#[]⟩, .string ⟨#[]⟩, .string ⟨#[]⟩] from Blk.keep (Blk.new w6 61 #[.int .i64 0, .int .u32 0, .int .u32 0, .int .u64 0, .string ⟨#[]⟩, .string ⟨#[]⟩, .string ⟨#[]⟩, .string ⟨#[]⟩, .string ⟨#[]⟩, .string ⟨#[]⟩, .string ⟨#[]⟩, .string ⟨#[]⟩, .string ⟨#[]⟩]) ((Only.refl (fun _ => False) _).alloc (.cells #[.string ⟨#[]⟩, .string ⟨#[]⟩] 92)) id)
  have HN2 := Lib.hid (show Blk ((w6.alloc (.cells #[.int .i64 0, .int .u32 0, .int .u32 0, .int .u64 0, .string ⟨#[]⟩, .string ⟨#[]⟩, .string ⟨#[]⟩, .string ⟨#[]⟩, .string ⟨#[]⟩, .string ⟨#[]⟩, .string ⟨#[]⟩, .string ⟨#[]⟩, .string ⟨#[]⟩] 61)).alloc (.cells #[.string ⟨#[]⟩, .string ⟨#[]⟩] 92)) (w6.heap.size + 1) 92 #[.string ⟨#[]⟩, .string ⟨#[]⟩] from by have h := Blk.new (w6.alloc (.cells #[.int .i64 0, .int .u32 0, .int .u32 0, .int .u64 0, .string ⟨#[]⟩, .string ⟨#[]⟩, .string ⟨#[]⟩, .string ⟨#[]⟩, .string ⟨#[]⟩, .string ⟨#[]⟩, .string ⟨#[]⟩, .string ⟨#[]⟩, .string ⟨#[]⟩] 61)) 92 #[.string ⟨#[]⟩, .string ⟨#[]⟩]; simp only [World.size_alloc] at h; exact h)
  go_upto_region 7 with (first
    | (refine wpList_store_row rfl 61 (.tmp 13) (.tmp 58) rfl w6.heap.size M.row rfl rfl 61 _ HN1.out (info61 M) (size61 (zeroM 0) M) (one61 M) ?_)
    | (refine wpList_store_row rfl 92 (.tmp 14) (.tmp 59) rfl (w6.heap.size + 1) (keysV L1 L2) rfl rfl 92 _ (Blk.off HN2.out _ (by omega)) (info92 _ _) rfl (one92 _ _) ?_))
  obtain ⟨V2, hZ⟩ : ∃ Z, Z = (((w6.alloc (.cells #[.int .i64 0, .int .u32 0, .int .u32 0, .int .u64 0, .string ⟨#[]⟩, .string ⟨#[]⟩, .string ⟨#[]⟩, .string ⟨#[]⟩, .string ⟨#[]⟩, .string ⟨#[]⟩, .string ⟨#[]⟩, .string ⟨#[]⟩, .string ⟨#[]⟩] 61)).alloc (.cells #[.string ⟨#[]⟩, .string ⟨#[]⟩] 92)).setRow w6.heap.size M.row).setRow (w6.heap.size + 1) (keysV L1 L2) := ⟨_, rfl⟩
  obtain ⟨G2, hG⟩ : ∃ G, G = w6.heap.size := ⟨_, rfl⟩
  have oS : Only (fun _ => False) w6 V2 := by
    rw [hZ]
    exact Only.old (only_row (only_row ((((Only.refl (fun _ => False) _).alloc _).alloc _).mono fun _ h => h.elim) _ (Nat.le_refl _)) _ (Nat.le_succ _))
  have HMM := Lib.hid (show Blk V2 G2 61 M.row from by rw [hZ, hG]; exact Blk.off (Blk.row HN1.out _) _ (by omega))
  have HLL := Lib.hid (show Blk V2 (G2 + 1) 92 (keysV L1 L2) from by rw [hZ, hG]; exact Blk.row (Blk.off HN2.out _ (by omega)) _)
  rw [← hZ, ← hG]
  replace O := Lib.hid (O.out.trans oS)
  replace HS := Lib.hid (Blk.keep HS.out oS id)
  replace HH := Lib.hid (Blk.keep HH.out oS id)
  replace HM := Lib.hid (Blk.keep HM.out oS id)
  replace HKY := Lib.hid (Blk.keep HKY.out oS id)
  clear hZ hG HN1 HN2 oS
  go_cut [16] (fun a wx => CutB V2 rb a wx)
  case first =>
    as_aux_lemma =>
      have O := Lib.hid (Only.refl (fun _ => False) V2)
      go_wp2_with fail
      (with_reducible refine (IS.out _).mono ?_)
      rintro e x1 ⟨rfl, o⟩
      replace O := Lib.hid (O.out.trans o)
      clear o
      cases b1
      case false =>
        go_wp2_with fail
        go_meet
        exact ⟨by rw [HRB.out]; rfl, O.out⟩
      go_wp2_with fail
      (with_reducible refine (IQ.out _).mono ?_)
      rintro e x2 ⟨rfl, o⟩
      replace O := Lib.hid (O.out.trans o)
      clear o
      go_wp2_with fail
      go_meet
      exact ⟨by rw [HRB.out]; rfl, O.out⟩
  case rest =>
    as_aux_lemma =>
      obtain ⟨rfl, oc⟩ := hcut
      replace HS := Lib.hid (Blk.keep HS.out oc id)
      replace HH := Lib.hid (Blk.keep HH.out oc id)
      replace HM := Lib.hid (Blk.keep HM.out oc id)
      replace HKY := Lib.hid (Blk.keep HKY.out oc id)
      replace HMM := Lib.hid (Blk.keep HMM.out oc id)
      replace HLL := Lib.hid (Blk.keep HLL.out oc id)
      replace O := Lib.hid (O.out.trans oc)
      clear oc
      go_upto_region 9 with fail
      obtain ⟨V3, hV⟩ : ∃ V, V = wc := ⟨_, rfl⟩
      rw [← hV] at O HS HH HM HKY HMM HLL ⊢
      clear hV
      go_cut [103] (fun a wx => CutB V3 (!g) a wx)
      case first =>
        as_aux_lemma =>
          have O := Lib.hid (Only.refl (fun _ => False) V3)
          cases rb
          case false =>
            go_wp2_with fail
            go_meet
            exact ⟨by rw [HG.out]; rfl, O.out⟩
          have s1 := Blk.cell HS.out 1
          simp only [startV] at s1
          go_wp2_with fail
          (with_reducible refine (IE.out _).mono ?_)
          rintro e x1 ⟨rfl, o⟩
          replace O := Lib.hid (O.out.trans o)
          replace HS := Lib.hid (Blk.keep HS.out o id)
          replace HM := Lib.hid (Blk.keep HM.out o id)
          clear o
          clear s1
          cases b3
          case false =>
            go_wp2_with fail
            go_meet
            exact ⟨by rw [HG.out]; rfl, O.out⟩
          have s2 := Blk.cell HS.out 2
          simp only [startV] at s2
          go_wp2_with fail
          (with_reducible refine (IC.out _).mono ?_)
          rintro e x2 ⟨rfl, o⟩
          replace O := Lib.hid (O.out.trans o)
          replace HS := Lib.hid (Blk.keep HS.out o id)
          replace HM := Lib.hid (Blk.keep HM.out o id)
          clear o
          clear s2
          cases b4
          case false =>
            go_wp2_with fail
            go_meet
            exact ⟨by rw [HG.out]; rfl, O.out⟩
          have s3 := Blk.cell HS.out 3
          simp only [startV] at s3
          go_wp2_with fail
          (with_reducible refine (IH.out _).mono ?_)
          rintro e x3 ⟨rfl, o⟩
          replace O := Lib.hid (O.out.trans o)
          replace HS := Lib.hid (Blk.keep HS.out o id)
          replace HM := Lib.hid (Blk.keep HM.out o id)
          clear o
          clear s3
          cases b5
          case false =>
            go_wp2_with fail
            go_meet
            exact ⟨by rw [HG.out]; rfl, O.out⟩
          obtain ⟨d0, d1, d2, d3, d4, d5, d6, d7, d8, d9, d10, d11, d12⟩ := MsgAt.cells (show MsgAt _ (A + 2) m from HM.out)
          go_wp2_with fail
          (with_reducible refine (RM.out _).mono ?_)
          rintro e x4 ⟨rfl, o⟩
          replace O := Lib.hid (O.out.trans o)
          replace HM := Lib.hid (Blk.keep HM.out o id)
          clear o
          clear d0 d1 d2 d3 d4 d5 d6 d7 d8 d9 d10 d11 d12
          cases br
          case false =>
            go_wp2_with fail
            go_meet
            exact ⟨by rw [HG.out]; rfl, O.out⟩
          have d0 := (MsgAt.nums (show MsgAt _ (A + 2) m from HM.out)).1
          have d4 := MsgAt.text (show MsgAt _ (A + 2) m from HM.out) (i := 4) (by decide) (by decide)
          by_cases hk2 : m.k = 2
          case neg =>
            have q2 : (m.k != 2) = true := by rw [bne_iff_ne]; exact hk2
            have q3 : (m.k == 2) = false := beq_eq_false_iff_ne.2 hk2
            have HQ := Lib.hid q3
            clear hk2 q3
            go_wp2_with fail
            go_meet
            exact ⟨by rw [HG.out, HQ.out]; rfl, O.out⟩
          have q2 : (m.k != 2) = false := by rw [bne_eq_false_iff_eq]; exact hk2
          have HQ := Lib.hid (show (m.k == 2) = true from beq_iff_eq.2 hk2)
          clear hk2
          go_wp2_with fail
          (with_reducible refine (RD4.out _).mono ?_)
          rintro e x5 ⟨o, vv, rfl, an, n1, cn, a', n', c', rfl, -, -⟩
          replace O := Lib.hid (O.out.trans o)
          clear o d0 d4 q2
          rw [Hk4.out]
          have hf0 := fun W => trJ.field0 (.int .i64 (k4 : Nat)) (.int .u64 (trJ.ndOf (m.t 4).data.toList).n) (.slice an n1 cn) (.slice a' n' c') W
          by_cases h5 : k4 = 5
          case neg =>
            have q5 : ((k4 : Int) != 5) = true := by rw [bne_iff_ne]; omega
            have HQ5 := Lib.hid (show (k4 == 5) = false from beq_eq_false_iff_ne.2 h5)
            clear h5
            go_wp2_with fail
            go_meet
            exact ⟨by rw [HG.out, HQ.out, HQ5.out]; rfl, O.out⟩
          have q5 : ((k4 : Int) != 5) = false := by rw [bne_eq_false_iff_eq]; omega
          have HQ5 := Lib.hid (show (k4 == 5) = true from beq_iff_eq.2 h5)
          clear h5
          go_wp2_with fail
          go_meet
          exact ⟨by rw [HG.out, HQ.out, HQ5.out]; rfl, O.out⟩
      case rest =>
        as_aux_lemma =>
          obtain ⟨rfl, oc⟩ := hcut
          replace HS := Lib.hid (Blk.keep HS.out oc id)
          replace HH := Lib.hid (Blk.keep HH.out oc id)
          replace HM := Lib.hid (Blk.keep HM.out oc id)
          replace HKY := Lib.hid (Blk.keep HKY.out oc id)
          replace HMM := Lib.hid (Blk.keep HMM.out oc id)
          replace HLL := Lib.hid (Blk.keep HLL.out oc id)
          replace O := Lib.hid (O.out.trans oc)
          clear oc HG IE IC IH RM RD4
          obtain ⟨V4, hV⟩ : ∃ V, V = wc := ⟨_, rfl⟩
          rw [← hV] at O HS HH HM HKY HMM HLL ⊢
          clear hV
          go_upto_if 103 with fail
          go_cut [17] (fun a wx => CutI V4 cd a wx)
          case first =>
            as_aux_lemma =>
              have O := Lib.hid (Only.refl (fun _ => False) V4)
              cases g
              case false =>
                go_wp2_with fail
                go_meet
                exact ⟨by rw [HC3.out (by trivial)]; rfl, O.out⟩
              have d2 := (MsgAt.nums (show MsgAt _ (A + 2) m from HM.out)).2.2.1
              have s0 := Blk.cell HS.out 0
              simp only [startV] at s0
              by_cases hr : m.r = x
              case neg =>
                have q2 : (m.r != x) = true := by rw [bne_iff_ne]; exact hr
                have HQ := Lib.hid (show cd = 6 from by rw [HC.out (by trivial), if_neg hr])
                clear hr
                go_wp2_with fail
                go_meet
                exact ⟨by rw [HQ.out]; rfl, O.out⟩
              have q2 : (m.r != x) = false := by rw [bne_eq_false_iff_eq]; exact hr
              have HQ := Lib.hid (show cd = if (m.t 7).data.toList = E.data.toList then 0 else 8 from by rw [HC.out (by trivial), if_pos hr])
              clear hr
              go_upto_region 13 with fail
              clear d2 s0 q2
              go_cut [18, 19, 20] (fun a b c wx => CutL V4 (.string E) (.string T) (.string K) a b c wx)
              case first =>
                as_aux_lemma =>
                  have R := Lib.hid ((Only.refl (fun _ => False) V4).drew)
                  go_region_held3 (fun w' => w'.cell? ⟨A, 1, none⟩ = some (.string e) ∧ w'.cell? ⟨A, 2, none⟩ = some (.string c) ∧ w'.cell? ⟨A, 3, none⟩ = some (.string h) ∧ w'.cell? ⟨A + 2, 4, none⟩ = some (.string (m.t 4))) (first | exact ⟨Blk.cell (Blk.keep HS.out R.out id) 1, Blk.cell (Blk.keep HS.out R.out id) 2, Blk.cell (Blk.keep HS.out R.out id) 3, MsgAt.text (show MsgAt _ (A + 2) m from Blk.keep HM.out R.out id) (i := 4) (by decide) (by decide)⟩)
                    (first
                      | (go_at_call_of 37 e; (with_reducible refine Calls.mono (P4.out _) ?_); rintro e w7 ⟨rfl, o'⟩; have R := Lib.hid (R.out.trans o'); clear o')
                      | (go_at_call_of 37 s; (with_reducible refine Calls.mono (P5.out _) ?_); rintro e w7 ⟨rfl, o'⟩; have R := Lib.hid (R.out.trans o'); clear o')
                      | (go_at_call 73; (with_reducible refine Calls.mono (P6.out _) ?_); rintro e w7 ⟨rfl, o'⟩; have R := Lib.hid (R.out.trans o'); clear o'))
                  all_goals
                    go_wp2_with fail
                    go_meet
                    exact ⟨rfl, rfl, rfl, R.out⟩
              case rest =>
                as_aux_lemma =>
                  obtain ⟨rfl, rfl, rfl, oc⟩ := hcut
                  replace HS := Lib.hid (Blk.keep HS.out oc id)
                  replace HM := Lib.hid (Blk.keep HM.out oc id)
                  replace HKY := Lib.hid (Blk.keep HKY.out oc id)
                  replace O := Lib.hid (O.out.trans oc)
                  clear oc P4 P5 P6
                  have d7 := MsgAt.text (show MsgAt _ (A + 2) m from HM.out) (i := 7) (by decide) (by decide)
                  by_cases h7 : (m.t 7).data.toList = E.data.toList
                  case neg =>
                    have HQ2 := Lib.hid (show cd = 8 from by rw [HQ.out, if_neg h7])
                    have g1 : ((m.t 7).toList == E.toList) = false := beq_eq_false_iff_ne.2 (fun h => h7 (list_txt h))
                    have g2 : ((m.t 7).toList = E.toList) = False := eq_false (fun h => h7 (list_txt h))
                    clear h7
                    go_wp2_with fail
                    go_meet
                    exact ⟨by rw [HQ2.out]; rfl, O.out⟩
                  have h00 : cd = 0 := by rw [HQ.out, if_pos h7]
                  have HQ2 := Lib.hid h00
                  have e1 : K1 = T := bext (HK1.out h00).1
                  have e2 : K2 = K := bext (HK1.out h00).2
                  have g1 : ((m.t 7).toList == E.toList) = true := beq_iff_eq.2 (txt_list h7)
                  have g2 : ((m.t 7).toList = E.toList) = True := eq_true (txt_list h7)
                  have y0 := Blk.cell HKY.out 0
                  have y1 := Blk.cell HKY.out 1
                  simp only [keysV] at y0 y1
                  rw [e1] at y0
                  rw [e2] at y1
                  clear h7 h00 e1 e2
                  go_wp2_with fail
                  go_meet
                  exact ⟨by rw [HQ2.out]; rfl, O.out⟩
          case rest =>
            as_aux_lemma =>
              obtain ⟨rfl, oc⟩ := hcut
              replace HS := Lib.hid (Blk.keep HS.out oc id)
              replace HH := Lib.hid (Blk.keep HH.out oc id)
              replace HM := Lib.hid (Blk.keep HM.out oc id)
              replace HKY := Lib.hid (Blk.keep HKY.out oc id)
              replace HMM := Lib.hid (Blk.keep HMM.out oc id)
              replace HLL := Lib.hid (Blk.keep HLL.out oc id)
              replace O := Lib.hid (O.out.trans oc)
              clear oc HC HC3 P4 P5 P6 E3 HK1
              go_upto_region 18 with fail
              obtain ⟨V5, hV⟩ : ∃ V, V = wc := ⟨_, rfl⟩
              rw [← hV] at O HS HH HM HKY HMM HLL ⊢
              clear hV
              go_cut [151] (fun a wx => CutB V5 false a wx)
              case first =>
                as_aux_lemma =>
                  have O := Lib.hid (Only.refl (fun _ => False) V5)
                  have z0 : ((cd : Int) != (cd : Int)) = false := by rw [bne_eq_false_iff_eq]
                  by_cases h0 : cd = 0
                  case pos =>
                    have z1 : ((cd : Int) != 0) = false := by rw [bne_eq_false_iff_eq]; omega
                    clear h0
                    go_wp2_with fail
                    go_meet
                    exact ⟨rfl, O.out⟩
                  have z1 : ((cd : Int) != 0) = true := by rw [bne_iff_ne]; omega
                  have y0 := Blk.cell HKY.out 0
                  have y1 := Blk.cell HKY.out 1
                  simp only [keysV] at y0 y1
                  rw [(HK0.out h0).1] at y0
                  rw [(HK0.out h0).2] at y1
                  clear h0
                  go_wp2_with fail
                  go_meet
                  exact ⟨rfl, O.out⟩
              case rest =>
                as_aux_lemma =>
                  obtain ⟨rfl, oc⟩ := hcut
                  replace HH := Lib.hid (Blk.keep HH.out oc id)
                  replace HMM := Lib.hid (Blk.keep HMM.out oc id)
                  replace HLL := Lib.hid (Blk.keep HLL.out oc id)
                  replace O := Lib.hid (O.out.trans oc)
                  clear oc HK0 E4 HKY HS HM
                  go_upto_region 20 with fail
                  obtain ⟨V6, hV⟩ : ∃ V, V = wc := ⟨_, rfl⟩
                  rw [← hV] at O HH HMM HLL ⊢
                  clear hV
                  go_cut [179] (fun a wx => CutB V6 (!ab) a wx)
                  case first =>
                    as_aux_lemma =>
                      have O := Lib.hid (Only.refl (fun _ => False) V6)
                      cases rb
                      case false =>
                        go_wp2_with fail
                        go_meet
                        exact ⟨by rw [HAB.out]; rfl, O.out⟩
                      have t1 := Blk.cell HH.out 1
                      simp only [heardV] at t1
                      go_wp2_with fail
                      (with_reducible refine (RDP.out _).mono ?_)
                      rintro e x1 ⟨o, vv, rfl, an, n1, cn, a', n', c', rfl, -, -⟩
                      replace O := Lib.hid (O.out.trans o)
                      replace HH := Lib.hid (Blk.keep HH.out o id)
                      clear o t1
                      rw [Hkp.out]
                      have hf0 := fun W => trJ.field0 (.int .i64 (kp : Nat)) (.int .u64 (trJ.ndOf p.data.toList).n) (.slice an n1 cn) (.slice a' n' c') W
                      by_cases h5 : kp = 5
                      case neg =>
                        have q5 : ((kp : Int) != 5) = true := by rw [bne_iff_ne]; omega
                        have HQ5 := Lib.hid (show (kp == 5) = false from beq_eq_false_iff_ne.2 h5)
                        clear h5
                        go_wp2_with fail
                        go_meet
                        exact ⟨by rw [HAB.out, HQ5.out]; simp, O.out⟩
                      have q5 : ((kp : Int) != 5) = false := by rw [bne_eq_false_iff_eq]; omega
                      have HQ_kp := Lib.hid (show (kp == 5) = true from beq_iff_eq.2 h5)
                      clear h5
                      have t3 := Blk.cell HH.out 3
                      simp only [heardV] at t3
                      go_wp2_with fail
                      (with_reducible refine (RDE.out _).mono ?_)
                      rintro e x2 ⟨o, vv, rfl, an, n1, cn, a', n', c', rfl, -, -⟩
                      replace O := Lib.hid (O.out.trans o)
                      replace HH := Lib.hid (Blk.keep HH.out o id)
                      clear o t3
                      rw [Hke.out]
                      have hf0 := fun W => trJ.field0 (.int .i64 (ke : Nat)) (.int .u64 (trJ.ndOf ee.data.toList).n) (.slice an n1 cn) (.slice a' n' c') W
                      by_cases h5 : ke = 5
                      case neg =>
                        have q5 : ((ke : Int) != 5) = true := by rw [bne_iff_ne]; omega
                        have HQ5 := Lib.hid (show (ke == 5) = false from beq_eq_false_iff_ne.2 h5)
                        clear h5
                        go_wp2_with fail
                        go_meet
                        exact ⟨by rw [HAB.out, HQ5.out]; simp, O.out⟩
                      have q5 : ((ke : Int) != 5) = false := by rw [bne_eq_false_iff_eq]; omega
                      have HQ_ke := Lib.hid (show (ke == 5) = true from beq_iff_eq.2 h5)
                      clear h5
                      have t4 := Blk.cell HH.out 4
                      simp only [heardV] at t4
                      go_wp2_with fail
                      (with_reducible refine (I6.out _).mono ?_)
                      rintro e x3 ⟨rfl, o⟩
                      replace O := Lib.hid (O.out.trans o)
                      replace HH := Lib.hid (Blk.keep HH.out o id)
                      clear o
                      clear t4
                      cases b6
                      case false =>
                        go_wp2_with fail
                        go_meet
                        exact ⟨by rw [HAB.out]; simp, O.out⟩
                      have t5 := Blk.cell HH.out 5
                      simp only [heardV] at t5
                      go_wp2_with fail
                      (with_reducible refine (I7.out _).mono ?_)
                      rintro e x4 ⟨rfl, o⟩
                      replace O := Lib.hid (O.out.trans o)
                      clear o
                      cases b7
                      case false =>
                        go_wp2_with fail
                        go_meet
                        exact ⟨by rw [HAB.out]; simp, O.out⟩
                      go_wp2_with fail
                      go_meet
                      exact ⟨by rw [HAB.out, HQ_kp.out, HQ_ke.out]; rfl, O.out⟩
                  case rest =>
                    as_aux_lemma =>
                      obtain ⟨rfl, oc⟩ := hcut
                      replace HH := Lib.hid (Blk.keep HH.out oc id)
                      replace HMM := Lib.hid (Blk.keep HMM.out oc id)
                      replace HLL := Lib.hid (Blk.keep HLL.out oc id)
                      replace O := Lib.hid (O.out.trans oc)
                      clear oc HAB RDP RDE I6 I7
                      obtain ⟨V7, hV⟩ : ∃ V, V = wc := ⟨_, rfl⟩
                      rw [← hV] at O HH HMM HLL ⊢
                      clear hV
                      cases ab
                      case false =>
                        obtain ⟨m1, m2, m3, m4⟩ := HNO.out (by trivial)
                        have HMM := Lib.hid (show Blk V7 G2 61 (zeroM 0).row from by rw [← m1]; exact HMM.out)
                        have HLL := Lib.hid (show Blk V7 (G2 + 1) 92 (keysV ⟨#[]⟩ ⟨#[]⟩) from by rw [← m2]; have h := HLL.out; rw [m3] at h; rw [m2] at h ⊢; exact h)
                        obtain ⟨d0, d1, d2, d3, d4, d5, d6, d7, d8, d9, d10, d11, d12⟩ := MsgAt.cells (show MsgAt _ G2 (zeroM 0) from HMM.out)
                        simp only [zeroM] at d0 d1 d2 d3 d4 d5 d6 d7 d8 d9 d10 d11 d12
                        have y0 := Blk.cell HLL.out 0
                        have y1 := Blk.cell HLL.out 1
                        simp only [keysV] at y0 y1
                        have z3 : ((ad : Int) == 3) = true := by rw [beq_iff_eq, m4]; rfl
                        clear m1 m2 m3 m4
                        go_wp2_with fail
                        go_ret
                        exact ⟨rfl, O.out⟩
                      obtain ⟨m1, m2, m3, m4, m5, m6⟩ := HYES.out (by trivial)
                      have RMM' := Lib.hid (fun W => RMM.out W m2)
                      have IL1' := Lib.hid (fun W => IL1.out W m4)
                      have IL2' := Lib.hid (fun W => IL2.out W m5)
                      have z0 : ((ad : Int) == 0) = true := by rw [beq_iff_eq, m1]; rfl
                      have g1 : (L1.toList == L2.toList) = false := beq_eq_false_iff_ne.2 (fun h => m6 (list_txt h))
                      have g2 : (L1.toList = L2.toList) = False := eq_false (fun h => m6 (list_txt h))
                      have HMR := Lib.hid m3
                      obtain ⟨d0, d1, d2, d3, d4, d5, d6, d7, d8, d9, d10, d11, d12⟩ := MsgAt.cells (show MsgAt _ G2 M from HMM.out)
                      clear m1 m2 m3 m4 m5 m6
                      go_wp2_with fail
                      (with_reducible refine (RMM'.out _).mono ?_)
                      rintro e x1 ⟨rfl, o⟩
                      replace O := Lib.hid (O.out.trans o)
                      replace HH := Lib.hid (Blk.keep HH.out o id)
                      replace HMM := Lib.hid (Blk.keep HMM.out o id)
                      replace HLL := Lib.hid (Blk.keep HLL.out o id)
                      clear o
                      clear d0 d1 d2 d3 d4 d5 d6 d7 d8 d9 d10 d11 d12
                      have d2 := (MsgAt.nums (show MsgAt _ G2 M from HMM.out)).2.2.1
                      have t0 := Blk.cell HH.out 0
                      have y0 := Blk.cell HLL.out 0
                      simp only [heardV] at t0
                      simp only [keysV] at y0
                      rw [HMR.out] at d2
                      go_wp2_with fail
                      (with_reducible refine (IL1'.out _).mono ?_)
                      rintro e x2 ⟨rfl, o⟩
                      replace O := Lib.hid (O.out.trans o)
                      replace HH := Lib.hid (Blk.keep HH.out o id)
                      replace HMM := Lib.hid (Blk.keep HMM.out o id)
                      replace HLL := Lib.hid (Blk.keep HLL.out o id)
                      clear o
                      clear d2 t0 y0
                      have y1 := Blk.cell HLL.out 1
                      simp only [keysV] at y1
                      go_wp2_with fail
                      (with_reducible refine (IL2'.out _).mono ?_)
                      rintro e x3 ⟨rfl, o⟩
                      replace O := Lib.hid (O.out.trans o)
                      replace HH := Lib.hid (Blk.keep HH.out o id)
                      replace HMM := Lib.hid (Blk.keep HMM.out o id)
                      replace HLL := Lib.hid (Blk.keep HLL.out o id)
                      clear o
                      clear y1
                      have y0 := Blk.cell HLL.out 0
                      have y1 := Blk.cell HLL.out 1
                      simp only [keysV] at y0 y1
                      go_wp2_with fail
                      go_ret
                      exact ⟨rfl, O.out⟩


end Go.Proofs.Ytbjnejnjlidiaaa.npB
