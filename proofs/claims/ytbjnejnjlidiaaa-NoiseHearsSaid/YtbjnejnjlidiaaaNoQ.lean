/- Noise: the law on what is heard. -/
import Derived.Test.YtbjnejnjlidiaaaNoP
import Derived.Test.YtbjnejnjlidiaaaNoI
namespace Go.Proofs.Ytbjnejnjlidiaaa.noQ
open Go.RowKit kit numA numB numC numD numE tmA tmB tmC tmD tmE trA trB prR prS prW prX tsA tsB tsF tsI wrA wrB wrC wrD wrE wrF wrG wrH wrI wrJ mkA maA maB maC noA noB noC noD noE tsG noF noG noH noJ noK noL noM noN noO noP noI wrL
set_option linter.unusedVariables false
set_option linter.unusedSimpArgs false

set_option maxRecDepth 100000 in
set_option maxHeartbeats 1600000 in
theorem nh_big (r : ByteArray) (m : Msg) (w : World) (hb : bigN [r.data.toList] = true) : Calls Try.prog 13 #[.string r, mval m] w (numA.Told w (.bool true)) := by
  have AW := Lib.hid (fun W => awake_any W)
  have BG := Lib.hid (fun W => (show Calls Try.prog 67 #[.slice (some ⟨W.heap.size, 0, none⟩) 1 1] (W.alloc (.cells #[.string r] 9)) (numA.Told W (.bool true)) from big_blk [r] true W (by simp) hb W.heap.size rfl))
  have HM := Lib.hid (show Blk (w.alloc (.cells m.row 61)) w.heap.size 61 m.row from Blk.new w 61 m.row)
  have O := Lib.hid (show Only (fun _ => False) w (w.alloc (.cells m.row 61)) from (Only.refl _ w).alloc _)
  obtain ⟨X, hX⟩ : ∃ X, X = w.alloc (.cells m.row 61) := ⟨_, rfl⟩
  rw [← hX] at HM O
  obtain ⟨A, hA⟩ : ∃ A, A = w.heap.size := ⟨_, rfl⟩
  rw [← hA] at HM
  have HX := Lib.hid hX
  have HAE := Lib.hid hA
  simp only [Msg.row] at HX
  clear hX hA
  unfold mval
  clear hb
  go_enter Try.func13, Try.ntmps13
  go_wp2_with fail
  rw [← HX.out, ← HAE.out]
  (with_reducible refine (AW.out _).mono ?_)
  rintro e w2 ⟨rfl, o⟩
  replace O := Lib.hid (O.out.trans o)
  replace HM := Lib.hid (Blk.keep HM.out o id)
  clear o
  go_wp2_with fail
  (with_reducible refine (BG.out _).mono ?_)
  rintro e w3 ⟨rfl, o⟩
  replace O := Lib.hid (O.out.trans o)
  replace HM := Lib.hid (Blk.keep HM.out o id)
  clear o
  go_wp2_with fail
  go_ret
  exact ⟨rfl, O.out⟩

set_option maxRecDepth 100000 in
set_option maxHeartbeats 1600000 in
theorem nh_heavy (r : ByteArray) (m : Msg) (w : World) (hb : bigN [r.data.toList] = false) (ht : ∀ i, (m.t i).size ≤ 140737488355328) (hv : decide ((4000 : Int) < bytesM m) = true) : Calls Try.prog 13 #[.string r, mval m] w (numA.Told w (.bool true)) := by
  have AW := Lib.hid (fun W => awake_any W)
  have BG := Lib.hid (fun W => (show Calls Try.prog 67 #[.slice (some ⟨W.heap.size, 0, none⟩) 1 1] (W.alloc (.cells #[.string r] 9)) (numA.Told W (.bool false)) from big_blk [r] false W (by simp) hb W.heap.size rfl))
  have HV := Lib.hid (fun W => (show Calls Try.prog 54 #[.agg m.row, .int .i64 4000] W (numA.Told W (.bool true)) from by have h := heavy_any m 4000 W ht; rw [hv] at h; exact h))
  simp only [Msg.row] at HV
  have HM := Lib.hid (show Blk (w.alloc (.cells m.row 61)) w.heap.size 61 m.row from Blk.new w 61 m.row)
  have O := Lib.hid (show Only (fun _ => False) w (w.alloc (.cells m.row 61)) from (Only.refl _ w).alloc _)
  obtain ⟨X, hX⟩ : ∃ X, X = w.alloc (.cells m.row 61) := ⟨_, rfl⟩
  rw [← hX] at HM O
  obtain ⟨A, hA⟩ : ∃ A, A = w.heap.size := ⟨_, rfl⟩
  rw [← hA] at HM
  have HX := Lib.hid hX
  have HAE := Lib.hid hA
  simp only [Msg.row] at HX
  clear hX hA
  unfold mval
  clear hb hv ht
  go_enter Try.func13, Try.ntmps13
  go_wp2_with fail
  rw [← HX.out, ← HAE.out]
  (with_reducible refine (AW.out _).mono ?_)
  rintro e w2 ⟨rfl, o⟩
  replace O := Lib.hid (O.out.trans o)
  replace HM := Lib.hid (Blk.keep HM.out o id)
  clear o
  go_wp2_with fail
  (with_reducible refine (BG.out _).mono ?_)
  rintro e w3 ⟨rfl, o⟩
  replace O := Lib.hid (O.out.trans o)
  replace HM := Lib.hid (Blk.keep HM.out o id)
  clear o
  obtain ⟨d0, d1, d2, d3, d4, d5, d6, d7, d8, d9, d10, d11, d12⟩ := MsgAt.cells (show MsgAt _ A m from HM.out)
  go_wp2_with fail
  (with_reducible refine (HV.out _).mono ?_)
  rintro e w4 ⟨rfl, o⟩
  replace O := Lib.hid (O.out.trans o)
  replace HM := Lib.hid (Blk.keep HM.out o id)
  clear o
  go_wp2_with fail
  go_ret
  exact ⟨rfl, O.out⟩

set_option maxRecDepth 100000 in
set_option maxHeartbeats 4000000 in
theorem nh_no (r : ByteArray) (m : Msg) (w : World) (hb : bigN [r.data.toList] = false) (hv : decide ((4000 : Int) < bytesM m) = false) (ht : ∀ i, (m.t i).size ≤ 4000) (rz : r.size ≤ 200) (hall : (hearR r.data.toList m).1 = 0 → isT (hearR r.data.toList m).2.2.2.1 = true ∧ isT (hearR r.data.toList m).2.2.2.2 = true) (hz : ¬ (hearR r.data.toList m).1 = 0) : Calls Try.prog 13 #[.string r, mval m] w (numA.Told w (.bool true)) := by
  have AW := Lib.hid (fun W => awake_any W)
  have BG := Lib.hid (fun W => (show Calls Try.prog 67 #[.slice (some ⟨W.heap.size, 0, none⟩) 1 1] (W.alloc (.cells #[.string r] 9)) (numA.Told W (.bool false)) from big_blk [r] false W (by simp) hb W.heap.size rfl))
  have HV := Lib.hid (fun W => (show Calls Try.prog 54 #[.agg m.row, .int .i64 4000] W (numA.Told W (.bool false)) from by have h := heavy_any m 4000 W (fun i => Nat.le_trans (ht i) (by decide)); rw [hv] at h; exact h))
  simp only [Msg.row] at HV
  obtain ⟨k, hk⟩ : ∃ k, k = (hearR r.data.toList m).1 := ⟨_, rfl⟩
  have v1 : hearVal r.data.toList m = .tuple #[.agg #[.int .u32 0, .string ⟨#[]⟩, .int .u64 0, .string ⟨#[]⟩, .string ⟨#[]⟩, .string ⟨#[]⟩], .int .i64 (k : Nat)] := by rw [hearVal, if_neg hz, hk]
  have v2 : refHearVal r.data.toList m = .tuple #[.agg #[.string ⟨#[]⟩, .int .u64 0, .string ⟨#[]⟩, .string ⟨#[]⟩], .int .i64 (k : Nat)] := by rw [refHearVal, if_neg hz, hk]
  have k1 : ((k : Int) != 0) = true := by rw [bne_iff_ne]; rw [← hk] at hz; omega
  have k2 : ((k : Int) == (k : Int)) = true := beq_self_eq_true _
  have k3 : ((k : Int) == 0) = false := by rw [beq_eq_false_iff_ne]; rw [← hk] at hz; omega
  have E := fun W => eql_eqHd 0 ⟨#[]⟩ 0 ⟨#[]⟩ ⟨#[]⟩ ⟨#[]⟩ 0 ⟨#[]⟩ 0 ⟨#[]⟩ ⟨#[]⟩ ⟨#[]⟩ W
  rw [(eqHd_iff 0 ⟨#[]⟩ 0 ⟨#[]⟩ ⟨#[]⟩ ⟨#[]⟩ 0 ⟨#[]⟩ 0 ⟨#[]⟩ ⟨#[]⟩ ⟨#[]⟩).2 ⟨rfl, rfl, rfl, rfl, rfl, rfl⟩] at E
  have C1 := Lib.hid (fun W => (show Calls Try.prog 70 #[.string r, .agg m.row] W (numA.Told W (.tuple #[.agg #[.int .u32 0, .string ⟨#[]⟩, .int .u64 0, .string ⟨#[]⟩, .string ⟨#[]⟩, .string ⟨#[]⟩], .int .i64 (k : Nat)])) from by
    have h := hear_any r m W hall (fun i => Nat.le_trans (ht i) (by decide)) (by omega)
    rw [v1] at h
    exact h))
  have C2 := Lib.hid (fun W => (show Calls Try.prog 71 #[.string r, .agg m.row] W (numA.Told W (.tuple #[.agg #[.string ⟨#[]⟩, .int .u64 0, .string ⟨#[]⟩, .string ⟨#[]⟩], .int .i64 (k : Nat)])) from by
    have h := refhear_any r m W (fun i => Nat.le_trans (ht i) (by decide)) (by omega)
    rw [v2] at h
    exact h))
  have HM := Lib.hid (show Blk (w.alloc (.cells m.row 61)) w.heap.size 61 m.row from Blk.new w 61 m.row)
  have O := Lib.hid (show Only (fun _ => False) w (w.alloc (.cells m.row 61)) from (Only.refl _ w).alloc _)
  obtain ⟨X, hX⟩ : ∃ X, X = w.alloc (.cells m.row 61) := ⟨_, rfl⟩
  rw [← hX] at HM O
  obtain ⟨A, hA⟩ : ∃ A, A = w.heap.size := ⟨_, rfl⟩
  rw [← hA] at HM
  have HX := Lib.hid hX
  have HAE := Lib.hid hA
  simp only [Msg.row] at HX
  clear hX hA
  unfold mval
  clear hb hv ht rz hall v1 v2 hz hk
  go_enter Try.func13, Try.ntmps13
  go_wp2_with fail
  rw [← HX.out, ← HAE.out]
  (with_reducible refine (AW.out _).mono ?_)
  rintro e w2 ⟨rfl, o⟩
  replace O := Lib.hid (O.out.trans o)
  replace HM := Lib.hid (Blk.keep HM.out o id)
  clear o
  go_wp2_with fail
  (with_reducible refine (BG.out _).mono ?_)
  rintro e w3 ⟨rfl, o⟩
  replace O := Lib.hid (O.out.trans o)
  replace HM := Lib.hid (Blk.keep HM.out o id)
  clear o
  obtain ⟨d0, d1, d2, d3, d4, d5, d6, d7, d8, d9, d10, d11, d12⟩ := MsgAt.cells (show MsgAt _ A m from HM.out)
  go_wp2_with fail
  (with_reducible refine (HV.out _).mono ?_)
  rintro e w4 ⟨rfl, o⟩
  replace O := Lib.hid (O.out.trans o)
  replace HM := Lib.hid (Blk.keep HM.out o id)
  clear o
  clear d0 d1 d2 d3 d4 d5 d6 d7 d8 d9 d10 d11 d12
  go_wp2_with (refine wpList_load_row rfl 61 (.tmp 3) rfl A rfl 61 m.row (0, 0) _ HM.out Try.underlying61 rfl (info61 m) ?_)
  (with_reducible refine (C1.out _).mono ?_)
  rintro e w5 ⟨rfl, o⟩
  replace O := Lib.hid (O.out.trans o)
  replace HM := Lib.hid (Blk.keep HM.out o id)
  clear o
  have HN := Lib.hid (show (w5.alloc (.cells #[.int .u32 0, .string ⟨#[]⟩, .int .u64 0, .string ⟨#[]⟩, .string ⟨#[]⟩, .string ⟨#[]⟩] 82)).heap[w5.heap.size]? = some (.cells #[.int .u32 0, .string ⟨#[]⟩, .int .u64 0, .string ⟨#[]⟩, .string ⟨#[]⟩, .string ⟨#[]⟩] 82 (0, 0)) from heap_alloc_new w5 _)
  go_upto_region 6 with (refine wpList_store_row rfl 82 (.tmp 5) (.tmp 22) rfl w5.heap.size #[.int .u32 0, .string ⟨#[]⟩, .int .u64 0, .string ⟨#[]⟩, .string ⟨#[]⟩, .string ⟨#[]⟩] rfl rfl 82 _ HN.out (info82 _ _ _ _ _ _) rfl (one82 _ _ _ _ _ _) ?_)
  obtain ⟨V2, hV2⟩ : ∃ Z, Z = (w5.alloc (.cells #[.int .u32 0, .string ⟨#[]⟩, .int .u64 0, .string ⟨#[]⟩, .string ⟨#[]⟩, .string ⟨#[]⟩] 82)).setRow w5.heap.size #[.int .u32 0, .string ⟨#[]⟩, .int .u64 0, .string ⟨#[]⟩, .string ⟨#[]⟩, .string ⟨#[]⟩] := ⟨_, rfl⟩
  obtain ⟨G2, hG2⟩ : ∃ G, G = w5.heap.size := ⟨_, rfl⟩
  rw [← hV2, ← hG2]
  have HH := Lib.hid (show V2.heap[G2]? = some (.cells #[.int .u32 0, .string ⟨#[]⟩, .int .u64 0, .string ⟨#[]⟩, .string ⟨#[]⟩, .string ⟨#[]⟩] 82 (0, 0)) from by rw [hV2, hG2]; exact setRow_heap _ _ _ _ _ _ HN.out)
  have oS : Only (fun _ => False) w5 V2 := by rw [hV2, World.setRow_alloc_new]; exact (Only.refl _ _).alloc _
  replace O := Lib.hid (O.out.trans oS)
  clear hV2 hG2 HN
  replace HH := Lib.hid (show Blk V2 G2 82 #[.int .u32 0, .string ⟨#[]⟩, .int .u64 0, .string ⟨#[]⟩, .string ⟨#[]⟩, .string ⟨#[]⟩] from HH.out)
  replace HM := Lib.hid (Blk.keep HM.out oS id)
  clear oS
  go_wp2_with (refine wpList_load_row rfl 61 (.tmp 3) rfl A rfl 61 m.row (0, 0) _ HM.out Try.underlying61 rfl (info61 m) ?_)
  (with_reducible refine (C2.out _).mono ?_)
  rintro e w6 ⟨rfl, o⟩
  replace O := Lib.hid (O.out.trans o)
  replace HM := Lib.hid (Blk.keep HM.out o id)
  replace HH := Lib.hid (Blk.keep HH.out o id)
  clear o
  have HN := Lib.hid (show (w6.alloc (.cells #[.string ⟨#[]⟩, .int .u64 0, .string ⟨#[]⟩, .string ⟨#[]⟩] 87)).heap[w6.heap.size]? = some (.cells #[.string ⟨#[]⟩, .int .u64 0, .string ⟨#[]⟩, .string ⟨#[]⟩] 87 (0, 0)) from heap_alloc_new w6 _)
  go_upto_region 7 with (refine wpList_store_row rfl 87 (.tmp 7) (.tmp 28) rfl w6.heap.size #[.string ⟨#[]⟩, .int .u64 0, .string ⟨#[]⟩, .string ⟨#[]⟩] rfl rfl 87 _ HN.out (info87 _ _ _ _) rfl (one87 _ _ _ _) ?_)
  obtain ⟨V3, hV3⟩ : ∃ Z, Z = (w6.alloc (.cells #[.string ⟨#[]⟩, .int .u64 0, .string ⟨#[]⟩, .string ⟨#[]⟩] 87)).setRow w6.heap.size #[.string ⟨#[]⟩, .int .u64 0, .string ⟨#[]⟩, .string ⟨#[]⟩] := ⟨_, rfl⟩
  obtain ⟨G3, hG3⟩ : ∃ G, G = w6.heap.size := ⟨_, rfl⟩
  rw [← hV3, ← hG3]
  have HQ := Lib.hid (show V3.heap[G3]? = some (.cells #[.string ⟨#[]⟩, .int .u64 0, .string ⟨#[]⟩, .string ⟨#[]⟩] 87 (0, 0)) from by rw [hV3, hG3]; exact setRow_heap _ _ _ _ _ _ HN.out)
  have oS : Only (fun _ => False) w6 V3 := by rw [hV3, World.setRow_alloc_new]; exact (Only.refl _ _).alloc _
  replace O := Lib.hid (O.out.trans oS)
  clear hV3 hG3 HN
  replace HQ := Lib.hid (show Blk V3 G3 87 #[.string ⟨#[]⟩, .int .u64 0, .string ⟨#[]⟩, .string ⟨#[]⟩] from HQ.out)
  replace HM := Lib.hid (Blk.keep HM.out oS id)
  replace HH := Lib.hid (Blk.keep HH.out oS id)
  clear oS
  have g0 := Blk.cell HH.out 0
  have g1 := Blk.cell HH.out 1
  have g2 := Blk.cell HH.out 2
  have g3 := Blk.cell HH.out 3
  have g4 := Blk.cell HH.out 4
  have g5 := Blk.cell HH.out 5
  have q0 := Blk.cell HQ.out 0
  have q1 := Blk.cell HQ.out 1
  have q2 := Blk.cell HQ.out 2
  have q3 := Blk.cell HQ.out 3
  obtain ⟨d0, d1, d2, d3, d4, d5, d6, d7, d8, d9, d10, d11, d12⟩ := MsgAt.cells (show MsgAt _ A m from HM.out)
  simp only [heardV] at E
  go_wp2_with fail
  go_ret
  exact ⟨rfl, O.out⟩

set_option maxRecDepth 100000 in
set_option maxHeartbeats 4000000 in
theorem nh_ok (r : ByteArray) (m : Msg) (w : World) (hb : bigN [r.data.toList] = false) (hv : decide ((4000 : Int) < bytesM m) = false) (ht : ∀ i, (m.t i).size ≤ 4000) (rz : r.size ≤ 200) (hall : (hearR r.data.toList m).1 = 0 → isT (hearR r.data.toList m).2.2.2.1 = true ∧ isT (hearR r.data.toList m).2.2.2.2 = true) (hz : (hearR r.data.toList m).1 = 0) : Calls Try.prog 13 #[.string r, mval m] w (numA.Told w (.bool true)) := by
  have AW := Lib.hid (fun W => awake_any W)
  have BG := Lib.hid (fun W => (show Calls Try.prog 67 #[.slice (some ⟨W.heap.size, 0, none⟩) 1 1] (W.alloc (.cells #[.string r] 9)) (numA.Told W (.bool false)) from big_blk [r] false W (by simp) hb W.heap.size rfl))
  have HV := Lib.hid (fun W => (show Calls Try.prog 54 #[.agg m.row, .int .i64 4000] W (numA.Told W (.bool false)) from by have h := heavy_any m 4000 W (fun i => Nat.le_trans (ht i) (by decide)); rw [hv] at h; exact h))
  simp only [Msg.row] at HV
  obtain ⟨P, hP⟩ : ∃ P : ByteArray, P = ⟨(hearR r.data.toList m).2.1.toArray⟩ := ⟨_, rfl⟩
  obtain ⟨N, hN⟩ : ∃ N : Int, N = ((hearR r.data.toList m).2.2.1 : Nat) := ⟨_, rfl⟩
  obtain ⟨C, hC⟩ : ∃ C : ByteArray, C = ⟨(hearR r.data.toList m).2.2.2.1.toArray⟩ := ⟨_, rfl⟩
  obtain ⟨H, hH⟩ : ∃ H : ByteArray, H = ⟨(hearR r.data.toList m).2.2.2.2.toArray⟩ := ⟨_, rfl⟩
  have v1 : hearVal r.data.toList m = .tuple #[.agg (heardV m.s P N (m.t 4) C H), .int .i64 0] := by rw [hearVal, if_pos hz, hP, hN, hC, hH]
  have v2 : refHearVal r.data.toList m = .tuple #[.agg (refV P N C H), .int .i64 0] := by rw [refHearVal, if_pos hz, hP, hN, hC, hH]
  have E := fun W => eql_eqHd m.s P N (m.t 4) C H m.s P N (m.t 4) C H W
  rw [(eqHd_iff m.s P N (m.t 4) C H m.s P N (m.t 4) C H).2 ⟨rfl, rfl, rfl, rfl, rfl, rfl⟩] at E
  have C1 := Lib.hid (fun W => (show Calls Try.prog 70 #[.string r, .agg m.row] W (numA.Told W (.tuple #[.agg (heardV m.s P N (m.t 4) C H), .int .i64 0])) from by
    have h := hear_any r m W hall (fun i => Nat.le_trans (ht i) (by decide)) (by omega)
    rw [v1] at h
    exact h))
  have C2 := Lib.hid (fun W => (show Calls Try.prog 71 #[.string r, .agg m.row] W (numA.Told W (.tuple #[.agg (refV P N C H), .int .i64 0])) from by
    have h := refhear_any r m W (fun i => Nat.le_trans (ht i) (by decide)) (by omega)
    rw [v2] at h
    exact h))
  have HM := Lib.hid (show Blk (w.alloc (.cells m.row 61)) w.heap.size 61 m.row from Blk.new w 61 m.row)
  have O := Lib.hid (show Only (fun _ => False) w (w.alloc (.cells m.row 61)) from (Only.refl _ w).alloc _)
  obtain ⟨X, hX⟩ : ∃ X, X = w.alloc (.cells m.row 61) := ⟨_, rfl⟩
  rw [← hX] at HM O
  obtain ⟨A, hA⟩ : ∃ A, A = w.heap.size := ⟨_, rfl⟩
  rw [← hA] at HM
  have HX := Lib.hid hX
  have HAE := Lib.hid hA
  simp only [Msg.row] at HX
  clear hX hA
  unfold mval
  clear hb hv ht rz hall v1 v2 hz hP hN hC hH
  go_enter Try.func13, Try.ntmps13
  go_wp2_with fail
  rw [← HX.out, ← HAE.out]
  (with_reducible refine (AW.out _).mono ?_)
  rintro e w2 ⟨rfl, o⟩
  replace O := Lib.hid (O.out.trans o)
  replace HM := Lib.hid (Blk.keep HM.out o id)
  clear o
  go_wp2_with fail
  (with_reducible refine (BG.out _).mono ?_)
  rintro e w3 ⟨rfl, o⟩
  replace O := Lib.hid (O.out.trans o)
  replace HM := Lib.hid (Blk.keep HM.out o id)
  clear o
  obtain ⟨d0, d1, d2, d3, d4, d5, d6, d7, d8, d9, d10, d11, d12⟩ := MsgAt.cells (show MsgAt _ A m from HM.out)
  go_wp2_with fail
  (with_reducible refine (HV.out _).mono ?_)
  rintro e w4 ⟨rfl, o⟩
  replace O := Lib.hid (O.out.trans o)
  replace HM := Lib.hid (Blk.keep HM.out o id)
  clear o
  clear d0 d1 d2 d3 d4 d5 d6 d7 d8 d9 d10 d11 d12
  go_wp2_with (refine wpList_load_row rfl 61 (.tmp 3) rfl A rfl 61 m.row (0, 0) _ HM.out Try.underlying61 rfl (info61 m) ?_)
  (with_reducible refine (C1.out _).mono ?_)
  rintro e w5 ⟨rfl, o⟩
  replace O := Lib.hid (O.out.trans o)
  replace HM := Lib.hid (Blk.keep HM.out o id)
  clear o
  have HN := Lib.hid (show (w5.alloc (.cells #[.int .u32 0, .string ⟨#[]⟩, .int .u64 0, .string ⟨#[]⟩, .string ⟨#[]⟩, .string ⟨#[]⟩] 82)).heap[w5.heap.size]? = some (.cells #[.int .u32 0, .string ⟨#[]⟩, .int .u64 0, .string ⟨#[]⟩, .string ⟨#[]⟩, .string ⟨#[]⟩] 82 (0, 0)) from heap_alloc_new w5 _)
  go_upto_region 6 with (refine wpList_store_row rfl 82 (.tmp 5) (.tmp 22) rfl w5.heap.size (heardV m.s P N (m.t 4) C H) rfl rfl 82 _ HN.out (info82 _ _ _ _ _ _) rfl (one82 _ _ _ _ _ _) ?_)
  obtain ⟨V2, hV2⟩ : ∃ Z, Z = (w5.alloc (.cells #[.int .u32 0, .string ⟨#[]⟩, .int .u64 0, .string ⟨#[]⟩, .string ⟨#[]⟩, .string ⟨#[]⟩] 82)).setRow w5.heap.size (heardV m.s P N (m.t 4) C H) := ⟨_, rfl⟩
  obtain ⟨G2, hG2⟩ : ∃ G, G = w5.heap.size := ⟨_, rfl⟩
  rw [← hV2, ← hG2]
  have HH := Lib.hid (show V2.heap[G2]? = some (.cells (heardV m.s P N (m.t 4) C H) 82 (0, 0)) from by rw [hV2, hG2]; exact setRow_heap _ _ _ _ _ _ HN.out)
  have oS : Only (fun _ => False) w5 V2 := by rw [hV2, World.setRow_alloc_new]; exact (Only.refl _ _).alloc _
  replace O := Lib.hid (O.out.trans oS)
  clear hV2 hG2 HN
  replace HH := Lib.hid (show Blk V2 G2 82 (heardV m.s P N (m.t 4) C H) from HH.out)
  replace HM := Lib.hid (Blk.keep HM.out oS id)
  clear oS
  go_wp2_with (refine wpList_load_row rfl 61 (.tmp 3) rfl A rfl 61 m.row (0, 0) _ HM.out Try.underlying61 rfl (info61 m) ?_)
  (with_reducible refine (C2.out _).mono ?_)
  rintro e w6 ⟨rfl, o⟩
  replace O := Lib.hid (O.out.trans o)
  replace HM := Lib.hid (Blk.keep HM.out o id)
  replace HH := Lib.hid (Blk.keep HH.out o id)
  clear o
  have HN := Lib.hid (show (w6.alloc (.cells #[.string ⟨#[]⟩, .int .u64 0, .string ⟨#[]⟩, .string ⟨#[]⟩] 87)).heap[w6.heap.size]? = some (.cells #[.string ⟨#[]⟩, .int .u64 0, .string ⟨#[]⟩, .string ⟨#[]⟩] 87 (0, 0)) from heap_alloc_new w6 _)
  go_upto_region 7 with (refine wpList_store_row rfl 87 (.tmp 7) (.tmp 28) rfl w6.heap.size (refV P N C H) rfl rfl 87 _ HN.out (info87 _ _ _ _) rfl (one87 _ _ _ _) ?_)
  obtain ⟨V3, hV3⟩ : ∃ Z, Z = (w6.alloc (.cells #[.string ⟨#[]⟩, .int .u64 0, .string ⟨#[]⟩, .string ⟨#[]⟩] 87)).setRow w6.heap.size (refV P N C H) := ⟨_, rfl⟩
  obtain ⟨G3, hG3⟩ : ∃ G, G = w6.heap.size := ⟨_, rfl⟩
  rw [← hV3, ← hG3]
  have HQ := Lib.hid (show V3.heap[G3]? = some (.cells (refV P N C H) 87 (0, 0)) from by rw [hV3, hG3]; exact setRow_heap _ _ _ _ _ _ HN.out)
  have oS : Only (fun _ => False) w6 V3 := by rw [hV3, World.setRow_alloc_new]; exact (Only.refl _ _).alloc _
  replace O := Lib.hid (O.out.trans oS)
  clear hV3 hG3 HN
  replace HQ := Lib.hid (show Blk V3 G3 87 (refV P N C H) from HQ.out)
  replace HM := Lib.hid (Blk.keep HM.out oS id)
  replace HH := Lib.hid (Blk.keep HH.out oS id)
  clear oS
  have g0 := Blk.cell HH.out 0
  have g1 := Blk.cell HH.out 1
  have g2 := Blk.cell HH.out 2
  have g3 := Blk.cell HH.out 3
  have g4 := Blk.cell HH.out 4
  have g5 := Blk.cell HH.out 5
  have q0 := Blk.cell HQ.out 0
  have q1 := Blk.cell HQ.out 1
  have q2 := Blk.cell HQ.out 2
  have q3 := Blk.cell HQ.out 3
  obtain ⟨d0, d1, d2, d3, d4, d5, d6, d7, d8, d9, d10, d11, d12⟩ := MsgAt.cells (show MsgAt _ A m from HM.out)
  simp only [heardV, refV] at E g0 g1 g2 g3 g4 g5 q0 q1 q2 q3
  go_wp2_with fail
  go_ret
  exact ⟨rfl, O.out⟩

end Go.Proofs.Ytbjnejnjlidiaaa.noQ
