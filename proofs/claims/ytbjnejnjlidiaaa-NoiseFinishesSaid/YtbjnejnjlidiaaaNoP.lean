/- Noise: awake. -/
import Derived.Test.YtbjnejnjlidiaaaNoO
namespace Go.Proofs.Ytbjnejnjlidiaaa.noP
open Go.RowKit kit numA numB numC numD numE tmA tmB tmC tmD tmE trA trB prR prS prW prX tsA tsB tsF tsI wrA wrB wrC wrD wrE wrF wrG wrH wrI wrJ mkA maA maB maC noA noB noC noD noE tsG noF noG noH noJ noK noL noM noN noO
set_option linter.unusedVariables false
set_option linter.unusedSimpArgs false

theorem lit1 : Ok (⟨#[97, 49]⟩ : ByteArray).data.toList 250 := ⟨by decide +kernel, by decide⟩
theorem lit2 : Ok (⟨#[97, 50]⟩ : ByteArray).data.toList 250 := ⟨by decide +kernel, by decide⟩
theorem lit3 : Ok (⟨#[97, 51]⟩ : ByteArray).data.toList 250 := ⟨by decide +kernel, by decide⟩
theorem lit4 : Ok (⟨#[97, 52]⟩ : ByteArray).data.toList 250 := ⟨by decide +kernel, by decide⟩
theorem lit9 : Ok (⟨#[97, 57]⟩ : ByteArray).data.toList 250 := ⟨by decide +kernel, by decide⟩
theorem lit0 : Ok (⟨#[48]⟩ : ByteArray).data.toList 250 := ⟨by decide +kernel, by decide⟩
theorem litp3 : (⟨#[112, 40, 97, 51, 41]⟩ : ByteArray).data.toList = pubT (⟨#[97, 51]⟩ : ByteArray).data.toList := by decide +kernel
theorem litp1 : pubT (⟨#[97, 49]⟩ : ByteArray).data.toList = (⟨#[112, 40, 97, 49, 41]⟩ : ByteArray).data.toList := by decide +kernel
theorem bext {a b : ByteArray} (h : a.data.toList = b.data.toList) : a = b := by
  have e : a = ⟨a.data.toList.toArray⟩ := by simp
  have f : b = ⟨b.data.toList.toArray⟩ := by simp
  rw [e, f, h]

set_option maxRecDepth 100000 in
set_option maxHeartbeats 4000000 in
theorem awake_any (w : World) : Calls Try.prog 66 #[] w (numA.Told w (.bool true)) := by
  obtain ⟨eph, u, c1, h1, k1, p, st, c2, h2, u2, k2, nb, se, c3, h3, hB⟩ := beg_ex ⟨#[97, 49]⟩ ⟨#[97, 50]⟩ ⟨#[112, 40, 97, 51, 41]⟩ 7
  have hp3 : Ok (⟨#[112, 40, 97, 51, 41]⟩ : ByteArray).data.toList 253 := by rw [litp3]; exact (ok_pub lit3 (by decide)).1
  have hpp : pubB (⟨#[112, 40, 97, 51, 41]⟩ : ByteArray).data.toList = true := by rw [litp3]; exact pubB_of lit3 (by decide)
  have hO := beg_sizes hB (by decide) lit1 lit2 hp3 hpp
  have hc3 : Ok c3.data.toList 1500 := hO.c3.mono (by decide)
  have hh3 : Ok h3.data.toList 6200 := hO.h3.mono (by decide)
  obtain ⟨ep2, em, sd, rc, hA⟩ := ans_ex (⟨#[97, 49]⟩ : ByteArray).data.toList (⟨#[97, 50]⟩ : ByteArray).data.toList (⟨#[97, 52]⟩ : ByteArray).data.toList (⟨#[97, 57]⟩ : ByteArray).data.toList c3.data.toList h3.data.toList
  have C1 := Lib.hid (fun W => (show Calls Try.prog 68 #[.string ⟨#[97, 49]⟩, .string ⟨#[97, 50]⟩, .string ⟨#[112, 40, 97, 51, 41]⟩, .int .u64 7, .int .u32 5] W (numA.Told W (.tuple #[.agg (initM 5 eph st se).row, .agg (startV 5 ⟨#[97, 50]⟩ c3 h3), .int .i64 0])) from begin_told 5 W hB (by decide) lit1 lit2 hp3 hpp))
  have C2 := Lib.hid (fun W => (show Calls Try.prog 70 #[.string ⟨#[97, 51]⟩, .agg (initM 5 eph st se).row] W (numA.Told W (.tuple #[.agg (heardV 5 p 7 eph c3 h3), .int .i64 0])) from hear_told (r := ⟨#[97, 51]⟩) 5 W hB (by decide) lit1 lit2 lit3 litp3))
  have C3 := Lib.hid (fun W => answer_told (p := p) (ee := eph) 6 5 7 W hB.e_p hB.e_eph hA lit1 lit2 lit4 lit9 hc3 hh3)
  have C4 := Lib.hid (fun W => finish_told (q' := ⟨#[48]⟩) 5 6 W hA lit1 lit2 lit4 lit9 lit0 hc3 hh3)
  have C5 := Lib.hid (fun W => finish_told (q' := ⟨#[97, 57]⟩) 5 6 W hA lit1 lit2 lit4 lit9 lit9 hc3 hh3)
  rw [if_neg (by decide)] at C4
  rw [if_pos rfl] at C5
  have hp1 : p = ⟨#[112, 40, 97, 49, 41]⟩ := bext (by rw [hB.e_p]; exact litp1)
  replace C4 := Lib.hid (show ∀ W, Calls Try.prog 75 #[.agg (startV 5 ⟨#[97, 50]⟩ c3 h3), .string ⟨#[97, 49]⟩, .string ⟨#[48]⟩, .agg (respM 6 5 ep2 em).row] W (numA.Told W (.tuple #[.agg (keysV ⟨#[]⟩ ⟨#[]⟩), .int .i64 8])) from C4.out)
  replace C5 := Lib.hid (show ∀ W, Calls Try.prog 75 #[.agg (startV 5 ⟨#[97, 50]⟩ c3 h3), .string ⟨#[97, 49]⟩, .string ⟨#[97, 57]⟩, .agg (respM 6 5 ep2 em).row] W (numA.Told W (.tuple #[.agg (keysV rc sd), .int .i64 0])) from C5.out)
  clear hO hc3 hh3 hA hp3 hpp hB
  subst hp1
  have O := Lib.hid (Only.refl (fun _ => False) w)
  go_enter Try.func66, Try.ntmps66
  go_wp2_with fail
  (with_reducible refine (C1.out _).mono ?_)
  rintro e w2 ⟨rfl, o⟩
  replace O := Lib.hid (O.out.trans o)
  clear o
  have HN1 := Lib.hid (show Blk ((w2.alloc (.cells #[.int .i64 0, .int .u32 0, .int .u32 0, .int .u64 0, .string ⟨#[]⟩, .string ⟨#[]⟩, .string ⟨#[]⟩, .string ⟨#[]⟩, .string ⟨#[]⟩, .string ⟨#[]⟩, .string ⟨#[]⟩, .string ⟨#[]⟩, .string ⟨#[]⟩] 61)).alloc (.cells #[.int .u32 0, .string ⟨#[]⟩, .string ⟨#[]⟩, .string ⟨#[]⟩] 74)) w2.heap.size 61 #[.int .i64 0, .int .u32 0, .int .u32 0, .int .u64 0, .string ⟨#[]⟩, .string ⟨#[]⟩, .string ⟨#[]⟩, .string ⟨#[]⟩, .string ⟨#[]⟩, .string ⟨#[]⟩, .string ⟨#[]⟩, .string ⟨#[]⟩, .string ⟨#[]⟩] from Blk.keep (Blk.new w2 61 #[.int .i64 0, .int .u32 0, .int .u32 0, .int .u64 0, .string ⟨#[]⟩, .string ⟨#[]⟩, .string ⟨#[]⟩, .string ⟨#[]⟩, .string ⟨#[]⟩, .string ⟨#[]⟩, .string ⟨#[]⟩, .string ⟨#[]⟩, .string ⟨#[]⟩]) ((Only.refl (fun _ => False) _).alloc (.cells #[.int .u32 0, .string ⟨#[]⟩, .string ⟨#[]⟩, .string ⟨#[]⟩] 74)) id)
  have HN2 := Lib.hid (show Blk ((w2.alloc (.cells #[.int .i64 0, .int .u32 0, .int .u32 0, .int .u64 0, .string ⟨#[]⟩, .string ⟨#[]⟩, .string ⟨#[]⟩, .string ⟨#[]⟩, .string ⟨#[]⟩, .string ⟨#[]⟩, .string ⟨#[]⟩, .string ⟨#[]⟩, .string ⟨#[]⟩] 61)).alloc (.cells #[.int .u32 0, .string ⟨#[]⟩, .string ⟨#[]⟩, .string ⟨#[]⟩] 74)) (w2.heap.size + 1) 74 #[.int .u32 0, .string ⟨#[]⟩, .string ⟨#[]⟩, .string ⟨#[]⟩] from by have h := Blk.new (w2.alloc (.cells #[.int .i64 0, .int .u32 0, .int .u32 0, .int .u64 0, .string ⟨#[]⟩, .string ⟨#[]⟩, .string ⟨#[]⟩, .string ⟨#[]⟩, .string ⟨#[]⟩, .string ⟨#[]⟩, .string ⟨#[]⟩, .string ⟨#[]⟩, .string ⟨#[]⟩] 61)) 74 #[.int .u32 0, .string ⟨#[]⟩, .string ⟨#[]⟩, .string ⟨#[]⟩]; simp only [World.size_alloc] at h; exact h)
  go_upto_region 2 with (first
    | (refine wpList_store_row rfl 61 (.tmp 1) (.tmp 15) rfl w2.heap.size (initM 5 eph st se).row rfl rfl 61 _ HN1.out (info61 (initM 5 eph st se)) (size61 (zeroM 0) (initM 5 eph st se)) (one61 (initM 5 eph st se)) ?_)
    | (refine wpList_store_row rfl 74 (.tmp 2) (.tmp 16) rfl (w2.heap.size + 1) (startV 5 ⟨#[97, 50]⟩ c3 h3) rfl rfl 74 _ (Blk.off HN2.out _ (by omega)) (info74 _ _ _ _) rfl (by simp [startV, Value.oneCell']) ?_))
  obtain ⟨V1, hZ⟩ : ∃ Z, Z = (((w2.alloc (.cells #[.int .i64 0, .int .u32 0, .int .u32 0, .int .u64 0, .string ⟨#[]⟩, .string ⟨#[]⟩, .string ⟨#[]⟩, .string ⟨#[]⟩, .string ⟨#[]⟩, .string ⟨#[]⟩, .string ⟨#[]⟩, .string ⟨#[]⟩, .string ⟨#[]⟩] 61)).alloc (.cells #[.int .u32 0, .string ⟨#[]⟩, .string ⟨#[]⟩, .string ⟨#[]⟩] 74)).setRow w2.heap.size (initM 5 eph st se).row).setRow (w2.heap.size + 1) (startV 5 ⟨#[97, 50]⟩ c3 h3) := ⟨_, rfl⟩
  obtain ⟨G1, hG⟩ : ∃ G, G = w2.heap.size := ⟨_, rfl⟩
  have oS : Only (fun _ => False) w2 V1 := by
    rw [hZ]
    exact Only.old (only_row (only_row ((((Only.refl (fun _ => False) _).alloc _).alloc _).mono fun _ h => h.elim) _ (Nat.le_refl _)) _ (Nat.le_succ _))
  have HM := Lib.hid (show Blk V1 G1 61 (initM 5 eph st se).row from by rw [hZ, hG]; exact Blk.off (Blk.row HN1.out _) _ (by omega))
  have HS := Lib.hid (show Blk V1 (G1 + 1) 74 (startV 5 ⟨#[97, 50]⟩ c3 h3) from by rw [hZ, hG]; exact Blk.row (Blk.off HN2.out _ (by omega)) _)
  rw [← hZ, ← hG]
  replace O := Lib.hid (O.out.trans oS)
  clear hZ hG HN1 HN2 oS
  go_wp2_with (refine wpList_load_row rfl 61 (.tmp 1) rfl G1 rfl 61 (initM 5 eph st se).row (0, 0) _ HM.out Try.underlying61 rfl (info61 (initM 5 eph st se)) ?_)
  (with_reducible refine (C2.out _).mono ?_)
  rintro e w3 ⟨rfl, o⟩
  replace O := Lib.hid (O.out.trans o)
  replace HM := Lib.hid (Blk.keep HM.out o id)
  replace HS := Lib.hid (Blk.keep HS.out o id)
  clear o
  have HN := Lib.hid (show (w3.alloc (.cells #[.int .u32 0, .string ⟨#[]⟩, .int .u64 0, .string ⟨#[]⟩, .string ⟨#[]⟩, .string ⟨#[]⟩] 82)).heap[w3.heap.size]? = some (.cells #[.int .u32 0, .string ⟨#[]⟩, .int .u64 0, .string ⟨#[]⟩, .string ⟨#[]⟩, .string ⟨#[]⟩] 82 (0, 0)) from heap_alloc_new w3 _)
  go_upto_region 3 with (refine wpList_store_row rfl 82 (.tmp 4) (.tmp 21) rfl w3.heap.size (heardV 5 ⟨#[112, 40, 97, 49, 41]⟩ 7 eph c3 h3) rfl rfl 82 _ HN.out (info82 _ _ _ _ _ _) rfl (one82 _ _ _ _ _ _) ?_)
  obtain ⟨V2, hV2⟩ : ∃ Z, Z = (w3.alloc (.cells #[.int .u32 0, .string ⟨#[]⟩, .int .u64 0, .string ⟨#[]⟩, .string ⟨#[]⟩, .string ⟨#[]⟩] 82)).setRow w3.heap.size (heardV 5 ⟨#[112, 40, 97, 49, 41]⟩ 7 eph c3 h3) := ⟨_, rfl⟩
  obtain ⟨G2, hG2⟩ : ∃ G, G = w3.heap.size := ⟨_, rfl⟩
  rw [← hV2, ← hG2]
  have HH := Lib.hid (show V2.heap[G2]? = some (.cells (heardV 5 ⟨#[112, 40, 97, 49, 41]⟩ 7 eph c3 h3) 82 (0, 0)) from by rw [hV2, hG2]; exact setRow_heap _ _ _ _ _ _ HN.out)
  have oS : Only (fun _ => False) w3 V2 := by rw [hV2, World.setRow_alloc_new]; exact (Only.refl _ _).alloc _
  replace O := Lib.hid (O.out.trans oS)
  clear hV2 hG2 HN
  replace HH := Lib.hid (show Blk V2 G2 82 (heardV 5 ⟨#[112, 40, 97, 49, 41]⟩ 7 eph c3 h3) from HH.out)
  replace HM := Lib.hid (Blk.keep HM.out oS id)
  replace HS := Lib.hid (Blk.keep HS.out oS id)
  clear oS
  go_wp2_with (refine wpList_load_row rfl 82 (.tmp 4) rfl G2 rfl 82 (heardV 5 ⟨#[112, 40, 97, 49, 41]⟩ 7 eph c3 h3) (0, 0) _ HH.out Try.underlying82 rfl (info82 _ _ _ _ _ _) ?_)
  (with_reducible refine (C3.out _).mono ?_)
  rintro e w4 ⟨rfl, o⟩
  replace O := Lib.hid (O.out.trans o)
  replace HS := Lib.hid (Blk.keep HS.out o id)
  replace HH := Lib.hid (Blk.keep HH.out o id)
  clear o
  clear HM
  have HN1 := Lib.hid (show Blk ((w4.alloc (.cells #[.int .i64 0, .int .u32 0, .int .u32 0, .int .u64 0, .string ⟨#[]⟩, .string ⟨#[]⟩, .string ⟨#[]⟩, .string ⟨#[]⟩, .string ⟨#[]⟩, .string ⟨#[]⟩, .string ⟨#[]⟩, .string ⟨#[]⟩, .string ⟨#[]⟩] 61)).alloc (.cells #[.string ⟨#[]⟩, .string ⟨#[]⟩] 92)) w4.heap.size 61 #[.int .i64 0, .int .u32 0, .int .u32 0, .int .u64 0, .string ⟨#[]⟩, .string ⟨#[]⟩, .string ⟨#[]⟩, .string ⟨#[]⟩, .string ⟨#[]⟩, .string ⟨#[]⟩, .string ⟨#[]⟩, .string ⟨#[]⟩, .string ⟨#[]⟩] from Blk.keep (Blk.new w4 61 #[.int .i64 0, .int .u32 0, .int .u32 0, .int .u64 0, .string ⟨#[]⟩, .string ⟨#[]⟩, .string ⟨#[]⟩, .string ⟨#[]⟩, .string ⟨#[]⟩, .string ⟨#[]⟩, .string ⟨#[]⟩, .string ⟨#[]⟩, .string ⟨#[]⟩]) ((Only.refl (fun _ => False) _).alloc (.cells #[.string ⟨#[]⟩, .string ⟨#[]⟩] 92)) id)
  have HN2 := Lib.hid (show Blk ((w4.alloc (.cells #[.int .i64 0, .int .u32 0, .int .u32 0, .int .u64 0, .string ⟨#[]⟩, .string ⟨#[]⟩, .string ⟨#[]⟩, .string ⟨#[]⟩, .string ⟨#[]⟩, .string ⟨#[]⟩, .string ⟨#[]⟩, .string ⟨#[]⟩, .string ⟨#[]⟩] 61)).alloc (.cells #[.string ⟨#[]⟩, .string ⟨#[]⟩] 92)) (w4.heap.size + 1) 92 #[.string ⟨#[]⟩, .string ⟨#[]⟩] from by have h := Blk.new (w4.alloc (.cells #[.int .i64 0, .int .u32 0, .int .u32 0, .int .u64 0, .string ⟨#[]⟩, .string ⟨#[]⟩, .string ⟨#[]⟩, .string ⟨#[]⟩, .string ⟨#[]⟩, .string ⟨#[]⟩, .string ⟨#[]⟩, .string ⟨#[]⟩, .string ⟨#[]⟩] 61)) 92 #[.string ⟨#[]⟩, .string ⟨#[]⟩]; simp only [World.size_alloc] at h; exact h)
  go_upto_region 4 with (first
    | (refine wpList_store_row rfl 61 (.tmp 6) (.tmp 26) rfl w4.heap.size (respM 6 5 ep2 em).row rfl rfl 61 _ HN1.out (info61 (respM 6 5 ep2 em)) (size61 (zeroM 0) (respM 6 5 ep2 em)) (one61 (respM 6 5 ep2 em)) ?_)
    | (refine wpList_store_row rfl 92 (.tmp 7) (.tmp 27) rfl (w4.heap.size + 1) (keysV sd rc) rfl rfl 92 _ (Blk.off HN2.out _ (by omega)) (info92 _ _) rfl (one92 _ _) ?_))
  obtain ⟨V3, hZ⟩ : ∃ Z, Z = (((w4.alloc (.cells #[.int .i64 0, .int .u32 0, .int .u32 0, .int .u64 0, .string ⟨#[]⟩, .string ⟨#[]⟩, .string ⟨#[]⟩, .string ⟨#[]⟩, .string ⟨#[]⟩, .string ⟨#[]⟩, .string ⟨#[]⟩, .string ⟨#[]⟩, .string ⟨#[]⟩] 61)).alloc (.cells #[.string ⟨#[]⟩, .string ⟨#[]⟩] 92)).setRow w4.heap.size (respM 6 5 ep2 em).row).setRow (w4.heap.size + 1) (keysV sd rc) := ⟨_, rfl⟩
  obtain ⟨G3, hG⟩ : ∃ G, G = w4.heap.size := ⟨_, rfl⟩
  have oS : Only (fun _ => False) w4 V3 := by
    rw [hZ]
    exact Only.old (only_row (only_row ((((Only.refl (fun _ => False) _).alloc _).alloc _).mono fun _ h => h.elim) _ (Nat.le_refl _)) _ (Nat.le_succ _))
  have HM2 := Lib.hid (show Blk V3 G3 61 (respM 6 5 ep2 em).row from by rw [hZ, hG]; exact Blk.off (Blk.row HN1.out _) _ (by omega))
  have HK := Lib.hid (show Blk V3 (G3 + 1) 92 (keysV sd rc) from by rw [hZ, hG]; exact Blk.row (Blk.off HN2.out _ (by omega)) _)
  rw [← hZ, ← hG]
  replace O := Lib.hid (O.out.trans oS)
  replace HS := Lib.hid (Blk.keep HS.out oS id)
  replace HH := Lib.hid (Blk.keep HH.out oS id)
  clear hZ hG HN1 HN2 oS
  go_wp2_with (first | (refine wpList_load_row rfl 74 (.tmp 2) rfl (G1 + 1) rfl 74 (startV 5 ⟨#[97, 50]⟩ c3 h3) (0, 0) _ HS.out Try.underlying74 rfl (info74 _ _ _ _) ?_) | (refine wpList_load_row rfl 61 (.tmp 6) rfl G3 rfl 61 (respM 6 5 ep2 em).row (0, 0) _ HM2.out Try.underlying61 rfl (info61 (respM 6 5 ep2 em)) ?_))
  (with_reducible refine (C4.out _).mono ?_)
  rintro e w5 ⟨rfl, o⟩
  replace O := Lib.hid (O.out.trans o)
  replace HS := Lib.hid (Blk.keep HS.out o id)
  replace HH := Lib.hid (Blk.keep HH.out o id)
  replace HM2 := Lib.hid (Blk.keep HM2.out o id)
  replace HK := Lib.hid (Blk.keep HK.out o id)
  clear o
  have HN := Lib.hid (show (w5.alloc (.cells #[.string ⟨#[]⟩, .string ⟨#[]⟩] 92)).heap[w5.heap.size]? = some (.cells #[.string ⟨#[]⟩, .string ⟨#[]⟩] 92 (0, 0)) from heap_alloc_new w5 _)
  go_upto_region 5 with (refine wpList_store_row rfl 92 (.tmp 9) (.tmp 33) rfl w5.heap.size (keysV ⟨#[]⟩ ⟨#[]⟩) rfl rfl 92 _ HN.out (info92 _ _) rfl (one92 _ _) ?_)
  obtain ⟨V4, hV4⟩ : ∃ Z, Z = (w5.alloc (.cells #[.string ⟨#[]⟩, .string ⟨#[]⟩] 92)).setRow w5.heap.size (keysV ⟨#[]⟩ ⟨#[]⟩) := ⟨_, rfl⟩
  obtain ⟨G4, hG4⟩ : ∃ G, G = w5.heap.size := ⟨_, rfl⟩
  rw [← hV4, ← hG4]
  have HL0 := Lib.hid (show V4.heap[G4]? = some (.cells (keysV ⟨#[]⟩ ⟨#[]⟩) 92 (0, 0)) from by rw [hV4, hG4]; exact setRow_heap _ _ _ _ _ _ HN.out)
  have oS : Only (fun _ => False) w5 V4 := by rw [hV4, World.setRow_alloc_new]; exact (Only.refl _ _).alloc _
  replace O := Lib.hid (O.out.trans oS)
  clear hV4 hG4 HN
  replace HL0 := Lib.hid (show Blk V4 G4 92 (keysV ⟨#[]⟩ ⟨#[]⟩) from HL0.out)
  replace HS := Lib.hid (Blk.keep HS.out oS id)
  replace HH := Lib.hid (Blk.keep HH.out oS id)
  replace HM2 := Lib.hid (Blk.keep HM2.out oS id)
  replace HK := Lib.hid (Blk.keep HK.out oS id)
  clear oS
  go_wp2_with (first | (refine wpList_load_row rfl 74 (.tmp 2) rfl (G1 + 1) rfl 74 (startV 5 ⟨#[97, 50]⟩ c3 h3) (0, 0) _ HS.out Try.underlying74 rfl (info74 _ _ _ _) ?_) | (refine wpList_load_row rfl 61 (.tmp 6) rfl G3 rfl 61 (respM 6 5 ep2 em).row (0, 0) _ HM2.out Try.underlying61 rfl (info61 (respM 6 5 ep2 em)) ?_))
  (with_reducible refine (C5.out _).mono ?_)
  rintro e w6 ⟨rfl, o⟩
  replace O := Lib.hid (O.out.trans o)
  replace HS := Lib.hid (Blk.keep HS.out o id)
  replace HH := Lib.hid (Blk.keep HH.out o id)
  replace HM2 := Lib.hid (Blk.keep HM2.out o id)
  replace HK := Lib.hid (Blk.keep HK.out o id)
  clear o
  have HN := Lib.hid (show (w6.alloc (.cells #[.string ⟨#[]⟩, .string ⟨#[]⟩] 92)).heap[w6.heap.size]? = some (.cells #[.string ⟨#[]⟩, .string ⟨#[]⟩] 92 (0, 0)) from heap_alloc_new w6 _)
  go_upto_region 6 with (refine wpList_store_row rfl 92 (.tmp 11) (.tmp 39) rfl w6.heap.size (keysV rc sd) rfl rfl 92 _ HN.out (info92 _ _) rfl (one92 _ _) ?_)
  obtain ⟨V5, hV5⟩ : ∃ Z, Z = (w6.alloc (.cells #[.string ⟨#[]⟩, .string ⟨#[]⟩] 92)).setRow w6.heap.size (keysV rc sd) := ⟨_, rfl⟩
  obtain ⟨G5, hG5⟩ : ∃ G, G = w6.heap.size := ⟨_, rfl⟩
  rw [← hV5, ← hG5]
  have HL := Lib.hid (show V5.heap[G5]? = some (.cells (keysV rc sd) 92 (0, 0)) from by rw [hV5, hG5]; exact setRow_heap _ _ _ _ _ _ HN.out)
  have oS : Only (fun _ => False) w6 V5 := by rw [hV5, World.setRow_alloc_new]; exact (Only.refl _ _).alloc _
  replace O := Lib.hid (O.out.trans oS)
  clear hV5 hG5 HN
  replace HL := Lib.hid (show Blk V5 G5 92 (keysV rc sd) from HL.out)
  replace HS := Lib.hid (Blk.keep HS.out oS id)
  replace HH := Lib.hid (Blk.keep HH.out oS id)
  replace HM2 := Lib.hid (Blk.keep HM2.out oS id)
  replace HK := Lib.hid (Blk.keep HK.out oS id)
  clear oS
  have f1 : V5.cell? ⟨G2, 1, none⟩ = some (.string ⟨#[112, 40, 97, 49, 41]⟩) := Blk.cell HH.out 1
  have f2 : V5.cell? ⟨G5, 0, none⟩ = some (.string rc) := Blk.cell HL.out 0
  have f3 : V5.cell? ⟨G5, 1, none⟩ = some (.string sd) := Blk.cell HL.out 1
  have f4 : V5.cell? ⟨G3 + 1, 0, none⟩ = some (.string sd) := Blk.cell HK.out 0
  have f5 : V5.cell? ⟨G3 + 1, 1, none⟩ = some (.string rc) := Blk.cell HK.out 1
  go_wp2_with fail
  go_ret
  exact ⟨rfl, O.out⟩

end Go.Proofs.Ytbjnejnjlidiaaa.noP
