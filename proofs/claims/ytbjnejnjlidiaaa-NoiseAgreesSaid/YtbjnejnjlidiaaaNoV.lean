/- Noise: the law on both who agree. -/
import Derived.Test.YtbjnejnjlidiaaaNoU
import Derived.Deep.DeepCutAuto
import Derived.Test.YtbjnejnjlidiaaaRgA
import Derived.Deep.RegionHeld3
import Derived.Deep.RegionWith
namespace Go.Proofs.Ytbjnejnjlidiaaa.noV
open Go.RowKit kit numA numB numC numD numE tmA tmB tmC tmD tmE trA trB prR prS prW prX tsA tsB tsF tsI wrA wrB wrC wrD wrE wrF wrG wrH wrI wrJ mkA maA maB maC noA noB noC noD noE tsG noF noG noH noJ noK noL noM noN noO noP noS noU
set_option linter.unusedVariables false
set_option linter.unusedSimpArgs false

theorem bst : ∀ b : Bool, (b == b) = true := by decide
set_option maxRecDepth 100000 in
set_option maxHeartbeats 1600000 in
theorem na_big (s r e f q ot : ByteArray) (x y : Int) (w : World) (hb : bigN [s.data.toList, r.data.toList, e.data.toList, f.data.toList, q.data.toList, ot.data.toList] = true) : Calls Try.prog 14 #[.string s, .string r, .string e, .string f, .string q, .string ot, .int .u32 x, .int .u32 y] w (numA.Told w (.bool true)) := by
  have AW := Lib.hid (fun W => awake_any W)
  have BG := Lib.hid (fun W => (show Calls Try.prog 67 #[.slice (some ⟨W.heap.size, 0, none⟩) 6 6] (W.alloc (.cells #[.string s, .string r, .string e, .string f, .string q, .string ot] 9)) (numA.Told W (.bool true)) from big_blk [s, r, e, f, q, ot] true W (by simp) hb W.heap.size rfl))
  have O := Lib.hid (Only.refl (fun _ => False) w)
  clear hb
  go_enter Try.func14, Try.ntmps14
  go_wp2_with fail
  (with_reducible refine (AW.out _).mono ?_)
  rintro e w2 ⟨rfl, o⟩
  replace O := Lib.hid (O.out.trans o)
  clear o
  go_wp2_with fail
  (with_reducible refine (BG.out _).mono ?_)
  rintro e w3 ⟨rfl, o⟩
  replace O := Lib.hid (O.out.trans o)
  clear o
  go_wp2_with fail
  go_ret
  exact ⟨rfl, O.out⟩

set_option maxRecDepth 100000 in
set_option maxHeartbeats 1600000 in
theorem na_out (s r e f q ot : ByteArray) (x y : Int) (w : World) (hb : bigN [s.data.toList, r.data.toList, e.data.toList, f.data.toList, q.data.toList, ot.data.toList] = false) (zs : s.size ≤ 200) (zr : r.size ≤ 200) (ze : e.size ≤ 200) (zf : f.size ≤ 200) (zq : q.size ≤ 200) (zo : ot.size ≤ 200) (hn : ¬ (isT s.data.toList = true ∧ isT r.data.toList = true ∧ isT e.data.toList = true)) : Calls Try.prog 14 #[.string s, .string r, .string e, .string f, .string q, .string ot, .int .u32 x, .int .u32 y] w (numA.Told w (.bool true)) := by
  have AW := Lib.hid (fun W => awake_any W)
  have BG := Lib.hid (fun W => (show Calls Try.prog 67 #[.slice (some ⟨W.heap.size, 0, none⟩) 6 6] (W.alloc (.cells #[.string s, .string r, .string e, .string f, .string q, .string ot] 9)) (numA.Told W (.bool false)) from big_blk [s, r, e, f, q, ot] false W (by simp) hb W.heap.size rfl))
  have O := Lib.hid (Only.refl (fun _ => False) w)
  obtain ⟨b1, hb1⟩ : ∃ b, b = isT s.data.toList := ⟨_, rfl⟩
  obtain ⟨b2, hb2⟩ : ∃ b, b = isT r.data.toList := ⟨_, rfl⟩
  obtain ⟨b3, hb3⟩ : ∃ b, b = isT e.data.toList := ⟨_, rfl⟩
  have I1 := Lib.hid (fun W => (show Calls Try.prog 39 #[.string s] W (numA.Told W (.bool b1)) from by rw [hb1]; exact trJ.is_any s W (by omega)))
  have I2 := Lib.hid (fun W => (show Calls Try.prog 39 #[.string r] W (numA.Told W (.bool b2)) from by rw [hb2]; exact trJ.is_any r W (by omega)))
  have I3 := Lib.hid (fun W => (show Calls Try.prog 39 #[.string e] W (numA.Told W (.bool b3)) from by rw [hb3]; exact trJ.is_any e W (by omega)))
  have HN := Lib.hid (show ¬ (b1 = true ∧ b2 = true ∧ b3 = true) from by rw [hb1, hb2, hb3]; exact hn)
  clear hb hb1 hb2 hb3 hn zs zr ze zf zq zo
  go_enter Try.func14, Try.ntmps14
  go_wp2_with fail
  (with_reducible refine (AW.out _).mono ?_)
  rintro e w2 ⟨rfl, o⟩
  replace O := Lib.hid (O.out.trans o)
  clear o
  go_wp2_with fail
  (with_reducible refine (BG.out _).mono ?_)
  rintro e w3 ⟨rfl, o⟩
  replace O := Lib.hid (O.out.trans o)
  clear o
  go_wp2_with fail
  (with_reducible refine (I1.out _).mono ?_)
  rintro e w4 ⟨rfl, o⟩
  replace O := Lib.hid (O.out.trans o)
  clear o
  cases b1
  case false =>
    go_wp2_with fail
    go_ret
    exact ⟨rfl, O.out⟩
  go_wp2_with fail
  (with_reducible refine (I2.out _).mono ?_)
  rintro e w5 ⟨rfl, o⟩
  replace O := Lib.hid (O.out.trans o)
  clear o
  cases b2
  case false =>
    go_wp2_with fail
    go_ret
    exact ⟨rfl, O.out⟩
  go_wp2_with fail
  (with_reducible refine (I3.out _).mono ?_)
  rintro e w6 ⟨rfl, o⟩
  replace O := Lib.hid (O.out.trans o)
  clear o
  cases b3
  case false =>
    go_wp2_with fail
    go_ret
    exact ⟨rfl, O.out⟩
  exact absurd (by refine ⟨?_, ?_, ?_⟩ <;> trivial) HN.out

theorem answer_no {p e c h f q : ByteArray} (x y n : Int) (W : World) (hn : ¬ (isT f.data.toList = true ∧ isT q.data.toList = true)) (z1 : p.size ≤ 10000000) (z2 : e.size ≤ 10000000) (z3 : c.size ≤ 10000000) (z4 : h.size ≤ 10000000) (z5 : f.size ≤ 10000000) (z6 : q.size ≤ 10000000) : Calls Try.prog 72 #[.agg (heardV y p n e c h), .string f, .string q, .int .u32 x] W (numA.Told W (.tuple #[.agg (zeroM 0).row, .agg (keysV ⟨#[]⟩ ⟨#[]⟩), .int .i64 3])) := by
  obtain ⟨eph, he⟩ := mkb (pubT f.data.toList)
  obtain ⟨em, hem⟩ := mkb (sealT (ltK c.data.toList eph.data.toList (agr f.data.toList e.data.toList) (agr f.data.toList p.data.toList) q.data.toList) zeroT (ltW c.data.toList h.data.toList eph.data.toList (agr f.data.toList e.data.toList) (agr f.data.toList p.data.toList) q.data.toList))
  obtain ⟨sd, hsd⟩ := mkb (kdfT 2 (ltC c.data.toList eph.data.toList (agr f.data.toList e.data.toList) (agr f.data.toList p.data.toList) q.data.toList) zeroT)
  obtain ⟨rc, hrc⟩ := mkb (kdfT 1 (ltC c.data.toList eph.data.toList (agr f.data.toList e.data.toList) (agr f.data.toList p.data.toList) q.data.toList) zeroT)
  have hf : ¬ ansB f.data.toList q.data.toList p.data.toList e.data.toList c.data.toList h.data.toList = true := by
    intro h
    simp only [ansB, Bool.and_eq_true] at h
    exact hn h.1
  have h0 := answer_any x y n p e c h f q eph em sd rc W he hem hsd hrc (fun h => absurd h hf) z1 z2 z3 z4 z5 z6
  rw [ansVal, if_neg hf] at h0
  exact h0
set_option maxRecDepth 100000 in
set_option maxHeartbeats 4000000 in
theorem na_fq (s r e f q ot : ByteArray) (x y : Int) (w : World) (hb : bigN [s.data.toList, r.data.toList, e.data.toList, f.data.toList, q.data.toList, ot.data.toList] = false) (zs : s.size ≤ 200) (zr : r.size ≤ 200) (ze : e.size ≤ 200) (zf : f.size ≤ 200) (zq : q.size ≤ 200) (zo : ot.size ≤ 200) (hs : Ok s.data.toList 250) (hr : Ok r.data.toList 250) (he : Ok e.data.toList 250) (hn : ¬ (isT f.data.toList = true ∧ isT q.data.toList = true)) : Calls Try.prog 14 #[.string s, .string r, .string e, .string f, .string q, .string ot, .int .u32 x, .int .u32 y] w (numA.Told w (.bool true)) := by
  have AW := Lib.hid (fun W => awake_any W)
  have BG := Lib.hid (fun W => (show Calls Try.prog 67 #[.slice (some ⟨W.heap.size, 0, none⟩) 6 6] (W.alloc (.cells #[.string s, .string r, .string e, .string f, .string q, .string ot] 9)) (numA.Told W (.bool false)) from big_blk [s, r, e, f, q, ot] false W (by simp) hb W.heap.size rfl))
  have O := Lib.hid (Only.refl (fun _ => False) w)
  obtain ⟨pk, hto⟩ := mkb (pubT r.data.toList)
  obtain ⟨eph, u, c1, h1, k1, p, st, c2, h2, u2, k2, nb, se, c3, h3, hB⟩ := beg_ex s e pk 3
  obtain ⟨m, hm⟩ : ∃ m, m = initM x eph st se := ⟨_, rfl⟩
  have hp3 : Ok pk.data.toList 253 := by rw [hto]; exact (ok_pub hr (by decide)).1
  have hpp : pubB pk.data.toList = true := by rw [hto]; exact pubB_of hr (by decide)
  have hO := beg_sizes hB (by decide) hs he hp3 hpp
  have hc3 : Ok c3.data.toList 1500 := hO.c3.mono (by decide)
  have hh3 : Ok h3.data.toList 6200 := hO.h3.mono (by decide)
  have zc3 : c3.size ≤ 10000000 := by have := hc3.2; rw [tl_size] at this; omega
  have zh3 : h3.size ≤ 10000000 := by have := hh3.2; rw [tl_size] at this; omega
  have I1 := Lib.hid (fun W => (show Calls Try.prog 39 #[.string s] W (numA.Told W (.bool true)) from by rw [← hs.1]; exact trJ.is_any s W (by omega)))
  have I2 := Lib.hid (fun W => (show Calls Try.prog 39 #[.string r] W (numA.Told W (.bool true)) from by rw [← hr.1]; exact trJ.is_any r W (by omega)))
  have I3 := Lib.hid (fun W => (show Calls Try.prog 39 #[.string e] W (numA.Told W (.bool true)) from by rw [← he.1]; exact trJ.is_any e W (by omega)))
  have C1 := Lib.hid (fun W => told_str (b := pk) hto (pub_any r W (by omega)))
  have C2 := Lib.hid (fun W => (show Calls Try.prog 68 #[.string s, .string e, .string pk, .int .u64 3, .int .u32 x] W (numA.Told W (.tuple #[.agg m.row, .agg (startV x e c3 h3), .int .i64 0])) from by rw [hm]; exact begin_told x W hB (by decide) hs he hp3 hpp))
  have C3 := Lib.hid (fun W => (show Calls Try.prog 70 #[.string r, .agg m.row] W (numA.Told W (.tuple #[.agg (heardV x p 3 eph c3 h3), .int .i64 0])) from by rw [hm]; exact hear_told x W hB (by decide) hs he hr hto))
  obtain ⟨bf, hbf⟩ : ∃ b, b = isT f.data.toList := ⟨_, rfl⟩
  obtain ⟨bq, hbq⟩ : ∃ b, b = isT q.data.toList := ⟨_, rfl⟩
  have I4 := Lib.hid (fun W => (show Calls Try.prog 39 #[.string f] W (numA.Told W (.bool bf)) from by rw [hbf]; exact trJ.is_any f W (by omega)))
  have I5 := Lib.hid (fun W => (show Calls Try.prog 39 #[.string q] W (numA.Told W (.bool bq)) from by rw [hbq]; exact trJ.is_any q W (by omega)))
  have C4 := Lib.hid (fun W => (show Calls Try.prog 72 #[.agg (heardV x p 3 eph c3 h3), .string f, .string q, .int .u32 y] W (numA.Told W (.tuple #[.agg (zeroM 0).row, .agg (keysV ⟨#[]⟩ ⟨#[]⟩), .int .i64 3])) from answer_no (p := p) (e := eph) (c := c3) (h := h3) y x 3 W hn (by have := hO.p.2; rw [tl_size] at this; omega) (by have := hO.eph.2; rw [tl_size] at this; omega) zc3 zh3 (by omega) (by omega)))
  have E1 := fun W => laid_eqlM (zeroM 0) (zeroM 0) W
  rw [(eqM_iff (zeroM 0) (zeroM 0)).2 ⟨rfl, rfl, rfl, rfl, rfl, rfl, rfl, rfl, rfl, rfl, rfl, rfl, rfl⟩] at E1
  have E2 := fun W => eql_eqKy ⟨#[]⟩ ⟨#[]⟩ ⟨#[]⟩ ⟨#[]⟩ W
  rw [(eqKy_iff ⟨#[]⟩ ⟨#[]⟩ ⟨#[]⟩ ⟨#[]⟩).2 ⟨rfl, rfl⟩] at E2
  simp only [mval, Msg.row, zeroM] at E1
  simp only [keysV] at E2
  have HN := Lib.hid (show ¬ (bf = true ∧ bq = true) from by rw [hbf, hbq]; exact hn)
  clear hb hm hp3 hpp hO hB hto hc3 hh3 zc3 zh3 hs hr he hn zs zr ze zf zq zo hbf hbq
  go_enter Try.func14, Try.ntmps14
  go_wp2_with fail
  (with_reducible refine (AW.out _).mono ?_)
  rintro e w2 ⟨rfl, o⟩
  replace O := Lib.hid (O.out.trans o)
  clear o
  go_wp2_with fail
  (with_reducible refine (BG.out _).mono ?_)
  rintro e w3 ⟨rfl, o⟩
  replace O := Lib.hid (O.out.trans o)
  clear o
  go_wp2_with fail
  (with_reducible refine (I1.out _).mono ?_)
  rintro e w4 ⟨rfl, o⟩
  replace O := Lib.hid (O.out.trans o)
  clear o
  go_wp2_with fail
  (with_reducible refine (I2.out _).mono ?_)
  rintro e w5 ⟨rfl, o⟩
  replace O := Lib.hid (O.out.trans o)
  clear o
  go_wp2_with fail
  (with_reducible refine (I3.out _).mono ?_)
  rintro e w6 ⟨rfl, o⟩
  replace O := Lib.hid (O.out.trans o)
  clear o
  go_wp2_with fail
  (with_reducible refine (C1.out _).mono ?_)
  rintro e w7 ⟨rfl, o⟩
  replace O := Lib.hid (O.out.trans o)
  clear o
  go_wp2_with fail
  (with_reducible refine (C2.out _).mono ?_)
  rintro e w8 ⟨rfl, o⟩
  replace O := Lib.hid (O.out.trans o)
  clear o
  have HN1 := Lib.hid (show Blk ((w8.alloc (.cells #[.int .i64 0, .int .u32 0, .int .u32 0, .int .u64 0, .string ⟨#[]⟩, .string ⟨#[]⟩, .string ⟨#[]⟩, .string ⟨#[]⟩, .string ⟨#[]⟩, .string ⟨#[]⟩, .string ⟨#[]⟩, .string ⟨#[]⟩, .string ⟨#[]⟩] 61)).alloc (.cells #[.int .u32 0, .string ⟨#[]⟩, .string ⟨#[]⟩, .string ⟨#[]⟩] 74)) w8.heap.size 61 #[.int .i64 0, .int .u32 0, .int .u32 0, .int .u64 0, .string ⟨#[]⟩, .string ⟨#[]⟩, .string ⟨#[]⟩, .string ⟨#[]⟩, .string ⟨#[]⟩, .string ⟨#[]⟩, .string ⟨#[]⟩, .string ⟨#[]⟩, .string ⟨#[]⟩] from Blk.keep (Blk.new w8 61 #[.int .i64 0, .int .u32 0, .int .u32 0, .int .u64 0, .string ⟨#[]⟩, .string ⟨#[]⟩, .string ⟨#[]⟩, .string ⟨#[]⟩, .string ⟨#[]⟩, .string ⟨#[]⟩, .string ⟨#[]⟩, .string ⟨#[]⟩, .string ⟨#[]⟩]) ((Only.refl (fun _ => False) _).alloc (.cells #[.int .u32 0, .string ⟨#[]⟩, .string ⟨#[]⟩, .string ⟨#[]⟩] 74)) id)
  have HN2 := Lib.hid (show Blk ((w8.alloc (.cells #[.int .i64 0, .int .u32 0, .int .u32 0, .int .u64 0, .string ⟨#[]⟩, .string ⟨#[]⟩, .string ⟨#[]⟩, .string ⟨#[]⟩, .string ⟨#[]⟩, .string ⟨#[]⟩, .string ⟨#[]⟩, .string ⟨#[]⟩, .string ⟨#[]⟩] 61)).alloc (.cells #[.int .u32 0, .string ⟨#[]⟩, .string ⟨#[]⟩, .string ⟨#[]⟩] 74)) (w8.heap.size + 1) 74 #[.int .u32 0, .string ⟨#[]⟩, .string ⟨#[]⟩, .string ⟨#[]⟩] from by have h := Blk.new (w8.alloc (.cells #[.int .i64 0, .int .u32 0, .int .u32 0, .int .u64 0, .string ⟨#[]⟩, .string ⟨#[]⟩, .string ⟨#[]⟩, .string ⟨#[]⟩, .string ⟨#[]⟩, .string ⟨#[]⟩, .string ⟨#[]⟩, .string ⟨#[]⟩, .string ⟨#[]⟩] 61)) 74 #[.int .u32 0, .string ⟨#[]⟩, .string ⟨#[]⟩, .string ⟨#[]⟩]; simp only [World.size_alloc] at h; exact h)
  go_upto_region 6 with (first
    | (refine wpList_store_row rfl 61 (.tmp 17) (.tmp 71) rfl w8.heap.size m.row rfl rfl 61 _ HN1.out (info61 m) (size61 (zeroM 0) m) (one61 m) ?_)
    | (refine wpList_store_row rfl 74 (.tmp 18) (.tmp 72) rfl (w8.heap.size + 1) (startV x e c3 h3) rfl rfl 74 _ (Blk.off HN2.out _ (by omega)) (info74 _ _ _ _) rfl (by simp [startV, Value.oneCell']) ?_))
  obtain ⟨V1, hZ⟩ : ∃ Z, Z = (((w8.alloc (.cells #[.int .i64 0, .int .u32 0, .int .u32 0, .int .u64 0, .string ⟨#[]⟩, .string ⟨#[]⟩, .string ⟨#[]⟩, .string ⟨#[]⟩, .string ⟨#[]⟩, .string ⟨#[]⟩, .string ⟨#[]⟩, .string ⟨#[]⟩, .string ⟨#[]⟩] 61)).alloc (.cells #[.int .u32 0, .string ⟨#[]⟩, .string ⟨#[]⟩, .string ⟨#[]⟩] 74)).setRow w8.heap.size m.row).setRow (w8.heap.size + 1) (startV x e c3 h3) := ⟨_, rfl⟩
  obtain ⟨G1, hG⟩ : ∃ G, G = w8.heap.size := ⟨_, rfl⟩
  have oS : Only (fun _ => False) w8 V1 := by
    rw [hZ]
    exact Only.old (only_row (only_row ((((Only.refl (fun _ => False) _).alloc _).alloc _).mono fun _ h => h.elim) _ (Nat.le_refl _)) _ (Nat.le_succ _))
  have HM := Lib.hid (show Blk V1 G1 61 m.row from by rw [hZ, hG]; exact Blk.off (Blk.row HN1.out _) _ (by omega))
  have HS := Lib.hid (show Blk V1 (G1 + 1) 74 (startV x e c3 h3) from by rw [hZ, hG]; exact Blk.row (Blk.off HN2.out _ (by omega)) _)
  rw [← hZ, ← hG]
  replace O := Lib.hid (O.out.trans oS)
  clear hZ hG HN1 HN2 oS
  go_wp2_with (refine wpList_load_row rfl 61 (.tmp 17) rfl G1 rfl 61 m.row (0, 0) _ HM.out Try.underlying61 rfl (info61 m) ?_)
  (with_reducible refine (C3.out _).mono ?_)
  rintro e w9 ⟨rfl, o⟩
  replace O := Lib.hid (O.out.trans o)
  replace HM := Lib.hid (Blk.keep HM.out o id)
  replace HS := Lib.hid (Blk.keep HS.out o id)
  clear o
  have HN := Lib.hid (show (w9.alloc (.cells #[.int .u32 0, .string ⟨#[]⟩, .int .u64 0, .string ⟨#[]⟩, .string ⟨#[]⟩, .string ⟨#[]⟩] 82)).heap[w9.heap.size]? = some (.cells #[.int .u32 0, .string ⟨#[]⟩, .int .u64 0, .string ⟨#[]⟩, .string ⟨#[]⟩, .string ⟨#[]⟩] 82 (0, 0)) from heap_alloc_new w9 _)
  go_upto_region 7 with (refine wpList_store_row rfl 82 (.tmp 20) (.tmp 78) rfl w9.heap.size (heardV x p 3 eph c3 h3) rfl rfl 82 _ HN.out (info82 _ _ _ _ _ _) rfl (one82 _ _ _ _ _ _) ?_)
  obtain ⟨V2, hV2⟩ : ∃ Z, Z = (w9.alloc (.cells #[.int .u32 0, .string ⟨#[]⟩, .int .u64 0, .string ⟨#[]⟩, .string ⟨#[]⟩, .string ⟨#[]⟩] 82)).setRow w9.heap.size (heardV x p 3 eph c3 h3) := ⟨_, rfl⟩
  obtain ⟨G2, hG2⟩ : ∃ G, G = w9.heap.size := ⟨_, rfl⟩
  rw [← hV2, ← hG2]
  have HH := Lib.hid (show V2.heap[G2]? = some (.cells (heardV x p 3 eph c3 h3) 82 (0, 0)) from by rw [hV2, hG2]; exact setRow_heap _ _ _ _ _ _ HN.out)
  have oS : Only (fun _ => False) w9 V2 := by rw [hV2, World.setRow_alloc_new]; exact (Only.refl _ _).alloc _
  replace O := Lib.hid (O.out.trans oS)
  clear hV2 hG2 HN
  replace HH := Lib.hid (show Blk V2 G2 82 (heardV x p 3 eph c3 h3) from HH.out)
  replace HM := Lib.hid (Blk.keep HM.out oS id)
  replace HS := Lib.hid (Blk.keep HS.out oS id)
  clear oS
  go_wp2_with (refine wpList_load_row rfl 82 (.tmp 20) rfl G2 rfl 82 (heardV x p 3 eph c3 h3) (0, 0) _ HH.out Try.underlying82 rfl (info82 _ _ _ _ _ _) ?_)
  (with_reducible refine (C4.out _).mono ?_)
  rintro e w10 ⟨rfl, o⟩
  replace O := Lib.hid (O.out.trans o)
  replace HM := Lib.hid (Blk.keep HM.out o id)
  replace HS := Lib.hid (Blk.keep HS.out o id)
  replace HH := Lib.hid (Blk.keep HH.out o id)
  clear o
  have HN1 := Lib.hid (show Blk ((w10.alloc (.cells #[.int .i64 0, .int .u32 0, .int .u32 0, .int .u64 0, .string ⟨#[]⟩, .string ⟨#[]⟩, .string ⟨#[]⟩, .string ⟨#[]⟩, .string ⟨#[]⟩, .string ⟨#[]⟩, .string ⟨#[]⟩, .string ⟨#[]⟩, .string ⟨#[]⟩] 61)).alloc (.cells #[.string ⟨#[]⟩, .string ⟨#[]⟩] 92)) w10.heap.size 61 #[.int .i64 0, .int .u32 0, .int .u32 0, .int .u64 0, .string ⟨#[]⟩, .string ⟨#[]⟩, .string ⟨#[]⟩, .string ⟨#[]⟩, .string ⟨#[]⟩, .string ⟨#[]⟩, .string ⟨#[]⟩, .string ⟨#[]⟩, .string ⟨#[]⟩] from Blk.keep (Blk.new w10 61 #[.int .i64 0, .int .u32 0, .int .u32 0, .int .u64 0, .string ⟨#[]⟩, .string ⟨#[]⟩, .string ⟨#[]⟩, .string ⟨#[]⟩, .string ⟨#[]⟩, .string ⟨#[]⟩, .string ⟨#[]⟩, .string ⟨#[]⟩, .string ⟨#[]⟩]) ((Only.refl (fun _ => False) _).alloc (.cells #[.string ⟨#[]⟩, .string ⟨#[]⟩] 92)) id)
  have HN2 := Lib.hid (show Blk ((w10.alloc (.cells #[.int .i64 0, .int .u32 0, .int .u32 0, .int .u64 0, .string ⟨#[]⟩, .string ⟨#[]⟩, .string ⟨#[]⟩, .string ⟨#[]⟩, .string ⟨#[]⟩, .string ⟨#[]⟩, .string ⟨#[]⟩, .string ⟨#[]⟩, .string ⟨#[]⟩] 61)).alloc (.cells #[.string ⟨#[]⟩, .string ⟨#[]⟩] 92)) (w10.heap.size + 1) 92 #[.string ⟨#[]⟩, .string ⟨#[]⟩] from by have h := Blk.new (w10.alloc (.cells #[.int .i64 0, .int .u32 0, .int .u32 0, .int .u64 0, .string ⟨#[]⟩, .string ⟨#[]⟩, .string ⟨#[]⟩, .string ⟨#[]⟩, .string ⟨#[]⟩, .string ⟨#[]⟩, .string ⟨#[]⟩, .string ⟨#[]⟩, .string ⟨#[]⟩] 61)) 92 #[.string ⟨#[]⟩, .string ⟨#[]⟩]; simp only [World.size_alloc] at h; exact h)
  go_upto_region 8 with (first
    | (refine wpList_store_row rfl 61 (.tmp 22) (.tmp 86) rfl w10.heap.size (zeroM 0).row rfl rfl 61 _ HN1.out (info61 (zeroM 0)) rfl (one61 (zeroM 0)) ?_)
    | (refine wpList_store_row rfl 92 (.tmp 23) (.tmp 87) rfl (w10.heap.size + 1) (keysV ⟨#[]⟩ ⟨#[]⟩) rfl rfl 92 _ (Blk.off HN2.out _ (by omega)) (info92 _ _) rfl (one92 _ _) ?_))
  obtain ⟨V3, hZ⟩ : ∃ Z, Z = (((w10.alloc (.cells #[.int .i64 0, .int .u32 0, .int .u32 0, .int .u64 0, .string ⟨#[]⟩, .string ⟨#[]⟩, .string ⟨#[]⟩, .string ⟨#[]⟩, .string ⟨#[]⟩, .string ⟨#[]⟩, .string ⟨#[]⟩, .string ⟨#[]⟩, .string ⟨#[]⟩] 61)).alloc (.cells #[.string ⟨#[]⟩, .string ⟨#[]⟩] 92)).setRow w10.heap.size (zeroM 0).row).setRow (w10.heap.size + 1) (keysV ⟨#[]⟩ ⟨#[]⟩) := ⟨_, rfl⟩
  obtain ⟨G3, hG⟩ : ∃ G, G = w10.heap.size := ⟨_, rfl⟩
  have oS : Only (fun _ => False) w10 V3 := by
    rw [hZ]
    exact Only.old (only_row (only_row ((((Only.refl (fun _ => False) _).alloc _).alloc _).mono fun _ h => h.elim) _ (Nat.le_refl _)) _ (Nat.le_succ _))
  have HZ := Lib.hid (show Blk V3 G3 61 (zeroM 0).row from by rw [hZ, hG]; exact Blk.off (Blk.row HN1.out _) _ (by omega))
  have HK := Lib.hid (show Blk V3 (G3 + 1) 92 (keysV ⟨#[]⟩ ⟨#[]⟩) from by rw [hZ, hG]; exact Blk.row (Blk.off HN2.out _ (by omega)) _)
  rw [← hZ, ← hG]
  replace O := Lib.hid (O.out.trans oS)
  clear hZ hG HN1 HN2 oS
  clear HM HS HH
  go_wp2_with fail
  (with_reducible refine (I4.out _).mono ?_)
  rintro e w11 ⟨rfl, o⟩
  replace O := Lib.hid (O.out.trans o)
  replace HZ := Lib.hid (Blk.keep HZ.out o id)
  replace HK := Lib.hid (Blk.keep HK.out o id)
  clear o
  cases bf
  case false =>
    obtain ⟨d0, d1, d2, d3, d4, d5, d6, d7, d8, d9, d10, d11, d12⟩ := MsgAt.cells (show MsgAt _ G3 (zeroM 0) from HZ.out)
    simp only [zeroM] at d0 d1 d2 d3 d4 d5 d6 d7 d8 d9 d10 d11 d12
    have q0 := Blk.cell HK.out 0
    have q1 := Blk.cell HK.out 1
    simp only [keysV] at q0 q1
    go_wp2_with fail
    go_ret
    exact ⟨rfl, O.out⟩
  go_wp2_with fail
  (with_reducible refine (I5.out _).mono ?_)
  rintro e w12 ⟨rfl, o⟩
  replace O := Lib.hid (O.out.trans o)
  replace HZ := Lib.hid (Blk.keep HZ.out o id)
  replace HK := Lib.hid (Blk.keep HK.out o id)
  clear o
  cases bq
  case false =>
    obtain ⟨d0, d1, d2, d3, d4, d5, d6, d7, d8, d9, d10, d11, d12⟩ := MsgAt.cells (show MsgAt _ G3 (zeroM 0) from HZ.out)
    simp only [zeroM] at d0 d1 d2 d3 d4 d5 d6 d7 d8 d9 d10 d11 d12
    have q0 := Blk.cell HK.out 0
    have q1 := Blk.cell HK.out 1
    simp only [keysV] at q0 q1
    go_wp2_with fail
    go_ret
    exact ⟨rfl, O.out⟩
  exact absurd (by refine ⟨?_, ?_⟩ <;> trivial) HN.out


end Go.Proofs.Ytbjnejnjlidiaaa.noV
