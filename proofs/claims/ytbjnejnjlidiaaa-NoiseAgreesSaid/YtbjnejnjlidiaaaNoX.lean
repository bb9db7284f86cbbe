/- Noise: both who agree, of terms. -/
import Derived.Test.YtbjnejnjlidiaaaNoV
namespace Go.Proofs.Ytbjnejnjlidiaaa.noX
open Go.RowKit kit numA numB numC numD numE tmA tmB tmC tmD tmE trA trB prR prS prW prX tsA tsB tsF tsI wrA wrB wrC wrD wrE wrF wrG wrH wrI wrJ mkA maA maB maC noA noB noC noD noE tsG noF noG noH noJ noK noL noM noN noO noP noS noU noV
set_option linter.unusedVariables false
set_option linter.unusedSimpArgs false

def CutL (V : World) (a b c : Value) (p q r : Value) (wx : World) : Prop := p = a ∧ q = b ∧ r = c ∧ Only (fun _ => False) V wx
def CutB (V : World) (b : Bool) (p : Value) (wx : World) : Prop := p = .bool b ∧ Only (fun _ => False) V wx
theorem wrap_ne {x : Int} (h : 0 ≤ x ∧ x ≤ 4294967295) : IntKind.u32.wrap (x + 1) ≠ x := by
  rw [IntKind.wrap_u32]
  omega
set_option maxRecDepth 100000 in
set_option maxHeartbeats 16000000 in
theorem na_ok (s r e f q ot : ByteArray) (x y : Int) (w : World) (hb : bigN [s.data.toList, r.data.toList, e.data.toList, f.data.toList, q.data.toList, ot.data.toList] = false) (hx : 0 ≤ x ∧ x ≤ 4294967295) (zs : s.size ≤ 200) (zr : r.size ≤ 200) (ze : e.size ≤ 200) (zf : f.size ≤ 200) (zq : q.size ≤ 200) (zo : ot.size ≤ 200) (hs : Ok s.data.toList 250) (hr : Ok r.data.toList 250) (he : Ok e.data.toList 250) (hf : Ok f.data.toList 250) (hq : Ok q.data.toList 250) : Calls Try.prog 14 #[.string s, .string r, .string e, .string f, .string q, .string ot, .int .u32 x, .int .u32 y] w (numA.Told w (.bool true)) := by
  have AW := Lib.hid (fun W => awake_any W)
  have BG := Lib.hid (fun W => (show Calls Try.prog 67 #[.slice (some ⟨W.heap.size, 0, none⟩) 6 6] (W.alloc (.cells #[.string s, .string r, .string e, .string f, .string q, .string ot] 9)) (numA.Told W (.bool false)) from big_blk [s, r, e, f, q, ot] false W (by simp) hb W.heap.size rfl))
  have O := Lib.hid (Only.refl (fun _ => False) w)
  obtain ⟨pk, hto⟩ := mkb (pubT r.data.toList)
  obtain ⟨eph, u, c1, h1, k1, p, st, c2, h2, u2, k2, nb, se, c3, h3, hB⟩ := beg_ex s e pk 3
  obtain ⟨m, hm⟩ : ∃ m, m = initM x eph st se := ⟨_, rfl⟩
  have hp3 : Ok pk.data.toList 253 := by rw [hto]; exact (ok_pub hr (by decide)).1
  have hpp : pubB pk.data.toList = true := by rw [hto]; exact pubB_of hr (by decide)
  have hO := beg_sizes hB (by decide) hs he hp3 hpp
  have hc3 : Ok c3.data.toList 1500 := hO.c3.mono (by decide)
  have hh3 : Ok h3.data.toList 6200 := hO.h3.mono (by decide)
  have zc3 : c3.size ≤ 10000000 := by have := hc3.2; rw [tl_size] at this; omega
  have zh3 : h3.size ≤ 10000000 := by have := hh3.2; rw [tl_size] at this; omega
  obtain ⟨ep2, em, sd, rc, hA⟩ := ans_ex s.data.toList e.data.toList f.data.toList q.data.toList c3.data.toList h3.data.toList
  obtain ⟨n, hn⟩ : ∃ n, n = respM y x ep2 em := ⟨_, rfl⟩
  have hL := answer_ok (h := h3.data.toList) he hs hf hq hc3 hh3
  have zep : ep2.size ≤ 20000 := by have := (ok_pub hf (by decide)).1.2; rw [← hA.eph, tl_size] at this; omega
  have zem : em.size ≤ 20000 := by have := hL.em.2; rw [← hA.em, tl_size] at this; omega
  have I1 := Lib.hid (fun W => (show Calls Try.prog 39 #[.string s] W (numA.Told W (.bool true)) from by rw [← hs.1]; exact trJ.is_any s W (by omega)))
  have I2 := Lib.hid (fun W => (show Calls Try.prog 39 #[.string r] W (numA.Told W (.bool true)) from by rw [← hr.1]; exact trJ.is_any r W (by omega)))
  have I3 := Lib.hid (fun W => (show Calls Try.prog 39 #[.string e] W (numA.Told W (.bool true)) from by rw [← he.1]; exact trJ.is_any e W (by omega)))
  have C1 := Lib.hid (fun W => told_str (b := pk) hto (pub_any r W (by omega)))
  have C2 := Lib.hid (fun W => (show Calls Try.prog 68 #[.string s, .string e, .string pk, .int .u64 3, .int .u32 x] W (numA.Told W (.tuple #[.agg m.row, .agg (startV x e c3 h3), .int .i64 0])) from by rw [hm]; exact begin_told x W hB (by decide) hs he hp3 hpp))
  have C3 := Lib.hid (fun W => (show Calls Try.prog 70 #[.string r, .agg m.row] W (numA.Told W (.tuple #[.agg (heardV x p 3 eph c3 h3), .int .i64 0])) from by rw [hm]; exact hear_told x W hB (by decide) hs he hr hto))
  have I4 := Lib.hid (fun W => (show Calls Try.prog 39 #[.string f] W (numA.Told W (.bool true)) from by rw [← hf.1]; exact trJ.is_any f W (by omega)))
  have I5 := Lib.hid (fun W => (show Calls Try.prog 39 #[.string q] W (numA.Told W (.bool true)) from by rw [← hq.1]; exact trJ.is_any q W (by omega)))
  have C4 := Lib.hid (fun W => (show Calls Try.prog 72 #[.agg (heardV x p 3 eph c3 h3), .string f, .string q, .int .u32 y] W (numA.Told W (.tuple #[.agg n.row, .agg (keysV sd rc), .int .i64 0])) from by rw [hn]; exact answer_told y x 3 W hB.e_p hB.e_eph hA hs he hf hq hc3 hh3))
  have P1 := Lib.hid (fun W => told_str (b := ep2) hA.eph (pub_any f W (by omega)))
  have P2 := Lib.hid (fun W => told_str (b := eph) hB.e_eph (pub_any e W (by omega)))
  have P3 := Lib.hid (fun W => told_str (b := p) hB.e_p (pub_any s W (by omega)))
  have zeph : eph.size ≤ 10000000 := by have := hO.eph.2; rw [tl_size] at this; omega
  have zp : p.size ≤ 10000000 := by have := hO.p.2; rw [tl_size] at this; omega
  obtain ⟨ua, hua⟩ := mkb (agr f.data.toList eph.data.toList)
  obtain ⟨va, hva⟩ := mkb (agr f.data.toList p.data.toList)
  have P4 := Lib.hid (fun W => told_str (b := ua) hua (refagree_any f eph W (by omega) zeph))
  have P5 := Lib.hid (fun W => told_str (b := va) hva (refagree_any f p W (by omega) zp))
  have zua : ua.size ≤ 10000000 := u_le hua (Nat.le_trans (agr_most _ _) (by decide))
  have zva : va.size ≤ 10000000 := u_le hva (Nat.le_trans (agr_most _ _) (by decide))
  have P6 := Lib.hid (fun W => (show Calls Try.prog 73 #[.agg #[.string c3, .string h3], .string ep2, .string ua, .string va, .string q] W (numA.Told W (.tuple #[.string em, .string rc, .string sd])) from reflast_any c3 h3 ep2 ua va q em rc sd W (by rw [hA.em, hA.eph, hua, hva, hB.e_eph, hB.e_p]; rfl) (by rw [hA.rc, hA.eph, hua, hva, hB.e_eph, hB.e_p]; rfl) (by rw [hA.sd, hA.eph, hua, hva, hB.e_eph, hB.e_p]; rfl) zc3 zh3 (by omega) zua zva (by omega)))
  have P7 := Lib.hid (fun W G h => (show Calls Try.prog 74 #[.int .i64 2, .int .u32 y, .int .u32 x, .int .u64 0, .slice (some ⟨G, 0, none⟩) 4 4] W (numA.Told W (.agg n.row)) from by rw [hn]; exact with2_blk y x ep2 em W G h))
  simp only [Msg.row] at P7
  have E1 := fun W => laid_neqM n n W
  rw [(eqM_iff n n).2 ⟨rfl, rfl, rfl, rfl, rfl, rfl, rfl, rfl, rfl, rfl, rfl, rfl, rfl⟩] at E1
  simp only [mval, Msg.row, Bool.not_true] at E1
  have E2 := fun W => neq_eqKy sd rc sd rc W
  rw [(eqKy_iff sd rc sd rc).2 ⟨rfl, rfl⟩] at E2
  have E3 := fun W => neq_eqKy rc sd rc sd W
  rw [(eqKy_iff rc sd rc sd).2 ⟨rfl, rfl⟩] at E3
  simp only [keysV, Bool.not_true] at E2 E3
  have C7 := Lib.hid (fun W => (show Calls Try.prog 75 #[.agg (startV x e c3 h3), .string s, .string q, .agg n.row] W (numA.Told W (.tuple #[.agg (keysV rc sd), .int .i64 0])) from by
    have h := finish_told (q' := q) x y W hA hs he hf hq hq hc3 hh3
    rw [if_pos rfl, ← hn] at h
    exact h))
  obtain ⟨bo, hbo⟩ : ∃ b, b = isT ot.data.toList := ⟨_, rfl⟩
  have I6 := Lib.hid (fun W => (show Calls Try.prog 39 #[.string ot] W (numA.Told W (.bool bo)) from by rw [hbo]; exact trJ.is_any ot W (by omega)))
  obtain ⟨kk, A, D, hk, C8⟩ : ∃ (kk : Nat) (A D : ByteArray), ((bo = false ∧ kk = 3) ∨ (bo = true ∧ ot.data.toList = q.data.toList ∧ kk = 0) ∨ (bo = true ∧ ¬ ot.data.toList = q.data.toList ∧ kk = 8)) ∧ ∀ W, Calls Try.prog 75 #[.agg (startV x e c3 h3), .string s, .string ot, .agg n.row] W (numA.Told W (.tuple #[.agg (keysV A D), .int .i64 (kk : Nat)])) := by
    cases bo
    case false =>
      refine ⟨3, ⟨#[]⟩, ⟨#[]⟩, .inl ⟨rfl, rfl⟩, fun W => ?_⟩
      exact finish_no W (fin3 hbo.symm) (by decide) (by rw [hn]; exact fun i => Nat.le_trans (resp_sz zep zem (by decide) i) (by decide)) (by omega) zc3 zh3 (by omega) (by omega)
    case true =>
      have hot : Ok ot.data.toList 250 := ⟨hbo.symm, by rw [tl_size]; omega⟩
      have h := fun W => finish_told (q' := ot) x y W hA hs he hf hq hot hc3 hh3
      by_cases hq0 : ot.data.toList = q.data.toList
      · rw [if_pos hq0, ← hn] at h
        exact ⟨0, _, _, .inr (.inl ⟨rfl, hq0, rfl⟩), h⟩
      · rw [if_neg hq0, ← hn] at h
        exact ⟨8, _, _, .inr (.inr ⟨rfl, hq0, rfl⟩), h⟩
  have HKK := Lib.hid hk
  replace C8 := Lib.hid C8
  obtain ⟨z, hz⟩ : ∃ z, z = IntKind.u32.wrap (x + 1) := ⟨_, rfl⟩
  obtain ⟨n2, hn2⟩ : ∃ n2, n2 = { n with r := z } := ⟨_, rfl⟩
  have hzx : z ≠ x := by rw [hz]; exact wrap_ne hx
  have fem : fitB em.data.toList = true := ok_fit (n := 12863) (by rw [hA.em]; exact hL.em) (by decide)
  have C9 := Lib.hid (fun W => (show Calls Try.prog 75 #[.agg (startV x e c3 h3), .string s, .string q, .agg n2.row] W (numA.Told W (.tuple #[.agg (keysV ⟨#[]⟩ ⟨#[]⟩), .int .i64 6])) from by
    have e2 : n2 = respM y z ep2 em := by rw [hn2, hn]; rfl
    rw [e2]
    exact finish_no W (fin_bent he hs hf hq hc3 hh3 hA.eph fem hzx) (by decide) (fun i => Nat.le_trans (resp_sz zep zem (by decide) i) (by decide)) (by omega) zc3 zh3 (by omega) (by omega)))
  obtain ⟨n3, hn3⟩ : ∃ n3, n3 = n.put 7 ⟨#[110, 49]⟩ := ⟨_, rfl⟩
  have C10 := Lib.hid (fun W => (show Calls Try.prog 75 #[.agg (startV x e c3 h3), .string s, .string q, .agg n3.row] W (numA.Told W (.tuple #[.agg (keysV ⟨#[]⟩ ⟨#[]⟩), .int .i64 8])) from by
    have e2 : n3 = respM y x ep2 ⟨#[110, 49]⟩ := by rw [hn3, hn]; exact resp_put
    rw [e2]
    exact finish_no W (fin_n1 he hs hf hq hc3 hh3 hA.eph) (by decide) (fun i => Nat.le_trans (resp_sz (n := 20000) (em := ⟨#[110, 49]⟩) zep (by decide) (by decide) i) (by decide)) (by omega) zc3 zh3 (by omega) (by omega)))
  have C11 := Lib.hid (fun W => (show Calls Try.prog 75 #[.agg (startV x e c3 h3), .string s, .string q, .agg m.row] W (numA.Told W (.tuple #[.agg (keysV ⟨#[]⟩ ⟨#[]⟩), .int .i64 3])) from by
    rw [hm]
    exact finish_no W fin_init (by decide) (fun i => Nat.le_trans (init_sz (n := 10000000) zeph (by have := hO.st.2; rw [tl_size] at this; omega) (by have := hO.se.2; rw [tl_size] at this; omega) (by decide) i) (by decide)) (by omega) zc3 zh3 (by omega) (by omega)))
  have HZ := Lib.hid hz
  have HN2 := Lib.hid hn2
  have HN3 := Lib.hid hn3
  have HNR := Lib.hid (show n.r = x from by rw [hn]; rfl)
  clear hb hm hp3 hpp hO hB hto hc3 hh3 zc3 zh3 hs hr he hf hq hA hL hn zs zr ze zf zq zo zep zem zeph zp hua hva zua zva hbo hk hz hn2 hn3 hzx fem hx
  go_enter Try.func14, Try.ntmps14
  go_wp2_with fail
  (with_reducible refine (AW.out _).mono ?_)
  rintro e w2 ⟨rfl, o⟩
  replace O := Lib.hid (O.out.trans o)
  clear o
  go_wp2_with fail
  (with_reducible refine (BG.out _).mono ?_)
  rintro e w3 ⟨rfl, o⟩
  replace O := Lib.hid (O.out.trans o)
  clear o
  go_wp2_with fail
  (with_reducible refine (I1.out _).mono ?_)
  rintro e w4 ⟨rfl, o⟩
  replace O := Lib.hid (O.out.trans o)
  clear o
  go_wp2_with fail
  (with_reducible refine (I2.out _).mono ?_)
  rintro e w5 ⟨rfl, o⟩
  replace O := Lib.hid (O.out.trans o)
  clear o
  go_wp2_with fail
  (with_reducible refine (I3.out _).mono ?_)
  rintro e w6 ⟨rfl, o⟩
  replace O := Lib.hid (O.out.trans o)
  clear o
  go_wp2_with fail
  (with_reducible refine (C1.out _).mono ?_)
  rintro e w7 ⟨rfl, o⟩
  replace O := Lib.hid (O.out.trans o)
  clear o
  go_wp2_with fail
  (with_reducible refine (C2.out _).mono ?_)
  rintro e w8 ⟨rfl, o⟩
  replace O := Lib.hid (O.out.trans o)
  clear o
  have HN1 := Lib.hid (show Blk ((w8.alloc (.cells #[.int .i64 0, .int .u32 0, .int .u32 0, .int .u64 0, .string ⟨#[]⟩, .string ⟨#[]⟩, .string ⟨#[]⟩, .string ⟨#[]⟩, .string ⟨#[]⟩, .string ⟨#[]⟩, .string ⟨#[]⟩, .string ⟨#[]⟩, .string ⟨#[]⟩] 61)).alloc (.cells #[.int .u32 0, .string ⟨#[]⟩, .string ⟨#[]⟩, .string ⟨#[]⟩] 74)) w8.heap.size 61 #[.int .i64 0, .int .u32 0, .int .u32 0, .int .u64 0, .string ⟨#[]⟩, .string ⟨#[]⟩, .string ⟨#[]⟩, .string ⟨#[]⟩, .string ⟨#[]⟩, .string ⟨#[]⟩, .string ⟨#[]⟩, .string ⟨#[]⟩, .string ⟨#[]⟩] from Blk.keep (Blk.new w8 61 #[.int .i64 0, .int .u32 0, .int .u32 0, .int .u64 0, .string ⟨#[]⟩, .string ⟨#[]⟩, .string ⟨#[]⟩, .string ⟨#[]⟩, .string ⟨#[]⟩, .string ⟨#[]⟩, .string ⟨#[]⟩, .string ⟨#[]⟩, .string ⟨#[]⟩]) ((Only.refl (fun _ => False) _).alloc (.cells #[.int .u32 0, .string ⟨#[]⟩, .string ⟨#[]⟩, .string ⟨#[]⟩] 74)) id)
  have HN2 := Lib.hid (show Blk ((w8.alloc (.cells #[.int .i64 0, .int .u32 0, .int .u32 0, .int .u64 0, .string ⟨#[]⟩, .string ⟨#[]⟩, .string ⟨#[]⟩, .string ⟨#[]⟩, .string ⟨#[]⟩, .string ⟨#[]⟩, .string ⟨#[]⟩, .string ⟨#[]⟩, .string ⟨#[]⟩] 61)).alloc (.cells #[.int .u32 0, .string ⟨#[]⟩, .string ⟨#[]⟩, .string ⟨#[]⟩] 74)) (w8.heap.size + 1) 74 #[.int .u32 0, .string ⟨#[]⟩, .string ⟨#[]⟩, .string ⟨#[]⟩] from by have h := Blk.new (w8.alloc (.cells #[.int .i64 0, .int .u32 0, .int .u32 0, .int .u64 0, .string ⟨#[]⟩, .string ⟨#[]⟩, .string ⟨#[]⟩, .string ⟨#[]⟩, .string ⟨#[]⟩, .string ⟨#[]⟩, .string ⟨#[]⟩, .string ⟨#[]⟩, .string ⟨#[]⟩] 61)) 74 #[.int .u32 0, .string ⟨#[]⟩, .string ⟨#[]⟩, .string ⟨#[]⟩]; simp only [World.size_alloc] at h; exact h)
  go_upto_region 6 with (first
    | (refine wpList_store_row rfl 61 (.tmp 17) (.tmp 71) rfl w8.heap.size m.row rfl rfl 61 _ HN1.out (info61 m) (size61 (zeroM 0) m) (one61 m) ?_)
    | (refine wpList_store_row rfl 74 (.tmp 18) (.tmp 72) rfl (w8.heap.size + 1) (startV x e c3 h3) rfl rfl 74 _ (Blk.off HN2.out _ (by omega)) (info74 _ _ _ _) rfl (by simp [startV, Value.oneCell']) ?_))
  obtain ⟨V1, hZ⟩ : ∃ Z, Z = (((w8.alloc (.cells #[.int .i64 0, .int .u32 0, .int .u32 0, .int .u64 0, .string ⟨#[]⟩, .string ⟨#[]⟩, .string ⟨#[]⟩, .string ⟨#[]⟩, .string ⟨#[]⟩, .string ⟨#[]⟩, .string ⟨#[]⟩, .string ⟨#[]⟩, .string ⟨#[]⟩] 61)).alloc (.cells #[.int .u32 0, .string ⟨#[]⟩, .string ⟨#[]⟩, .string ⟨#[]⟩] 74)).setRow w8.heap.size m.row).setRow (w8.heap.size + 1) (startV x e c3 h3) := ⟨_, rfl⟩
  obtain ⟨G1, hG⟩ : ∃ G, G = w8.heap.size := ⟨_, rfl⟩
  have oS : Only (fun _ => False) w8 V1 := by
    rw [hZ]
    exact Only.old (only_row (only_row ((((Only.refl (fun _ => False) _).alloc _).alloc _).mono fun _ h => h.elim) _ (Nat.le_refl _)) _ (Nat.le_succ _))
  have HM := Lib.hid (show Blk V1 G1 61 m.row from by rw [hZ, hG]; exact Blk.off (Blk.row HN1.out _) _ (by omega))
  have HS := Lib.hid (show Blk V1 (G1 + 1) 74 (startV x e c3 h3) from by rw [hZ, hG]; exact Blk.row (Blk.off HN2.out _ (by omega)) _)
  rw [← hZ, ← hG]
  replace O := Lib.hid (O.out.trans oS)
  clear hZ hG HN1 HN2 oS
  go_wp2_with (refine wpList_load_row rfl 61 (.tmp 17) rfl G1 rfl 61 m.row (0, 0) _ HM.out Try.underlying61 rfl (info61 m) ?_)
  (with_reducible refine (C3.out _).mono ?_)
  rintro e w9 ⟨rfl, o⟩
  replace O := Lib.hid (O.out.trans o)
  replace HM := Lib.hid (Blk.keep HM.out o id)
  replace HS := Lib.hid (Blk.keep HS.out o id)
  clear o
  have HN := Lib.hid (show (w9.alloc (.cells #[.int .u32 0, .string ⟨#[]⟩, .int .u64 0, .string ⟨#[]⟩, .string ⟨#[]⟩, .string ⟨#[]⟩] 82)).heap[w9.heap.size]? = some (.cells #[.int .u32 0, .string ⟨#[]⟩, .int .u64 0, .string ⟨#[]⟩, .string ⟨#[]⟩, .string ⟨#[]⟩] 82 (0, 0)) from heap_alloc_new w9 _)
  go_upto_region 7 with (refine wpList_store_row rfl 82 (.tmp 20) (.tmp 78) rfl w9.heap.size (heardV x p 3 eph c3 h3) rfl rfl 82 _ HN.out (info82 _ _ _ _ _ _) rfl (one82 _ _ _ _ _ _) ?_)
  obtain ⟨V2, hV2⟩ : ∃ Z, Z = (w9.alloc (.cells #[.int .u32 0, .string ⟨#[]⟩, .int .u64 0, .string ⟨#[]⟩, .string ⟨#[]⟩, .string ⟨#[]⟩] 82)).setRow w9.heap.size (heardV x p 3 eph c3 h3) := ⟨_, rfl⟩
  obtain ⟨G2, hG2⟩ : ∃ G, G = w9.heap.size := ⟨_, rfl⟩
  rw [← hV2, ← hG2]
  have HH := Lib.hid (show V2.heap[G2]? = some (.cells (heardV x p 3 eph c3 h3) 82 (0, 0)) from by rw [hV2, hG2]; exact setRow_heap _ _ _ _ _ _ HN.out)
  have oS : Only (fun _ => False) w9 V2 := by rw [hV2, World.setRow_alloc_new]; exact (Only.refl _ _).alloc _
  replace O := Lib.hid (O.out.trans oS)
  clear hV2 hG2 HN
  replace HH := Lib.hid (show Blk V2 G2 82 (heardV x p 3 eph c3 h3) from HH.out)
  replace HM := Lib.hid (Blk.keep HM.out oS id)
  replace HS := Lib.hid (Blk.keep HS.out oS id)
  clear oS
  go_wp2_with (refine wpList_load_row rfl 82 (.tmp 20) rfl G2 rfl 82 (heardV x p 3 eph c3 h3) (0, 0) _ HH.out Try.underlying82 rfl (info82 _ _ _ _ _ _) ?_)
  (with_reducible refine (C4.out _).mono ?_)
  rintro e w10 ⟨rfl, o⟩
  replace O := Lib.hid (O.out.trans o)
  replace HM := Lib.hid (Blk.keep HM.out o id)
  replace HS := Lib.hid (Blk.keep HS.out o id)
  clear o
  have HN1 := Lib.hid (show Blk ((w10.alloc (.cells #[.int .i64 0, .int .u32 0, .int .u32 0, .int .u64 0, .string ⟨#[]⟩, .string ⟨#[]⟩, .string ⟨#[]⟩, .string ⟨#[]⟩, .string ⟨#[]⟩, .string ⟨#[]⟩, .string ⟨#[]⟩, .string ⟨#[]⟩, .string ⟨#[]⟩] 61)).alloc (.cells #[.string ⟨#[]⟩, .string ⟨#[]⟩] 92)) w10.heap.size 61 #[.int .i64 0, .int .u32 0, .int .u32 0, .int .u64 0, .string ⟨#[]⟩, .string ⟨#[]⟩, .string ⟨#[]⟩, .string ⟨#[]⟩, .string ⟨#[]⟩, .string ⟨#[]⟩, .string ⟨#[]⟩, .string ⟨#[]⟩, .string ⟨#[]⟩] from Blk.keep (Blk.new w10 61 #[.int .i64 0, .int .u32 0, .int .u32 0, .int .u64 0, .string ⟨#[]⟩, .string ⟨#[]⟩, .string ⟨#[]⟩, .string ⟨#[]⟩, .string ⟨#[]⟩, .string ⟨#[]⟩, .string ⟨#[]⟩, .string ⟨#[]⟩, .string ⟨#[]⟩]) ((Only.refl (fun _ => False) _).alloc (.cells #[.string ⟨#[]⟩, .string ⟨#[]⟩] 92)) id)
  have HN2 := Lib.hid (show Blk ((w10.alloc (.cells #[.int .i64 0, .int .u32 0, .int .u32 0, .int .u64 0, .string ⟨#[]⟩, .string ⟨#[]⟩, .string ⟨#[]⟩, .string ⟨#[]⟩, .string ⟨#[]⟩, .string ⟨#[]⟩, .string ⟨#[]⟩, .string ⟨#[]⟩, .string ⟨#[]⟩] 61)).alloc (.cells #[.string ⟨#[]⟩, .string ⟨#[]⟩] 92)) (w10.heap.size + 1) 92 #[.string ⟨#[]⟩, .string ⟨#[]⟩] from by have h := Blk.new (w10.alloc (.cells #[.int .i64 0, .int .u32 0, .int .u32 0, .int .u64 0, .string ⟨#[]⟩, .string ⟨#[]⟩, .string ⟨#[]⟩, .string ⟨#[]⟩, .string ⟨#[]⟩, .string ⟨#[]⟩, .string ⟨#[]⟩, .string ⟨#[]⟩, .string ⟨#[]⟩] 61)) 92 #[.string ⟨#[]⟩, .string ⟨#[]⟩]; simp only [World.size_alloc] at h; exact h)
  go_upto_region 8 with (first
    | (refine wpList_store_row rfl 61 (.tmp 22) (.tmp 86) rfl w10.heap.size n.row rfl rfl 61 _ HN1.out (info61 n) (size61 (zeroM 0) n) (one61 n) ?_)
    | (refine wpList_store_row rfl 92 (.tmp 23) (.tmp 87) rfl (w10.heap.size + 1) (keysV sd rc) rfl rfl 92 _ (Blk.off HN2.out _ (by omega)) (info92 _ _) rfl (one92 _ _) ?_))
  obtain ⟨V3, hZ⟩ : ∃ Z, Z = (((w10.alloc (.cells #[.int .i64 0, .int .u32 0, .int .u32 0, .int .u64 0, .string ⟨#[]⟩, .string ⟨#[]⟩, .string ⟨#[]⟩, .string ⟨#[]⟩, .string ⟨#[]⟩, .string ⟨#[]⟩, .string ⟨#[]⟩, .string ⟨#[]⟩, .string ⟨#[]⟩] 61)).alloc (.cells #[.string ⟨#[]⟩, .string ⟨#[]⟩] 92)).setRow w10.heap.size n.row).setRow (w10.heap.size + 1) (keysV sd rc) := ⟨_, rfl⟩
  obtain ⟨G3, hG⟩ : ∃ G, G = w10.heap.size := ⟨_, rfl⟩
  have oS : Only (fun _ => False) w10 V3 := by
    rw [hZ]
    exact Only.old (only_row (only_row ((((Only.refl (fun _ => False) _).alloc _).alloc _).mono fun _ h => h.elim) _ (Nat.le_refl _)) _ (Nat.le_succ _))
  have HNB := Lib.hid (show Blk V3 G3 61 n.row from by rw [hZ, hG]; exact Blk.off (Blk.row HN1.out _) _ (by omega))
  have HK := Lib.hid (show Blk V3 (G3 + 1) 92 (keysV sd rc) from by rw [hZ, hG]; exact Blk.row (Blk.off HN2.out _ (by omega)) _)
  rw [← hZ, ← hG]
  replace O := Lib.hid (O.out.trans oS)
  replace HM := Lib.hid (Blk.keep HM.out oS id)
  replace HS := Lib.hid (Blk.keep HS.out oS id)
  clear hZ hG HN1 HN2 oS
  clear HH
  go_wp2_with fail
  (with_reducible refine (I4.out _).mono ?_)
  rintro e w11 ⟨rfl, o⟩
  replace O := Lib.hid (O.out.trans o)
  replace HM := Lib.hid (Blk.keep HM.out o id)
  replace HS := Lib.hid (Blk.keep HS.out o id)
  replace HNB := Lib.hid (Blk.keep HNB.out o id)
  replace HK := Lib.hid (Blk.keep HK.out o id)
  clear o
  go_wp2_with fail
  (with_reducible refine (I5.out _).mono ?_)
  rintro e w12 ⟨rfl, o⟩
  replace O := Lib.hid (O.out.trans o)
  replace HM := Lib.hid (Blk.keep HM.out o id)
  replace HS := Lib.hid (Blk.keep HS.out o id)
  replace HNB := Lib.hid (Blk.keep HNB.out o id)
  replace HK := Lib.hid (Blk.keep HK.out o id)
  clear o
  go_upto_region 12 with fail
  obtain ⟨V4, hV⟩ : ∃ V, V = w12 := ⟨_, rfl⟩
  rw [← hV] at O HM HS HNB HK ⊢
  clear hV
  go_cut [25, 26, 27] (fun a b c wx => CutL V4 (.string em) (.string rc) (.string sd) a b c wx)
  case first =>
    have R := Lib.hid ((Only.refl (fun _ => False) V4).drew)
    go_region_held3 (fun w' => w'.cell? ⟨G1 + 1, 2, none⟩ = some (.string c3) ∧ w'.cell? ⟨G1 + 1, 3, none⟩ = some (.string h3)) (first | exact ⟨Blk.cell (Blk.keep HS.out R.out id) 2, Blk.cell (Blk.keep HS.out R.out id) 3⟩)
      (first
        | (go_at_call_of 40 f; (with_reducible refine Calls.mono (P1.out _) ?_); rintro e w7 ⟨rfl, o'⟩; have R := Lib.hid (R.out.trans o'); clear o')
        | (go_at_call_of 40 e; (with_reducible refine Calls.mono (P2.out _) ?_); rintro e w7 ⟨rfl, o'⟩; have R := Lib.hid (R.out.trans o'); clear o')
        | (go_at_call_of 40 s; (with_reducible refine Calls.mono (P3.out _) ?_); rintro e w7 ⟨rfl, o'⟩; have R := Lib.hid (R.out.trans o'); clear o')
        | (go_at_call_of 37 eph; (with_reducible refine Calls.mono (P4.out _) ?_); rintro e w7 ⟨rfl, o'⟩; have R := Lib.hid (R.out.trans o'); clear o')
        | (go_at_call_of 37 p; (with_reducible refine Calls.mono (P5.out _) ?_); rintro e w7 ⟨rfl, o'⟩; have R := Lib.hid (R.out.trans o'); clear o')
        | (go_at_call 73; (with_reducible refine Calls.mono (P6.out _) ?_); rintro e w7 ⟨rfl, o'⟩; have R := Lib.hid (R.out.trans o'); clear o'))
    all_goals
      go_wp2_with fail
      go_meet
      exact ⟨rfl, rfl, rfl, R.out⟩
  case rest =>
    obtain ⟨rfl, rfl, rfl, oc⟩ := hcut
    replace HM := Lib.hid (Blk.keep HM.out oc id)
    replace HS := Lib.hid (Blk.keep HS.out oc id)
    replace HNB := Lib.hid (Blk.keep HNB.out oc id)
    replace HK := Lib.hid (Blk.keep HK.out oc id)
    replace O := Lib.hid (O.out.trans oc)
    clear oc P2 P3 P4 P5 P6
    go_upto_region 13 with fail
    obtain ⟨V5, hV⟩ : ∃ V, V = wc := ⟨_, rfl⟩
    rw [← hV] at O HM HS HNB HK ⊢
    clear hV
    have R := Lib.hid ((Only.refl (fun _ => False) V5).drew)
    refine wp_region_held_drew (S := (fun w' => w'.cell? ⟨G3 + 1, 0, none⟩ = some (.string sd) ∧ w'.cell? ⟨G3 + 1, 1, none⟩ = some (.string rc) ∧ w'.cell? ⟨G3, 0, none⟩ = some (.int .i64 n.k) ∧ w'.cell? ⟨G3, 1, none⟩ = some (.int .u32 n.s) ∧ w'.cell? ⟨G3, 2, none⟩ = some (.int .u32 n.r) ∧ w'.cell? ⟨G3, 3, none⟩ = some (.int .u64 n.c) ∧ w'.cell? ⟨G3, 4, none⟩ = some (.string (n.t 4)) ∧ w'.cell? ⟨G3, 5, none⟩ = some (.string (n.t 5)) ∧ w'.cell? ⟨G3, 6, none⟩ = some (.string (n.t 6)) ∧ w'.cell? ⟨G3, 7, none⟩ = some (.string (n.t 7)) ∧ w'.cell? ⟨G3, 8, none⟩ = some (.string (n.t 8)) ∧ w'.cell? ⟨G3, 9, none⟩ = some (.string (n.t 9)) ∧ w'.cell? ⟨G3, 10, none⟩ = some (.string (n.t 10)) ∧ w'.cell? ⟨G3, 11, none⟩ = some (.string (n.t 11)) ∧ w'.cell? ⟨G3, 12, none⟩ = some (.string (n.t 12)))) (by kernel_rfl) ?_ (fun hHeld => ?_)
    · exact ⟨Blk.cell (Blk.keep HK.out R.out id) 0, Blk.cell (Blk.keep HK.out R.out id) 1, MsgAt.cells (show MsgAt _ G3 n from Blk.keep HNB.out R.out id)⟩
    refine rgA.tk 0 hHeld ?_
    refine rgA.tk 1 hHeld ?_
    refine rgA.tk 2 hHeld ?_
    refine rgA.tk 3 hHeld ?_
    refine rgA.tk 4 hHeld ?_
    refine rgA.tk 5 hHeld ?_
    refine rgA.tk 6 hHeld ?_
    refine rgA.tk 8 hHeld ?_
    refine rgA.rd 7 (fun K hK => ?_)
    go_simp
    (with_reducible refine (P1.out _).mono ?_)
    rintro e w2 ⟨rfl, o⟩
    replace R := Lib.hid (R.out.trans o)
    clear o
    go_wp2_with fail
    refine hK.out _ _ ?_ (fun hHeld => ?_)
    · exact ⟨Blk.cell (Blk.keep HK.out R.out id) 0, Blk.cell (Blk.keep HK.out R.out id) 1, MsgAt.cells (show MsgAt _ G3 n from Blk.keep HNB.out R.out id)⟩
    clear hK K
    try simp only [List.getElem_toArray, List.getElem_cons_succ, List.getElem_cons_zero, Act.put, List.setIfInBounds_toArray, List.set_cons_zero, List.set_cons_succ]
    refine rgA.rd 9 (fun K hK => ?_)
    go_simp
    obtain ⟨BS, hBS⟩ : ∃ g, g = w2.heap.size := ⟨_, rfl⟩
    obtain ⟨w9, hw9⟩ : ∃ z, z = w2.alloc (.cells #[.string ep2, .string em, .string ⟨#[48]⟩, .string ⟨#[48]⟩] 9) := ⟨_, rfl⟩
    rw [← hw9, ← hBS]
    have HS4 := Lib.hid (show w9.heap[BS]? = some (.cells #[.string ep2, .string em, .string ⟨#[48]⟩, .string ⟨#[48]⟩] 9 (0, 0)) from by rw [hw9, hBS]; exact heap_alloc_new w2 _)
    have oN : Only (fun _ => False) w2 w9 := by rw [hw9]; exact (Only.refl _ w2).alloc _
    replace HM := Lib.hid (Only.keep (R.out.trans oN) HM.out id)
    replace HS := Lib.hid (Only.keep (R.out.trans oN) HS.out id)
    replace HNB := Lib.hid (Only.keep (R.out.trans oN) HNB.out id)
    replace HK := Lib.hid (Only.keep (R.out.trans oN) HK.out id)
    replace O := Lib.hid (O.out.trans (R.out.trans oN))
    have R := Lib.hid (Only.refl (fun _ => False) w9)
    clear oN hw9 hBS
    obtain ⟨w2, hw2⟩ : ∃ z, z = w9 := ⟨_, rfl⟩
    rw [← hw2] at R O HM HS HNB HK HS4 ⊢
    clear hw2
    refine hK.out _ _ ?_ (fun hHeld => ?_)
    · exact ⟨Blk.cell (Blk.keep HK.out R.out id) 0, Blk.cell (Blk.keep HK.out R.out id) 1, MsgAt.cells (show MsgAt _ G3 n from Blk.keep HNB.out R.out id)⟩
    clear hK K
    try simp only [List.getElem_toArray, List.getElem_cons_succ, List.getElem_cons_zero, Act.put, List.setIfInBounds_toArray, List.set_cons_zero, List.set_cons_succ]
    refine rgA.rd 10 (fun K hK => ?_)
    go_simp
    (with_reducible refine (P7.out _ _ ?_).mono ?_)
    · exact Only.keep R.out HS4.out id
    rintro e w2 ⟨rfl, o⟩
    replace R := Lib.hid (R.out.trans o)
    clear o
    go_wp2_with fail
    refine hK.out _ _ ?_ (fun hHeld => ?_)
    · exact ⟨Blk.cell (Blk.keep HK.out R.out id) 0, Blk.cell (Blk.keep HK.out R.out id) 1, MsgAt.cells (show MsgAt _ G3 n from Blk.keep HNB.out R.out id)⟩
    clear hK K
    try simp only [List.getElem_toArray, List.getElem_cons_succ, List.getElem_cons_zero, Act.put, List.setIfInBounds_toArray, List.set_cons_zero, List.set_cons_succ]
    refine rgA.tk 11 hHeld ?_
    refine rgA.tk 12 hHeld ?_
    refine rgA.tk 13 hHeld ?_
    refine rgA.tk 14 hHeld ?_
    refine rgA.tk 15 hHeld ?_
    refine rgA.tk 16 hHeld ?_
    refine rgA.tk 17 hHeld ?_
    refine rgA.tk 18 hHeld ?_
    refine rgA.tk 19 hHeld ?_
    refine wpAnyH_done (by kernel_rfl) ?_ _
    clear hHeld
    replace O := Lib.hid (O.out.trans R.out)
    replace HM := Lib.hid (Blk.keep HM.out R.out id)
    replace HS := Lib.hid (Blk.keep HS.out R.out id)
    replace HNB := Lib.hid (Blk.keep HNB.out R.out id)
    replace HK := Lib.hid (Blk.keep HK.out R.out id)
    clear R HS4 E1 E2 P1 P7
    go_wp2_with (first | (refine wpList_load_row rfl 74 (.tmp 18) rfl (G1 + 1) rfl 74 (startV x e c3 h3) (0, 0) _ HS.out Try.underlying74 rfl (info74 _ _ _ _) ?_) | (refine wpList_load_row rfl 61 (.tmp 22) rfl G3 rfl 61 n.row (0, 0) _ HNB.out Try.underlying61 rfl (info61 n) ?_))
    (with_reducible refine (C7.out _).mono ?_)
    rintro e w13 ⟨rfl, o⟩
    replace O := Lib.hid (O.out.trans o)
    replace HM := Lib.hid (Blk.keep HM.out o id)
    replace HS := Lib.hid (Blk.keep HS.out o id)
    replace HNB := Lib.hid (Blk.keep HNB.out o id)
    replace HK := Lib.hid (Blk.keep HK.out o id)
    clear o
    have HN := Lib.hid (show (w13.alloc (.cells #[.string ⟨#[]⟩, .string ⟨#[]⟩] 92)).heap[w13.heap.size]? = some (.cells #[.string ⟨#[]⟩, .string ⟨#[]⟩] 92 (0, 0)) from heap_alloc_new w13 _)
    go_upto_region 16 with (refine wpList_store_row rfl 92 (.tmp 28) (.tmp 162) rfl w13.heap.size (keysV rc sd) rfl rfl 92 _ HN.out (info92 _ _) rfl (one92 _ _) ?_)
    obtain ⟨V6, hV6⟩ : ∃ Z, Z = (w13.alloc (.cells #[.string ⟨#[]⟩, .string ⟨#[]⟩] 92)).setRow w13.heap.size (keysV rc sd) := ⟨_, rfl⟩
    obtain ⟨G6, hG6⟩ : ∃ G, G = w13.heap.size := ⟨_, rfl⟩
    rw [← hV6, ← hG6]
    have HL := Lib.hid (show V6.heap[G6]? = some (.cells (keysV rc sd) 92 (0, 0)) from by rw [hV6, hG6]; exact setRow_heap _ _ _ _ _ _ HN.out)
    have oS : Only (fun _ => False) w13 V6 := by rw [hV6, World.setRow_alloc_new]; exact (Only.refl _ _).alloc _
    replace O := Lib.hid (O.out.trans oS)
    clear hV6 hG6 HN
    replace HL := Lib.hid (show Blk V6 G6 92 (keysV rc sd) from HL.out)
    replace HM := Lib.hid (Blk.keep HM.out oS id)
    replace HS := Lib.hid (Blk.keep HS.out oS id)
    replace HNB := Lib.hid (Blk.keep HNB.out oS id)
    replace HK := Lib.hid (Blk.keep HK.out oS id)
    clear oS
    have q0 := Blk.cell HL.out 0
    have q1 := Blk.cell HL.out 1
    simp only [keysV] at q0 q1
    go_upto_region 18 with fail
    clear q0 q1 E3 HL
    go_wp2_with (first | (refine wpList_load_row rfl 74 (.tmp 18) rfl (G1 + 1) rfl 74 (startV x e c3 h3) (0, 0) _ HS.out Try.underlying74 rfl (info74 _ _ _ _) ?_) | (refine wpList_load_row rfl 61 (.tmp 22) rfl G3 rfl 61 n.row (0, 0) _ HNB.out Try.underlying61 rfl (info61 n) ?_))
    (with_reducible refine (C8.out _).mono ?_)
    rintro e w14 ⟨rfl, o⟩
    replace O := Lib.hid (O.out.trans o)
    replace HM := Lib.hid (Blk.keep HM.out o id)
    replace HS := Lib.hid (Blk.keep HS.out o id)
    replace HNB := Lib.hid (Blk.keep HNB.out o id)
    replace HK := Lib.hid (Blk.keep HK.out o id)
    clear o
    have HN := Lib.hid (show (w14.alloc (.cells #[.string ⟨#[]⟩, .string ⟨#[]⟩] 92)).heap[w14.heap.size]? = some (.cells #[.string ⟨#[]⟩, .string ⟨#[]⟩] 92 (0, 0)) from heap_alloc_new w14 _)
    go_upto_region 19 with (refine wpList_store_row rfl 92 (.tmp 30) (.tmp 179) rfl w14.heap.size (keysV A D) rfl rfl 92 _ HN.out (info92 _ _) rfl (one92 _ _) ?_)
    obtain ⟨V7, hV7⟩ : ∃ Z, Z = (w14.alloc (.cells #[.string ⟨#[]⟩, .string ⟨#[]⟩] 92)).setRow w14.heap.size (keysV A D) := ⟨_, rfl⟩
    obtain ⟨G7, hG7⟩ : ∃ G, G = w14.heap.size := ⟨_, rfl⟩
    rw [← hV7, ← hG7]
    have HL := Lib.hid (show V7.heap[G7]? = some (.cells (keysV A D) 92 (0, 0)) from by rw [hV7, hG7]; exact setRow_heap _ _ _ _ _ _ HN.out)
    have oS : Only (fun _ => False) w14 V7 := by rw [hV7, World.setRow_alloc_new]; exact (Only.refl _ _).alloc _
    replace O := Lib.hid (O.out.trans oS)
    clear hV7 hG7 HN
    replace HL := Lib.hid (show Blk V7 G7 92 (keysV A D) from HL.out)
    replace HM := Lib.hid (Blk.keep HM.out oS id)
    replace HS := Lib.hid (Blk.keep HS.out oS id)
    replace HNB := Lib.hid (Blk.keep HNB.out oS id)
    replace HK := Lib.hid (Blk.keep HK.out oS id)
    clear oS
    clear HL HK
    go_cut [212] (fun a wx => CutB V7 false a wx)
    case first =>
      have O := Lib.hid (Only.refl (fun _ => False) V7)
      rcases HKK.out with ⟨rfl, rfl⟩ | ⟨rfl, hq1, rfl⟩ | ⟨rfl, hq1, rfl⟩
      case inl =>
        go_wp2_with fail
        (with_reducible refine (I6.out _).mono ?_)
        rintro e x1 ⟨rfl, o⟩
        replace O := Lib.hid (O.out.trans o)
        clear o
        go_wp2_with fail
        (with_reducible refine (I6.out _).mono ?_)
        rintro e x2 ⟨rfl, o⟩
        replace O := Lib.hid (O.out.trans o)
        clear o
        go_wp2_with fail
        (with_reducible refine (I6.out _).mono ?_)
        rintro e x3 ⟨rfl, o⟩
        replace O := Lib.hid (O.out.trans o)
        clear o
        go_wp2_with fail
        go_meet
        exact ⟨rfl, O.out⟩
      case inr.inl =>
        have g1 : (ot.toList == q.toList) = true := beq_iff_eq.2 (txt_list hq1)
        have g2 : (ot.toList = q.toList) = True := eq_true (txt_list hq1)
        clear hq1
        go_wp2_with fail
        (with_reducible refine (I6.out _).mono ?_)
        rintro e x1 ⟨rfl, o⟩
        replace O := Lib.hid (O.out.trans o)
        clear o
        go_wp2_with fail
        (with_reducible refine (I6.out _).mono ?_)
        rintro e x2 ⟨rfl, o⟩
        replace O := Lib.hid (O.out.trans o)
        clear o
        go_wp2_with fail
        (with_reducible refine (I6.out _).mono ?_)
        rintro e x3 ⟨rfl, o⟩
        replace O := Lib.hid (O.out.trans o)
        clear o
        go_wp2_with fail
        go_meet
        exact ⟨rfl, O.out⟩
      case inr.inr =>
        have g1 : (ot.toList == q.toList) = false := beq_eq_false_iff_ne.2 (fun h => hq1 (list_txt h))
        have g2 : (ot.toList = q.toList) = False := eq_false (fun h => hq1 (list_txt h))
        clear hq1
        go_wp2_with fail
        (with_reducible refine (I6.out _).mono ?_)
        rintro e x1 ⟨rfl, o⟩
        replace O := Lib.hid (O.out.trans o)
        clear o
        go_wp2_with fail
        (with_reducible refine (I6.out _).mono ?_)
        rintro e x2 ⟨rfl, o⟩
        replace O := Lib.hid (O.out.trans o)
        clear o
        go_wp2_with fail
        (with_reducible refine (I6.out _).mono ?_)
        rintro e x3 ⟨rfl, o⟩
        replace O := Lib.hid (O.out.trans o)
        clear o
        go_wp2_with fail
        go_meet
        exact ⟨rfl, O.out⟩
    case rest =>
      obtain ⟨rfl, oc⟩ := hcut
      replace HM := Lib.hid (Blk.keep HM.out oc id)
      replace HS := Lib.hid (Blk.keep HS.out oc id)
      replace HNB := Lib.hid (Blk.keep HNB.out oc id)
      replace O := Lib.hid (O.out.trans oc)
      clear oc I6 HKK
      go_upto_region 21 with fail
      obtain ⟨V8, hV⟩ : ∃ V, V = wc := ⟨_, rfl⟩
      rw [← hV] at O HM HS HNB ⊢
      clear hV
      have HLT := Lib.hid (show G1 < V8.heap.size ∧ G1 + 1 < V8.heap.size ∧ G3 < V8.heap.size ∧ w.heap.size ≤ V8.heap.size from ⟨Blk.lt HM.out, Blk.lt HS.out, Blk.lt HNB.out, O.out.size⟩)
      have HN := Lib.hid (show (V8.alloc (.cells #[.int .i64 0, .int .u32 0, .int .u32 0, .int .u64 0, .string ⟨#[]⟩, .string ⟨#[]⟩, .string ⟨#[]⟩, .string ⟨#[]⟩, .string ⟨#[]⟩, .string ⟨#[]⟩, .string ⟨#[]⟩, .string ⟨#[]⟩, .string ⟨#[]⟩] 61)).heap[V8.heap.size]? = some (.cells #[.int .i64 0, .int .u32 0, .int .u32 0, .int .u64 0, .string ⟨#[]⟩, .string ⟨#[]⟩, .string ⟨#[]⟩, .string ⟨#[]⟩, .string ⟨#[]⟩, .string ⟨#[]⟩, .string ⟨#[]⟩, .string ⟨#[]⟩, .string ⟨#[]⟩] 61 (0, 0)) from heap_alloc_new V8 _)
      go_upto_region 22 with (first
        | (refine wpList_load_row rfl 61 (.tmp 22) rfl G3 rfl 61 n.row (0, 0) _ HNB.out Try.underlying61 rfl (info61 n) ?_)
        | (refine wpList_store_row rfl 61 (.tmp 32) (.tmp 213) rfl V8.heap.size n.row rfl rfl 61 _ HN.out (info61 n) (size61 (zeroM 0) n) (one61 n) ?_))
      obtain ⟨V9, hV9⟩ : ∃ Z, Z = (V8.alloc (.cells #[.int .i64 0, .int .u32 0, .int .u32 0, .int .u64 0, .string ⟨#[]⟩, .string ⟨#[]⟩, .string ⟨#[]⟩, .string ⟨#[]⟩, .string ⟨#[]⟩, .string ⟨#[]⟩, .string ⟨#[]⟩, .string ⟨#[]⟩, .string ⟨#[]⟩] 61)).setRow V8.heap.size n.row := ⟨_, rfl⟩
      obtain ⟨G9, hG9⟩ : ∃ G, G = V8.heap.size := ⟨_, rfl⟩
      rw [← hV9, ← hG9]
      have HB := Lib.hid (show V9.heap[G9]? = some (.cells n.row 61 (0, 0)) from by rw [hV9, hG9]; exact setRow_heap _ _ _ _ _ _ HN.out)
      have oS : Only (fun _ => False) V8 V9 := by rw [hV9, World.setRow_alloc_new]; exact (Only.refl _ _).alloc _
      replace O := Lib.hid (O.out.trans oS)
      have HNE := Lib.hid (show G1 ≠ G9 ∧ G1 + 1 ≠ G9 ∧ G3 ≠ G9 ∧ w.heap.size ≤ G9 from by rw [hG9]; have := HLT.out; omega)
      clear hV9 hG9 HN
      replace HB := Lib.hid (show Blk V9 G9 61 n.row from HB.out)
      replace HM := Lib.hid (Blk.keep HM.out oS id)
      replace HS := Lib.hid (Blk.keep HS.out oS id)
      replace HNB := Lib.hid (Blk.keep HNB.out oS id)
      clear oS
      have r2 : V9.cell? ⟨G9, 2, none⟩ = some (.int .u32 n.r) := (MsgAt.nums (show MsgAt V9 G9 n from HB.out)).2.2.1
      have r3 : V9.frozen? ⟨G9, 2, none⟩ = false := Blk.free HB.out 2
      rw [HNR.out] at r2
      have ez : IntKind.u32.wrap (x + 1) = z := HZ.out.symm
      go_upto_region 23 with fail
      obtain ⟨Va, hVa⟩ : ∃ V, V = V9.setCell ⟨G9, 2, none⟩ (.int .u32 z) := ⟨_, rfl⟩
      have oV : Only (fun k => k = G9) V9 Va := by rw [hVa]; exact (Only.refl _ _).set rfl
      replace HB := Lib.hid (show Blk Va G9 61 n2.row from by rw [hVa, HN2.out]; exact MsgAt.putR (show MsgAt V9 G9 n from HB.out) z)
      rw [← hVa]
      replace HM := Lib.hid (Blk.keep HM.out oV HNE.out.1)
      replace HS := Lib.hid (Blk.keep HS.out oV HNE.out.2.1)
      replace HNB := Lib.hid (Blk.keep HNB.out oV HNE.out.2.2.1)
      replace O := Lib.hid (prQ.only_own O.out oV (fun i e => by rw [e]; exact HNE.out.2.2.2))
      clear hVa oV r2 r3 ez
      go_wp2_with (first | (refine wpList_load_row rfl 74 (.tmp 18) rfl (G1 + 1) rfl 74 (startV x e c3 h3) (0, 0) _ HS.out Try.underlying74 rfl (info74 _ _ _ _) ?_) | (refine wpList_load_row rfl 61 (.tmp 32) rfl G9 rfl 61 n2.row (0, 0) _ HB.out Try.underlying61 rfl (info61 n2) ?_))
      (with_reducible refine (C9.out _).mono ?_)
      rintro e w15 ⟨rfl, o⟩
      replace O := Lib.hid (O.out.trans o)
      replace HM := Lib.hid (Blk.keep HM.out o id)
      replace HS := Lib.hid (Blk.keep HS.out o id)
      replace HNB := Lib.hid (Blk.keep HNB.out o id)
      replace HB := Lib.hid (Blk.keep HB.out o id)
      clear o
      have HN := Lib.hid (show (w15.alloc (.cells #[.string ⟨#[]⟩, .string ⟨#[]⟩] 92)).heap[w15.heap.size]? = some (.cells #[.string ⟨#[]⟩, .string ⟨#[]⟩] 92 (0, 0)) from heap_alloc_new w15 _)
      go_upto_region 24 with (refine wpList_store_row rfl 92 (.tmp 33) (.tmp 224) rfl w15.heap.size (keysV ⟨#[]⟩ ⟨#[]⟩) rfl rfl 92 _ HN.out (info92 _ _) rfl (one92 _ _) ?_)
      obtain ⟨Vb, hVb⟩ : ∃ Z, Z = (w15.alloc (.cells #[.string ⟨#[]⟩, .string ⟨#[]⟩] 92)).setRow w15.heap.size (keysV ⟨#[]⟩ ⟨#[]⟩) := ⟨_, rfl⟩
      obtain ⟨Gb, hGb⟩ : ∃ G, G = w15.heap.size := ⟨_, rfl⟩
      rw [← hVb, ← hGb]
      have HL := Lib.hid (show Vb.heap[Gb]? = some (.cells (keysV ⟨#[]⟩ ⟨#[]⟩) 92 (0, 0)) from by rw [hVb, hGb]; exact setRow_heap _ _ _ _ _ _ HN.out)
      have oS : Only (fun _ => False) w15 Vb := by rw [hVb, World.setRow_alloc_new]; exact (Only.refl _ _).alloc _
      replace O := Lib.hid (O.out.trans oS)
      clear hVb hGb HN
      replace HL := Lib.hid (show Blk Vb Gb 92 (keysV ⟨#[]⟩ ⟨#[]⟩) from HL.out)
      replace HM := Lib.hid (Blk.keep HM.out oS id)
      replace HS := Lib.hid (Blk.keep HS.out oS id)
      replace HNB := Lib.hid (Blk.keep HNB.out oS id)
      replace HB := Lib.hid (Blk.keep HB.out oS id)
      clear oS
      clear HL
      go_upto_region 25 with (first
        | (refine wpList_load_row rfl 61 (.tmp 22) rfl G3 rfl 61 n.row (0, 0) _ HNB.out Try.underlying61 rfl (info61 n) ?_)
        | (refine wpList_store_row rfl 61 (.tmp 32) (.tmp 226) rfl G9 n.row rfl rfl 61 _ HB.out (info61 n) (size61 n2 n) (one61 n) ?_))
      obtain ⟨Vc, hVc⟩ : ∃ V, V = Vb.setRow G9 n.row := ⟨_, rfl⟩
      have oV : Only (fun k => k = G9) Vb Vc := by rw [hVc]; exact only_row (Only.refl _ _) _ rfl
      replace HB := Lib.hid (show Blk Vc G9 61 n.row from by rw [hVc]; exact Blk.row HB.out _)
      rw [← hVc]
      replace HM := Lib.hid (Blk.keep HM.out oV HNE.out.1)
      replace HS := Lib.hid (Blk.keep HS.out oV HNE.out.2.1)
      replace HNB := Lib.hid (Blk.keep HNB.out oV HNE.out.2.2.1)
      replace O := Lib.hid (prQ.only_own O.out oV (fun i e => by rw [e]; exact HNE.out.2.2.2))
      clear hVc oV
      have r2 : Vc.cell? ⟨G9, 7, none⟩ = some (.string (n.t 7)) := MsgAt.text (show MsgAt Vc G9 n from HB.out) (i := 7) (by decide) (by decide)
      have r3 : Vc.frozen? ⟨G9, 7, none⟩ = false := Blk.free HB.out 7
      go_upto_region 26 with fail
      obtain ⟨Vd, hVd⟩ : ∃ V, V = Vc.setCell ⟨G9, 7, none⟩ (.string ⟨#[110, 49]⟩) := ⟨_, rfl⟩
      have oV : Only (fun k => k = G9) Vc Vd := by rw [hVd]; exact (Only.refl _ _).set rfl
      replace HB := Lib.hid (show Blk Vd G9 61 n3.row from by rw [hVd, HN3.out]; exact MsgAt.put (show MsgAt Vc G9 n from HB.out) (by decide) (by decide) _)
      rw [← hVd]
      replace HM := Lib.hid (Blk.keep HM.out oV HNE.out.1)
      replace HS := Lib.hid (Blk.keep HS.out oV HNE.out.2.1)
      replace HNB := Lib.hid (Blk.keep HNB.out oV HNE.out.2.2.1)
      replace O := Lib.hid (prQ.only_own O.out oV (fun i e => by rw [e]; exact HNE.out.2.2.2))
      clear hVd oV r2 r3
      go_wp2_with (first | (refine wpList_load_row rfl 74 (.tmp 18) rfl (G1 + 1) rfl 74 (startV x e c3 h3) (0, 0) _ HS.out Try.underlying74 rfl (info74 _ _ _ _) ?_) | (refine wpList_load_row rfl 61 (.tmp 32) rfl G9 rfl 61 n3.row (0, 0) _ HB.out Try.underlying61 rfl (info61 n3) ?_))
      (with_reducible refine (C10.out _).mono ?_)
      rintro e w16 ⟨rfl, o⟩
      replace O := Lib.hid (O.out.trans o)
      replace HM := Lib.hid (Blk.keep HM.out o id)
      replace HS := Lib.hid (Blk.keep HS.out o id)
      replace HNB := Lib.hid (Blk.keep HNB.out o id)
      replace HB := Lib.hid (Blk.keep HB.out o id)
      clear o
      have HN := Lib.hid (show (w16.alloc (.cells #[.string ⟨#[]⟩, .string ⟨#[]⟩] 92)).heap[w16.heap.size]? = some (.cells #[.string ⟨#[]⟩, .string ⟨#[]⟩] 92 (0, 0)) from heap_alloc_new w16 _)
      go_upto_region 27 with (refine wpList_store_row rfl 92 (.tmp 35) (.tmp 234) rfl w16.heap.size (keysV ⟨#[]⟩ ⟨#[]⟩) rfl rfl 92 _ HN.out (info92 _ _) rfl (one92 _ _) ?_)
      obtain ⟨Ve, hVe⟩ : ∃ Z, Z = (w16.alloc (.cells #[.string ⟨#[]⟩, .string ⟨#[]⟩] 92)).setRow w16.heap.size (keysV ⟨#[]⟩ ⟨#[]⟩) := ⟨_, rfl⟩
      obtain ⟨Ge, hGe⟩ : ∃ G, G = w16.heap.size := ⟨_, rfl⟩
      rw [← hVe, ← hGe]
      have HL := Lib.hid (show Ve.heap[Ge]? = some (.cells (keysV ⟨#[]⟩ ⟨#[]⟩) 92 (0, 0)) from by rw [hVe, hGe]; exact setRow_heap _ _ _ _ _ _ HN.out)
      have oS : Only (fun _ => False) w16 Ve := by rw [hVe, World.setRow_alloc_new]; exact (Only.refl _ _).alloc _
      replace O := Lib.hid (O.out.trans oS)
      clear hVe hGe HN
      replace HL := Lib.hid (show Blk Ve Ge 92 (keysV ⟨#[]⟩ ⟨#[]⟩) from HL.out)
      replace HM := Lib.hid (Blk.keep HM.out oS id)
      replace HS := Lib.hid (Blk.keep HS.out oS id)
      replace HNB := Lib.hid (Blk.keep HNB.out oS id)
      replace HB := Lib.hid (Blk.keep HB.out oS id)
      clear oS
      clear HL
      go_wp2_with (first | (refine wpList_load_row rfl 74 (.tmp 18) rfl (G1 + 1) rfl 74 (startV x e c3 h3) (0, 0) _ HS.out Try.underlying74 rfl (info74 _ _ _ _) ?_) | (refine wpList_load_row rfl 61 (.tmp 17) rfl G1 rfl 61 m.row (0, 0) _ HM.out Try.underlying61 rfl (info61 m) ?_))
      (with_reducible refine (C11.out _).mono ?_)
      rintro e w17 ⟨rfl, o⟩
      replace O := Lib.hid (O.out.trans o)
      replace HM := Lib.hid (Blk.keep HM.out o id)
      replace HS := Lib.hid (Blk.keep HS.out o id)
      replace HNB := Lib.hid (Blk.keep HNB.out o id)
      replace HB := Lib.hid (Blk.keep HB.out o id)
      clear o
      have HN := Lib.hid (show (w17.alloc (.cells #[.string ⟨#[]⟩, .string ⟨#[]⟩] 92)).heap[w17.heap.size]? = some (.cells #[.string ⟨#[]⟩, .string ⟨#[]⟩] 92 (0, 0)) from heap_alloc_new w17 _)
      go_upto_region 28 with (refine wpList_store_row rfl 92 (.tmp 37) (.tmp 242) rfl w17.heap.size (keysV ⟨#[]⟩ ⟨#[]⟩) rfl rfl 92 _ HN.out (info92 _ _) rfl (one92 _ _) ?_)
      obtain ⟨Vf, hVf⟩ : ∃ Z, Z = (w17.alloc (.cells #[.string ⟨#[]⟩, .string ⟨#[]⟩] 92)).setRow w17.heap.size (keysV ⟨#[]⟩ ⟨#[]⟩) := ⟨_, rfl⟩
      obtain ⟨Gf, hGf⟩ : ∃ G, G = w17.heap.size := ⟨_, rfl⟩
      rw [← hVf, ← hGf]
      have HL := Lib.hid (show Vf.heap[Gf]? = some (.cells (keysV ⟨#[]⟩ ⟨#[]⟩) 92 (0, 0)) from by rw [hVf, hGf]; exact setRow_heap _ _ _ _ _ _ HN.out)
      have oS : Only (fun _ => False) w17 Vf := by rw [hVf, World.setRow_alloc_new]; exact (Only.refl _ _).alloc _
      replace O := Lib.hid (O.out.trans oS)
      clear hVf hGf HN
      replace HL := Lib.hid (show Blk Vf Gf 92 (keysV ⟨#[]⟩ ⟨#[]⟩) from HL.out)
      replace HM := Lib.hid (Blk.keep HM.out oS id)
      replace HS := Lib.hid (Blk.keep HS.out oS id)
      replace HNB := Lib.hid (Blk.keep HNB.out oS id)
      replace HB := Lib.hid (Blk.keep HB.out oS id)
      clear oS
      clear HL
      go_wp2_with fail
      go_ret
      exact ⟨rfl, O.out⟩


end Go.Proofs.Ytbjnejnjlidiaaa.noX
