/- Noise: the law on the Init. -/
import Derived.Test.YtbjnejnjlidiaaaNoS
import Derived.Test.YtbjnejnjlidiaaaNoGb
namespace Go.Proofs.Ytbjnejnjlidiaaa.noT
open Go.RowKit kit numA numB numC numD numE tmA tmB tmC tmD tmE trA trB prR prS prW prX tsA tsB tsF tsI wrA wrB wrC wrD wrE wrF wrG wrH wrI wrJ mkA maA maB maC noA noB noC noD noE tsG noF noG noH noJ noK noL noM noN noO noP noS noG noGb
set_option linter.unusedVariables false
set_option linter.unusedSimpArgs false

/-- A cell of a block. -/
def Cl (w : World) (g o : Nat) (v : Value) : Prop := g < w.heap.size ∧ w.cell? ⟨g, o, none⟩ = some v
theorem Cl.keep {w w' : World} {g o : Nat} {v : Value} {T : Nat → Prop} (h : Cl w g o v) (k : Only T w w') (hT : ¬ T g) : Cl w' g o v :=
  ⟨Nat.lt_of_lt_of_le h.1 k.size, (World.cell?_of_block (w := w) (a := ⟨g, o, none⟩) (k.block g h.1 hT)).trans h.2⟩
theorem Cl.off {w : World} {g o q : Nat} {v : Value} (h : Cl w g o v) (cs : Array Value) (hg : g ≠ q) : Cl (w.setRow q cs) g o v :=
  h.keep (T := fun k => k = q) (only_row (Only.refl _ _) cs rfl) hg
/-- What the document reads of a public key. -/
theorem read_pub {pk r : ByteArray} (hnd : trJ.ndOf pk.data.toList = ⟨5, 0, [], [r.data.toList]⟩) (hm : pk.size ≤ 10000000) (W : World) : Calls Try.prog 23 #[.string pk] W (fun e w' => Only (fun _ => False) W w' ∧ ∃ a n c g q c', e = .returned (.agg #[.int .i64 5, .int .u64 0, .slice a n c, .slice (some ⟨g, q, none⟩) 1 c']) ∧ Cl w' g q (.string r)) := by
  refine (trJ.read_nd pk W (Nat.le_trans hm (by decide))).mono ?_
  rintro e w' ⟨o, v, rfl, a, n, c, a', n', c', rfl, -, sl⟩
  rw [hnd] at sl ⊢
  obtain ⟨g, q, cc, hsl, -, hg, hc⟩ := sl_lits sl (by simp)
  injection hsl with q1 q2 q3
  subst q1 q2 q3
  have x0 := hc 0 (by simp)
  simp only [List.getD_cons_zero, List.map_cons, sv, Nat.add_zero] at x0
  refine ⟨o, a, n, c, g, q, c', rfl, hg, ?_⟩
  rw [x0, bytes_mk]

set_option maxRecDepth 100000 in
set_option maxHeartbeats 1600000 in
theorem nb_big (s e pk ot : ByteArray) (x : Int) (N : Nat) (w : World) (hb : bigN [s.data.toList, e.data.toList, pk.data.toList, ot.data.toList] = true) : Calls Try.prog 12 #[.string s, .string e, .string pk, .string ot, .int .u64 N, .int .u32 x] w (numA.Told w (.bool true)) := by
  have AW := Lib.hid (fun W => awake_any W)
  have BG := Lib.hid (fun W => (show Calls Try.prog 67 #[.slice (some ⟨W.heap.size, 0, none⟩) 4 4] (W.alloc (.cells #[.string s, .string e, .string pk, .string ot] 9)) (numA.Told W (.bool true)) from big_blk [s, e, pk, ot] true W (by simp) hb W.heap.size rfl))
  have O := Lib.hid (Only.refl (fun _ => False) w)
  clear hb
  go_enter Try.func12, Try.ntmps12
  go_wp2_with fail
  (with_reducible refine (AW.out _).mono ?_)
  rintro e w2 ⟨rfl, o⟩
  replace O := Lib.hid (O.out.trans o)
  clear o
  go_wp2_with fail
  (with_reducible refine (BG.out _).mono ?_)
  rintro e w3 ⟨rfl, o⟩
  replace O := Lib.hid (O.out.trans o)
  clear o
  go_wp2_with fail
  go_ret
  exact ⟨rfl, O.out⟩

set_option maxRecDepth 100000 in
set_option maxHeartbeats 4000000 in
theorem nb_no (s e pk ot : ByteArray) (x : Int) (N : Nat) (w : World) (hb : bigN [s.data.toList, e.data.toList, pk.data.toList, ot.data.toList] = false) (z1 : s.size ≤ 200) (z2 : e.size ≤ 200) (z3 : pk.size ≤ 200) (hn : ¬ (isT s.data.toList = true ∧ isT e.data.toList = true ∧ (trJ.ndOf pk.data.toList).k = 5)) : Calls Try.prog 12 #[.string s, .string e, .string pk, .string ot, .int .u64 N, .int .u32 x] w (numA.Told w (.bool true)) := by
  have AW := Lib.hid (fun W => awake_any W)
  have BG := Lib.hid (fun W => (show Calls Try.prog 67 #[.slice (some ⟨W.heap.size, 0, none⟩) 4 4] (W.alloc (.cells #[.string s, .string e, .string pk, .string ot] 9)) (numA.Told W (.bool false)) from big_blk [s, e, pk, ot] false W (by simp) hb W.heap.size rfl))
  have O := Lib.hid (Only.refl (fun _ => False) w)
  obtain ⟨b1, hb1⟩ : ∃ b, b = isT s.data.toList := ⟨_, rfl⟩
  obtain ⟨b2, hb2⟩ : ∃ b, b = isT e.data.toList := ⟨_, rfl⟩
  obtain ⟨k, hk⟩ : ∃ k, k = (trJ.ndOf pk.data.toList).k := ⟨_, rfl⟩
  have C1 := Lib.hid (fun W => (show Calls Try.prog 68 #[.string s, .string e, .string pk, .int .u64 N, .int .u32 x] W (numA.Told W (.tuple #[.agg (zeroM 0).row, .agg (startV 0 ⟨#[]⟩ ⟨#[]⟩ ⟨#[]⟩), .int .i64 3])) from by
    cases hc : [s, e].all (fun x => isT x.data.toList)
    · exact begin_1 s e pk N x W hc trivial (by omega) (by omega) (by omega)
    · refine begin_2 s e pk N x W hc ?_ (by omega) (by omega) (by omega)
      simp only [List.all_cons, List.all_nil, Bool.and_true, Bool.and_eq_true] at hc ⊢
      cases hq : pubB pk.data.toList
      · rfl
      · exact absurd ⟨hc.1, hc.2, by rw [pubB] at hq; exact beq_iff_eq.1 hq⟩ hn))
  have C2 := Lib.hid (fun W => trJ.read_nd pk W (by omega))
  have C3 := Lib.hid (fun W => (show Calls Try.prog 39 #[.string s] W (numA.Told W (.bool b1)) from by rw [hb1]; exact trJ.is_any s W (by omega)))
  have C4 := Lib.hid (fun W => (show Calls Try.prog 39 #[.string e] W (numA.Told W (.bool b2)) from by rw [hb2]; exact trJ.is_any e W (by omega)))
  have E1 := fun W => laid_eqlM (zeroM 0) (zeroM 0) W
  rw [(eqM_iff (zeroM 0) (zeroM 0)).2 ⟨rfl, rfl, rfl, rfl, rfl, rfl, rfl, rfl, rfl, rfl, rfl, rfl, rfl⟩] at E1
  have E2 := fun W => eql_eqSt 0 ⟨#[]⟩ ⟨#[]⟩ ⟨#[]⟩ 0 ⟨#[]⟩ ⟨#[]⟩ ⟨#[]⟩ W
  rw [(eqSt_iff 0 ⟨#[]⟩ ⟨#[]⟩ ⟨#[]⟩ 0 ⟨#[]⟩ ⟨#[]⟩ ⟨#[]⟩).2 ⟨rfl, rfl, rfl, rfl⟩] at E2
  have HK := Lib.hid hk
  have HN := Lib.hid (show ¬ (b1 = true ∧ b2 = true ∧ k = 5) from by rw [hb1, hb2, hk]; exact hn)
  clear hb hb1 hb2 hk hn z1 z2 z3
  simp only [mval, Msg.row, zeroM] at E1
  simp only [startV] at E2
  go_enter Try.func12, Try.ntmps12
  go_wp2_with fail
  (with_reducible refine (AW.out _).mono ?_)
  rintro e w2 ⟨rfl, o⟩
  replace O := Lib.hid (O.out.trans o)
  clear o
  go_wp2_with fail
  (with_reducible refine (BG.out _).mono ?_)
  rintro e w3 ⟨rfl, o⟩
  replace O := Lib.hid (O.out.trans o)
  clear o
  go_wp2_with fail
  (with_reducible refine (C1.out _).mono ?_)
  rintro e w4 ⟨rfl, o⟩
  replace O := Lib.hid (O.out.trans o)
  clear o
  have HN1 := Lib.hid (show Blk ((w4.alloc (.cells #[.int .i64 0, .int .u32 0, .int .u32 0, .int .u64 0, .string ⟨#[]⟩, .string ⟨#[]⟩, .string ⟨#[]⟩, .string ⟨#[]⟩, .string ⟨#[]⟩, .string ⟨#[]⟩, .string ⟨#[]⟩, .string ⟨#[]⟩, .string ⟨#[]⟩] 61)).alloc (.cells #[.int .u32 0, .string ⟨#[]⟩, .string ⟨#[]⟩, .string ⟨#[]⟩] 74)) w4.heap.size 61 #[.int .i64 0, .int .u32 0, .int .u32 0, .int .u64 0, .string ⟨#[]⟩, .string ⟨#[]⟩, .string ⟨#[]⟩, .string ⟨#[]⟩, .string ⟨#[]⟩, .string ⟨#[]⟩, .string ⟨#[]⟩, .string ⟨#[]⟩, .string ⟨#[]⟩] from Blk.keep (Blk.new w4 61 #[.int .i64 0, .int .u32 0, .int .u32 0, .int .u64 0, .string ⟨#[]⟩, .string ⟨#[]⟩, .string ⟨#[]⟩, .string ⟨#[]⟩, .string ⟨#[]⟩, .string ⟨#[]⟩, .string ⟨#[]⟩, .string ⟨#[]⟩, .string ⟨#[]⟩]) ((Only.refl (fun _ => False) _).alloc (.cells #[.int .u32 0, .string ⟨#[]⟩, .string ⟨#[]⟩, .string ⟨#[]⟩] 74)) id)
  have HN2 := Lib.hid (show Blk ((w4.alloc (.cells #[.int .i64 0, .int .u32 0, .int .u32 0, .int .u64 0, .string ⟨#[]⟩, .string ⟨#[]⟩, .string ⟨#[]⟩, .string ⟨#[]⟩, .string ⟨#[]⟩, .string ⟨#[]⟩, .string ⟨#[]⟩, .string ⟨#[]⟩, .string ⟨#[]⟩] 61)).alloc (.cells #[.int .u32 0, .string ⟨#[]⟩, .string ⟨#[]⟩, .string ⟨#[]⟩] 74)) (w4.heap.size + 1) 74 #[.int .u32 0, .string ⟨#[]⟩, .string ⟨#[]⟩, .string ⟨#[]⟩] from by have h := Blk.new (w4.alloc (.cells #[.int .i64 0, .int .u32 0, .int .u32 0, .int .u64 0, .string ⟨#[]⟩, .string ⟨#[]⟩, .string ⟨#[]⟩, .string ⟨#[]⟩, .string ⟨#[]⟩, .string ⟨#[]⟩, .string ⟨#[]⟩, .string ⟨#[]⟩, .string ⟨#[]⟩] 61)) 74 #[.int .u32 0, .string ⟨#[]⟩, .string ⟨#[]⟩, .string ⟨#[]⟩]; simp only [World.size_alloc] at h; exact h)
  go_upto_region 6 with (first
    | (refine wpList_store_row rfl 61 (.tmp 13) (.tmp 38) rfl w4.heap.size (zeroM 0).row rfl rfl 61 _ HN1.out (info61 (zeroM 0)) rfl (one61 (zeroM 0)) ?_)
    | (refine wpList_store_row rfl 74 (.tmp 14) (.tmp 39) rfl (w4.heap.size + 1) (startV 0 ⟨#[]⟩ ⟨#[]⟩ ⟨#[]⟩) rfl rfl 74 _ (Blk.off HN2.out _ (by omega)) (info74 0 ⟨#[]⟩ ⟨#[]⟩ ⟨#[]⟩) rfl (by simp [startV, Value.oneCell']) ?_))
  obtain ⟨V1, hZ⟩ : ∃ Z, Z = (((w4.alloc (.cells #[.int .i64 0, .int .u32 0, .int .u32 0, .int .u64 0, .string ⟨#[]⟩, .string ⟨#[]⟩, .string ⟨#[]⟩, .string ⟨#[]⟩, .string ⟨#[]⟩, .string ⟨#[]⟩, .string ⟨#[]⟩, .string ⟨#[]⟩, .string ⟨#[]⟩] 61)).alloc (.cells #[.int .u32 0, .string ⟨#[]⟩, .string ⟨#[]⟩, .string ⟨#[]⟩] 74)).setRow w4.heap.size (zeroM 0).row).setRow (w4.heap.size + 1) (startV 0 ⟨#[]⟩ ⟨#[]⟩ ⟨#[]⟩) := ⟨_, rfl⟩
  obtain ⟨G1, hG⟩ : ∃ G, G = w4.heap.size := ⟨_, rfl⟩
  have oS : Only (fun _ => False) w4 V1 := by
    rw [hZ]
    exact Only.old (only_row (only_row ((((Only.refl (fun _ => False) _).alloc _).alloc _).mono fun _ h => h.elim) _ (Nat.le_refl _)) _ (Nat.le_succ _))
  have HM := Lib.hid (show Blk V1 G1 61 (zeroM 0).row from by rw [hZ, hG]; exact Blk.off (Blk.row HN1.out _) _ (by omega))
  have HS := Lib.hid (show Blk V1 (G1 + 1) 74 (startV 0 ⟨#[]⟩ ⟨#[]⟩ ⟨#[]⟩) from by rw [hZ, hG]; exact Blk.row (Blk.off HN2.out _ (by omega)) _)
  rw [← hZ, ← hG]
  replace O := Lib.hid (O.out.trans oS)
  clear hZ hG HN1 HN2 oS
  go_wp2_with fail
  (with_reducible refine (C2.out _).mono ?_)
  rintro e w5 ⟨o, vv, rfl, a, n, c, a', n', c', rfl, -, -⟩
  replace O := Lib.hid (O.out.trans o)
  replace HM := Lib.hid (Blk.keep HM.out o id)
  replace HS := Lib.hid (Blk.keep HS.out o id)
  clear o
  rw [← HK.out]
  go_upto_region 7 with fail
  obtain ⟨V2, hZ⟩ : ∃ Z, Z = w5.alloc (.cells #[.int .i64 k, .int .u64 (trJ.ndOf pk.data.toList).n, .slice a n c, .slice a' n' c'] 27) := ⟨_, rfl⟩
  obtain ⟨G2, hG⟩ : ∃ G, G = w5.heap.size := ⟨_, rfl⟩
  have oS : Only (fun _ => False) w5 V2 := by rw [hZ]; exact (Only.refl _ _).alloc _
  have HD := Lib.hid (show Blk V2 G2 27 #[.int .i64 k, .int .u64 (trJ.ndOf pk.data.toList).n, .slice a n c, .slice a' n' c'] from by rw [hZ, hG]; exact Blk.new w5 27 _)
  rw [← hZ, ← hG]
  replace O := Lib.hid (O.out.trans oS)
  replace HM := Lib.hid (Blk.keep HM.out oS id)
  replace HS := Lib.hid (Blk.keep HS.out oS id)
  clear hZ hG oS
  go_wp2_with fail
  (with_reducible refine (C3.out _).mono ?_)
  rintro e w6 ⟨rfl, o⟩
  replace O := Lib.hid (O.out.trans o)
  replace HM := Lib.hid (Blk.keep HM.out o id)
  replace HS := Lib.hid (Blk.keep HS.out o id)
  replace HD := Lib.hid (Blk.keep HD.out o id)
  clear o
  cases b1
  case false =>
    obtain ⟨d0, d1, d2, d3, d4, d5, d6, d7, d8, d9, d10, d11, d12⟩ := MsgAt.cells (show MsgAt _ G1 (zeroM 0) from HM.out)
    simp only [zeroM] at d0 d1 d2 d3 d4 d5 d6 d7 d8 d9 d10 d11 d12
    have q0 := Blk.cell HS.out 0
    have q1 := Blk.cell HS.out 1
    have q2 := Blk.cell HS.out 2
    have q3 := Blk.cell HS.out 3
    simp only [startV] at q0 q1 q2 q3
    go_wp2_with fail
    go_ret
    exact ⟨rfl, O.out⟩
  go_wp2_with fail
  (with_reducible refine (C4.out _).mono ?_)
  rintro e w7 ⟨rfl, o⟩
  replace O := Lib.hid (O.out.trans o)
  replace HM := Lib.hid (Blk.keep HM.out o id)
  replace HS := Lib.hid (Blk.keep HS.out o id)
  replace HD := Lib.hid (Blk.keep HD.out o id)
  clear o
  cases b2
  case false =>
    obtain ⟨d0, d1, d2, d3, d4, d5, d6, d7, d8, d9, d10, d11, d12⟩ := MsgAt.cells (show MsgAt _ G1 (zeroM 0) from HM.out)
    simp only [zeroM] at d0 d1 d2 d3 d4 d5 d6 d7 d8 d9 d10 d11 d12
    have q0 := Blk.cell HS.out 0
    have q1 := Blk.cell HS.out 1
    have q2 := Blk.cell HS.out 2
    have q3 := Blk.cell HS.out 3
    simp only [startV] at q0 q1 q2 q3
    go_wp2_with fail
    go_ret
    exact ⟨rfl, O.out⟩
  have f0 : w7.cell? ⟨G2, 0, none⟩ = some (.int .i64 (k : Nat)) := Blk.cell HD.out 0
  have k5 : ((k : Int) != 5) = true := by
    rw [bne_iff_ne]
    intro h
    exact HN.out ⟨by trivial, by trivial, by omega⟩
  obtain ⟨d0, d1, d2, d3, d4, d5, d6, d7, d8, d9, d10, d11, d12⟩ := MsgAt.cells (show MsgAt _ G1 (zeroM 0) from HM.out)
  simp only [zeroM] at d0 d1 d2 d3 d4 d5 d6 d7 d8 d9 d10 d11 d12
  have q0 := Blk.cell HS.out 0
  have q1 := Blk.cell HS.out 1
  have q2 := Blk.cell HS.out 2
  have q3 := Blk.cell HS.out 3
  simp only [startV] at q0 q1 q2 q3
  go_wp2_with fail
  go_ret
  exact ⟨rfl, O.out⟩

def CutH (V : World) (hv : Array Value) (a b : Value) (wx : World) : Prop := ∃ G, a = .pointer (some ⟨G, 0, none⟩) ∧ b = .int .i64 0 ∧ Blk wx G 82 hv ∧ V.heap.size ≤ G ∧ Only (fun _ => False) V wx
theorem list_txt {a b : ByteArray} (h : a.toList = b.toList) : a.data.toList = b.data.toList := by rw [← ByteArray.toList_eq, ← ByteArray.toList_eq, h]
theorem txt_list {a b : ByteArray} (h : a.data.toList = b.data.toList) : a.toList = b.toList := by rw [ByteArray.toList_eq, ByteArray.toList_eq, h]
set_option maxRecDepth 100000 in
set_option maxHeartbeats 8000000 in
theorem nb_ok (s e pk ot r : ByteArray) (x : Int) (N : Nat) (w : World) (hb : bigN [s.data.toList, e.data.toList, pk.data.toList, ot.data.toList] = false) (hN : N ≤ most) (hs : Ok s.data.toList 250) (he : Ok e.data.toList 250) (hr : Ok r.data.toList 250) (hto : pk.data.toList = pubT r.data.toList) (z1 : s.size ≤ 200) (z2 : e.size ≤ 200) (z3 : pk.size ≤ 200) (z4 : ot.size ≤ 200) : Calls Try.prog 12 #[.string s, .string e, .string pk, .string ot, .int .u64 N, .int .u32 x] w (numA.Told w (.bool true)) := by
  have AW := Lib.hid (fun W => awake_any W)
  have BG := Lib.hid (fun W => (show Calls Try.prog 67 #[.slice (some ⟨W.heap.size, 0, none⟩) 4 4] (W.alloc (.cells #[.string s, .string e, .string pk, .string ot] 9)) (numA.Told W (.bool false)) from big_blk [s, e, pk, ot] false W (by simp) hb W.heap.size rfl))
  have O := Lib.hid (Only.refl (fun _ => False) w)
  obtain ⟨eph, u, c1, h1, k1, p, st, c2, h2, u2, k2, nb, se, c3, h3, hB⟩ := beg_ex s e pk N
  obtain ⟨m, hm⟩ : ∃ m, m = initM x eph st se := ⟨_, rfl⟩
  have hm4 : m.t 4 = eph := by rw [hm]; rfl
  have hp3 : Ok pk.data.toList 253 := by rw [hto]; exact (ok_pub hr (by decide)).1
  have hpp : pubB pk.data.toList = true := by rw [hto]; exact pubB_of hr (by decide)
  have hnd : trJ.ndOf pk.data.toList = ⟨5, 0, [], [r.data.toList]⟩ := by
    have h := (ok_pub hr (by decide)).2
    rw [← hto] at h
    exact h
  have C1 := Lib.hid (fun W => (show Calls Try.prog 68 #[.string s, .string e, .string pk, .int .u64 N, .int .u32 x] W (numA.Told W (.tuple #[.agg m.row, .agg (startV x e c3 h3), .int .i64 0])) from by rw [hm]; exact begin_told x W hB hN hs he hp3 hpp))
  have C2 := Lib.hid (fun W => read_pub (r := r) hnd (by omega) W)
  have C3 := Lib.hid (fun W => (show Calls Try.prog 39 #[.string s] W (numA.Told W (.bool true)) from by rw [← hs.1]; exact trJ.is_any s W (by omega)))
  have C4 := Lib.hid (fun W => (show Calls Try.prog 39 #[.string e] W (numA.Told W (.bool true)) from by rw [← he.1]; exact trJ.is_any e W (by omega)))
  have C5 := Lib.hid (fun W => (show Calls Try.prog 69 #[.string s, .string e, .string pk, .int .u64 N, .int .u32 x] W (numA.Told W (.tuple #[.agg m.row, .agg (chainV c3 h3)])) from by rw [hm]; exact refbegin_ok s e pk N x eph u c1 h1 k1 p st c2 h2 u2 k2 nb se c3 h3 W hN hB (by omega) (by omega) (by omega)))
  have C6 := Lib.hid (fun W => (show Calls Try.prog 70 #[.string r, .agg m.row] W (numA.Told W (.tuple #[.agg (heardV x p N (m.t 4) c3 h3), .int .i64 0])) from by rw [hm4, hm]; exact hear_told x W hB hN hs he hr hto))
  have C7 := Lib.hid (fun W => told_str (b := p) hB.e_p (pub_any s W (by omega)))
  obtain ⟨bo, hbo⟩ : ∃ b, b = isT ot.data.toList := ⟨_, rfl⟩
  have C8 := Lib.hid (fun W => (show Calls Try.prog 39 #[.string ot] W (numA.Told W (.bool bo)) from by rw [hbo]; exact trJ.is_any ot W (by omega)))
  have C9 := Lib.hid (fun W (ho : true = bo) (hne : ot.data.toList ≠ r.data.toList) => (show Calls Try.prog 70 #[.string ot, .agg m.row] W (numA.Told W (.tuple #[.agg (heardV 0 ⟨#[]⟩ 0 ⟨#[]⟩ ⟨#[]⟩ ⟨#[]⟩), .int .i64 8])) from by rw [hm]; exact hear_other x W hB hN hs he hr hto ⟨by rw [← hbo, ← ho], by rw [tl_size]; omega⟩ hne))
  have E1 := fun W => laid_neqM m m W
  rw [(eqM_iff m m).2 ⟨rfl, rfl, rfl, rfl, rfl, rfl, rfl, rfl, rfl, rfl, rfl, rfl, rfl⟩] at E1
  simp only [mval, Msg.row, Bool.not_true] at E1
  have E2 := fun W => neq_eqSt x e c3 h3 x e c3 h3 W
  rw [(eqSt_iff x e c3 h3 x e c3 h3).2 ⟨rfl, rfl, rfl, rfl⟩] at E2
  simp only [startV, Bool.not_true] at E2
  have E3 := fun W => neq_eqHd x p N (m.t 4) c3 h3 x p N (m.t 4) c3 h3 W
  rw [(eqHd_iff x p N (m.t 4) c3 h3 x p N (m.t 4) c3 h3).2 ⟨rfl, rfl, rfl, rfl, rfl, rfl⟩] at E3
  simp only [heardV, Bool.not_true] at E3
  simp only [Msg.row] at C6
  clear hb hm hm4 hp3 hpp hnd hB hN hs he hr hto z1 z2 z3 z4 hbo
  go_enter Try.func12, Try.ntmps12
  go_wp2_with fail
  (with_reducible refine (AW.out _).mono ?_)
  rintro e w2 ⟨rfl, o⟩
  replace O := Lib.hid (O.out.trans o)
  clear o
  go_wp2_with fail
  (with_reducible refine (BG.out _).mono ?_)
  rintro e w3 ⟨rfl, o⟩
  replace O := Lib.hid (O.out.trans o)
  clear o
  go_wp2_with fail
  (with_reducible refine (C1.out _).mono ?_)
  rintro e w4 ⟨rfl, o⟩
  replace O := Lib.hid (O.out.trans o)
  clear o
  have HN1 := Lib.hid (show Blk ((w4.alloc (.cells #[.int .i64 0, .int .u32 0, .int .u32 0, .int .u64 0, .string ⟨#[]⟩, .string ⟨#[]⟩, .string ⟨#[]⟩, .string ⟨#[]⟩, .string ⟨#[]⟩, .string ⟨#[]⟩, .string ⟨#[]⟩, .string ⟨#[]⟩, .string ⟨#[]⟩] 61)).alloc (.cells #[.int .u32 0, .string ⟨#[]⟩, .string ⟨#[]⟩, .string ⟨#[]⟩] 74)) w4.heap.size 61 #[.int .i64 0, .int .u32 0, .int .u32 0, .int .u64 0, .string ⟨#[]⟩, .string ⟨#[]⟩, .string ⟨#[]⟩, .string ⟨#[]⟩, .string ⟨#[]⟩, .string ⟨#[]⟩, .string ⟨#[]⟩, .string ⟨#[]⟩, .string ⟨#[]⟩] from Blk.keep (Blk.new w4 61 #[.int .i64 0, .int .u32 0, .int .u32 0, .int .u64 0, .string ⟨#[]⟩, .string ⟨#[]⟩, .string ⟨#[]⟩, .string ⟨#[]⟩, .string ⟨#[]⟩, .string ⟨#[]⟩, .string ⟨#[]⟩, .string ⟨#[]⟩, .string ⟨#[]⟩]) ((Only.refl (fun _ => False) _).alloc (.cells #[.int .u32 0, .string ⟨#[]⟩, .string ⟨#[]⟩, .string ⟨#[]⟩] 74)) id)
  have HN2 := Lib.hid (show Blk ((w4.alloc (.cells #[.int .i64 0, .int .u32 0, .int .u32 0, .int .u64 0, .string ⟨#[]⟩, .string ⟨#[]⟩, .string ⟨#[]⟩, .string ⟨#[]⟩, .string ⟨#[]⟩, .string ⟨#[]⟩, .string ⟨#[]⟩, .string ⟨#[]⟩, .string ⟨#[]⟩] 61)).alloc (.cells #[.int .u32 0, .string ⟨#[]⟩, .string ⟨#[]⟩, .string ⟨#[]⟩] 74)) (w4.heap.size + 1) 74 #[.int .u32 0, .string ⟨#[]⟩, .string ⟨#[]⟩, .string ⟨#[]⟩] from by have h := Blk.new (w4.alloc (.cells #[.int .i64 0, .int .u32 0, .int .u32 0, .int .u64 0, .string ⟨#[]⟩, .string ⟨#[]⟩, .string ⟨#[]⟩, .string ⟨#[]⟩, .string ⟨#[]⟩, .string ⟨#[]⟩, .string ⟨#[]⟩, .string ⟨#[]⟩, .string ⟨#[]⟩] 61)) 74 #[.int .u32 0, .string ⟨#[]⟩, .string ⟨#[]⟩, .string ⟨#[]⟩]; simp only [World.size_alloc] at h; exact h)
  go_upto_region 6 with (first
    | (refine wpList_store_row rfl 61 (.tmp 13) (.tmp 38) rfl w4.heap.size m.row rfl rfl 61 _ HN1.out (info61 m) (size61 (zeroM 0) m) (one61 m) ?_)
    | (refine wpList_store_row rfl 74 (.tmp 14) (.tmp 39) rfl (w4.heap.size + 1) (startV x e c3 h3) rfl rfl 74 _ (Blk.off HN2.out _ (by omega)) (info74 _ _ _ _) rfl (by simp [startV, Value.oneCell']) ?_))
  obtain ⟨V1, hZ⟩ : ∃ Z, Z = (((w4.alloc (.cells #[.int .i64 0, .int .u32 0, .int .u32 0, .int .u64 0, .string ⟨#[]⟩, .string ⟨#[]⟩, .string ⟨#[]⟩, .string ⟨#[]⟩, .string ⟨#[]⟩, .string ⟨#[]⟩, .string ⟨#[]⟩, .string ⟨#[]⟩, .string ⟨#[]⟩] 61)).alloc (.cells #[.int .u32 0, .string ⟨#[]⟩, .string ⟨#[]⟩, .string ⟨#[]⟩] 74)).setRow w4.heap.size m.row).setRow (w4.heap.size + 1) (startV x e c3 h3) := ⟨_, rfl⟩
  obtain ⟨G1, hG⟩ : ∃ G, G = w4.heap.size := ⟨_, rfl⟩
  have oS : Only (fun _ => False) w4 V1 := by
    rw [hZ]
    exact Only.old (only_row (only_row ((((Only.refl (fun _ => False) _).alloc _).alloc _).mono fun _ h => h.elim) _ (Nat.le_refl _)) _ (Nat.le_succ _))
  have HM := Lib.hid (show Blk V1 G1 61 m.row from by rw [hZ, hG]; exact Blk.off (Blk.row HN1.out _) _ (by omega))
  have HS := Lib.hid (show Blk V1 (G1 + 1) 74 (startV x e c3 h3) from by rw [hZ, hG]; exact Blk.row (Blk.off HN2.out _ (by omega)) _)
  rw [← hZ, ← hG]
  replace O := Lib.hid (O.out.trans oS)
  clear hZ hG HN1 HN2 oS
  go_wp2_with fail
  (with_reducible refine (C2.out _).mono ?_)
  rintro e w5 ⟨o, a, n, c, g, q, c', rfl, hcl⟩
  replace O := Lib.hid (O.out.trans o)
  replace HM := Lib.hid (Blk.keep HM.out o id)
  replace HS := Lib.hid (Blk.keep HS.out o id)
  have HR := Lib.hid hcl
  clear hcl
  clear o
  go_upto_region 7 with fail
  obtain ⟨V2, hZ⟩ : ∃ Z, Z = w5.alloc (.cells #[.int .i64 5, .int .u64 0, .slice a n c, .slice (some ⟨g, q, none⟩) 1 c'] 27) := ⟨_, rfl⟩
  obtain ⟨G2, hG⟩ : ∃ G, G = w5.heap.size := ⟨_, rfl⟩
  have oS : Only (fun _ => False) w5 V2 := by rw [hZ]; exact (Only.refl _ _).alloc _
  have HD := Lib.hid (show Blk V2 G2 27 #[.int .i64 5, .int .u64 0, .slice a n c, .slice (some ⟨g, q, none⟩) 1 c'] from by rw [hZ, hG]; exact Blk.new w5 27 _)
  rw [← hZ, ← hG]
  replace O := Lib.hid (O.out.trans oS)
  replace HM := Lib.hid (Blk.keep HM.out oS id)
  replace HS := Lib.hid (Blk.keep HS.out oS id)
  replace HR := Lib.hid (Cl.keep HR.out oS id)
  clear hZ hG oS
  go_wp2_with fail
  (with_reducible refine (C3.out _).mono ?_)
  rintro e w6 ⟨rfl, o⟩
  replace O := Lib.hid (O.out.trans o)
  replace HM := Lib.hid (Blk.keep HM.out o id)
  replace HS := Lib.hid (Blk.keep HS.out o id)
  replace HD := Lib.hid (Blk.keep HD.out o id)
  replace HR := Lib.hid (Cl.keep HR.out o id)
  clear o
  go_wp2_with fail
  (with_reducible refine (C4.out _).mono ?_)
  rintro e w7 ⟨rfl, o⟩
  replace O := Lib.hid (O.out.trans o)
  replace HM := Lib.hid (Blk.keep HM.out o id)
  replace HS := Lib.hid (Blk.keep HS.out o id)
  replace HD := Lib.hid (Blk.keep HD.out o id)
  replace HR := Lib.hid (Cl.keep HR.out o id)
  clear o
  have f0 := Blk.cell HD.out 0
  go_wp2_with fail
  (with_reducible refine (C5.out _).mono ?_)
  rintro e w8 ⟨rfl, o⟩
  replace O := Lib.hid (O.out.trans o)
  replace HM := Lib.hid (Blk.keep HM.out o id)
  replace HS := Lib.hid (Blk.keep HS.out o id)
  replace HD := Lib.hid (Blk.keep HD.out o id)
  replace HR := Lib.hid (Cl.keep HR.out o id)
  clear o
  clear f0
  have HN1 := Lib.hid (show Blk ((w8.alloc (.cells #[.int .i64 0, .int .u32 0, .int .u32 0, .int .u64 0, .string ⟨#[]⟩, .string ⟨#[]⟩, .string ⟨#[]⟩, .string ⟨#[]⟩, .string ⟨#[]⟩, .string ⟨#[]⟩, .string ⟨#[]⟩, .string ⟨#[]⟩, .string ⟨#[]⟩] 61)).alloc (.cells #[.string ⟨#[]⟩, .string ⟨#[]⟩] 78)) w8.heap.size 61 #[.int .i64 0, .int .u32 0, .int .u32 0, .int .u64 0, .string ⟨#[]⟩, .string ⟨#[]⟩, .string ⟨#[]⟩, .string ⟨#[]⟩, .string ⟨#[]⟩, .string ⟨#[]⟩, .string ⟨#[]⟩, .string ⟨#[]⟩, .string ⟨#[]⟩] from Blk.keep (Blk.new w8 61 #[.int .i64 0, .int .u32 0, .int .u32 0, .int .u64 0, .string ⟨#[]⟩, .string ⟨#[]⟩, .string ⟨#[]⟩, .string ⟨#[]⟩, .string ⟨#[]⟩, .string ⟨#[]⟩, .string ⟨#[]⟩, .string ⟨#[]⟩, .string ⟨#[]⟩]) ((Only.refl (fun _ => False) _).alloc (.cells #[.string ⟨#[]⟩, .string ⟨#[]⟩] 78)) id)
  have HN2 := Lib.hid (show Blk ((w8.alloc (.cells #[.int .i64 0, .int .u32 0, .int .u32 0, .int .u64 0, .string ⟨#[]⟩, .string ⟨#[]⟩, .string ⟨#[]⟩, .string ⟨#[]⟩, .string ⟨#[]⟩, .string ⟨#[]⟩, .string ⟨#[]⟩, .string ⟨#[]⟩, .string ⟨#[]⟩] 61)).alloc (.cells #[.string ⟨#[]⟩, .string ⟨#[]⟩] 78)) (w8.heap.size + 1) 78 #[.string ⟨#[]⟩, .string ⟨#[]⟩] from by have h := Blk.new (w8.alloc (.cells #[.int .i64 0, .int .u32 0, .int .u32 0, .int .u64 0, .string ⟨#[]⟩, .string ⟨#[]⟩, .string ⟨#[]⟩, .string ⟨#[]⟩, .string ⟨#[]⟩, .string ⟨#[]⟩, .string ⟨#[]⟩, .string ⟨#[]⟩, .string ⟨#[]⟩] 61)) 78 #[.string ⟨#[]⟩, .string ⟨#[]⟩]; simp only [World.size_alloc] at h; exact h)
  go_upto_region 10 with (first
    | (refine wpList_store_row rfl 61 (.tmp 17) (.tmp 75) rfl w8.heap.size m.row rfl rfl 61 _ HN1.out (info61 m) (size61 (zeroM 0) m) (one61 m) ?_)
    | (refine wpList_store_row rfl 78 (.tmp 18) (.tmp 76) rfl (w8.heap.size + 1) (chainV c3 h3) rfl rfl 78 _ (Blk.off HN2.out _ (by omega)) (info78 _ _) rfl (one78 _ _) ?_))
  obtain ⟨V3, hZ⟩ : ∃ Z, Z = (((w8.alloc (.cells #[.int .i64 0, .int .u32 0, .int .u32 0, .int .u64 0, .string ⟨#[]⟩, .string ⟨#[]⟩, .string ⟨#[]⟩, .string ⟨#[]⟩, .string ⟨#[]⟩, .string ⟨#[]⟩, .string ⟨#[]⟩, .string ⟨#[]⟩, .string ⟨#[]⟩] 61)).alloc (.cells #[.string ⟨#[]⟩, .string ⟨#[]⟩] 78)).setRow w8.heap.size m.row).setRow (w8.heap.size + 1) (chainV c3 h3) := ⟨_, rfl⟩
  obtain ⟨G3, hG⟩ : ∃ G, G = w8.heap.size := ⟨_, rfl⟩
  have oS : Only (fun _ => False) w8 V3 := by
    rw [hZ]
    exact Only.old (only_row (only_row ((((Only.refl (fun _ => False) _).alloc _).alloc _).mono fun _ h => h.elim) _ (Nat.le_refl _)) _ (Nat.le_succ _))
  have HM2 := Lib.hid (show Blk V3 G3 61 m.row from by rw [hZ, hG]; exact Blk.off (Blk.row HN1.out _) _ (by omega))
  have HC := Lib.hid (show Blk V3 (G3 + 1) 78 (chainV c3 h3) from by rw [hZ, hG]; exact Blk.row (Blk.off HN2.out _ (by omega)) _)
  rw [← hZ, ← hG]
  replace O := Lib.hid (O.out.trans oS)
  replace HM := Lib.hid (Blk.keep HM.out oS id)
  replace HS := Lib.hid (Blk.keep HS.out oS id)
  replace HD := Lib.hid (Blk.keep HD.out oS id)
  replace HR := Lib.hid (Cl.keep HR.out oS id)
  clear hZ hG HN1 HN2 oS
  obtain ⟨d0, d1, d2, d3, d4, d5, d6, d7, d8, d9, d10, d11, d12⟩ := MsgAt.cells (show MsgAt _ G1 m from HM.out)
  obtain ⟨e0, e1, e2, e3, e4, e5, e6, e7, e8, e9, e10, e11, e12⟩ := MsgAt.cells (show MsgAt _ G3 m from HM2.out)
  have q0 := Blk.cell HS.out 0
  have q1 := Blk.cell HS.out 1
  have q2 := Blk.cell HS.out 2
  have q3 := Blk.cell HS.out 3
  simp only [startV] at q0 q1 q2 q3
  have y0 := Blk.cell HC.out 0
  have y1 := Blk.cell HC.out 1
  simp only [chainV] at y0 y1
  go_upto_region 12 with fail
  clear d0 d1 d2 d3 d4 d5 d6 d7 d8 d9 d10 d11 d12 e0 e1 e2 e3 e4 e5 e6 e7 e8 e9 e10 e11 e12 q0 q1 q2 q3 y0 y1 E1 E2
  go_cut [19, 20] (fun a b wx => CutH V3 (heardV x p N (m.t 4) c3 h3) a b wx)
  case first =>
    have HLT := Lib.hid (show G1 < V3.heap.size ∧ G2 < V3.heap.size ∧ g < V3.heap.size from ⟨Blk.lt HM.out, Blk.lt HD.out, HR.out.1⟩)
    have O := Lib.hid (Only.refl (fun _ => False) V3)
    have R := Lib.hid ((Only.refl (fun _ => False) V3).drew)
    refine wp_region_held_drew (S := (fun w' => w'.cell? ⟨G2, 3, none⟩ = some (.slice (some ⟨g, q, none⟩) 1 c') ∧ w'.cell? ⟨g, q, none⟩ = some (.string r) ∧ w'.cell? ⟨G1, 0, none⟩ = some (.int .i64 m.k) ∧ w'.cell? ⟨G1, 1, none⟩ = some (.int .u32 m.s) ∧ w'.cell? ⟨G1, 2, none⟩ = some (.int .u32 m.r) ∧ w'.cell? ⟨G1, 3, none⟩ = some (.int .u64 m.c) ∧ w'.cell? ⟨G1, 4, none⟩ = some (.string (m.t 4)) ∧ w'.cell? ⟨G1, 5, none⟩ = some (.string (m.t 5)) ∧ w'.cell? ⟨G1, 6, none⟩ = some (.string (m.t 6)) ∧ w'.cell? ⟨G1, 7, none⟩ = some (.string (m.t 7)) ∧ w'.cell? ⟨G1, 8, none⟩ = some (.string (m.t 8)) ∧ w'.cell? ⟨G1, 9, none⟩ = some (.string (m.t 9)) ∧ w'.cell? ⟨G1, 10, none⟩ = some (.string (m.t 10)) ∧ w'.cell? ⟨G1, 11, none⟩ = some (.string (m.t 11)) ∧ w'.cell? ⟨G1, 12, none⟩ = some (.string (m.t 12)))) (by kernel_rfl) ?_ (fun hHeld => ?_)
    · exact ⟨Blk.cell (Blk.keep HD.out R.out id) 3, (Cl.keep HR.out R.out id).2, MsgAt.cells (show MsgAt _ G1 m from Blk.keep HM.out R.out id)⟩
    refine rgA.tk 0 hHeld ?_
    refine rgA.tk 1 hHeld ?_
    refine rgA.tk 2 hHeld ?_
    refine rgA.tk 3 hHeld ?_
    refine rgA.tk 4 hHeld ?_
    refine wpAnyH_ready (rs := [5, 9]) (by kernel_rfl) (by simp) ?_
    refine AllReadyH.cons rfl (fun K hK => ?br1) (AllReadyH.cons rfl (fun K hK => ?br2) (AllReadyH.nil))
    case' br1 =>
      go_simp
      (with_reducible refine (C6.out _).mono ?_)
      rintro e w2 ⟨rfl, o⟩
      replace R := Lib.hid (R.out.trans o)
      clear o
      go_wp2_with fail
      refine hK.out _ _ ?_ (fun hHeld => ?_)
      · first | exact ⟨Blk.cell (Blk.keep HD.out R.out id) 3, (Cl.keep HR.out R.out id).2, MsgAt.cells (show MsgAt _ G1 m from Blk.keep HM.out R.out id)⟩ | exact ⟨Blk.cell (Blk.off (Blk.keep HD.out R.out id) _ (by have := NX.out; omega)) 3, (Cl.off (Cl.keep HR.out R.out id) _ (by have := NX.out; omega)).2, MsgAt.cells (show MsgAt _ G1 m from Blk.off (Blk.keep HM.out R.out id) _ (by have := NX.out; omega))⟩
      clear hK K
      try simp only [List.getElem_toArray, List.getElem_cons_succ, List.getElem_cons_zero, Act.put, List.setIfInBounds_toArray, List.set_cons_zero, List.set_cons_succ]
      refine rgA.tk 6 hHeld ?_
      refine rgA.tk 7 hHeld ?_
      refine rgA.tk 8 hHeld ?_
      refine rgA.rd 9 (fun K hK => ?_)
      go_simp
      obtain ⟨GN, hGN⟩ : ∃ g, g = w2.heap.size := ⟨_, rfl⟩
      obtain ⟨w9, hw9⟩ : ∃ z, z = w2.alloc (.cells #[.int .u32 0, .string ⟨#[]⟩, .int .u64 0, .string ⟨#[]⟩, .string ⟨#[]⟩, .string ⟨#[]⟩] 82) := ⟨_, rfl⟩
      rw [← hw9, ← hGN]
      have HNW := Lib.hid (show w9.heap[GN]? = some (.cells #[.int .u32 0, .string ⟨#[]⟩, .int .u64 0, .string ⟨#[]⟩, .string ⟨#[]⟩, .string ⟨#[]⟩] 82 (0, 0)) from by rw [hw9, hGN]; exact heap_alloc_new w2 _)
      have oN : Only (fun _ => False) w2 w9 := by rw [hw9]; exact (Only.refl _ w2).alloc _
      have NG := Lib.hid (show V3.heap.size ≤ GN from by rw [hGN]; exact (show V3.heap.size ≤ (w2).heap.size from (O.out.trans R.out).size))
      have NX := Lib.hid (show G1 < GN ∧ G2 < GN ∧ g < GN from by have h := NG.out; have h2 := HLT.out; omega)
      replace HM := Lib.hid (Only.keep (R.out.trans oN) HM.out id)
      replace HD := Lib.hid (Only.keep (R.out.trans oN) HD.out id)
      replace HR := Lib.hid (Cl.keep HR.out (R.out.trans oN) id)
      replace O := Lib.hid (O.out.trans (R.out.trans oN))
      have R := Lib.hid (Only.refl (fun _ => False) w9)
      clear oN hw9 hGN
      obtain ⟨w2, hw2⟩ : ∃ z, z = w9 := ⟨_, rfl⟩
      rw [← hw2] at R O HM HD HR HNW ⊢
      clear hw2
      refine hK.out _ _ ?_ (fun hHeld => ?_)
      · first | exact ⟨Blk.cell (Blk.keep HD.out R.out id) 3, (Cl.keep HR.out R.out id).2, MsgAt.cells (show MsgAt _ G1 m from Blk.keep HM.out R.out id)⟩ | exact ⟨Blk.cell (Blk.off (Blk.keep HD.out R.out id) _ (by have := NX.out; omega)) 3, (Cl.off (Cl.keep HR.out R.out id) _ (by have := NX.out; omega)).2, MsgAt.cells (show MsgAt _ G1 m from Blk.off (Blk.keep HM.out R.out id) _ (by have := NX.out; omega))⟩
      clear hK K
      try simp only [List.getElem_toArray, List.getElem_cons_succ, List.getElem_cons_zero, Act.put, List.setIfInBounds_toArray, List.set_cons_zero, List.set_cons_succ]
      refine rgA.rd 10 (fun K hK => ?_)
      rw [if_pos (by rfl)]
      refine wp_store_row 82 (.tmp 19) (.tmp 102) rfl GN (heardV x p N (m.t 4) c3 h3) rfl rfl 82 _ (Only.keep R.out HNW.out id) (info82 _ _ _ _ _ _) rfl (one82 _ _ _ _ _ _) ?_
      refine hK.out _ _ ?_ (fun hHeld => ?_)
      · first | exact ⟨Blk.cell (Blk.keep HD.out R.out id) 3, (Cl.keep HR.out R.out id).2, MsgAt.cells (show MsgAt _ G1 m from Blk.keep HM.out R.out id)⟩ | exact ⟨Blk.cell (Blk.off (Blk.keep HD.out R.out id) _ (by have := NX.out; omega)) 3, (Cl.off (Cl.keep HR.out R.out id) _ (by have := NX.out; omega)).2, MsgAt.cells (show MsgAt _ G1 m from Blk.off (Blk.keep HM.out R.out id) _ (by have := NX.out; omega))⟩
      clear hK K
      try simp only [List.getElem_toArray, List.getElem_cons_succ, List.getElem_cons_zero, Act.put, List.setIfInBounds_toArray, List.set_cons_zero, List.set_cons_succ]
      refine rgA.tk 11 hHeld ?_
      refine wpAnyH_done (by kernel_rfl) ?_ _
      clear hHeld
    case' br2 =>
      go_simp
      obtain ⟨GN, hGN⟩ : ∃ g, g = V3.heap.size := ⟨_, rfl⟩
      obtain ⟨w9, hw9⟩ : ∃ z, z = (V3.alloc (.cells #[.int .u32 0, .string ⟨#[]⟩, .int .u64 0, .string ⟨#[]⟩, .string ⟨#[]⟩, .string ⟨#[]⟩] 82)).drew := ⟨_, rfl⟩
      rw [← hw9, ← hGN]
      have HNW := Lib.hid (show w9.heap[GN]? = some (.cells #[.int .u32 0, .string ⟨#[]⟩, .int .u64 0, .string ⟨#[]⟩, .string ⟨#[]⟩, .string ⟨#[]⟩] 82 (0, 0)) from by rw [hw9, hGN]; exact heap_alloc_new V3 _)
      have oN : Only (fun _ => False) V3.drew w9 := by rw [hw9]; exact (Only.refl _ V3.drew).alloc _
      have NG := Lib.hid (show V3.heap.size ≤ GN from by rw [hGN]; exact (show V3.heap.size ≤ (V3.drew).heap.size from (O.out.trans R.out).size))
      have NX := Lib.hid (show G1 < GN ∧ G2 < GN ∧ g < GN from by have h := NG.out; have h2 := HLT.out; omega)
      replace HM := Lib.hid (Only.keep (R.out.trans oN) HM.out id)
      replace HD := Lib.hid (Only.keep (R.out.trans oN) HD.out id)
      replace HR := Lib.hid (Cl.keep HR.out (R.out.trans oN) id)
      replace O := Lib.hid (O.out.trans (R.out.trans oN))
      have R := Lib.hid (Only.refl (fun _ => False) w9)
      clear oN hw9 hGN
      obtain ⟨w2, hw2⟩ : ∃ z, z = w9 := ⟨_, rfl⟩
      rw [← hw2] at R O HM HD HR HNW ⊢
      clear hw2
      refine hK.out _ _ ?_ (fun hHeld => ?_)
      · first | exact ⟨Blk.cell (Blk.keep HD.out R.out id) 3, (Cl.keep HR.out R.out id).2, MsgAt.cells (show MsgAt _ G1 m from Blk.keep HM.out R.out id)⟩ | exact ⟨Blk.cell (Blk.off (Blk.keep HD.out R.out id) _ (by have := NX.out; omega)) 3, (Cl.off (Cl.keep HR.out R.out id) _ (by have := NX.out; omega)).2, MsgAt.cells (show MsgAt _ G1 m from Blk.off (Blk.keep HM.out R.out id) _ (by have := NX.out; omega))⟩
      clear hK K
      try simp only [List.getElem_toArray, List.getElem_cons_succ, List.getElem_cons_zero, Act.put, List.setIfInBounds_toArray, List.set_cons_zero, List.set_cons_succ]
      refine rgA.rd 5 (fun K hK => ?_)
      go_simp
      (with_reducible refine (C6.out _).mono ?_)
      rintro e w2 ⟨rfl, o⟩
      replace R := Lib.hid (R.out.trans o)
      clear o
      go_wp2_with fail
      refine hK.out _ _ ?_ (fun hHeld => ?_)
      · first | exact ⟨Blk.cell (Blk.keep HD.out R.out id) 3, (Cl.keep HR.out R.out id).2, MsgAt.cells (show MsgAt _ G1 m from Blk.keep HM.out R.out id)⟩ | exact ⟨Blk.cell (Blk.off (Blk.keep HD.out R.out id) _ (by have := NX.out; omega)) 3, (Cl.off (Cl.keep HR.out R.out id) _ (by have := NX.out; omega)).2, MsgAt.cells (show MsgAt _ G1 m from Blk.off (Blk.keep HM.out R.out id) _ (by have := NX.out; omega))⟩
      clear hK K
      try simp only [List.getElem_toArray, List.getElem_cons_succ, List.getElem_cons_zero, Act.put, List.setIfInBounds_toArray, List.set_cons_zero, List.set_cons_succ]
      refine rgA.tk 6 hHeld ?_
      refine rgA.tk 7 hHeld ?_
      refine rgA.tk 8 hHeld ?_
      refine rgA.rd 10 (fun K hK => ?_)
      rw [if_pos (by rfl)]
      refine wp_store_row 82 (.tmp 19) (.tmp 102) rfl GN (heardV x p N (m.t 4) c3 h3) rfl rfl 82 _ (Only.keep R.out HNW.out id) (info82 _ _ _ _ _ _) rfl (one82 _ _ _ _ _ _) ?_
      refine hK.out _ _ ?_ (fun hHeld => ?_)
      · first | exact ⟨Blk.cell (Blk.keep HD.out R.out id) 3, (Cl.keep HR.out R.out id).2, MsgAt.cells (show MsgAt _ G1 m from Blk.keep HM.out R.out id)⟩ | exact ⟨Blk.cell (Blk.off (Blk.keep HD.out R.out id) _ (by have := NX.out; omega)) 3, (Cl.off (Cl.keep HR.out R.out id) _ (by have := NX.out; omega)).2, MsgAt.cells (show MsgAt _ G1 m from Blk.off (Blk.keep HM.out R.out id) _ (by have := NX.out; omega))⟩
      clear hK K
      try simp only [List.getElem_toArray, List.getElem_cons_succ, List.getElem_cons_zero, Act.put, List.setIfInBounds_toArray, List.set_cons_zero, List.set_cons_succ]
      refine rgA.tk 11 hHeld ?_
      refine wpAnyH_done (by kernel_rfl) ?_ _
      clear hHeld
    all_goals
      go_wp2_with fail
      go_meet
      exact ⟨GN, rfl, rfl, setRow_heap _ _ _ _ _ _ (Only.keep R.out HNW.out id), NG.out, Only.old (only_row ((O.out.trans R.out).mono fun _ h => h.elim) _ NG.out)⟩
  case rest =>
    obtain ⟨GN, rfl, rfl, hb, hge, oc⟩ := hcut
    replace HM := Lib.hid (Blk.keep HM.out oc id)
    replace HC := Lib.hid (Blk.keep HC.out oc id)
    replace HD := Lib.hid (Blk.keep HD.out oc id)
    replace HR := Lib.hid (Cl.keep HR.out oc id)
    have HH := Lib.hid (show Blk wc GN 82 (heardV x p N (m.t 4) c3 h3) from hb)
    replace O := Lib.hid (O.out.trans oc)
    clear oc hb hge HS HM2
    obtain ⟨V4, hV⟩ : ∃ V, V = wc := ⟨_, rfl⟩
    rw [← hV] at HM HC HD HR HH O ⊢
    clear hV
    go_upto_region 13 with fail
    have R := Lib.hid ((Only.refl (fun _ => False) V4).drew)
    refine wp_region_held_drew (S := (fun w' => w'.cell? ⟨GN, 0, none⟩ = some (.int .u32 x) ∧ w'.cell? ⟨GN, 1, none⟩ = some (.string p) ∧ w'.cell? ⟨GN, 2, none⟩ = some (.int .u64 N) ∧ w'.cell? ⟨GN, 3, none⟩ = some (.string (m.t 4)) ∧ w'.cell? ⟨GN, 4, none⟩ = some (.string c3) ∧ w'.cell? ⟨GN, 5, none⟩ = some (.string h3) ∧ w'.cell? ⟨G1, 4, none⟩ = some (.string (m.t 4)) ∧ w'.cell? ⟨G3 + 1, 0, none⟩ = some (.string c3) ∧ w'.cell? ⟨G3 + 1, 1, none⟩ = some (.string h3))) (by kernel_rfl) ?_ (fun hHeld => ?_)
    · exact ⟨Blk.cell (Blk.keep HH.out R.out id) 0, Blk.cell (Blk.keep HH.out R.out id) 1, Blk.cell (Blk.keep HH.out R.out id) 2, Blk.cell (Blk.keep HH.out R.out id) 3, Blk.cell (Blk.keep HH.out R.out id) 4, Blk.cell (Blk.keep HH.out R.out id) 5, MsgAt.text (show MsgAt _ G1 m from Blk.keep HM.out R.out id) (i := 4) (by decide) (by decide), Blk.cell (Blk.keep HC.out R.out id) 0, Blk.cell (Blk.keep HC.out R.out id) 1⟩
    refine rgA.tk 0 hHeld ?_
    refine rgA.tk 1 hHeld ?_
    refine rgA.tk 2 hHeld ?_
    refine rgA.tk 3 hHeld ?_
    refine rgA.tk 4 hHeld ?_
    refine rgA.tk 5 hHeld ?_
    refine rgA.tk 7 hHeld ?_
    refine rgA.tk 8 hHeld ?_
    refine rgA.tk 9 hHeld ?_
    refine rgA.tk 10 hHeld ?_
    refine rgA.tk 11 hHeld ?_
    refine rgA.tk 12 hHeld ?_
    refine rgA.tk 13 hHeld ?_
    refine rgA.rd 6 (fun K hK => ?_)
    go_simp
    (with_reducible refine (C7.out _).mono ?_)
    rintro e w2 ⟨rfl, o⟩
    replace R := Lib.hid (R.out.trans o)
    clear o
    go_wp2_with fail
    refine hK.out _ _ ?_ (fun hHeld => ?_)
    · exact ⟨Blk.cell (Blk.keep HH.out R.out id) 0, Blk.cell (Blk.keep HH.out R.out id) 1, Blk.cell (Blk.keep HH.out R.out id) 2, Blk.cell (Blk.keep HH.out R.out id) 3, Blk.cell (Blk.keep HH.out R.out id) 4, Blk.cell (Blk.keep HH.out R.out id) 5, MsgAt.text (show MsgAt _ G1 m from Blk.keep HM.out R.out id) (i := 4) (by decide) (by decide), Blk.cell (Blk.keep HC.out R.out id) 0, Blk.cell (Blk.keep HC.out R.out id) 1⟩
    clear hK K
    try simp only [List.getElem_toArray, List.getElem_cons_succ, List.getElem_cons_zero, Act.put, List.setIfInBounds_toArray, List.set_cons_zero, List.set_cons_succ]
    refine rgA.tk 14 hHeld ?_
    refine rgA.tk 15 hHeld ?_
    refine rgA.tk 16 hHeld ?_
    refine wpAnyH_done (by kernel_rfl) ?_ _
    replace O := Lib.hid (O.out.trans R.out)
    replace HM := Lib.hid (Blk.keep HM.out R.out id)
    replace HD := Lib.hid (Blk.keep HD.out R.out id)
    replace HR := Lib.hid (Cl.keep HR.out R.out id)
    clear R HC HH
    go_wp2_with fail
    (with_reducible refine (C8.out _).mono ?_)
    rintro e w9 ⟨rfl, o⟩
    replace O := Lib.hid (O.out.trans o)
    replace HM := Lib.hid (Blk.keep HM.out o id)
    replace HD := Lib.hid (Blk.keep HD.out o id)
    replace HR := Lib.hid (Cl.keep HR.out o id)
    clear o
    cases bo
    case false =>
      go_wp2_with fail
      go_ret
      exact ⟨rfl, O.out⟩
    have f3 : w9.cell? ⟨G2, 3, none⟩ = some (.slice (some ⟨g, q, none⟩) 1 c') := Blk.cell HD.out 3
    have f4 : w9.cell? ⟨g, q, none⟩ = some (.string r) := HR.out.2
    by_cases hor : ot.data.toList = r.data.toList
    case pos =>
      have g1 : (ot.toList == r.toList) = true := beq_iff_eq.2 (txt_list hor)
      have g2 : (ot.toList = r.toList) = True := eq_true (txt_list hor)
      go_wp2_with fail
      go_ret
      exact ⟨rfl, O.out⟩
    have g1 : (ot.toList == r.toList) = false := beq_eq_false_iff_ne.2 (fun h => hor (list_txt h))
    have g2 : (ot.toList = r.toList) = False := eq_false (fun h => hor (list_txt h))
    have C9' := Lib.hid (fun W => C9.out W rfl hor)
    clear hor
    go_wp2_with (refine wpList_load_row rfl 61 (.tmp 13) rfl G1 rfl 61 m.row (0, 0) _ HM.out Try.underlying61 rfl (info61 m) ?_)
    (with_reducible refine (C9'.out _).mono ?_)
    rintro e w10 ⟨rfl, o⟩
    replace O := Lib.hid (O.out.trans o)
    clear o
    have HN := Lib.hid (show (w10.alloc (.cells #[.int .u32 0, .string ⟨#[]⟩, .int .u64 0, .string ⟨#[]⟩, .string ⟨#[]⟩, .string ⟨#[]⟩] 82)).heap[w10.heap.size]? = some (.cells #[.int .u32 0, .string ⟨#[]⟩, .int .u64 0, .string ⟨#[]⟩, .string ⟨#[]⟩, .string ⟨#[]⟩] 82 (0, 0)) from heap_alloc_new w10 _)
    go_upto_region 18 with (refine wpList_store_row rfl 82 (.tmp 21) (.tmp 136) rfl w10.heap.size (heardV 0 ⟨#[]⟩ 0 ⟨#[]⟩ ⟨#[]⟩ ⟨#[]⟩) rfl rfl 82 _ HN.out (info82 _ _ _ _ _ _) rfl (one82 _ _ _ _ _ _) ?_)
    obtain ⟨V5, hV5⟩ : ∃ Z, Z = (w10.alloc (.cells #[.int .u32 0, .string ⟨#[]⟩, .int .u64 0, .string ⟨#[]⟩, .string ⟨#[]⟩, .string ⟨#[]⟩] 82)).setRow w10.heap.size (heardV 0 ⟨#[]⟩ 0 ⟨#[]⟩ ⟨#[]⟩ ⟨#[]⟩) := ⟨_, rfl⟩
    obtain ⟨G5, hG5⟩ : ∃ G, G = w10.heap.size := ⟨_, rfl⟩
    rw [← hV5, ← hG5]
    have HH5 := Lib.hid (show V5.heap[G5]? = some (.cells (heardV 0 ⟨#[]⟩ 0 ⟨#[]⟩ ⟨#[]⟩ ⟨#[]⟩) 82 (0, 0)) from by rw [hV5, hG5]; exact setRow_heap _ _ _ _ _ _ HN.out)
    have oS : Only (fun _ => False) w10 V5 := by rw [hV5, World.setRow_alloc_new]; exact (Only.refl _ _).alloc _
    replace O := Lib.hid (O.out.trans oS)
    clear hV5 hG5 HN
    replace HH5 := Lib.hid (show Blk V5 G5 82 (heardV 0 ⟨#[]⟩ 0 ⟨#[]⟩ ⟨#[]⟩ ⟨#[]⟩) from HH5.out)
    clear oS
    go_wp2_with fail
    go_ret
    exact ⟨rfl, O.out⟩


end Go.Proofs.Ytbjnejnjlidiaaa.noT
