/- Macs: the law on refusals. -/
import Derived.Test.YtbjnejnjlidiaaaMaM
import Derived.Test.YtbjnejnjlidiaaaArgM
namespace Go.Proofs.Ytbjnejnjlidiaaa.maN
open Go.RowKit kit numA numB numC numD numE tmA tmB tmC tmD tmE trA trB prR prS prW prX tsA tsB tsF tsI wrA wrB wrC wrD wrE wrF wrG wrH wrI wrJ wrK wrL mkA maA maB maC maD maE maF maG maI maL maM
set_option linter.unusedVariables false
set_option linter.unusedSimpArgs false

theorem accept_let (m : Msg) (p x A : ByteArray) (E : Nat) (w : World) (hA : A.data.toList = (acceptM m p.data.toList x.data.toList).1) (hE : E = (acceptM m p.data.toList x.data.toList).2) (ht : ∀ i, (m.t i).size ≤ 100000000) (hz : p.size ≤ 100000000) : Calls Try.prog 86 #[mval m, .string p, .string x] w (numA.Told w (.tuple #[.string A, .int .i64 (E : Nat)])) := by
  have h := accept_any m p x w ht hz
  rw [← hA, ← hE] at h
  have e : (⟨A.data.toList.toArray⟩ : ByteArray) = A := by simp
  rw [e] at h
  exact h
theorem refaccept_let (m : Msg) (p x A : ByteArray) (E : Nat) (w : World) (hA : A.data.toList = (acceptM m p.data.toList x.data.toList).1) (hE : E = (acceptM m p.data.toList x.data.toList).2) (ht : ∀ i, (m.t i).size ≤ 100000000) (hz : p.size ≤ 10000000) : Calls Try.prog 87 #[mval m, .string p, .string x] w (numA.Told w (.tuple #[.string A, .int .i64 (E : Nat)])) := by
  have h := refaccept_any m p x w ht (Nat.le_trans hz (by decide)) hz
  rw [← hA, ← hE] at h
  have e : (⟨A.data.toList.toArray⟩ : ByteArray) = A := by simp
  rw [e] at h
  exact h

theorem jar_ok {p : Txt} (hp : pubB p = true) (hl : p.length ≤ 10000) : isT (jarT p) = true ∧ (jarT p).length ≤ p.length + 40 := by
  have h := hash2 jarN_is (pub_is hp) (by simp [jarN]; omega)
  exact ⟨h.1, by have := h.2.1; simp [jarN] at this; unfold jarT; simp only [jarN]; omega⟩

theorem seal3 {n : Nat} {a b c : Txt} (hn : n ≤ most) (ha : isT a = true) (hb : isT b = true) (hc : isT c = true) (hl : a.length + b.length + c.length ≤ 60000) : isT (mkT 10 n [] [a, b, c]) = true ∧ (mkT 10 n [] [a, b, c]).length ≤ a.length + b.length + c.length + 27 ∧ mkT 10 n [] [a, b, c] ≠ [] := by
  have hne : mkT 10 n [] [a, b, c] ≠ [] := mk_good (by decide) (by decide) hn (by simp [least]) (by simp [mostk]) (fun _ => ⟨Nat.zero_le _, hn⟩) (by simp [ha, hb, hc]) (by simp [total]; omega)
  refine ⟨(mk_isT hn).2 hne, ?_, hne⟩
  have h := mk_le (k := 10) (n := n) (b := []) (ps := [a, b, c]) (by decide) (by decide) hn
  simp only [total, List.map_cons, List.map_nil, List.sum_cons, List.sum_nil, List.length_cons, List.length_nil] at h
  omega

theorem ref_right {m : Msg} {nb sb : ByteArray} (h1 : fitB nb.data.toList = true) (h2 : fitB sb.data.toList = true) : rightM (refM m nb sb) = true := by
  have hk : (refM m nb sb).k = 3 := rfl
  unfold rightM
  rw [decide_eq_true (show (1 : Int) ≤ (refM m nb sb).k ∧ (refM m nb sb).k ≤ 4 from by rw [hk]; decide), Bool.true_and, Bool.and_eq_true]
  refine ⟨?_, ?_⟩
  · have e : rterms (refM m nb sb) = [nb.data.toList, sb.data.toList] := by
      unfold rterms rtexts
      rw [if_neg (by rw [hk]; decide), if_neg (by rw [hk]; decide), if_pos hk]
      simp [refM]
    rw [e]
    simp [h1, h2]
  · rw [eqM_iff]
    unfold keepM
    rw [if_neg (by rw [hk]; decide), if_neg (by rw [hk]; decide), if_pos hk]
    simp [refM]

theorem ref_open {m : Msg} {p c x : Txt} {nb sb : ByteArray} {N : Nat} (hN : N ≤ most) (hp : pubB p = true) (hR : rightM (refM m nb sb) = true) (hnb : nb.data.toList = mkT 3 N [] []) (hsb : sb.data.toList = mkT 10 N [] [jarT p, c, x]) (hne : sb.data.toList ≠ []) (y : Txt) : acceptM (refM m nb sb) p y = if x = y then (c, 0) else ([], 8) := by
  have e8 : (refM m nb sb).t 8 = nb := by simp [refM]
  have e9 : (refM m nb sb).t 9 = sb := by simp [refM]
  have n8 : nd nb.data.toList = ⟨3, N, [], []⟩ := by rw [hnb]; exact (num_ok N hN).2.2.2
  have n9 : nd sb.data.toList = ⟨10, N, [], [jarT p, c, x]⟩ := by
    rw [hsb] at hne ⊢
    rw [nd_make hN hne]
    simp [nodeOf, srt]
  have hA : accB (refM m nb sb) p = true := by
    rw [accB, hR, e8, n8, hp]
    rfl
  rw [acceptM, if_pos hA, e8, e9, n8]
  simp only [opn, n9, if_pos]
  by_cases h : x = y
  · simp [h]
  · simp [h]

theorem big3 (m : Msg) (x y z : ByteArray) (r : Bool) (W : World) (hb : bigB m ([x, y, z].map (·.data.toList)) = r) (ht : ∀ i, (m.t i).size ≤ 140737488355328) : Calls Try.prog 77 #[.agg m.row, .slice (some ⟨W.heap.size, 0, none⟩) 3 3] (W.alloc (.cells #[.string x, .string y, .string z] 9)) (numA.Told W (.bool r)) :=
  big_lst m [x, y, z] r W (by simp) hb ht W.heap.size rfl
theorem eql_zero (W : World) : (binOp .eql 61 (.agg #[.int .i64 0, .int .u32 0, .int .u32 0, .int .u64 0, .string ⟨#[]⟩, .string ⟨#[]⟩, .string ⟨#[]⟩, .string ⟨#[]⟩, .string ⟨#[]⟩, .string ⟨#[]⟩, .string ⟨#[]⟩, .string ⟨#[]⟩, .string ⟨#[]⟩]) (.agg #[.int .i64 0, .int .u32 0, .int .u32 0, .int .u64 0, .string ⟨#[]⟩, .string ⟨#[]⟩, .string ⟨#[]⟩, .string ⟨#[]⟩, .string ⟨#[]⟩, .string ⟨#[]⟩, .string ⟨#[]⟩, .string ⟨#[]⟩, .string ⟨#[]⟩])).run Try.prog W = .ok (.bool true) W := by
  have h := run_eqlM (zeroM 0) (zeroM 0) W
  rw [eqM_self] at h
  exact h
theorem neq_self (m : Msg) (W : World) : (binOp .neq 61 (mval m) (mval m)).run Try.prog W = .ok (.bool false) W := by
  have h := laid_neqM m m W
  rw [eqM_self] at h
  exact h
theorem beq_dec (a b : ByteArray) : (a.toList == b.toList) = decide (a.data.toList = b.data.toList) := by
  rw [byteArray_toList, byteArray_toList, Bool.eq_iff_iff, beq_iff_eq, decide_eq_true_eq]
theorem eq_dec (a b : ByteArray) : (a.toList = b.toList) = (decide (a.data.toList = b.data.toList) = true) := by
  rw [byteArray_toList, byteArray_toList, decide_eq_true_eq]

set_option maxRecDepth 100000 in
set_option maxHeartbeats 1600000 in
theorem mr_big (m : Msg) (p c q : ByteArray) (N : Nat) (w : World) (hb : bigB m ([p, c, q].map (·.data.toList)) = true) (ht : ∀ i, (m.t i).size ≤ 140737488355328) : Calls Try.prog 18 #[mval m, .string p, .string c, .string q, .int .u64 N] w (numA.Told w (.bool true)) := by
  have AW := Lib.hid (fun W => maG.awake_any W)
  have BG := Lib.hid (fun W => big3 m p c q true W hb ht)
  simp only [Msg.row] at BG
  have HA := Lib.hid (show MsgAt (w.alloc (.cells m.row 61)) w.heap.size m from heap_alloc_new w _)
  have O := Lib.hid (show Only (fun _ => False) w (w.alloc (.cells m.row 61)) from (Only.refl _ w).alloc _)
  obtain ⟨X, hX⟩ : ∃ X, X = w.alloc (.cells m.row 61) := ⟨_, rfl⟩
  rw [← hX] at HA O
  obtain ⟨A, hA⟩ : ∃ A, A = w.heap.size := ⟨_, rfl⟩
  rw [← hA] at HA
  have HX := Lib.hid hX
  have HAE := Lib.hid hA
  simp only [Msg.row] at HX
  clear hX hA
  unfold mval
  clear hb ht
  go_enter Try.func18, Try.ntmps18
  go_wp2_with fail
  rw [← HX.out, ← HAE.out]
  (with_reducible refine (AW.out _).mono ?_)
  rintro e w2 ⟨rfl, o⟩
  replace O := Lib.hid (O.out.trans o)
  replace HA := Lib.hid (MsgAt.keep HA.out o id)
  clear o
  obtain ⟨d0, d1, d2, d3, d4, d5, d6, d7, d8, d9, d10, d11, d12⟩ := MsgAt.cells HA.out
  go_wp2_with fail
  (with_reducible refine (BG.out _).mono ?_)
  rintro e w3 ⟨rfl, o⟩
  replace O := Lib.hid (O.out.trans o)
  replace HA := Lib.hid (MsgAt.keep HA.out o id)
  clear o
  obtain ⟨d0, d1, d2, d3, d4, d5, d6, d7, d8, d9, d10, d11, d12⟩ := MsgAt.cells HA.out
  go_wp2_with fail
  go_ret
  exact ⟨rfl, O.out⟩

set_option maxRecDepth 100000 in
set_option maxHeartbeats 4000000 in
theorem mr_noask (m : Msg) (p c q : ByteArray) (N : Nat) (w : World) (ha : asksM m = false) (hb : bigB m ([p, c, q].map (·.data.toList)) = false) (hN : N ≤ most) (ht : ∀ i, (m.t i).size ≤ 3000) (hz : tsz m ≤ 3000) (hp : p.size ≤ 200) (hc : c.size ≤ 200) (hq : q.size ≤ 200) (hs : 0 ≤ m.s ∧ m.s ≤ 4294967295) (hr : 0 ≤ m.r ∧ m.r ≤ 4294967295) : Calls Try.prog 18 #[mval m, .string p, .string c, .string q, .int .u64 N] w (numA.Told w (.bool true)) := by
  have AW := Lib.hid (fun W => maG.awake_any W)
  have BG := Lib.hid (fun W => big3 m p c q false W hb (fun i => Nat.le_trans (ht i) (by decide)))
  have CA := Lib.hid (fun W => asks_any m false W ha (fun i => Nat.le_trans (ht i) (by decide)))
  obtain ⟨A1, hA1⟩ : ∃ A1 : ByteArray, A1.data.toList = (acceptM m p.data.toList q.data.toList).1 := ⟨⟨((acceptM m p.data.toList q.data.toList).1).toArray⟩, rfl⟩
  obtain ⟨E1, hE1⟩ : ∃ E, E = (acceptM m p.data.toList q.data.toList).2 := ⟨_, rfl⟩
  have C1 := Lib.hid (fun W => accept_let m p q A1 E1 W hA1 hE1 (fun i => Nat.le_trans (ht i) (by decide)) (by omega))
  have C2 := Lib.hid (fun W => refaccept_let m p q A1 E1 W hA1 hE1 (fun i => Nat.le_trans (ht i) (by decide)) (by omega))
  have y1 := beq_t (rfl : A1 = A1)
  have y2 := eq_t (rfl : A1 = A1)
  have CS := Lib.hid (fun W => refuse_1 m p c N W ha trivial (fun i => Nat.le_trans (ht i) (by decide)) (by omega) hs hr)
  have hzz := eql_zero
  simp only [Msg.row] at BG
  simp only [mval] at CA C1 C2 CS
  have HA := Lib.hid (show MsgAt (w.alloc (.cells m.row 61)) w.heap.size m from heap_alloc_new w _)
  have O := Lib.hid (show Only (fun _ => False) w (w.alloc (.cells m.row 61)) from (Only.refl _ w).alloc _)
  obtain ⟨X, hX⟩ : ∃ X, X = w.alloc (.cells m.row 61) := ⟨_, rfl⟩
  rw [← hX] at HA O
  obtain ⟨A, hA⟩ : ∃ A, A = w.heap.size := ⟨_, rfl⟩
  rw [← hA] at HA
  have HX := Lib.hid hX
  have HAE := Lib.hid hA
  simp only [Msg.row] at HX
  clear hX hA
  unfold mval
  clear hb ht hz hp hc hq hs hr ha hA1 hE1 hN
  go_enter Try.func18, Try.ntmps18
  go_wp2_with fail
  rw [← HX.out, ← HAE.out]
  (with_reducible refine (AW.out _).mono ?_)
  rintro e w2 ⟨rfl, o⟩
  replace O := Lib.hid (O.out.trans o)
  replace HA := Lib.hid (MsgAt.keep HA.out o id)
  clear o
  obtain ⟨d0, d1, d2, d3, d4, d5, d6, d7, d8, d9, d10, d11, d12⟩ := MsgAt.cells HA.out
  go_wp2_with fail
  (with_reducible refine (BG.out _).mono ?_)
  rintro e w3 ⟨rfl, o⟩
  replace O := Lib.hid (O.out.trans o)
  replace HA := Lib.hid (MsgAt.keep HA.out o id)
  clear o
  obtain ⟨d0, d1, d2, d3, d4, d5, d6, d7, d8, d9, d10, d11, d12⟩ := MsgAt.cells HA.out
  go_wp2_with fail
  (with_reducible refine (C1.out _).mono ?_)
  rintro e w3 ⟨rfl, o⟩
  replace O := Lib.hid (O.out.trans o)
  replace HA := Lib.hid (MsgAt.keep HA.out o id)
  clear o
  obtain ⟨d0, d1, d2, d3, d4, d5, d6, d7, d8, d9, d10, d11, d12⟩ := MsgAt.cells HA.out
  go_wp2_with fail
  (with_reducible refine (C2.out _).mono ?_)
  rintro e w3 ⟨rfl, o⟩
  replace O := Lib.hid (O.out.trans o)
  replace HA := Lib.hid (MsgAt.keep HA.out o id)
  clear o
  obtain ⟨d0, d1, d2, d3, d4, d5, d6, d7, d8, d9, d10, d11, d12⟩ := MsgAt.cells HA.out
  go_wp2_with fail
  (with_reducible refine (CS.out _).mono ?_)
  rintro e w4 ⟨rfl, o⟩
  replace O := Lib.hid (O.out.trans o)
  replace HA := Lib.hid (MsgAt.keep HA.out o id)
  clear o
  have HN := Lib.hid (show (w4.alloc (.cells #[.int .i64 0, .int .u32 0, .int .u32 0, .int .u64 0, .string ⟨#[]⟩, .string ⟨#[]⟩, .string ⟨#[]⟩, .string ⟨#[]⟩, .string ⟨#[]⟩, .string ⟨#[]⟩, .string ⟨#[]⟩, .string ⟨#[]⟩, .string ⟨#[]⟩] 61)).heap[w4.heap.size]? = some (.cells #[.int .i64 0, .int .u32 0, .int .u32 0, .int .u64 0, .string ⟨#[]⟩, .string ⟨#[]⟩, .string ⟨#[]⟩, .string ⟨#[]⟩, .string ⟨#[]⟩, .string ⟨#[]⟩, .string ⟨#[]⟩, .string ⟨#[]⟩, .string ⟨#[]⟩] 61 (0, 0)) from heap_alloc_new w4 _)
  go_upto_region 10 with (refine wpList_store_row rfl 61 (.tmp 15) (.tmp 57) rfl w4.heap.size (zeroM 0).row rfl rfl 61 _ HN.out (info61 (zeroM 0)) (size61 (zeroM 0) (zeroM 0)) (one61 (zeroM 0)) ?_)
  obtain ⟨Z, hZ⟩ : ∃ Z, Z = (w4.alloc (.cells #[.int .i64 0, .int .u32 0, .int .u32 0, .int .u64 0, .string ⟨#[]⟩, .string ⟨#[]⟩, .string ⟨#[]⟩, .string ⟨#[]⟩, .string ⟨#[]⟩, .string ⟨#[]⟩, .string ⟨#[]⟩, .string ⟨#[]⟩, .string ⟨#[]⟩] 61)).setRow w4.heap.size (zeroM 0).row := ⟨_, rfl⟩
  obtain ⟨G, hG⟩ : ∃ G, G = w4.heap.size := ⟨_, rfl⟩
  rw [← hZ, ← hG]
  have HC := Lib.hid (show Z.heap[G]? = some (.cells (zeroM 0).row 61 (0, 0)) from by rw [hZ, hG]; exact setRow_heap _ _ _ _ _ _ HN.out)
  have oS : Only (fun _ => False) w4 Z := by rw [hZ, World.setRow_alloc_new]; exact (Only.refl _ _).alloc _
  replace O := Lib.hid (O.out.trans oS)
  clear hZ hG HN
  replace HA := Lib.hid (MsgAt.keep HA.out oS id)
  clear oS
  replace HC := Lib.hid (show MsgAt Z G (zeroM 0) from HC.out)
  obtain ⟨d0, d1, d2, d3, d4, d5, d6, d7, d8, d9, d10, d11, d12⟩ := MsgAt.cells HA.out
  go_wp2_with fail
  (with_reducible refine (CA.out _).mono ?_)
  rintro e w5 ⟨rfl, o⟩
  replace O := Lib.hid (O.out.trans o)
  replace HC := Lib.hid (MsgAt.keep HC.out o id)
  clear o
  obtain ⟨g0, g1, g2, g3, g4, g5, g6, g7, g8, g9, g10, g11, g12⟩ := MsgAt.cells HC.out
  simp only [zeroM] at g0 g1 g2 g3 g4 g5 g6 g7 g8 g9 g10 g11 g12
  go_wp2_with fail
  go_ret
  exact ⟨rfl, O.out⟩

set_option maxRecDepth 100000 in
set_option maxHeartbeats 4000000 in
theorem mr_nopub (m : Msg) (p c q : ByteArray) (N : Nat) (w : World) (ha : asksM m = true) (hpu : pubB p.data.toList = false) (hb : bigB m ([p, c, q].map (·.data.toList)) = false) (hN : N ≤ most) (ht : ∀ i, (m.t i).size ≤ 3000) (hz : tsz m ≤ 3000) (hp : p.size ≤ 200) (hc : c.size ≤ 200) (hq : q.size ≤ 200) (hs : 0 ≤ m.s ∧ m.s ≤ 4294967295) (hr : 0 ≤ m.r ∧ m.r ≤ 4294967295) : Calls Try.prog 18 #[mval m, .string p, .string c, .string q, .int .u64 N] w (numA.Told w (.bool true)) := by
  have AW := Lib.hid (fun W => maG.awake_any W)
  have BG := Lib.hid (fun W => big3 m p c q false W hb (fun i => Nat.le_trans (ht i) (by decide)))
  have CA := Lib.hid (fun W => asks_any m true W ha (fun i => Nat.le_trans (ht i) (by decide)))
  obtain ⟨A1, hA1⟩ : ∃ A1 : ByteArray, A1.data.toList = (acceptM m p.data.toList q.data.toList).1 := ⟨⟨((acceptM m p.data.toList q.data.toList).1).toArray⟩, rfl⟩
  obtain ⟨E1, hE1⟩ : ∃ E, E = (acceptM m p.data.toList q.data.toList).2 := ⟨_, rfl⟩
  have C1 := Lib.hid (fun W => accept_let m p q A1 E1 W hA1 hE1 (fun i => Nat.le_trans (ht i) (by decide)) (by omega))
  have C2 := Lib.hid (fun W => refaccept_let m p q A1 E1 W hA1 hE1 (fun i => Nat.le_trans (ht i) (by decide)) (by omega))
  have y1 := beq_t (rfl : A1 = A1)
  have y2 := eq_t (rfl : A1 = A1)
  have CP := Lib.hid (fun W => refpub_any p false W hpu (by omega))
  have CS := Lib.hid (fun W => refuse_2 m p c N W ha hpu (fun i => Nat.le_trans (ht i) (by decide)) (by omega) hs hr)
  have hzz := eql_zero
  simp only [Msg.row] at BG
  simp only [mval] at CA C1 C2 CS
  have HA := Lib.hid (show MsgAt (w.alloc (.cells m.row 61)) w.heap.size m from heap_alloc_new w _)
  have O := Lib.hid (show Only (fun _ => False) w (w.alloc (.cells m.row 61)) from (Only.refl _ w).alloc _)
  obtain ⟨X, hX⟩ : ∃ X, X = w.alloc (.cells m.row 61) := ⟨_, rfl⟩
  rw [← hX] at HA O
  obtain ⟨A, hA⟩ : ∃ A, A = w.heap.size := ⟨_, rfl⟩
  rw [← hA] at HA
  have HX := Lib.hid hX
  have HAE := Lib.hid hA
  simp only [Msg.row] at HX
  clear hX hA
  unfold mval
  clear hb ht hz hp hc hq hs hr ha hA1 hE1 hN hpu
  go_enter Try.func18, Try.ntmps18
  go_wp2_with fail
  rw [← HX.out, ← HAE.out]
  (with_reducible refine (AW.out _).mono ?_)
  rintro e w2 ⟨rfl, o⟩
  replace O := Lib.hid (O.out.trans o)
  replace HA := Lib.hid (MsgAt.keep HA.out o id)
  clear o
  obtain ⟨d0, d1, d2, d3, d4, d5, d6, d7, d8, d9, d10, d11, d12⟩ := MsgAt.cells HA.out
  go_wp2_with fail
  (with_reducible refine (BG.out _).mono ?_)
  rintro e w3 ⟨rfl, o⟩
  replace O := Lib.hid (O.out.trans o)
  replace HA := Lib.hid (MsgAt.keep HA.out o id)
  clear o
  obtain ⟨d0, d1, d2, d3, d4, d5, d6, d7, d8, d9, d10, d11, d12⟩ := MsgAt.cells HA.out
  go_wp2_with fail
  (with_reducible refine (C1.out _).mono ?_)
  rintro e w3 ⟨rfl, o⟩
  replace O := Lib.hid (O.out.trans o)
  replace HA := Lib.hid (MsgAt.keep HA.out o id)
  clear o
  obtain ⟨d0, d1, d2, d3, d4, d5, d6, d7, d8, d9, d10, d11, d12⟩ := MsgAt.cells HA.out
  go_wp2_with fail
  (with_reducible refine (C2.out _).mono ?_)
  rintro e w3 ⟨rfl, o⟩
  replace O := Lib.hid (O.out.trans o)
  replace HA := Lib.hid (MsgAt.keep HA.out o id)
  clear o
  obtain ⟨d0, d1, d2, d3, d4, d5, d6, d7, d8, d9, d10, d11, d12⟩ := MsgAt.cells HA.out
  go_wp2_with fail
  (with_reducible refine (CS.out _).mono ?_)
  rintro e w4 ⟨rfl, o⟩
  replace O := Lib.hid (O.out.trans o)
  replace HA := Lib.hid (MsgAt.keep HA.out o id)
  clear o
  have HN := Lib.hid (show (w4.alloc (.cells #[.int .i64 0, .int .u32 0, .int .u32 0, .int .u64 0, .string ⟨#[]⟩, .string ⟨#[]⟩, .string ⟨#[]⟩, .string ⟨#[]⟩, .string ⟨#[]⟩, .string ⟨#[]⟩, .string ⟨#[]⟩, .string ⟨#[]⟩, .string ⟨#[]⟩] 61)).heap[w4.heap.size]? = some (.cells #[.int .i64 0, .int .u32 0, .int .u32 0, .int .u64 0, .string ⟨#[]⟩, .string ⟨#[]⟩, .string ⟨#[]⟩, .string ⟨#[]⟩, .string ⟨#[]⟩, .string ⟨#[]⟩, .string ⟨#[]⟩, .string ⟨#[]⟩, .string ⟨#[]⟩] 61 (0, 0)) from heap_alloc_new w4 _)
  go_upto_region 10 with (refine wpList_store_row rfl 61 (.tmp 15) (.tmp 57) rfl w4.heap.size (zeroM 0).row rfl rfl 61 _ HN.out (info61 (zeroM 0)) (size61 (zeroM 0) (zeroM 0)) (one61 (zeroM 0)) ?_)
  obtain ⟨Z, hZ⟩ : ∃ Z, Z = (w4.alloc (.cells #[.int .i64 0, .int .u32 0, .int .u32 0, .int .u64 0, .string ⟨#[]⟩, .string ⟨#[]⟩, .string ⟨#[]⟩, .string ⟨#[]⟩, .string ⟨#[]⟩, .string ⟨#[]⟩, .string ⟨#[]⟩, .string ⟨#[]⟩, .string ⟨#[]⟩] 61)).setRow w4.heap.size (zeroM 0).row := ⟨_, rfl⟩
  obtain ⟨G, hG⟩ : ∃ G, G = w4.heap.size := ⟨_, rfl⟩
  rw [← hZ, ← hG]
  have HC := Lib.hid (show Z.heap[G]? = some (.cells (zeroM 0).row 61 (0, 0)) from by rw [hZ, hG]; exact setRow_heap _ _ _ _ _ _ HN.out)
  have oS : Only (fun _ => False) w4 Z := by rw [hZ, World.setRow_alloc_new]; exact (Only.refl _ _).alloc _
  replace O := Lib.hid (O.out.trans oS)
  clear hZ hG HN
  replace HA := Lib.hid (MsgAt.keep HA.out oS id)
  clear oS
  replace HC := Lib.hid (show MsgAt Z G (zeroM 0) from HC.out)
  obtain ⟨d0, d1, d2, d3, d4, d5, d6, d7, d8, d9, d10, d11, d12⟩ := MsgAt.cells HA.out
  go_wp2_with fail
  (with_reducible refine (CA.out _).mono ?_)
  rintro e w5 ⟨rfl, o⟩
  replace O := Lib.hid (O.out.trans o)
  replace HC := Lib.hid (MsgAt.keep HC.out o id)
  clear o
  go_wp2_with fail
  (with_reducible refine (CP.out _).mono ?_)
  rintro e w6 ⟨rfl, o⟩
  replace O := Lib.hid (O.out.trans o)
  replace HC := Lib.hid (MsgAt.keep HC.out o id)
  clear o
  obtain ⟨g0, g1, g2, g3, g4, g5, g6, g7, g8, g9, g10, g11, g12⟩ := MsgAt.cells HC.out
  simp only [zeroM] at g0 g1 g2 g3 g4 g5 g6 g7 g8 g9 g10 g11 g12
  go_wp2_with fail
  go_ret
  exact ⟨rfl, O.out⟩

set_option maxRecDepth 100000 in
set_option maxHeartbeats 4000000 in
theorem mr_noterm (m : Msg) (p c q : ByteArray) (N : Nat) (w : World) (ha : asksM m = true) (hpu : pubB p.data.toList = true) (hct : isT c.data.toList = false) (hb : bigB m ([p, c, q].map (·.data.toList)) = false) (hN : N ≤ most) (ht : ∀ i, (m.t i).size ≤ 3000) (hz : tsz m ≤ 3000) (hp : p.size ≤ 200) (hc : c.size ≤ 200) (hq : q.size ≤ 200) (hs : 0 ≤ m.s ∧ m.s ≤ 4294967295) (hr : 0 ≤ m.r ∧ m.r ≤ 4294967295) : Calls Try.prog 18 #[mval m, .string p, .string c, .string q, .int .u64 N] w (numA.Told w (.bool true)) := by
  have AW := Lib.hid (fun W => maG.awake_any W)
  have BG := Lib.hid (fun W => big3 m p c q false W hb (fun i => Nat.le_trans (ht i) (by decide)))
  have CA := Lib.hid (fun W => asks_any m true W ha (fun i => Nat.le_trans (ht i) (by decide)))
  obtain ⟨A1, hA1⟩ : ∃ A1 : ByteArray, A1.data.toList = (acceptM m p.data.toList q.data.toList).1 := ⟨⟨((acceptM m p.data.toList q.data.toList).1).toArray⟩, rfl⟩
  obtain ⟨E1, hE1⟩ : ∃ E, E = (acceptM m p.data.toList q.data.toList).2 := ⟨_, rfl⟩
  have C1 := Lib.hid (fun W => accept_let m p q A1 E1 W hA1 hE1 (fun i => Nat.le_trans (ht i) (by decide)) (by omega))
  have C2 := Lib.hid (fun W => refaccept_let m p q A1 E1 W hA1 hE1 (fun i => Nat.le_trans (ht i) (by decide)) (by omega))
  have y1 := beq_t (rfl : A1 = A1)
  have y2 := eq_t (rfl : A1 = A1)
  have CP := Lib.hid (fun W => refpub_any p true W hpu (by omega))
  have CI := Lib.hid (fun W => (show Calls Try.prog 39 #[.string c] W (numA.Told W (.bool false)) from by have h := trJ.is_any c W (by omega); rw [show trJ.isT (c : ByteArray).data.toList = false from hct] at h; exact h))
  have CS := Lib.hid (fun W => refuse_3 m p c N W ha hpu hct (by omega) (fun i => Nat.le_trans (ht i) (by decide)) (by omega) hs hr)
  have hzz := eql_zero
  simp only [Msg.row] at BG
  simp only [mval] at CA C1 C2 CS
  have HA := Lib.hid (show MsgAt (w.alloc (.cells m.row 61)) w.heap.size m from heap_alloc_new w _)
  have O := Lib.hid (show Only (fun _ => False) w (w.alloc (.cells m.row 61)) from (Only.refl _ w).alloc _)
  obtain ⟨X, hX⟩ : ∃ X, X = w.alloc (.cells m.row 61) := ⟨_, rfl⟩
  rw [← hX] at HA O
  obtain ⟨A, hA⟩ : ∃ A, A = w.heap.size := ⟨_, rfl⟩
  rw [← hA] at HA
  have HX := Lib.hid hX
  have HAE := Lib.hid hA
  simp only [Msg.row] at HX
  clear hX hA
  unfold mval
  clear hb ht hz hp hc hq hs hr ha hA1 hE1 hN hpu hct
  go_enter Try.func18, Try.ntmps18
  go_wp2_with fail
  rw [← HX.out, ← HAE.out]
  (with_reducible refine (AW.out _).mono ?_)
  rintro e w2 ⟨rfl, o⟩
  replace O := Lib.hid (O.out.trans o)
  replace HA := Lib.hid (MsgAt.keep HA.out o id)
  clear o
  obtain ⟨d0, d1, d2, d3, d4, d5, d6, d7, d8, d9, d10, d11, d12⟩ := MsgAt.cells HA.out
  go_wp2_with fail
  (with_reducible refine (BG.out _).mono ?_)
  rintro e w3 ⟨rfl, o⟩
  replace O := Lib.hid (O.out.trans o)
  replace HA := Lib.hid (MsgAt.keep HA.out o id)
  clear o
  obtain ⟨d0, d1, d2, d3, d4, d5, d6, d7, d8, d9, d10, d11, d12⟩ := MsgAt.cells HA.out
  go_wp2_with fail
  (with_reducible refine (C1.out _).mono ?_)
  rintro e w3 ⟨rfl, o⟩
  replace O := Lib.hid (O.out.trans o)
  replace HA := Lib.hid (MsgAt.keep HA.out o id)
  clear o
  obtain ⟨d0, d1, d2, d3, d4, d5, d6, d7, d8, d9, d10, d11, d12⟩ := MsgAt.cells HA.out
  go_wp2_with fail
  (with_reducible refine (C2.out _).mono ?_)
  rintro e w3 ⟨rfl, o⟩
  replace O := Lib.hid (O.out.trans o)
  replace HA := Lib.hid (MsgAt.keep HA.out o id)
  clear o
  obtain ⟨d0, d1, d2, d3, d4, d5, d6, d7, d8, d9, d10, d11, d12⟩ := MsgAt.cells HA.out
  go_wp2_with fail
  (with_reducible refine (CS.out _).mono ?_)
  rintro e w4 ⟨rfl, o⟩
  replace O := Lib.hid (O.out.trans o)
  replace HA := Lib.hid (MsgAt.keep HA.out o id)
  clear o
  have HN := Lib.hid (show (w4.alloc (.cells #[.int .i64 0, .int .u32 0, .int .u32 0, .int .u64 0, .string ⟨#[]⟩, .string ⟨#[]⟩, .string ⟨#[]⟩, .string ⟨#[]⟩, .string ⟨#[]⟩, .string ⟨#[]⟩, .string ⟨#[]⟩, .string ⟨#[]⟩, .string ⟨#[]⟩] 61)).heap[w4.heap.size]? = some (.cells #[.int .i64 0, .int .u32 0, .int .u32 0, .int .u64 0, .string ⟨#[]⟩, .string ⟨#[]⟩, .string ⟨#[]⟩, .string ⟨#[]⟩, .string ⟨#[]⟩, .string ⟨#[]⟩, .string ⟨#[]⟩, .string ⟨#[]⟩, .string ⟨#[]⟩] 61 (0, 0)) from heap_alloc_new w4 _)
  go_upto_region 10 with (refine wpList_store_row rfl 61 (.tmp 15) (.tmp 57) rfl w4.heap.size (zeroM 0).row rfl rfl 61 _ HN.out (info61 (zeroM 0)) (size61 (zeroM 0) (zeroM 0)) (one61 (zeroM 0)) ?_)
  obtain ⟨Z, hZ⟩ : ∃ Z, Z = (w4.alloc (.cells #[.int .i64 0, .int .u32 0, .int .u32 0, .int .u64 0, .string ⟨#[]⟩, .string ⟨#[]⟩, .string ⟨#[]⟩, .string ⟨#[]⟩, .string ⟨#[]⟩, .string ⟨#[]⟩, .string ⟨#[]⟩, .string ⟨#[]⟩, .string ⟨#[]⟩] 61)).setRow w4.heap.size (zeroM 0).row := ⟨_, rfl⟩
  obtain ⟨G, hG⟩ : ∃ G, G = w4.heap.size := ⟨_, rfl⟩
  rw [← hZ, ← hG]
  have HC := Lib.hid (show Z.heap[G]? = some (.cells (zeroM 0).row 61 (0, 0)) from by rw [hZ, hG]; exact setRow_heap _ _ _ _ _ _ HN.out)
  have oS : Only (fun _ => False) w4 Z := by rw [hZ, World.setRow_alloc_new]; exact (Only.refl _ _).alloc _
  replace O := Lib.hid (O.out.trans oS)
  clear hZ hG HN
  replace HA := Lib.hid (MsgAt.keep HA.out oS id)
  clear oS
  replace HC := Lib.hid (show MsgAt Z G (zeroM 0) from HC.out)
  obtain ⟨d0, d1, d2, d3, d4, d5, d6, d7, d8, d9, d10, d11, d12⟩ := MsgAt.cells HA.out
  go_wp2_with fail
  (with_reducible refine (CA.out _).mono ?_)
  rintro e w5 ⟨rfl, o⟩
  replace O := Lib.hid (O.out.trans o)
  replace HC := Lib.hid (MsgAt.keep HC.out o id)
  clear o
  go_wp2_with fail
  (with_reducible refine (CP.out _).mono ?_)
  rintro e w6 ⟨rfl, o⟩
  replace O := Lib.hid (O.out.trans o)
  replace HC := Lib.hid (MsgAt.keep HC.out o id)
  clear o
  go_wp2_with fail
  (with_reducible refine (CI.out _).mono ?_)
  rintro e w7 ⟨rfl, o⟩
  replace O := Lib.hid (O.out.trans o)
  replace HC := Lib.hid (MsgAt.keep HC.out o id)
  clear o
  obtain ⟨g0, g1, g2, g3, g4, g5, g6, g7, g8, g9, g10, g11, g12⟩ := MsgAt.cells HC.out
  simp only [zeroM] at g0 g1 g2 g3 g4 g5 g6 g7 g8 g9 g10 g11 g12
  go_wp2_with fail
  go_ret
  exact ⟨rfl, O.out⟩

set_option maxRecDepth 100000 in
set_option maxHeartbeats 4000000 in
theorem mr_ok (m : Msg) (p c q : ByteArray) (N : Nat) (w : World) (ha : asksM m = true) (hpu : pubB p.data.toList = true) (hct : isT c.data.toList = true) (hb : bigB m ([p, c, q].map (·.data.toList)) = false) (hN : N ≤ most) (ht : ∀ i, (m.t i).size ≤ 3000) (hz : tsz m ≤ 3000) (hp : p.size ≤ 200) (hc : c.size ≤ 200) (hq : q.size ≤ 200) (hs : 0 ≤ m.s ∧ m.s ≤ 4294967295) (hr : 0 ≤ m.r ∧ m.r ≤ 4294967295) : Calls Try.prog 18 #[mval m, .string p, .string c, .string q, .int .u64 N] w (numA.Told w (.bool true)) := by
  have AW := Lib.hid (fun W => maG.awake_any W)
  have BG := Lib.hid (fun W => big3 m p c q false W hb (fun i => Nat.le_trans (ht i) (by decide)))
  have CA := Lib.hid (fun W => asks_any m true W ha (fun i => Nat.le_trans (ht i) (by decide)))
  obtain ⟨A1, hA1⟩ : ∃ A1 : ByteArray, A1.data.toList = (acceptM m p.data.toList q.data.toList).1 := ⟨⟨((acceptM m p.data.toList q.data.toList).1).toArray⟩, rfl⟩
  obtain ⟨E1, hE1⟩ : ∃ E, E = (acceptM m p.data.toList q.data.toList).2 := ⟨_, rfl⟩
  have C1 := Lib.hid (fun W => accept_let m p q A1 E1 W hA1 hE1 (fun i => Nat.le_trans (ht i) (by decide)) (by omega))
  have C2 := Lib.hid (fun W => refaccept_let m p q A1 E1 W hA1 hE1 (fun i => Nat.le_trans (ht i) (by decide)) (by omega))
  have y1 := beq_t (rfl : A1 = A1)
  have y2 := eq_t (rfl : A1 = A1)
  have CP := Lib.hid (fun W => refpub_any p true W hpu (by omega))
  have CI := Lib.hid (fun W => (show Calls Try.prog 39 #[.string c] W (numA.Told W (.bool true)) from by have h := trJ.is_any c W (by omega); rw [show trJ.isT (c : ByteArray).data.toList = true from hct] at h; exact h))
  obtain ⟨nb, hnb⟩ : ∃ nb : ByteArray, nb.data.toList = mkT 3 N [] [] := ⟨⟨(mkT 3 N [] []).toArray⟩, rfl⟩
  obtain ⟨sb, hsb⟩ : ∃ sb : ByteArray, sb.data.toList = mkT 10 N [] [jarT p.data.toList, c.data.toList, (m.t 11).data.toList] := ⟨⟨(mkT 10 N [] [jarT p.data.toList, c.data.toList, (m.t 11).data.toList]).toArray⟩, rfl⟩
  have jo := jar_ok hpu (by rw [tl_size]; omega)
  have no := num_ok N hN
  have so := seal3 hN jo.1 hct (asks_mac ha).1 (by rw [tl_size, tl_size]; have := jo.2; have := ht 11; rw [tl_size] at *; omega)
  have so2 := so.2.1
  rw [tl_size, tl_size] at so2
  have jo2 := jo.2
  rw [tl_size] at jo2
  have t11 := ht 11
  have f1 : fitB nb.data.toList = true := by rw [hnb]; exact fit_of no.2.1 (Nat.le_trans no.2.2.1 (by decide))
  have f2 : fitB sb.data.toList = true := by rw [hsb]; exact fit_of so.1 (by omega)
  have hR := ref_right (m := m) f1 f2
  have nz : nb.size ≤ 21 := u_le hnb no.2.2.1
  have sz : sb.size ≤ 5000 := u_le hsb (by omega)
  have sne : sb.data.toList ≠ [] := by rw [hsb]; exact so.2.2
  have op := fun y => ref_open hN hpu hR hnb hsb sne y
  have CS := Lib.hid (fun W => refuse_ok m p c nb sb N W hN ha hpu hct hnb hsb hR (fun i => Nat.le_trans (ht i) (by decide)) (by omega) (by omega) hs hr)
  have CT := Lib.hid (fun W => (show Calls Try.prog 89 #[mval m, .string p, .string c, .int .u64 N] W (numA.Told W (mval (refM m nb sb))) from refrefuse_any m p c nb sb N W hN hnb hsb (fun i => Nat.le_trans (ht i) (by decide)) (by omega) (by omega) hs hr))
  obtain ⟨r, hr0⟩ : ∃ r, r = refM m nb sb := ⟨_, rfl⟩
  have rt : ∀ i, (r.t i).size ≤ 100000000 := by
    intro i
    rw [hr0]
    show (if i = 8 then nb else if i = 9 then sb else (⟨#[]⟩ : ByteArray)).size ≤ _
    by_cases h8 : i = 8
    · rw [if_pos h8]; omega
    by_cases h9 : i = 9
    · rw [if_neg h8, if_pos h9]; omega
    rw [if_neg h8, if_neg h9]
    decide
  rw [← hr0] at CS CT op
  have C3 := Lib.hid (fun W => accept_let r p (m.t 11) c 0 W (by rw [op, if_pos rfl]) (by rw [op, if_pos rfl]) rt (by omega))
  obtain ⟨u, hu⟩ : ∃ u, u = decide (q.data.toList = (m.t 11).data.toList) := ⟨_, rfl⟩
  have v1 : (q.toList == (m.t 11).toList) = u := by rw [hu]; exact beq_dec q (m.t 11)
  have v2 : (q.toList = (m.t 11).toList) = (u = true) := by rw [hu]; exact eq_dec q (m.t 11)
  obtain ⟨A4, hA4⟩ : ∃ A : ByteArray, A.data.toList = (acceptM r p.data.toList q.data.toList).1 := ⟨⟨(acceptM r p.data.toList q.data.toList).1.toArray⟩, rfl⟩
  obtain ⟨E4, hE4⟩ : ∃ E : Nat, E = (acceptM r p.data.toList q.data.toList).2 := ⟨_, rfl⟩
  have C4 := Lib.hid (fun W => accept_let r p q A4 E4 W hA4 hE4 rt (by omega))
  have HE4 := Lib.hid (show E4 = if u = true then 0 else 8 from by
    rw [hE4, op, hu]
    by_cases h : (m.t 11).data.toList = q.data.toList
    · rw [if_pos h, decide_eq_true h.symm, if_pos rfl]
    · rw [if_neg h, decide_eq_false (fun q => h q.symm), if_neg (by decide)])
  have y3 := beq_t (rfl : c = c)
  have y4 := eq_t (rfl : c = c)
  have hneq := fun W => neq_self r W
  simp only [Msg.row] at BG
  simp only [mval] at CA C1 C2 CT C3 C4 hneq CS
  have HA := Lib.hid (show MsgAt (w.alloc (.cells m.row 61)) w.heap.size m from heap_alloc_new w _)
  have O := Lib.hid (show Only (fun _ => False) w (w.alloc (.cells m.row 61)) from (Only.refl _ w).alloc _)
  obtain ⟨X, hX⟩ : ∃ X, X = w.alloc (.cells m.row 61) := ⟨_, rfl⟩
  rw [← hX] at HA O
  obtain ⟨A, hA⟩ : ∃ A, A = w.heap.size := ⟨_, rfl⟩
  rw [← hA] at HA
  have HX := Lib.hid hX
  have HAE := Lib.hid hA
  simp only [Msg.row] at HX
  clear hX hA
  unfold mval
  clear hb ht hz hp hc hq hs hr ha hA1 hE1 hN hpu hct hnb hsb jo no so so2 jo2 t11 f1 f2 hR nz sz sne op hr0 rt hu hA4 hE4
  go_enter Try.func18, Try.ntmps18
  go_wp2_with fail
  rw [← HX.out, ← HAE.out]
  (with_reducible refine (AW.out _).mono ?_)
  rintro e w2 ⟨rfl, o⟩
  replace O := Lib.hid (O.out.trans o)
  replace HA := Lib.hid (MsgAt.keep HA.out o id)
  clear o
  obtain ⟨d0, d1, d2, d3, d4, d5, d6, d7, d8, d9, d10, d11, d12⟩ := MsgAt.cells HA.out
  go_wp2_with fail
  (with_reducible refine (BG.out _).mono ?_)
  rintro e w3 ⟨rfl, o⟩
  replace O := Lib.hid (O.out.trans o)
  replace HA := Lib.hid (MsgAt.keep HA.out o id)
  clear o
  obtain ⟨d0, d1, d2, d3, d4, d5, d6, d7, d8, d9, d10, d11, d12⟩ := MsgAt.cells HA.out
  go_wp2_with fail
  (with_reducible refine (C1.out _).mono ?_)
  rintro e w3 ⟨rfl, o⟩
  replace O := Lib.hid (O.out.trans o)
  replace HA := Lib.hid (MsgAt.keep HA.out o id)
  clear o
  obtain ⟨d0, d1, d2, d3, d4, d5, d6, d7, d8, d9, d10, d11, d12⟩ := MsgAt.cells HA.out
  go_wp2_with fail
  (with_reducible refine (C2.out _).mono ?_)
  rintro e w3 ⟨rfl, o⟩
  replace O := Lib.hid (O.out.trans o)
  replace HA := Lib.hid (MsgAt.keep HA.out o id)
  clear o
  obtain ⟨d0, d1, d2, d3, d4, d5, d6, d7, d8, d9, d10, d11, d12⟩ := MsgAt.cells HA.out
  go_wp2_with fail
  (with_reducible refine (CS.out _).mono ?_)
  rintro e w4 ⟨rfl, o⟩
  replace O := Lib.hid (O.out.trans o)
  replace HA := Lib.hid (MsgAt.keep HA.out o id)
  clear o
  have HN := Lib.hid (show (w4.alloc (.cells #[.int .i64 0, .int .u32 0, .int .u32 0, .int .u64 0, .string ⟨#[]⟩, .string ⟨#[]⟩, .string ⟨#[]⟩, .string ⟨#[]⟩, .string ⟨#[]⟩, .string ⟨#[]⟩, .string ⟨#[]⟩, .string ⟨#[]⟩, .string ⟨#[]⟩] 61)).heap[w4.heap.size]? = some (.cells #[.int .i64 0, .int .u32 0, .int .u32 0, .int .u64 0, .string ⟨#[]⟩, .string ⟨#[]⟩, .string ⟨#[]⟩, .string ⟨#[]⟩, .string ⟨#[]⟩, .string ⟨#[]⟩, .string ⟨#[]⟩, .string ⟨#[]⟩, .string ⟨#[]⟩] 61 (0, 0)) from heap_alloc_new w4 _)
  go_upto_region 10 with (refine wpList_store_row rfl 61 (.tmp 15) (.tmp 57) rfl w4.heap.size r.row rfl rfl 61 _ HN.out (info61 r) (size61 (zeroM 0) r) (one61 r) ?_)
  obtain ⟨Z, hZ⟩ : ∃ Z, Z = (w4.alloc (.cells #[.int .i64 0, .int .u32 0, .int .u32 0, .int .u64 0, .string ⟨#[]⟩, .string ⟨#[]⟩, .string ⟨#[]⟩, .string ⟨#[]⟩, .string ⟨#[]⟩, .string ⟨#[]⟩, .string ⟨#[]⟩, .string ⟨#[]⟩, .string ⟨#[]⟩] 61)).setRow w4.heap.size r.row := ⟨_, rfl⟩
  obtain ⟨G, hG⟩ : ∃ G, G = w4.heap.size := ⟨_, rfl⟩
  rw [← hZ, ← hG]
  have HC := Lib.hid (show Z.heap[G]? = some (.cells r.row 61 (0, 0)) from by rw [hZ, hG]; exact setRow_heap _ _ _ _ _ _ HN.out)
  have oS : Only (fun _ => False) w4 Z := by rw [hZ, World.setRow_alloc_new]; exact (Only.refl _ _).alloc _
  replace O := Lib.hid (O.out.trans oS)
  clear hZ hG HN
  replace HA := Lib.hid (MsgAt.keep HA.out oS id)
  clear oS
  replace HC := Lib.hid (show MsgAt Z G r from HC.out)
  obtain ⟨d0, d1, d2, d3, d4, d5, d6, d7, d8, d9, d10, d11, d12⟩ := MsgAt.cells HA.out
  go_wp2_with fail
  (with_reducible refine (CA.out _).mono ?_)
  rintro e w5 ⟨rfl, o⟩
  replace O := Lib.hid (O.out.trans o)
  replace HA := Lib.hid (MsgAt.keep HA.out o id)
  replace HC := Lib.hid (MsgAt.keep HC.out o id)
  clear o
  go_wp2_with fail
  (with_reducible refine (CP.out _).mono ?_)
  rintro e w6 ⟨rfl, o⟩
  replace O := Lib.hid (O.out.trans o)
  replace HA := Lib.hid (MsgAt.keep HA.out o id)
  replace HC := Lib.hid (MsgAt.keep HC.out o id)
  clear o
  go_wp2_with fail
  (with_reducible refine (CI.out _).mono ?_)
  rintro e w6 ⟨rfl, o⟩
  replace O := Lib.hid (O.out.trans o)
  replace HA := Lib.hid (MsgAt.keep HA.out o id)
  replace HC := Lib.hid (MsgAt.keep HC.out o id)
  clear o
  go_upto_region 12 with fail
  have R := Lib.hid ((Only.refl (fun _ => False) w6).drew)
  refine wp_region_held_drew (S := (fun w' => (w'.cell? ⟨A, 0, none⟩ = some (.int .i64 m.k) ∧ w'.cell? ⟨A, 1, none⟩ = some (.int .u32 m.s) ∧ w'.cell? ⟨A, 2, none⟩ = some (.int .u32 m.r) ∧ w'.cell? ⟨A, 3, none⟩ = some (.int .u64 m.c) ∧ w'.cell? ⟨A, 4, none⟩ = some (.string (m.t 4)) ∧ w'.cell? ⟨A, 5, none⟩ = some (.string (m.t 5)) ∧ w'.cell? ⟨A, 6, none⟩ = some (.string (m.t 6)) ∧ w'.cell? ⟨A, 7, none⟩ = some (.string (m.t 7)) ∧ w'.cell? ⟨A, 8, none⟩ = some (.string (m.t 8)) ∧ w'.cell? ⟨A, 9, none⟩ = some (.string (m.t 9)) ∧ w'.cell? ⟨A, 10, none⟩ = some (.string (m.t 10)) ∧ w'.cell? ⟨A, 11, none⟩ = some (.string (m.t 11)) ∧ w'.cell? ⟨A, 12, none⟩ = some (.string (m.t 12))) ∧ (w'.cell? ⟨G, 0, none⟩ = some (.int .i64 r.k) ∧ w'.cell? ⟨G, 1, none⟩ = some (.int .u32 r.s) ∧ w'.cell? ⟨G, 2, none⟩ = some (.int .u32 r.r) ∧ w'.cell? ⟨G, 3, none⟩ = some (.int .u64 r.c) ∧ w'.cell? ⟨G, 4, none⟩ = some (.string (r.t 4)) ∧ w'.cell? ⟨G, 5, none⟩ = some (.string (r.t 5)) ∧ w'.cell? ⟨G, 6, none⟩ = some (.string (r.t 6)) ∧ w'.cell? ⟨G, 7, none⟩ = some (.string (r.t 7)) ∧ w'.cell? ⟨G, 8, none⟩ = some (.string (r.t 8)) ∧ w'.cell? ⟨G, 9, none⟩ = some (.string (r.t 9)) ∧ w'.cell? ⟨G, 10, none⟩ = some (.string (r.t 10)) ∧ w'.cell? ⟨G, 11, none⟩ = some (.string (r.t 11)) ∧ w'.cell? ⟨G, 12, none⟩ = some (.string (r.t 12))))) (by kernel_rfl) ?_ (fun hHeld => ?_)
  · exact ⟨MsgAt.cells (MsgAt.keep HA.out R.out id), MsgAt.cells (MsgAt.keep HC.out R.out id)⟩
  refine rgA.tk 0 hHeld ?_
  refine rgA.tk 1 hHeld ?_
  refine rgA.tk 2 hHeld ?_
  refine rgA.tk 3 hHeld ?_
  refine rgA.tk 4 hHeld ?_
  refine rgA.tk 5 hHeld ?_
  refine rgA.tk 6 hHeld ?_
  refine rgA.tk 7 hHeld ?_
  refine rgA.rd 8 (fun K hK => ?_)
  go_simp
  (with_reducible refine (CT.out _).mono ?_)
  rintro e w2 ⟨rfl, o⟩
  replace R := Lib.hid (R.out.trans o)
  clear o
  go_wp2_with fail
  refine hK.out _ _ ?_ (fun hHeld => ?_)
  · exact ⟨MsgAt.cells (MsgAt.keep HA.out R.out id), MsgAt.cells (MsgAt.keep HC.out R.out id)⟩
  clear hK K
  try simp only [List.getElem_toArray, List.getElem_cons_succ, List.getElem_cons_zero, Act.put, List.setIfInBounds_toArray, List.set_cons_zero, List.set_cons_succ]
  refine rgA.tk 9 hHeld ?_
  refine rgA.tk 10 hHeld ?_
  refine wpAnyH_done (by kernel_rfl) ?_ _
  obtain ⟨V2, hV⟩ : ∃ V, V = w2 := ⟨_, rfl⟩
  rw [← hV] at R ⊢
  clear hV hHeld
  replace O := Lib.hid (O.out.trans R.out)
  replace HC := Lib.hid (MsgAt.keep HC.out R.out id)
  replace HA := Lib.hid (MsgAt.keep HA.out R.out id)
  clear R
  go_upto_region 14 with fail
  obtain ⟨g0, g1, g2, g3, g4, g5, g6, g7, g8, g9, g10, g11, g12⟩ := MsgAt.cells HC.out
  obtain ⟨d0, d1, d2, d3, d4, d5, d6, d7, d8, d9, d10, d11, d12⟩ := MsgAt.cells HA.out
  go_wp2_with fail
  (with_reducible refine (C3.out _).mono ?_)
  rintro e w8 ⟨rfl, o⟩
  replace O := Lib.hid (O.out.trans o)
  replace HA := Lib.hid (MsgAt.keep HA.out o id)
  replace HC := Lib.hid (MsgAt.keep HC.out o id)
  clear o
  obtain ⟨g0, g1, g2, g3, g4, g5, g6, g7, g8, g9, g10, g11, g12⟩ := MsgAt.cells HC.out
  obtain ⟨d0, d1, d2, d3, d4, d5, d6, d7, d8, d9, d10, d11, d12⟩ := MsgAt.cells HA.out
  go_wp2_with fail
  (with_reducible refine (C4.out _).mono ?_)
  rintro e w9 ⟨rfl, o⟩
  replace O := Lib.hid (O.out.trans o)
  replace HA := Lib.hid (MsgAt.keep HA.out o id)
  clear o
  obtain ⟨d0, d1, d2, d3, d4, d5, d6, d7, d8, d9, d10, d11, d12⟩ := MsgAt.cells HA.out
  cases u
  · rw [show E4 = 8 from HE4.out]
    go_wp2_with fail
    go_ret
    exact ⟨rfl, O.out⟩
  · rw [show E4 = 0 from HE4.out]
    go_wp2_with fail
    go_ret
    exact ⟨rfl, O.out⟩

theorem refuse_law_any (m : Msg) (p c q : ByteArray) (N : Nat) (w : World) (hN : N ≤ most) (ho : ∀ i, i < 4 ∨ 12 < i → (m.t i).size = 0) (ht : ∀ i, (m.t i).size ≤ 140737488355328) (hs : 0 ≤ m.s ∧ m.s ≤ 4294967295) (hr : 0 ≤ m.r ∧ m.r ≤ 4294967295) : Calls Try.prog 18 #[mval m, .string p, .string c, .string q, .int .u64 N] w (numA.Told w (.bool true)) := by
  cases hb : bigB m ([p, c, q].map (·.data.toList))
  case true => exact mr_big m p c q N w hb ht
  obtain ⟨h1, h2⟩ := size_le_of_any hb
  have hp : p.size ≤ 200 := by have := h1 p.data.toList (by simp); rwa [tl_size] at this
  have hc : c.size ≤ 200 := by have := h1 c.data.toList (by simp); rwa [tl_size] at this
  have hq : q.size ≤ 200 := by have := h1 q.data.toList (by simp); rwa [tl_size] at this
  have hz : tsz m ≤ 3000 := by rw [tsz_bytes] at h2; omega
  have ht3 : ∀ i, (m.t i).size ≤ 3000 := by
    intro i
    by_cases h : i < 4 ∨ 12 < i
    · rw [ho i h]; exact Nat.zero_le _
    · have e : i = 4 ∨ i = 5 ∨ i = 6 ∨ i = 7 ∨ i = 8 ∨ i = 9 ∨ i = 10 ∨ i = 11 ∨ i = 12 := by omega
      unfold tsz at hz
      rcases e with rfl | rfl | rfl | rfl | rfl | rfl | rfl | rfl | rfl <;> omega
  cases ha : asksM m
  · exact mr_noask m p c q N w ha hb hN ht3 hz hp hc hq hs hr
  cases hpu : pubB p.data.toList
  · exact mr_nopub m p c q N w ha hpu hb hN ht3 hz hp hc hq hs hr
  cases hct : isT c.data.toList
  · exact mr_noterm m p c q N w ha hpu hct hb hN ht3 hz hp hc hq hs hr
  · exact mr_ok m p c q N w ha hpu hct hb hN ht3 hz hp hc hq hs hr

theorem refuse_walk (m : Msg) (hm : argM.MsgOk m) (p : ByteArray) (_ : p.size ≤ 9223372036854775807) (c : ByteArray) (_ : c.size ≤ 9223372036854775807) (q : ByteArray) (_ : q.size ≤ 9223372036854775807) (n : Int) (hn : (Lit.int .u64 n).wf = true) {w : World} : Calls Try.prog 18 #[.agg m.row, .string p, .string c, .string q, .int .u64 n] w fun e w' => e = .returned (.bool true) ∧ Below w.heap.size w w' := by
  obtain ⟨h0, hs, hr, hc, ho, ht⟩ := hm
  have b := bounds_u64 hn
  obtain ⟨N, rfl⟩ := Int.eq_ofNat_of_zero_le b.1
  refine (refuse_law_any m p c q N w (by unfold most; omega) ho (fun i => Nat.le_trans (ht i) (by decide)) hs hr).mono ?_
  rintro e w' ⟨rfl, o⟩
  exact ⟨rfl, o.below (fun _ h => h.elim) (Nat.le_refl _)⟩

end Go.Proofs.Ytbjnejnjlidiaaa.maN
