/- Macs: the law on sums (those that are refused). -/
import Derived.Test.YtbjnejnjlidiaaaMaI
import Derived.Test.YtbjnejnjlidiaaaRgA
namespace Go.Proofs.Ytbjnejnjlidiaaa.maJ
open Go.RowKit kit numA numB numC numD numE tmA tmB tmC tmD tmE trA trB prR prS prW prX tsA tsB tsF tsI wrA wrB wrC wrD wrE wrF wrG wrH wrI wrJ wrK wrL mkA maA maB maC maD maE maF maG maI
set_option linter.unusedVariables false
set_option linter.unusedSimpArgs false

theorem big3 (m : Msg) (x y z : ByteArray) (r : Bool) (W : World) (hb : bigB m ([x, y, z].map (·.data.toList)) = r) (ht : ∀ i, (m.t i).size ≤ 140737488355328) : Calls Try.prog 77 #[.agg m.row, .slice (some ⟨W.heap.size, 0, none⟩) 3 3] (W.alloc (.cells #[.string x, .string y, .string z] 9)) (numA.Told W (.bool r)) :=
  big_lst m [x, y, z] r W (by simp) hb ht W.heap.size rfl
theorem eql_zero (W : World) : (binOp .eql 61 (.agg #[.int .i64 0, .int .u32 0, .int .u32 0, .int .u64 0, .string ⟨#[]⟩, .string ⟨#[]⟩, .string ⟨#[]⟩, .string ⟨#[]⟩, .string ⟨#[]⟩, .string ⟨#[]⟩, .string ⟨#[]⟩, .string ⟨#[]⟩, .string ⟨#[]⟩]) (.agg #[.int .i64 0, .int .u32 0, .int .u32 0, .int .u64 0, .string ⟨#[]⟩, .string ⟨#[]⟩, .string ⟨#[]⟩, .string ⟨#[]⟩, .string ⟨#[]⟩, .string ⟨#[]⟩, .string ⟨#[]⟩, .string ⟨#[]⟩, .string ⟨#[]⟩])).run Try.prog W = .ok (.bool true) W := by
  have h := run_eqlM (zeroM 0) (zeroM 0) W
  rw [eqM_self] at h
  exact h
theorem neq_self (m : Msg) (W : World) : (binOp .neq 61 (mval m) (mval m)).run Try.prog W = .ok (.bool false) W := by
  have h := laid_neqM m m W
  rw [eqM_self] at h
  exact h
theorem beq_dec (a b : ByteArray) : (a.toList == b.toList) = decide (a.data.toList = b.data.toList) := by
  rw [byteArray_toList, byteArray_toList, Bool.eq_iff_iff, beq_iff_eq, decide_eq_true_eq]
theorem eq_dec (a b : ByteArray) : (a.toList = b.toList) = (decide (a.data.toList = b.data.toList) = true) := by
  rw [byteArray_toList, byteArray_toList, decide_eq_true_eq]

set_option maxRecDepth 100000 in
set_option maxHeartbeats 1600000 in
theorem ms_big (m : Msg) (p c q : ByteArray) (w : World) (hb : bigB m ([p, c, q].map (·.data.toList)) = true) (ht : ∀ i, (m.t i).size ≤ 140737488355328) : Calls Try.prog 17 #[mval m, .string p, .string c, .string q] w (numA.Told w (.bool true)) := by
  have AW := Lib.hid (fun W => maG.awake_any W)
  have BG := Lib.hid (fun W => big3 m p c q true W hb ht)
  simp only [Msg.row] at BG
  have HA := Lib.hid (show MsgAt (w.alloc (.cells m.row 61)) w.heap.size m from heap_alloc_new w _)
  have O := Lib.hid (show Only (fun _ => False) w (w.alloc (.cells m.row 61)) from (Only.refl _ w).alloc _)
  obtain ⟨X, hX⟩ : ∃ X, X = w.alloc (.cells m.row 61) := ⟨_, rfl⟩
  rw [← hX] at HA O
  obtain ⟨A, hA⟩ : ∃ A, A = w.heap.size := ⟨_, rfl⟩
  rw [← hA] at HA
  have HX := Lib.hid hX
  have HAE := Lib.hid hA
  simp only [Msg.row] at HX
  clear hX hA
  unfold mval
  clear hb ht
  go_enter Try.func17, Try.ntmps17
  go_wp2_with fail
  rw [← HX.out, ← HAE.out]
  (with_reducible refine (AW.out _).mono ?_)
  rintro e w2 ⟨rfl, o⟩
  replace O := Lib.hid (O.out.trans o)
  replace HA := Lib.hid (MsgAt.keep HA.out o id)
  clear o
  obtain ⟨d0, d1, d2, d3, d4, d5, d6, d7, d8, d9, d10, d11, d12⟩ := MsgAt.cells HA.out
  go_wp2_with fail
  (with_reducible refine (BG.out _).mono ?_)
  rintro e w3 ⟨rfl, o⟩
  replace O := Lib.hid (O.out.trans o)
  replace HA := Lib.hid (MsgAt.keep HA.out o id)
  clear o
  obtain ⟨d0, d1, d2, d3, d4, d5, d6, d7, d8, d9, d10, d11, d12⟩ := MsgAt.cells HA.out
  go_wp2_with fail
  go_ret
  exact ⟨rfl, O.out⟩

set_option maxRecDepth 100000 in
set_option maxHeartbeats 4000000 in
theorem ms_noask (m : Msg) (p c q : ByteArray) (w : World) (ha : asksM m = false) (hb : bigB m ([p, c, q].map (·.data.toList)) = false) (ht : ∀ i, (m.t i).size ≤ 3000) (hz : tsz m ≤ 3000) (hp : p.size ≤ 200) (hc : c.size ≤ 200) (hq : q.size ≤ 200) (hs : 0 ≤ m.s ∧ m.s ≤ 4294967295) (hr : 0 ≤ m.r ∧ m.r ≤ 4294967295) : Calls Try.prog 17 #[mval m, .string p, .string c, .string q] w (numA.Told w (.bool true)) := by
  have AW := Lib.hid (fun W => maG.awake_any W)
  have BG := Lib.hid (fun W => big3 m p c q false W hb (fun i => Nat.le_trans (ht i) (by decide)))
  have CA := Lib.hid (fun W => asks_any m false W ha (fun i => Nat.le_trans (ht i) (by decide)))
  have hff : firstB m p.data.toList = false := first_no (.inl ha)
  have CF := Lib.hid (fun W => first_any m p false W hff (fun i => Nat.le_trans (ht i) (by decide)) (by omega) hs hr)
  have hgg : secondB m c.data.toList = false := second_not ha
  have CE := Lib.hid (fun W => second_any m c false W hgg (fun i => Nat.le_trans (ht i) (by decide)) hs hr)
  have CS := Lib.hid (fun W => sign_1 m p c W ha trivial (fun i => Nat.le_trans (ht i) (by decide)) (by omega) hs hr)
  have hzz := eql_zero
  simp only [Msg.row] at BG
  simp only [mval] at CA CF CE CS
  have HA := Lib.hid (show MsgAt (w.alloc (.cells m.row 61)) w.heap.size m from heap_alloc_new w _)
  have O := Lib.hid (show Only (fun _ => False) w (w.alloc (.cells m.row 61)) from (Only.refl _ w).alloc _)
  obtain ⟨X, hX⟩ : ∃ X, X = w.alloc (.cells m.row 61) := ⟨_, rfl⟩
  rw [← hX] at HA O
  obtain ⟨A, hA⟩ : ∃ A, A = w.heap.size := ⟨_, rfl⟩
  rw [← hA] at HA
  have HX := Lib.hid hX
  have HAE := Lib.hid hA
  simp only [Msg.row] at HX
  clear hX hA
  unfold mval
  clear hb ht hz hp hc hq hs hr ha hff hgg
  go_enter Try.func17, Try.ntmps17
  go_wp2_with fail
  rw [← HX.out, ← HAE.out]
  (with_reducible refine (AW.out _).mono ?_)
  rintro e w2 ⟨rfl, o⟩
  replace O := Lib.hid (O.out.trans o)
  replace HA := Lib.hid (MsgAt.keep HA.out o id)
  clear o
  obtain ⟨d0, d1, d2, d3, d4, d5, d6, d7, d8, d9, d10, d11, d12⟩ := MsgAt.cells HA.out
  go_wp2_with fail
  (with_reducible refine (BG.out _).mono ?_)
  rintro e w3 ⟨rfl, o⟩
  replace O := Lib.hid (O.out.trans o)
  replace HA := Lib.hid (MsgAt.keep HA.out o id)
  clear o
  obtain ⟨d0, d1, d2, d3, d4, d5, d6, d7, d8, d9, d10, d11, d12⟩ := MsgAt.cells HA.out
  go_wp2_with fail
  (with_reducible refine (CS.out _).mono ?_)
  rintro e w4 ⟨rfl, o⟩
  replace O := Lib.hid (O.out.trans o)
  replace HA := Lib.hid (MsgAt.keep HA.out o id)
  clear o
  have HN := Lib.hid (show (w4.alloc (.cells #[.int .i64 0, .int .u32 0, .int .u32 0, .int .u64 0, .string ⟨#[]⟩, .string ⟨#[]⟩, .string ⟨#[]⟩, .string ⟨#[]⟩, .string ⟨#[]⟩, .string ⟨#[]⟩, .string ⟨#[]⟩, .string ⟨#[]⟩, .string ⟨#[]⟩] 61)).heap[w4.heap.size]? = some (.cells #[.int .i64 0, .int .u32 0, .int .u32 0, .int .u64 0, .string ⟨#[]⟩, .string ⟨#[]⟩, .string ⟨#[]⟩, .string ⟨#[]⟩, .string ⟨#[]⟩, .string ⟨#[]⟩, .string ⟨#[]⟩, .string ⟨#[]⟩, .string ⟨#[]⟩] 61 (0, 0)) from heap_alloc_new w4 _)
  go_upto_region 6 with (refine wpList_store_row rfl 61 (.tmp 9) (.tmp 25) rfl w4.heap.size (zeroM 0).row rfl rfl 61 _ HN.out (info61 (zeroM 0)) (size61 (zeroM 0) (zeroM 0)) (one61 (zeroM 0)) ?_)
  obtain ⟨Z, hZ⟩ : ∃ Z, Z = (w4.alloc (.cells #[.int .i64 0, .int .u32 0, .int .u32 0, .int .u64 0, .string ⟨#[]⟩, .string ⟨#[]⟩, .string ⟨#[]⟩, .string ⟨#[]⟩, .string ⟨#[]⟩, .string ⟨#[]⟩, .string ⟨#[]⟩, .string ⟨#[]⟩, .string ⟨#[]⟩] 61)).setRow w4.heap.size (zeroM 0).row := ⟨_, rfl⟩
  obtain ⟨G, hG⟩ : ∃ G, G = w4.heap.size := ⟨_, rfl⟩
  rw [← hZ, ← hG]
  have HC := Lib.hid (show Z.heap[G]? = some (.cells (zeroM 0).row 61 (0, 0)) from by rw [hZ, hG]; exact setRow_heap _ _ _ _ _ _ HN.out)
  have oS : Only (fun _ => False) w4 Z := by rw [hZ, World.setRow_alloc_new]; exact (Only.refl _ _).alloc _
  replace O := Lib.hid (O.out.trans oS)
  clear hZ hG HN
  replace HA := Lib.hid (MsgAt.keep HA.out oS id)
  clear oS
  replace HC := Lib.hid (show MsgAt Z G (zeroM 0) from HC.out)
  obtain ⟨d0, d1, d2, d3, d4, d5, d6, d7, d8, d9, d10, d11, d12⟩ := MsgAt.cells HA.out
  go_wp2_with fail
  (with_reducible refine (CA.out _).mono ?_)
  rintro e w5 ⟨rfl, o⟩
  replace O := Lib.hid (O.out.trans o)
  replace HA := Lib.hid (MsgAt.keep HA.out o id)
  replace HC := Lib.hid (MsgAt.keep HC.out o id)
  clear o
  go_upto_region 7 with fail
  have R := Lib.hid ((Only.refl (fun _ => False) w5).drew)
  refine wp_region_held_drew (S := (fun w' => w'.cell? ⟨A, 0, none⟩ = some (.int .i64 m.k) ∧ w'.cell? ⟨A, 1, none⟩ = some (.int .u32 m.s) ∧ w'.cell? ⟨A, 2, none⟩ = some (.int .u32 m.r) ∧ w'.cell? ⟨A, 3, none⟩ = some (.int .u64 m.c) ∧ w'.cell? ⟨A, 4, none⟩ = some (.string (m.t 4)) ∧ w'.cell? ⟨A, 5, none⟩ = some (.string (m.t 5)) ∧ w'.cell? ⟨A, 6, none⟩ = some (.string (m.t 6)) ∧ w'.cell? ⟨A, 7, none⟩ = some (.string (m.t 7)) ∧ w'.cell? ⟨A, 8, none⟩ = some (.string (m.t 8)) ∧ w'.cell? ⟨A, 9, none⟩ = some (.string (m.t 9)) ∧ w'.cell? ⟨A, 10, none⟩ = some (.string (m.t 10)) ∧ w'.cell? ⟨A, 11, none⟩ = some (.string (m.t 11)) ∧ w'.cell? ⟨A, 12, none⟩ = some (.string (m.t 12)))) (by kernel_rfl) ?_ (fun hHeld => ?_)
  · exact MsgAt.cells (MsgAt.keep HA.out R.out id)
  refine rgA.tk 0 hHeld ?_
  refine rgA.tk 1 hHeld ?_
  refine rgA.tk 3 hHeld ?_
  refine rgA.rd 2 (fun K hK => ?_)
  go_simp
  (with_reducible refine (CF.out _).mono ?_)
  rintro e w2 ⟨rfl, o⟩
  replace R := Lib.hid (R.out.trans o)
  clear o
  go_wp2_with fail
  refine hK.out _ _ ?_ (fun hHeld => ?_)
  · exact MsgAt.cells (MsgAt.keep HA.out R.out id)
  clear hK K
  try simp only [List.getElem_toArray, List.getElem_cons_succ, List.getElem_cons_zero, Act.put, List.setIfInBounds_toArray, List.set_cons_zero, List.set_cons_succ]
  refine rgA.tk 4 hHeld ?_
  refine rgA.tk 5 hHeld ?_
  refine rgA.tk 6 hHeld ?_
  refine rgA.tk 7 hHeld ?_
  refine rgA.tk 8 hHeld ?_
  refine rgA.tk 9 hHeld ?_
  refine rgA.tk 10 hHeld ?_
  refine rgA.tk 11 hHeld ?_
  refine rgA.tk 12 hHeld ?_
  refine rgA.tk 13 hHeld ?_
  refine rgA.tk 14 hHeld ?_
  refine rgA.tk 15 hHeld ?_
  refine rgA.tk 16 hHeld ?_
  refine rgA.tk 17 hHeld ?_
  refine rgA.tk 18 hHeld ?_
  refine rgA.tk 19 hHeld ?_
  refine rgA.tk 21 hHeld ?_
  refine rgA.rd 20 (fun K hK => ?_)
  go_simp
  (with_reducible refine (CE.out _).mono ?_)
  rintro e w2 ⟨rfl, o⟩
  replace R := Lib.hid (R.out.trans o)
  clear o
  go_wp2_with fail
  refine hK.out _ _ ?_ (fun hHeld => ?_)
  · exact MsgAt.cells (MsgAt.keep HA.out R.out id)
  clear hK K
  try simp only [List.getElem_toArray, List.getElem_cons_succ, List.getElem_cons_zero, Act.put, List.setIfInBounds_toArray, List.set_cons_zero, List.set_cons_succ]
  refine rgA.tk 22 hHeld ?_
  refine rgA.tk 23 hHeld ?_
  refine rgA.tk 24 hHeld ?_
  refine rgA.tk 25 hHeld ?_
  refine rgA.tk 26 hHeld ?_
  refine rgA.tk 27 hHeld ?_
  refine rgA.tk 28 hHeld ?_
  refine rgA.tk 29 hHeld ?_
  refine rgA.tk 30 hHeld ?_
  refine rgA.tk 31 hHeld ?_
  refine rgA.tk 32 hHeld ?_
  refine rgA.tk 33 hHeld ?_
  refine rgA.tk 34 hHeld ?_
  refine rgA.tk 35 hHeld ?_
  refine wpAnyH_done (by kernel_rfl) ?_ _
  obtain ⟨V, hV⟩ : ∃ V, V = w2 := ⟨_, rfl⟩
  rw [← hV] at R ⊢
  clear hV hHeld
  replace O := Lib.hid (O.out.trans R.out)
  replace HA := Lib.hid (MsgAt.keep HA.out R.out id)
  replace HC := Lib.hid (MsgAt.keep HC.out R.out id)
  clear R
  obtain ⟨g0, g1, g2, g3, g4, g5, g6, g7, g8, g9, g10, g11, g12⟩ := MsgAt.cells HC.out
  simp only [zeroM] at g0 g1 g2 g3 g4 g5 g6 g7 g8 g9 g10 g11 g12
  go_wp2_with fail
  go_ret
  exact ⟨rfl, O.out⟩

set_option maxRecDepth 100000 in
set_option maxHeartbeats 4000000 in
theorem ms_nopub_t (m : Msg) (p c q : ByteArray) (w : World) (ha : asksM m = true) (hpu : pubB p.data.toList = false) (hct : isT c.data.toList = true) (hb : bigB m ([p, c, q].map (·.data.toList)) = false) (ht : ∀ i, (m.t i).size ≤ 3000) (hz : tsz m ≤ 3000) (hp : p.size ≤ 200) (hc : c.size ≤ 200) (hq : q.size ≤ 200) (hs : 0 ≤ m.s ∧ m.s ≤ 4294967295) (hr : 0 ≤ m.r ∧ m.r ≤ 4294967295) : Calls Try.prog 17 #[mval m, .string p, .string c, .string q] w (numA.Told w (.bool true)) := by
  have AW := Lib.hid (fun W => maG.awake_any W)
  have BG := Lib.hid (fun W => big3 m p c q false W hb (fun i => Nat.le_trans (ht i) (by decide)))
  have CA := Lib.hid (fun W => asks_any m true W ha (fun i => Nat.le_trans (ht i) (by decide)))
  have hff : firstB m p.data.toList = false := first_no (.inr hpu)
  have CF := Lib.hid (fun W => first_any m p false W hff (fun i => Nat.le_trans (ht i) (by decide)) (by omega) hs hr)
  obtain ⟨E, hE⟩ : ∃ E : ByteArray, E.data.toList = secondT m c.data.toList := ⟨⟨(secondT m c.data.toList).toArray⟩, rfl⟩
  have CR2 := Lib.hid (fun W => refsecond_any m c E W hE (fun i => Nat.le_trans (ht i) (by decide)) (by omega) hs hr)
  obtain ⟨g, hg⟩ : ∃ g, g = ((m.t 12).toList == E.toList) := ⟨_, rfl⟩
  have hgg := second_law ha hct hE hs hr (by omega) (by rw [tl_size]; omega)
  rw [← hg] at hgg
  have z1 : ((m.t 12).toList == E.toList) = g := hg.symm
  have z2 : ((m.t 12).toList = E.toList) = (g = true) := by rw [hg, beq_iff_eq]
  have CE := Lib.hid (fun W => second_any m c g W hgg (fun i => Nat.le_trans (ht i) (by decide)) hs hr)
  have CP := Lib.hid (fun W => refpub_any p false W hpu (by omega))
  have CI := Lib.hid (fun W => (show Calls Try.prog 39 #[.string c] W (numA.Told W (.bool true)) from by have h := trJ.is_any c W (by omega); rw [show trJ.isT (c : ByteArray).data.toList = true from hct] at h; exact h))
  have CS := Lib.hid (fun W => sign_2 m p c W ha hpu (fun i => Nat.le_trans (ht i) (by decide)) (by omega) hs hr)
  have hzz := eql_zero
  simp only [Msg.row] at BG
  simp only [mval] at CA CF CR2 CE CS
  have HA := Lib.hid (show MsgAt (w.alloc (.cells m.row 61)) w.heap.size m from heap_alloc_new w _)
  have O := Lib.hid (show Only (fun _ => False) w (w.alloc (.cells m.row 61)) from (Only.refl _ w).alloc _)
  obtain ⟨X, hX⟩ : ∃ X, X = w.alloc (.cells m.row 61) := ⟨_, rfl⟩
  rw [← hX] at HA O
  obtain ⟨A, hA⟩ : ∃ A, A = w.heap.size := ⟨_, rfl⟩
  rw [← hA] at HA
  have HX := Lib.hid hX
  have HAE := Lib.hid hA
  simp only [Msg.row] at HX
  clear hX hA
  unfold mval
  clear hb ht hz hp hc hq hs hr ha hff hgg hpu hE hg hct
  go_enter Try.func17, Try.ntmps17
  go_wp2_with fail
  rw [← HX.out, ← HAE.out]
  (with_reducible refine (AW.out _).mono ?_)
  rintro e w2 ⟨rfl, o⟩
  replace O := Lib.hid (O.out.trans o)
  replace HA := Lib.hid (MsgAt.keep HA.out o id)
  clear o
  obtain ⟨d0, d1, d2, d3, d4, d5, d6, d7, d8, d9, d10, d11, d12⟩ := MsgAt.cells HA.out
  go_wp2_with fail
  (with_reducible refine (BG.out _).mono ?_)
  rintro e w3 ⟨rfl, o⟩
  replace O := Lib.hid (O.out.trans o)
  replace HA := Lib.hid (MsgAt.keep HA.out o id)
  clear o
  obtain ⟨d0, d1, d2, d3, d4, d5, d6, d7, d8, d9, d10, d11, d12⟩ := MsgAt.cells HA.out
  go_wp2_with fail
  (with_reducible refine (CS.out _).mono ?_)
  rintro e w4 ⟨rfl, o⟩
  replace O := Lib.hid (O.out.trans o)
  replace HA := Lib.hid (MsgAt.keep HA.out o id)
  clear o
  have HN := Lib.hid (show (w4.alloc (.cells #[.int .i64 0, .int .u32 0, .int .u32 0, .int .u64 0, .string ⟨#[]⟩, .string ⟨#[]⟩, .string ⟨#[]⟩, .string ⟨#[]⟩, .string ⟨#[]⟩, .string ⟨#[]⟩, .string ⟨#[]⟩, .string ⟨#[]⟩, .string ⟨#[]⟩] 61)).heap[w4.heap.size]? = some (.cells #[.int .i64 0, .int .u32 0, .int .u32 0, .int .u64 0, .string ⟨#[]⟩, .string ⟨#[]⟩, .string ⟨#[]⟩, .string ⟨#[]⟩, .string ⟨#[]⟩, .string ⟨#[]⟩, .string ⟨#[]⟩, .string ⟨#[]⟩, .string ⟨#[]⟩] 61 (0, 0)) from heap_alloc_new w4 _)
  go_upto_region 6 with (refine wpList_store_row rfl 61 (.tmp 9) (.tmp 25) rfl w4.heap.size (zeroM 0).row rfl rfl 61 _ HN.out (info61 (zeroM 0)) (size61 (zeroM 0) (zeroM 0)) (one61 (zeroM 0)) ?_)
  obtain ⟨Z, hZ⟩ : ∃ Z, Z = (w4.alloc (.cells #[.int .i64 0, .int .u32 0, .int .u32 0, .int .u64 0, .string ⟨#[]⟩, .string ⟨#[]⟩, .string ⟨#[]⟩, .string ⟨#[]⟩, .string ⟨#[]⟩, .string ⟨#[]⟩, .string ⟨#[]⟩, .string ⟨#[]⟩, .string ⟨#[]⟩] 61)).setRow w4.heap.size (zeroM 0).row := ⟨_, rfl⟩
  obtain ⟨G, hG⟩ : ∃ G, G = w4.heap.size := ⟨_, rfl⟩
  rw [← hZ, ← hG]
  have HC := Lib.hid (show Z.heap[G]? = some (.cells (zeroM 0).row 61 (0, 0)) from by rw [hZ, hG]; exact setRow_heap _ _ _ _ _ _ HN.out)
  have oS : Only (fun _ => False) w4 Z := by rw [hZ, World.setRow_alloc_new]; exact (Only.refl _ _).alloc _
  replace O := Lib.hid (O.out.trans oS)
  clear hZ hG HN
  replace HA := Lib.hid (MsgAt.keep HA.out oS id)
  clear oS
  replace HC := Lib.hid (show MsgAt Z G (zeroM 0) from HC.out)
  obtain ⟨d0, d1, d2, d3, d4, d5, d6, d7, d8, d9, d10, d11, d12⟩ := MsgAt.cells HA.out
  go_wp2_with fail
  (with_reducible refine (CA.out _).mono ?_)
  rintro e w5 ⟨rfl, o⟩
  replace O := Lib.hid (O.out.trans o)
  replace HA := Lib.hid (MsgAt.keep HA.out o id)
  replace HC := Lib.hid (MsgAt.keep HC.out o id)
  clear o
  go_upto_region 7 with fail
  have R := Lib.hid ((Only.refl (fun _ => False) w5).drew)
  refine wp_region_held_drew (S := (fun w' => w'.cell? ⟨A, 0, none⟩ = some (.int .i64 m.k) ∧ w'.cell? ⟨A, 1, none⟩ = some (.int .u32 m.s) ∧ w'.cell? ⟨A, 2, none⟩ = some (.int .u32 m.r) ∧ w'.cell? ⟨A, 3, none⟩ = some (.int .u64 m.c) ∧ w'.cell? ⟨A, 4, none⟩ = some (.string (m.t 4)) ∧ w'.cell? ⟨A, 5, none⟩ = some (.string (m.t 5)) ∧ w'.cell? ⟨A, 6, none⟩ = some (.string (m.t 6)) ∧ w'.cell? ⟨A, 7, none⟩ = some (.string (m.t 7)) ∧ w'.cell? ⟨A, 8, none⟩ = some (.string (m.t 8)) ∧ w'.cell? ⟨A, 9, none⟩ = some (.string (m.t 9)) ∧ w'.cell? ⟨A, 10, none⟩ = some (.string (m.t 10)) ∧ w'.cell? ⟨A, 11, none⟩ = some (.string (m.t 11)) ∧ w'.cell? ⟨A, 12, none⟩ = some (.string (m.t 12)))) (by kernel_rfl) ?_ (fun hHeld => ?_)
  · exact MsgAt.cells (MsgAt.keep HA.out R.out id)
  refine rgA.tk 0 hHeld ?_
  refine rgA.tk 1 hHeld ?_
  refine rgA.tk 3 hHeld ?_
  refine rgA.rd 2 (fun K hK => ?_)
  go_simp
  (with_reducible refine (CF.out _).mono ?_)
  rintro e w2 ⟨rfl, o⟩
  replace R := Lib.hid (R.out.trans o)
  clear o
  go_wp2_with fail
  refine hK.out _ _ ?_ (fun hHeld => ?_)
  · exact MsgAt.cells (MsgAt.keep HA.out R.out id)
  clear hK K
  try simp only [List.getElem_toArray, List.getElem_cons_succ, List.getElem_cons_zero, Act.put, List.setIfInBounds_toArray, List.set_cons_zero, List.set_cons_succ]
  refine rgA.tk 4 hHeld ?_
  refine rgA.tk 5 hHeld ?_
  refine rgA.rd 6 (fun K hK => ?_)
  go_simp
  (with_reducible refine (CP.out _).mono ?_)
  rintro e w2 ⟨rfl, o⟩
  replace R := Lib.hid (R.out.trans o)
  clear o
  go_wp2_with fail
  refine hK.out _ _ ?_ (fun hHeld => ?_)
  · exact MsgAt.cells (MsgAt.keep HA.out R.out id)
  clear hK K
  try simp only [List.getElem_toArray, List.getElem_cons_succ, List.getElem_cons_zero, Act.put, List.setIfInBounds_toArray, List.set_cons_zero, List.set_cons_succ]
  refine rgA.tk 7 hHeld ?_
  refine rgA.tk 8 hHeld ?_
  refine rgA.tk 9 hHeld ?_
  refine rgA.tk 10 hHeld ?_
  refine rgA.tk 11 hHeld ?_
  refine rgA.tk 12 hHeld ?_
  refine rgA.tk 13 hHeld ?_
  refine rgA.tk 14 hHeld ?_
  refine rgA.tk 15 hHeld ?_
  refine rgA.tk 16 hHeld ?_
  refine rgA.tk 17 hHeld ?_
  refine rgA.tk 18 hHeld ?_
  refine rgA.tk 19 hHeld ?_
  refine rgA.tk 21 hHeld ?_
  refine rgA.rd 20 (fun K hK => ?_)
  go_simp
  (with_reducible refine (CE.out _).mono ?_)
  rintro e w2 ⟨rfl, o⟩
  replace R := Lib.hid (R.out.trans o)
  clear o
  go_wp2_with fail
  refine hK.out _ _ ?_ (fun hHeld => ?_)
  · exact MsgAt.cells (MsgAt.keep HA.out R.out id)
  clear hK K
  try simp only [List.getElem_toArray, List.getElem_cons_succ, List.getElem_cons_zero, Act.put, List.setIfInBounds_toArray, List.set_cons_zero, List.set_cons_succ]
  refine rgA.tk 22 hHeld ?_
  refine rgA.tk 23 hHeld ?_
  refine rgA.rd 24 (fun K hK => ?_)
  go_simp
  (with_reducible refine (CI.out _).mono ?_)
  rintro e w2 ⟨rfl, o⟩
  replace R := Lib.hid (R.out.trans o)
  clear o
  go_wp2_with fail
  refine hK.out _ _ ?_ (fun hHeld => ?_)
  · exact MsgAt.cells (MsgAt.keep HA.out R.out id)
  clear hK K
  try simp only [List.getElem_toArray, List.getElem_cons_succ, List.getElem_cons_zero, Act.put, List.setIfInBounds_toArray, List.set_cons_zero, List.set_cons_succ]
  refine rgA.tk 25 hHeld ?_
  refine rgA.tk 26 hHeld ?_
  refine rgA.tk 27 hHeld ?_
  refine rgA.tk 28 hHeld ?_
  refine rgA.tk 29 hHeld ?_
  refine rgA.tk 30 hHeld ?_
  refine rgA.rd 31 (fun K hK => ?_)
  go_simp
  (with_reducible refine (CR2.out _).mono ?_)
  rintro e w2 ⟨rfl, o⟩
  replace R := Lib.hid (R.out.trans o)
  clear o
  go_wp2_with fail
  refine hK.out _ _ ?_ (fun hHeld => ?_)
  · exact MsgAt.cells (MsgAt.keep HA.out R.out id)
  clear hK K
  try simp only [List.getElem_toArray, List.getElem_cons_succ, List.getElem_cons_zero, Act.put, List.setIfInBounds_toArray, List.set_cons_zero, List.set_cons_succ]
  refine rgA.tk 32 hHeld ?_
  refine rgA.tk 33 hHeld ?_
  refine rgA.tk 34 hHeld ?_
  refine rgA.tk 35 hHeld ?_
  refine wpAnyH_done (by kernel_rfl) ?_ _
  obtain ⟨V, hV⟩ : ∃ V, V = w2 := ⟨_, rfl⟩
  rw [← hV] at R ⊢
  clear hV hHeld
  replace O := Lib.hid (O.out.trans R.out)
  replace HA := Lib.hid (MsgAt.keep HA.out R.out id)
  replace HC := Lib.hid (MsgAt.keep HC.out R.out id)
  clear R
  go_wp2_with fail
  (with_reducible refine (CP.out _).mono ?_)
  rintro e w6 ⟨rfl, o⟩
  replace O := Lib.hid (O.out.trans o)
  replace HC := Lib.hid (MsgAt.keep HC.out o id)
  clear o
  obtain ⟨g0, g1, g2, g3, g4, g5, g6, g7, g8, g9, g10, g11, g12⟩ := MsgAt.cells HC.out
  simp only [zeroM] at g0 g1 g2 g3 g4 g5 g6 g7 g8 g9 g10 g11 g12
  go_wp2_with fail
  go_ret
  exact ⟨rfl, O.out⟩

set_option maxRecDepth 100000 in
set_option maxHeartbeats 4000000 in
theorem ms_nopub_n (m : Msg) (p c q : ByteArray) (w : World) (ha : asksM m = true) (hpu : pubB p.data.toList = false) (hct : isT c.data.toList = false) (hb : bigB m ([p, c, q].map (·.data.toList)) = false) (ht : ∀ i, (m.t i).size ≤ 3000) (hz : tsz m ≤ 3000) (hp : p.size ≤ 200) (hc : c.size ≤ 200) (hq : q.size ≤ 200) (hs : 0 ≤ m.s ∧ m.s ≤ 4294967295) (hr : 0 ≤ m.r ∧ m.r ≤ 4294967295) : Calls Try.prog 17 #[mval m, .string p, .string c, .string q] w (numA.Told w (.bool true)) := by
  have AW := Lib.hid (fun W => maG.awake_any W)
  have BG := Lib.hid (fun W => big3 m p c q false W hb (fun i => Nat.le_trans (ht i) (by decide)))
  have CA := Lib.hid (fun W => asks_any m true W ha (fun i => Nat.le_trans (ht i) (by decide)))
  have hff : firstB m p.data.toList = false := first_no (.inr hpu)
  have CF := Lib.hid (fun W => first_any m p false W hff (fun i => Nat.le_trans (ht i) (by decide)) (by omega) hs hr)
  have hgg : secondB m c.data.toList = false := second_no hct
  have CE := Lib.hid (fun W => second_any m c false W hgg (fun i => Nat.le_trans (ht i) (by decide)) hs hr)
  have CP := Lib.hid (fun W => refpub_any p false W hpu (by omega))
  have CI := Lib.hid (fun W => (show Calls Try.prog 39 #[.string c] W (numA.Told W (.bool false)) from by have h := trJ.is_any c W (by omega); rw [show trJ.isT (c : ByteArray).data.toList = false from hct] at h; exact h))
  have CS := Lib.hid (fun W => sign_2 m p c W ha hpu (fun i => Nat.le_trans (ht i) (by decide)) (by omega) hs hr)
  have hzz := eql_zero
  simp only [Msg.row] at BG
  simp only [mval] at CA CF CE CS
  have HA := Lib.hid (show MsgAt (w.alloc (.cells m.row 61)) w.heap.size m from heap_alloc_new w _)
  have O := Lib.hid (show Only (fun _ => False) w (w.alloc (.cells m.row 61)) from (Only.refl _ w).alloc _)
  obtain ⟨X, hX⟩ : ∃ X, X = w.alloc (.cells m.row 61) := ⟨_, rfl⟩
  rw [← hX] at HA O
  obtain ⟨A, hA⟩ : ∃ A, A = w.heap.size := ⟨_, rfl⟩
  rw [← hA] at HA
  have HX := Lib.hid hX
  have HAE := Lib.hid hA
  simp only [Msg.row] at HX
  clear hX hA
  unfold mval
  clear hb ht hz hp hc hq hs hr ha hff hgg hpu hct
  go_enter Try.func17, Try.ntmps17
  go_wp2_with fail
  rw [← HX.out, ← HAE.out]
  (with_reducible refine (AW.out _).mono ?_)
  rintro e w2 ⟨rfl, o⟩
  replace O := Lib.hid (O.out.trans o)
  replace HA := Lib.hid (MsgAt.keep HA.out o id)
  clear o
  obtain ⟨d0, d1, d2, d3, d4, d5, d6, d7, d8, d9, d10, d11, d12⟩ := MsgAt.cells HA.out
  go_wp2_with fail
  (with_reducible refine (BG.out _).mono ?_)
  rintro e w3 ⟨rfl, o⟩
  replace O := Lib.hid (O.out.trans o)
  replace HA := Lib.hid (MsgAt.keep HA.out o id)
  clear o
  obtain ⟨d0, d1, d2, d3, d4, d5, d6, d7, d8, d9, d10, d11, d12⟩ := MsgAt.cells HA.out
  go_wp2_with fail
  (with_reducible refine (CS.out _).mono ?_)
  rintro e w4 ⟨rfl, o⟩
  replace O := Lib.hid (O.out.trans o)
  replace HA := Lib.hid (MsgAt.keep HA.out o id)
  clear o
  have HN := Lib.hid (show (w4.alloc (.cells #[.int .i64 0, .int .u32 0, .int .u32 0, .int .u64 0, .string ⟨#[]⟩, .string ⟨#[]⟩, .string ⟨#[]⟩, .string ⟨#[]⟩, .string ⟨#[]⟩, .string ⟨#[]⟩, .string ⟨#[]⟩, .string ⟨#[]⟩, .string ⟨#[]⟩] 61)).heap[w4.heap.size]? = some (.cells #[.int .i64 0, .int .u32 0, .int .u32 0, .int .u64 0, .string ⟨#[]⟩, .string ⟨#[]⟩, .string ⟨#[]⟩, .string ⟨#[]⟩, .string ⟨#[]⟩, .string ⟨#[]⟩, .string ⟨#[]⟩, .string ⟨#[]⟩, .string ⟨#[]⟩] 61 (0, 0)) from heap_alloc_new w4 _)
  go_upto_region 6 with (refine wpList_store_row rfl 61 (.tmp 9) (.tmp 25) rfl w4.heap.size (zeroM 0).row rfl rfl 61 _ HN.out (info61 (zeroM 0)) (size61 (zeroM 0) (zeroM 0)) (one61 (zeroM 0)) ?_)
  obtain ⟨Z, hZ⟩ : ∃ Z, Z = (w4.alloc (.cells #[.int .i64 0, .int .u32 0, .int .u32 0, .int .u64 0, .string ⟨#[]⟩, .string ⟨#[]⟩, .string ⟨#[]⟩, .string ⟨#[]⟩, .string ⟨#[]⟩, .string ⟨#[]⟩, .string ⟨#[]⟩, .string ⟨#[]⟩, .string ⟨#[]⟩] 61)).setRow w4.heap.size (zeroM 0).row := ⟨_, rfl⟩
  obtain ⟨G, hG⟩ : ∃ G, G = w4.heap.size := ⟨_, rfl⟩
  rw [← hZ, ← hG]
  have HC := Lib.hid (show Z.heap[G]? = some (.cells (zeroM 0).row 61 (0, 0)) from by rw [hZ, hG]; exact setRow_heap _ _ _ _ _ _ HN.out)
  have oS : Only (fun _ => False) w4 Z := by rw [hZ, World.setRow_alloc_new]; exact (Only.refl _ _).alloc _
  replace O := Lib.hid (O.out.trans oS)
  clear hZ hG HN
  replace HA := Lib.hid (MsgAt.keep HA.out oS id)
  clear oS
  replace HC := Lib.hid (show MsgAt Z G (zeroM 0) from HC.out)
  obtain ⟨d0, d1, d2, d3, d4, d5, d6, d7, d8, d9, d10, d11, d12⟩ := MsgAt.cells HA.out
  go_wp2_with fail
  (with_reducible refine (CA.out _).mono ?_)
  rintro e w5 ⟨rfl, o⟩
  replace O := Lib.hid (O.out.trans o)
  replace HA := Lib.hid (MsgAt.keep HA.out o id)
  replace HC := Lib.hid (MsgAt.keep HC.out o id)
  clear o
  go_upto_region 7 with fail
  have R := Lib.hid ((Only.refl (fun _ => False) w5).drew)
  refine wp_region_held_drew (S := (fun w' => w'.cell? ⟨A, 0, none⟩ = some (.int .i64 m.k) ∧ w'.cell? ⟨A, 1, none⟩ = some (.int .u32 m.s) ∧ w'.cell? ⟨A, 2, none⟩ = some (.int .u32 m.r) ∧ w'.cell? ⟨A, 3, none⟩ = some (.int .u64 m.c) ∧ w'.cell? ⟨A, 4, none⟩ = some (.string (m.t 4)) ∧ w'.cell? ⟨A, 5, none⟩ = some (.string (m.t 5)) ∧ w'.cell? ⟨A, 6, none⟩ = some (.string (m.t 6)) ∧ w'.cell? ⟨A, 7, none⟩ = some (.string (m.t 7)) ∧ w'.cell? ⟨A, 8, none⟩ = some (.string (m.t 8)) ∧ w'.cell? ⟨A, 9, none⟩ = some (.string (m.t 9)) ∧ w'.cell? ⟨A, 10, none⟩ = some (.string (m.t 10)) ∧ w'.cell? ⟨A, 11, none⟩ = some (.string (m.t 11)) ∧ w'.cell? ⟨A, 12, none⟩ = some (.string (m.t 12)))) (by kernel_rfl) ?_ (fun hHeld => ?_)
  · exact MsgAt.cells (MsgAt.keep HA.out R.out id)
  refine rgA.tk 0 hHeld ?_
  refine rgA.tk 1 hHeld ?_
  refine rgA.tk 3 hHeld ?_
  refine rgA.rd 2 (fun K hK => ?_)
  go_simp
  (with_reducible refine (CF.out _).mono ?_)
  rintro e w2 ⟨rfl, o⟩
  replace R := Lib.hid (R.out.trans o)
  clear o
  go_wp2_with fail
  refine hK.out _ _ ?_ (fun hHeld => ?_)
  · exact MsgAt.cells (MsgAt.keep HA.out R.out id)
  clear hK K
  try simp only [List.getElem_toArray, List.getElem_cons_succ, List.getElem_cons_zero, Act.put, List.setIfInBounds_toArray, List.set_cons_zero, List.set_cons_succ]
  refine rgA.tk 4 hHeld ?_
  refine rgA.tk 5 hHeld ?_
  refine rgA.rd 6 (fun K hK => ?_)
  go_simp
  (with_reducible refine (CP.out _).mono ?_)
  rintro e w2 ⟨rfl, o⟩
  replace R := Lib.hid (R.out.trans o)
  clear o
  go_wp2_with fail
  refine hK.out _ _ ?_ (fun hHeld => ?_)
  · exact MsgAt.cells (MsgAt.keep HA.out R.out id)
  clear hK K
  try simp only [List.getElem_toArray, List.getElem_cons_succ, List.getElem_cons_zero, Act.put, List.setIfInBounds_toArray, List.set_cons_zero, List.set_cons_succ]
  refine rgA.tk 7 hHeld ?_
  refine rgA.tk 8 hHeld ?_
  refine rgA.tk 9 hHeld ?_
  refine rgA.tk 10 hHeld ?_
  refine rgA.tk 11 hHeld ?_
  refine rgA.tk 12 hHeld ?_
  refine rgA.tk 13 hHeld ?_
  refine rgA.tk 14 hHeld ?_
  refine rgA.tk 15 hHeld ?_
  refine rgA.tk 16 hHeld ?_
  refine rgA.tk 17 hHeld ?_
  refine rgA.tk 18 hHeld ?_
  refine rgA.tk 19 hHeld ?_
  refine rgA.tk 21 hHeld ?_
  refine rgA.rd 20 (fun K hK => ?_)
  go_simp
  (with_reducible refine (CE.out _).mono ?_)
  rintro e w2 ⟨rfl, o⟩
  replace R := Lib.hid (R.out.trans o)
  clear o
  go_wp2_with fail
  refine hK.out _ _ ?_ (fun hHeld => ?_)
  · exact MsgAt.cells (MsgAt.keep HA.out R.out id)
  clear hK K
  try simp only [List.getElem_toArray, List.getElem_cons_succ, List.getElem_cons_zero, Act.put, List.setIfInBounds_toArray, List.set_cons_zero, List.set_cons_succ]
  refine rgA.tk 22 hHeld ?_
  refine rgA.tk 23 hHeld ?_
  refine rgA.rd 24 (fun K hK => ?_)
  go_simp
  (with_reducible refine (CI.out _).mono ?_)
  rintro e w2 ⟨rfl, o⟩
  replace R := Lib.hid (R.out.trans o)
  clear o
  go_wp2_with fail
  refine hK.out _ _ ?_ (fun hHeld => ?_)
  · exact MsgAt.cells (MsgAt.keep HA.out R.out id)
  clear hK K
  try simp only [List.getElem_toArray, List.getElem_cons_succ, List.getElem_cons_zero, Act.put, List.setIfInBounds_toArray, List.set_cons_zero, List.set_cons_succ]
  refine rgA.tk 25 hHeld ?_
  refine rgA.tk 26 hHeld ?_
  refine rgA.tk 27 hHeld ?_
  refine rgA.tk 28 hHeld ?_
  refine rgA.tk 29 hHeld ?_
  refine rgA.tk 30 hHeld ?_
  refine rgA.tk 31 hHeld ?_
  refine rgA.tk 32 hHeld ?_
  refine rgA.tk 33 hHeld ?_
  refine rgA.tk 34 hHeld ?_
  refine rgA.tk 35 hHeld ?_
  refine wpAnyH_done (by kernel_rfl) ?_ _
  obtain ⟨V, hV⟩ : ∃ V, V = w2 := ⟨_, rfl⟩
  rw [← hV] at R ⊢
  clear hV hHeld
  replace O := Lib.hid (O.out.trans R.out)
  replace HA := Lib.hid (MsgAt.keep HA.out R.out id)
  replace HC := Lib.hid (MsgAt.keep HC.out R.out id)
  clear R
  go_wp2_with fail
  (with_reducible refine (CP.out _).mono ?_)
  rintro e w6 ⟨rfl, o⟩
  replace O := Lib.hid (O.out.trans o)
  replace HC := Lib.hid (MsgAt.keep HC.out o id)
  clear o
  obtain ⟨g0, g1, g2, g3, g4, g5, g6, g7, g8, g9, g10, g11, g12⟩ := MsgAt.cells HC.out
  simp only [zeroM] at g0 g1 g2 g3 g4 g5 g6 g7 g8 g9 g10 g11 g12
  go_wp2_with fail
  go_ret
  exact ⟨rfl, O.out⟩


end Go.Proofs.Ytbjnejnjlidiaaa.maJ
