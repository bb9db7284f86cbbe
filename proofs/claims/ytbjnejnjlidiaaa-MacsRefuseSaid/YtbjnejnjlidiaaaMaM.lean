/- Macs: Refuse. -/
import Derived.Test.YtbjnejnjlidiaaaMaL
namespace Go.Proofs.Ytbjnejnjlidiaaa.maM
open Go.RowKit kit numA numB numC numD numE tmA tmB tmC tmD tmE trA trB prR prS prW prX tsA tsB tsF tsI wrA wrB wrC wrD wrE wrF wrG wrH wrI wrJ wrK wrL mkA maA maB maC maD maE maF maG maI maL
set_option linter.unusedVariables false
set_option linter.unusedSimpArgs false

theorem sl_blk {w : World} {B : Nat} {fr : Nat × Nat} (xs : List ByteArray) (hl : xs.length ≤ 1000) (h : w.heap[B]? = some (.cells (xs.map Value.string).toArray 9 fr)) : Sl w (fun k => k = B) (.slice (some ⟨B, 0, none⟩) xs.length xs.length) ((xs.map (·.data.toList)).map sv) := by
  have e : ((xs.map (·.data.toList)).map sv) = xs.map Value.string := by simp [sv]
  have el : ((xs.map (·.data.toList)).map sv).length = xs.length := by simp
  refine ⟨by rw [el]; unfold maxLen; omega, _, xs.length, by rw [el], .inr ⟨B, 0, rfl, rfl, lt_of h, fun i hi => ?_⟩⟩
  rw [el] at hi
  rw [cell_of h, Nat.zero_add, e]
  simp [hi]

/-- The program's Make of a block of texts. -/
theorem make_blk (k : Int) (N : Nat) (hN : N ≤ most) (xs : List ByteArray) (b : ByteArray) (hb : b.data.toList = mkI k N [] (xs.map (·.data.toList))) (hx : ∀ x ∈ xs, x.size ≤ 100000000) (hl : xs.length ≤ 1000) (W : World) (B : Nat) (h : W.heap[B]? = some (.cells (xs.map Value.string).toArray 9 (0, 0))) : Calls Try.prog 30 #[.int .i64 k, .int .u64 N, .slice none 0 0, .slice (some ⟨B, 0, none⟩) xs.length xs.length] W (numA.Told W (.string b)) :=
  told_str hb (make_any k N [] (xs.map (·.data.toList)) _ (fun _ => False) (.slice none 0 0) _ W hN (sl_nil _ _) (Nat.zero_le _) (sl_blk xs hl h) (fun p hp => by
    obtain ⟨x, hx', rfl⟩ := List.mem_map.1 hp
    rw [tl_size]
    exact hx x hx') (by rw [List.length_map]; omega))

def refM (m : Msg) (nb sb : ByteArray) : Msg := ⟨3, 0, m.s, 0, fun i => if i = 8 then nb else if i = 9 then sb else ⟨#[]⟩⟩

theorem num_let (N : Nat) (nb : ByteArray) (W : World) (hN : N ≤ most) (hb : nb.data.toList = mkT 3 N [] []) : Calls Try.prog 30 #[.int .i64 3, .int .u64 N, .slice none 0 0, .slice none 0 0] W (numA.Told W (.string nb)) :=
  told_str (by rw [hb]; rfl) (make_any 3 N [] [] (fun _ => False) (fun _ => False) (.slice none 0 0) (.slice none 0 0) W hN (sl_nil _ _) (Nat.zero_le _) (sl_nil _ _) (fun p hp => by cases hp) (Nat.zero_le _))

set_option maxRecDepth 100000 in
set_option maxHeartbeats 1600000 in
theorem refuse_1 (m : Msg) (p c : ByteArray) (N : Nat) (w : World) (ha : asksM m = false) (hp : True) (ht : ∀ i, (m.t i).size ≤ 10000000) (hz : p.size ≤ 10000000) (hs : 0 ≤ m.s ∧ m.s ≤ 4294967295) (hr : 0 ≤ m.r ∧ m.r ≤ 4294967295) : Calls Try.prog 88 #[mval m, .string p, .string c, .int .u64 N] w (numA.Told w (.tuple #[.agg (zeroM 0).row, .int .i64 3])) := by
  have CS := Lib.hid (fun W => issig_any m false W ha (fun i => Nat.le_trans (ht i) (by decide)))
  simp only [mval] at CS
  have HA := Lib.hid (show MsgAt ((w.alloc (.cells m.row 61)).alloc (.cells (zeroM 0).row 61)) w.heap.size m from MsgAt.keep (heap_alloc_new w _) ((Only.refl (fun _ => False) _).alloc _) id)
  have HG := Lib.hid (show MsgAt ((w.alloc (.cells m.row 61)).alloc (.cells (zeroM 0).row 61)) (w.heap.size + 1) (zeroM 0) from by have h := heap_alloc_new (w.alloc (.cells m.row 61)) (.cells (zeroM 0).row 61); rw [World.size_alloc] at h; exact h)
  have O := Lib.hid (show Only (fun _ => False) w ((w.alloc (.cells m.row 61)).alloc (.cells (zeroM 0).row 61)) from ((Only.refl _ w).alloc _).alloc _)
  obtain ⟨Y, hY⟩ : ∃ Y, Y = (w.alloc (.cells m.row 61)).alloc (.cells (zeroM 0).row 61) := ⟨_, rfl⟩
  rw [← hY] at HA O HG
  obtain ⟨A, hA⟩ : ∃ A, A = w.heap.size := ⟨_, rfl⟩
  rw [← hA] at HA HG
  have HY := Lib.hid hY
  have HAE := Lib.hid hA
  simp only [Msg.row, zeroM] at HY
  clear hY hA
  have R := Lib.hid (Only.refl (fun _ => False) Y)
  unfold mval
  clear ha hp ht hz hs hr
  go_enter Try.func88, Try.ntmps88
  go_wp2_with fail
  rw [← HY.out, ← HAE.out]
  (with_reducible refine (CS.out _).mono ?_)
  rintro e w2 ⟨rfl, o⟩
  replace R := Lib.hid (R.out.trans o)
  clear o
  have HZ := Lib.hid (MsgAt.keep HG.out R.out id)
  go_wp2_with (refine wpList_store_row rfl 61 (.tmp 8) (.tmp 24) rfl (A + 1) (zeroM 0).row rfl rfl 61 _ HZ.out (info61 (zeroM 0)) (size61 _ _) (one61 (zeroM 0)) ?_)
  exact bodyPost_ret (trB.res2 Try.results88 _ _ (A + 1) 61 (zeroM 0).row (0, 0) _ rfl (MsgAt.row HZ.out (zeroM 0)) Try.underlying61 rfl (info61 (zeroM 0))) rfl ⟨rfl, Only.old (only_row ((O.out.trans R.out).mono fun _ h => h.elim) _ (by rw [HAE.out]; omega))⟩

set_option maxRecDepth 100000 in
set_option maxHeartbeats 1600000 in
theorem refuse_2 (m : Msg) (p c : ByteArray) (N : Nat) (w : World) (ha : asksM m = true) (hp : pubB p.data.toList = false) (ht : ∀ i, (m.t i).size ≤ 10000000) (hz : p.size ≤ 10000000) (hs : 0 ≤ m.s ∧ m.s ≤ 4294967295) (hr : 0 ≤ m.r ∧ m.r ≤ 4294967295) : Calls Try.prog 88 #[mval m, .string p, .string c, .int .u64 N] w (numA.Told w (.tuple #[.agg (zeroM 0).row, .int .i64 3])) := by
  have CS := Lib.hid (fun W => issig_any m true W ha (fun i => Nat.le_trans (ht i) (by decide)))
  simp only [mval] at CS
  have CP := Lib.hid (fun W => ispub_any p false W hp (Nat.le_trans hz (by decide)))
  have HA := Lib.hid (show MsgAt ((w.alloc (.cells m.row 61)).alloc (.cells (zeroM 0).row 61)) w.heap.size m from MsgAt.keep (heap_alloc_new w _) ((Only.refl (fun _ => False) _).alloc _) id)
  have HG := Lib.hid (show MsgAt ((w.alloc (.cells m.row 61)).alloc (.cells (zeroM 0).row 61)) (w.heap.size + 1) (zeroM 0) from by have h := heap_alloc_new (w.alloc (.cells m.row 61)) (.cells (zeroM 0).row 61); rw [World.size_alloc] at h; exact h)
  have O := Lib.hid (show Only (fun _ => False) w ((w.alloc (.cells m.row 61)).alloc (.cells (zeroM 0).row 61)) from ((Only.refl _ w).alloc _).alloc _)
  obtain ⟨Y, hY⟩ : ∃ Y, Y = (w.alloc (.cells m.row 61)).alloc (.cells (zeroM 0).row 61) := ⟨_, rfl⟩
  rw [← hY] at HA O HG
  obtain ⟨A, hA⟩ : ∃ A, A = w.heap.size := ⟨_, rfl⟩
  rw [← hA] at HA HG
  have HY := Lib.hid hY
  have HAE := Lib.hid hA
  simp only [Msg.row, zeroM] at HY
  clear hY hA
  have R := Lib.hid (Only.refl (fun _ => False) Y)
  unfold mval
  clear ha hp ht hz hs hr
  go_enter Try.func88, Try.ntmps88
  go_wp2_with fail
  rw [← HY.out, ← HAE.out]
  (with_reducible refine (CS.out _).mono ?_)
  rintro e w2 ⟨rfl, o⟩
  replace R := Lib.hid (R.out.trans o)
  clear o
  go_wp2_with fail
  (with_reducible refine (CP.out _).mono ?_)
  rintro e w2 ⟨rfl, o⟩
  replace R := Lib.hid (R.out.trans o)
  clear o
  have HZ := Lib.hid (MsgAt.keep HG.out R.out id)
  go_wp2_with (refine wpList_store_row rfl 61 (.tmp 8) (.tmp 24) rfl (A + 1) (zeroM 0).row rfl rfl 61 _ HZ.out (info61 (zeroM 0)) (size61 _ _) (one61 (zeroM 0)) ?_)
  exact bodyPost_ret (trB.res2 Try.results88 _ _ (A + 1) 61 (zeroM 0).row (0, 0) _ rfl (MsgAt.row HZ.out (zeroM 0)) Try.underlying61 rfl (info61 (zeroM 0))) rfl ⟨rfl, Only.old (only_row ((O.out.trans R.out).mono fun _ h => h.elim) _ (by rw [HAE.out]; omega))⟩

set_option maxRecDepth 100000 in
set_option maxHeartbeats 1600000 in
theorem refuse_3 (m : Msg) (p c : ByteArray) (N : Nat) (w : World) (ha : asksM m = true) (hp : pubB p.data.toList = true) (hct : isT c.data.toList = false) (hcz : c.size ≤ 10000000) (ht : ∀ i, (m.t i).size ≤ 10000000) (hz : p.size ≤ 10000000) (hs : 0 ≤ m.s ∧ m.s ≤ 4294967295) (hr : 0 ≤ m.r ∧ m.r ≤ 4294967295) : Calls Try.prog 88 #[mval m, .string p, .string c, .int .u64 N] w (numA.Told w (.tuple #[.agg (zeroM 0).row, .int .i64 3])) := by
  have CS := Lib.hid (fun W => issig_any m true W ha (fun i => Nat.le_trans (ht i) (by decide)))
  simp only [mval] at CS
  have CP := Lib.hid (fun W => ispub_any p true W hp (Nat.le_trans hz (by decide)))
  have CK := Lib.hid (fun W => prR.kind_any c W (Nat.le_trans hcz (by decide)))
  rw [show (trJ.ndOf c.data.toList).k = 0 from Decidable.byContradiction fun q => by rw [isT_k.1 q] at hct; cases hct] at CK
  have HA := Lib.hid (show MsgAt ((w.alloc (.cells m.row 61)).alloc (.cells (zeroM 0).row 61)) w.heap.size m from MsgAt.keep (heap_alloc_new w _) ((Only.refl (fun _ => False) _).alloc _) id)
  have HG := Lib.hid (show MsgAt ((w.alloc (.cells m.row 61)).alloc (.cells (zeroM 0).row 61)) (w.heap.size + 1) (zeroM 0) from by have h := heap_alloc_new (w.alloc (.cells m.row 61)) (.cells (zeroM 0).row 61); rw [World.size_alloc] at h; exact h)
  have O := Lib.hid (show Only (fun _ => False) w ((w.alloc (.cells m.row 61)).alloc (.cells (zeroM 0).row 61)) from ((Only.refl _ w).alloc _).alloc _)
  obtain ⟨Y, hY⟩ : ∃ Y, Y = (w.alloc (.cells m.row 61)).alloc (.cells (zeroM 0).row 61) := ⟨_, rfl⟩
  rw [← hY] at HA O HG
  obtain ⟨A, hA⟩ : ∃ A, A = w.heap.size := ⟨_, rfl⟩
  rw [← hA] at HA HG
  have HY := Lib.hid hY
  have HAE := Lib.hid hA
  simp only [Msg.row, zeroM] at HY
  clear hY hA
  have R := Lib.hid (Only.refl (fun _ => False) Y)
  unfold mval
  clear ha hp ht hz hs hr hct hcz
  go_enter Try.func88, Try.ntmps88
  go_wp2_with fail
  rw [← HY.out, ← HAE.out]
  (with_reducible refine (CS.out _).mono ?_)
  rintro e w2 ⟨rfl, o⟩
  replace R := Lib.hid (R.out.trans o)
  clear o
  go_wp2_with fail
  (with_reducible refine (CP.out _).mono ?_)
  rintro e w2 ⟨rfl, o⟩
  replace R := Lib.hid (R.out.trans o)
  clear o
  go_wp2_with fail
  (with_reducible refine (CK.out _).mono ?_)
  rintro e w2 ⟨rfl, o⟩
  replace R := Lib.hid (R.out.trans o)
  clear o
  have HZ := Lib.hid (MsgAt.keep HG.out R.out id)
  go_wp2_with (refine wpList_store_row rfl 61 (.tmp 8) (.tmp 24) rfl (A + 1) (zeroM 0).row rfl rfl 61 _ HZ.out (info61 (zeroM 0)) (size61 _ _) (one61 (zeroM 0)) ?_)
  exact bodyPost_ret (trB.res2 Try.results88 _ _ (A + 1) 61 (zeroM 0).row (0, 0) _ rfl (MsgAt.row HZ.out (zeroM 0)) Try.underlying61 rfl (info61 (zeroM 0))) rfl ⟨rfl, Only.old (only_row ((O.out.trans R.out).mono fun _ h => h.elim) _ (by rw [HAE.out]; omega))⟩

set_option maxRecDepth 100000 in
set_option maxHeartbeats 3200000 in
theorem refuse_ok (m : Msg) (p c nb sb : ByteArray) (N : Nat) (w : World) (hN : N ≤ most) (ha : asksM m = true) (hp : pubB p.data.toList = true) (hct : isT c.data.toList = true) (hnb : nb.data.toList = mkT 3 N [] []) (hsb : sb.data.toList = mkT 10 N [] [jarT p.data.toList, c.data.toList, (m.t 11).data.toList]) (hR : rightM (refM m nb sb) = true) (ht : ∀ i, (m.t i).size ≤ 10000000) (hz : p.size ≤ 10000000) (hcz : c.size ≤ 10000000) (hs : 0 ≤ m.s ∧ m.s ≤ 4294967295) (hr : 0 ≤ m.r ∧ m.r ≤ 4294967295) : Calls Try.prog 88 #[mval m, .string p, .string c, .int .u64 N] w (numA.Told w (.tuple #[.agg (refM m nb sb).row, .int .i64 0])) := by
  have CS := Lib.hid (fun W => issig_any m true W ha (fun i => Nat.le_trans (ht i) (by decide)))
  simp only [mval] at CS
  have CP := Lib.hid (fun W => ispub_any p true W hp (Nat.le_trans hz (by decide)))
  have CK := Lib.hid (fun W => prR.kind_any c W (Nat.le_trans hcz (by decide)))
  obtain ⟨k, hk⟩ : ∃ k, (trJ.ndOf c.data.toList).k = k := ⟨_, rfl⟩
  have k0 : ((k : Int) == 0) = false := by
    have := isT_k.2 hct
    rw [beq_eq_false_iff_ne]
    omega
  rw [hk] at CK
  obtain ⟨j, hj⟩ : ∃ j : ByteArray, j.data.toList = jarT p.data.toList := ⟨⟨(jarT p.data.toList).toArray⟩, rfl⟩
  have CN := Lib.hid (fun W => num_let N nb W hN hnb)
  have CJ := Lib.hid (fun W => jar_any p j W hj (Nat.le_trans hz (by decide)))
  have CE := Lib.hid (fun W B (hB : W.heap[B]? = some (.cells #[.string j, .string c, .string (m.t 11)] 9 (0, 0))) => (show Calls Try.prog 30 #[.int .i64 10, .int .u64 N, .slice none 0 0, .slice (some ⟨B, 0, none⟩) 3 3] W (numA.Told W (.string sb)) from make_blk 10 N hN [j, c, m.t 11] sb (by rw [hsb, ← hj]; rfl) (by
    intro x hx
    simp at hx
    rcases hx with rfl | rfl | rfl
    · exact u_le hj (Nat.le_trans (mk_most (by decide)) (by decide))
    · exact Nat.le_trans hcz (by decide)
    · exact Nat.le_trans (ht 11) (by decide)) (by simp) W B hB))
  have CR := Lib.hid (fun W => (show Calls Try.prog 146 #[.agg #[.int .i64 3, .int .u32 0, .int .u32 m.s, .int .u64 0, .string ⟨#[]⟩, .string ⟨#[]⟩, .string ⟨#[]⟩, .string ⟨#[]⟩, .string nb, .string sb, .string ⟨#[]⟩, .string ⟨#[]⟩, .string ⟨#[]⟩]] W (numA.Told W (.bool true)) from ismsg_any (refM m nb sb) true W hR (fun i => by
    have n1 : nb.size ≤ 65536 := u_le hnb (mk_most hN)
    have n2 : sb.size ≤ 65536 := u_le hsb (mk_most hN)
    by_cases h8 : i = 8
    · rw [h8]; exact Nat.le_trans n1 (by decide)
    by_cases h9 : i = 9
    · rw [h9]; exact Nat.le_trans n2 (by decide)
    show (if i = 8 then nb else if i = 9 then sb else (⟨#[]⟩ : ByteArray)).size ≤ _
    rw [if_neg h8, if_neg h9]
    decide)))
  have HA := Lib.hid (show MsgAt ((w.alloc (.cells m.row 61)).alloc (.cells (zeroM 0).row 61)) w.heap.size m from MsgAt.keep (heap_alloc_new w _) ((Only.refl (fun _ => False) _).alloc _) id)
  have HG := Lib.hid (show MsgAt ((w.alloc (.cells m.row 61)).alloc (.cells (zeroM 0).row 61)) (w.heap.size + 1) (zeroM 0) from by have h := heap_alloc_new (w.alloc (.cells m.row 61)) (.cells (zeroM 0).row 61); rw [World.size_alloc] at h; exact h)
  have O := Lib.hid (show Only (fun _ => False) w ((w.alloc (.cells m.row 61)).alloc (.cells (zeroM 0).row 61)) from ((Only.refl _ w).alloc _).alloc _)
  obtain ⟨Y, hY⟩ : ∃ Y, Y = (w.alloc (.cells m.row 61)).alloc (.cells (zeroM 0).row 61) := ⟨_, rfl⟩
  rw [← hY] at HA O HG
  obtain ⟨A, hA⟩ : ∃ A, A = w.heap.size := ⟨_, rfl⟩
  rw [← hA] at HA HG
  have HY := Lib.hid hY
  have HAE := Lib.hid hA
  simp only [Msg.row, zeroM] at HY
  clear hY hA
  have R := Lib.hid (Only.refl (fun _ => False) Y)
  unfold mval
  clear ha hp ht hz hs hr hct hcz hk hj hnb hsb hR hN
  go_enter Try.func88, Try.ntmps88
  go_wp2_with fail
  rw [← HY.out, ← HAE.out]
  (with_reducible refine (CS.out _).mono ?_)
  rintro e w2 ⟨rfl, o⟩
  replace R := Lib.hid (R.out.trans o)
  clear o
  go_wp2_with fail
  (with_reducible refine (CP.out _).mono ?_)
  rintro e w2 ⟨rfl, o⟩
  replace R := Lib.hid (R.out.trans o)
  clear o
  go_wp2_with fail
  (with_reducible refine (CK.out _).mono ?_)
  rintro e w2 ⟨rfl, o⟩
  replace R := Lib.hid (R.out.trans o)
  clear o
  go_upto_region 3 with fail
  obtain ⟨V, hV⟩ : ∃ V, V = w2 := ⟨_, rfl⟩
  replace HA := Lib.hid (MsgAt.keep HA.out R.out id)
  replace HG := Lib.hid (MsgAt.keep HG.out R.out id)
  replace O := Lib.hid (O.out.trans R.out)
  clear R
  rw [← hV] at HA HG O ⊢
  clear hV
  have R := Lib.hid ((Only.refl (fun _ => False) V).drew)
  refine wp_region_held_drew (S := (fun w' => w'.cell? ⟨A, 0, none⟩ = some (.int .i64 m.k) ∧ w'.cell? ⟨A, 1, none⟩ = some (.int .u32 m.s) ∧ w'.cell? ⟨A, 2, none⟩ = some (.int .u32 m.r) ∧ w'.cell? ⟨A, 3, none⟩ = some (.int .u64 m.c) ∧ w'.cell? ⟨A, 4, none⟩ = some (.string (m.t 4)) ∧ w'.cell? ⟨A, 5, none⟩ = some (.string (m.t 5)) ∧ w'.cell? ⟨A, 6, none⟩ = some (.string (m.t 6)) ∧ w'.cell? ⟨A, 7, none⟩ = some (.string (m.t 7)) ∧ w'.cell? ⟨A, 8, none⟩ = some (.string (m.t 8)) ∧ w'.cell? ⟨A, 9, none⟩ = some (.string (m.t 9)) ∧ w'.cell? ⟨A, 10, none⟩ = some (.string (m.t 10)) ∧ w'.cell? ⟨A, 11, none⟩ = some (.string (m.t 11)) ∧ w'.cell? ⟨A, 12, none⟩ = some (.string (m.t 12)))) (by kernel_rfl) ?_ (fun hHeld => ?_)
  · exact MsgAt.cells (MsgAt.keep HA.out R.out id)
  refine rgA.tk 0 hHeld ?_
  refine rgA.tk 1 hHeld ?_
  refine rgA.tk 2 hHeld ?_
  refine rgA.tk 4 hHeld ?_
  refine rgA.tk 5 hHeld ?_
  refine rgA.tk 7 hHeld ?_
  refine rgA.tk 8 hHeld ?_
  refine rgA.tk 9 hHeld ?_
  refine wpAnyH_ready (rs := [3, 13]) (by kernel_rfl) (by simp) ?_
  refine AllReadyH.cons rfl (fun K hK => ?br1) (AllReadyH.cons rfl (fun K hK => ?br2) (AllReadyH.nil))
  case' br1 =>
    go_simp
    (with_reducible refine (CN.out _).mono ?_)
    rintro e w2 ⟨rfl, o⟩
    replace R := Lib.hid (R.out.trans o)
    clear o
    go_wp2_with fail
    refine hK.out _ _ ?_ (fun hHeld => ?_)
    · first | exact MsgAt.cells (MsgAt.keep HA.out R.out id) | exact MsgAt.cells (MsgAt.keep HA.out (R.out.alloc _) id) | exact MsgAt.cells (MsgAt.off (MsgAt.keep HA.out R.out id) _ (by have := NG.out; omega))
    clear hK K
    try simp only [List.getElem_toArray, List.getElem_cons_succ, List.getElem_cons_zero, Act.put, List.setIfInBounds_toArray, List.set_cons_zero, List.set_cons_succ]
    refine wpAnyH_ready (rs := [6, 13]) (by kernel_rfl) (by simp) ?_
    refine AllReadyH.cons rfl (fun K hK => ?br3) (AllReadyH.cons rfl (fun K hK => ?br4) (AllReadyH.nil))
    case' br3 =>
      go_simp
      (with_reducible refine (CJ.out _).mono ?_)
      rintro e w2 ⟨rfl, o⟩
      replace R := Lib.hid (R.out.trans o)
      clear o
      go_wp2_with fail
      refine hK.out _ _ ?_ (fun hHeld => ?_)
      · first | exact MsgAt.cells (MsgAt.keep HA.out R.out id) | exact MsgAt.cells (MsgAt.keep HA.out (R.out.alloc _) id) | exact MsgAt.cells (MsgAt.off (MsgAt.keep HA.out R.out id) _ (by have := NG.out; omega))
      clear hK K
      try simp only [List.getElem_toArray, List.getElem_cons_succ, List.getElem_cons_zero, Act.put, List.setIfInBounds_toArray, List.set_cons_zero, List.set_cons_succ]
      refine wpAnyH_ready (rs := [10, 13]) (by kernel_rfl) (by simp) ?_
      refine AllReadyH.cons rfl (fun K hK => ?br5) (AllReadyH.cons rfl (fun K hK => ?br6) (AllReadyH.nil))
      case' br5 =>
        go_simp
        obtain ⟨BS, hBS⟩ : ∃ g, g = w2.heap.size := ⟨_, rfl⟩
        obtain ⟨w9, hw9⟩ : ∃ z, z = w2.alloc (.cells #[.string j, .string c, .string (m.t 11)] 9) := ⟨_, rfl⟩
        rw [← hw9, ← hBS]
        have HS := Lib.hid (show w9.heap[BS]? = some (.cells #[.string j, .string c, .string (m.t 11)] 9 (0, 0)) from by rw [hw9, hBS]; exact heap_alloc_new w2 _)
        have oN : Only (fun _ => False) w2 w9 := by rw [hw9]; exact (Only.refl _ w2).alloc _
        replace HA := Lib.hid (MsgAt.keep HA.out (R.out.trans oN) id)
        replace HG := Lib.hid (MsgAt.keep HG.out (R.out.trans oN) id)
        replace O := Lib.hid (O.out.trans (R.out.trans oN))
        have R := Lib.hid (Only.refl (fun _ => False) w9)
        clear oN hw9 hBS
        obtain ⟨w2, hw2⟩ : ∃ z, z = w9 := ⟨_, rfl⟩
        rw [← hw2] at R O HA HG HS ⊢
        clear hw2
        refine hK.out _ _ ?_ (fun hHeld => ?_)
        · first | exact MsgAt.cells (MsgAt.keep HA.out R.out id) | exact MsgAt.cells (MsgAt.keep HA.out (R.out.alloc _) id) | exact MsgAt.cells (MsgAt.off (MsgAt.keep HA.out R.out id) _ (by have := NG.out; omega))
        clear hK K
        try simp only [List.getElem_toArray, List.getElem_cons_succ, List.getElem_cons_zero, Act.put, List.setIfInBounds_toArray, List.set_cons_zero, List.set_cons_succ]
        refine wpAnyH_ready (rs := [11, 13]) (by kernel_rfl) (by simp) ?_
        refine AllReadyH.cons rfl (fun K hK => ?br7) (AllReadyH.cons rfl (fun K hK => ?br8) (AllReadyH.nil))
        case' br7 =>
          go_simp
          (with_reducible refine (CE.out _ _ ?_).mono ?_)
          · exact Only.keep R.out HS.out id
          rintro e w2 ⟨rfl, o⟩
          replace R := Lib.hid (R.out.trans o)
          clear o
          go_wp2_with fail
          refine hK.out _ _ ?_ (fun hHeld => ?_)
          · first | exact MsgAt.cells (MsgAt.keep HA.out R.out id) | exact MsgAt.cells (MsgAt.keep HA.out (R.out.alloc _) id) | exact MsgAt.cells (MsgAt.off (MsgAt.keep HA.out R.out id) _ (by have := NG.out; omega))
          clear hK K
          try simp only [List.getElem_toArray, List.getElem_cons_succ, List.getElem_cons_zero, Act.put, List.setIfInBounds_toArray, List.set_cons_zero, List.set_cons_succ]
          refine rgA.tk 12 hHeld ?_
          refine rgA.rd 13 (fun K hK => ?_)
          go_simp
          obtain ⟨G, hG⟩ : ∃ g, g = w2.heap.size := ⟨_, rfl⟩
          obtain ⟨w9, hw9⟩ : ∃ z, z = w2.alloc (.cells #[.int .i64 0, .int .u32 0, .int .u32 0, .int .u64 0, .string ⟨#[]⟩, .string ⟨#[]⟩, .string ⟨#[]⟩, .string ⟨#[]⟩, .string ⟨#[]⟩, .string ⟨#[]⟩, .string ⟨#[]⟩, .string ⟨#[]⟩, .string ⟨#[]⟩] 61) := ⟨_, rfl⟩
          rw [← hw9, ← hG]
          have HR := Lib.hid (show w9.heap[G]? = some (.cells #[.int .i64 0, .int .u32 0, .int .u32 0, .int .u64 0, .string ⟨#[]⟩, .string ⟨#[]⟩, .string ⟨#[]⟩, .string ⟨#[]⟩, .string ⟨#[]⟩, .string ⟨#[]⟩, .string ⟨#[]⟩, .string ⟨#[]⟩, .string ⟨#[]⟩] 61 (0, 0)) from by rw [hw9, hG]; exact heap_alloc_new w2 _)
          have oN : Only (fun _ => False) w2 w9 := by rw [hw9]; exact (Only.refl _ w2).alloc _
          have NG := Lib.hid (show A + 1 < G from by rw [hG]; exact (show A + 1 < (w2).heap.size from lt_of (MsgAt.keep HG.out R.out id)))
          replace HA := Lib.hid (MsgAt.keep HA.out (R.out.trans oN) id)
          replace HG := Lib.hid (MsgAt.keep HG.out (R.out.trans oN) id)
          replace HS := Lib.hid (Only.keep (R.out.trans oN) HS.out id)
          replace O := Lib.hid (O.out.trans (R.out.trans oN))
          have R := Lib.hid (Only.refl (fun _ => False) w9)
          clear oN hw9 hG
          obtain ⟨w2, hw2⟩ : ∃ z, z = w9 := ⟨_, rfl⟩
          rw [← hw2] at R O HA HG HS HR ⊢
          clear hw2
          refine hK.out _ _ ?_ (fun hHeld => ?_)
          · first | exact MsgAt.cells (MsgAt.keep HA.out R.out id) | exact MsgAt.cells (MsgAt.keep HA.out (R.out.alloc _) id) | exact MsgAt.cells (MsgAt.off (MsgAt.keep HA.out R.out id) _ (by have := NG.out; omega))
          clear hK K
          try simp only [List.getElem_toArray, List.getElem_cons_succ, List.getElem_cons_zero, Act.put, List.setIfInBounds_toArray, List.set_cons_zero, List.set_cons_succ]
          refine rgA.rd 14 (fun K hK => ?_)
          rw [if_pos (by rfl)]
          refine wp_store_row 61 (.tmp 10) (.tmp 37) rfl G (refM m nb sb).row rfl rfl 61 _ (Only.keep R.out HR.out id) (info61 _) (by rfl) (one61 _) ?_
          refine hK.out _ _ ?_ (fun hHeld => ?_)
          · first | exact MsgAt.cells (MsgAt.keep HA.out R.out id) | exact MsgAt.cells (MsgAt.keep HA.out (R.out.alloc _) id) | exact MsgAt.cells (MsgAt.off (MsgAt.keep HA.out R.out id) _ (by have := NG.out; omega))
          clear hK K
          try simp only [List.getElem_toArray, List.getElem_cons_succ, List.getElem_cons_zero, Act.put, List.setIfInBounds_toArray, List.set_cons_zero, List.set_cons_succ]
          refine wpAnyH_done (by kernel_rfl) ?_ _
          clear hHeld
        case' br8 =>
          go_simp
          obtain ⟨G, hG⟩ : ∃ g, g = w2.heap.size := ⟨_, rfl⟩
          obtain ⟨w9, hw9⟩ : ∃ z, z = w2.alloc (.cells #[.int .i64 0, .int .u32 0, .int .u32 0, .int .u64 0, .string ⟨#[]⟩, .string ⟨#[]⟩, .string ⟨#[]⟩, .string ⟨#[]⟩, .string ⟨#[]⟩, .string ⟨#[]⟩, .string ⟨#[]⟩, .string ⟨#[]⟩, .string ⟨#[]⟩] 61) := ⟨_, rfl⟩
          rw [← hw9, ← hG]
          have HR := Lib.hid (show w9.heap[G]? = some (.cells #[.int .i64 0, .int .u32 0, .int .u32 0, .int .u64 0, .string ⟨#[]⟩, .string ⟨#[]⟩, .string ⟨#[]⟩, .string ⟨#[]⟩, .string ⟨#[]⟩, .string ⟨#[]⟩, .string ⟨#[]⟩, .string ⟨#[]⟩, .string ⟨#[]⟩] 61 (0, 0)) from by rw [hw9, hG]; exact heap_alloc_new w2 _)
          have oN : Only (fun _ => False) w2 w9 := by rw [hw9]; exact (Only.refl _ w2).alloc _
          have NG := Lib.hid (show A + 1 < G from by rw [hG]; exact (show A + 1 < (w2).heap.size from lt_of (MsgAt.keep HG.out R.out id)))
          replace HA := Lib.hid (MsgAt.keep HA.out (R.out.trans oN) id)
          replace HG := Lib.hid (MsgAt.keep HG.out (R.out.trans oN) id)
          replace HS := Lib.hid (Only.keep (R.out.trans oN) HS.out id)
          replace O := Lib.hid (O.out.trans (R.out.trans oN))
          have R := Lib.hid (Only.refl (fun _ => False) w9)
          clear oN hw9 hG
          obtain ⟨w2, hw2⟩ : ∃ z, z = w9 := ⟨_, rfl⟩
          rw [← hw2] at R O HA HG HS HR ⊢
          clear hw2
          refine hK.out _ _ ?_ (fun hHeld => ?_)
          · first | exact MsgAt.cells (MsgAt.keep HA.out R.out id) | exact MsgAt.cells (MsgAt.keep HA.out (R.out.alloc _) id) | exact MsgAt.cells (MsgAt.off (MsgAt.keep HA.out R.out id) _ (by have := NG.out; omega))
          clear hK K
          try simp only [List.getElem_toArray, List.getElem_cons_succ, List.getElem_cons_zero, Act.put, List.setIfInBounds_toArray, List.set_cons_zero, List.set_cons_succ]
          refine rgA.rd 11 (fun K hK => ?_)
          go_simp
          (with_reducible refine (CE.out _ _ ?_).mono ?_)
          · exact Only.keep R.out HS.out id
          rintro e w2 ⟨rfl, o⟩
          replace R := Lib.hid (R.out.trans o)
          clear o
          go_wp2_with fail
          refine hK.out _ _ ?_ (fun hHeld => ?_)
          · first | exact MsgAt.cells (MsgAt.keep HA.out R.out id) | exact MsgAt.cells (MsgAt.keep HA.out (R.out.alloc _) id) | exact MsgAt.cells (MsgAt.off (MsgAt.keep HA.out R.out id) _ (by have := NG.out; omega))
          clear hK K
          try simp only [List.getElem_toArray, List.getElem_cons_succ, List.getElem_cons_zero, Act.put, List.setIfInBounds_toArray, List.set_cons_zero, List.set_cons_succ]
          refine rgA.tk 12 hHeld ?_
          refine rgA.rd 14 (fun K hK => ?_)
          rw [if_pos (by rfl)]
          refine wp_store_row 61 (.tmp 10) (.tmp 37) rfl G (refM m nb sb).row rfl rfl 61 _ (Only.keep R.out HR.out id) (info61 _) (by rfl) (one61 _) ?_
          refine hK.out _ _ ?_ (fun hHeld => ?_)
          · first | exact MsgAt.cells (MsgAt.keep HA.out R.out id) | exact MsgAt.cells (MsgAt.keep HA.out (R.out.alloc _) id) | exact MsgAt.cells (MsgAt.off (MsgAt.keep HA.out R.out id) _ (by have := NG.out; omega))
          clear hK K
          try simp only [List.getElem_toArray, List.getElem_cons_succ, List.getElem_cons_zero, Act.put, List.setIfInBounds_toArray, List.set_cons_zero, List.set_cons_succ]
          refine wpAnyH_done (by kernel_rfl) ?_ _
          clear hHeld
      case' br6 =>
        go_simp
        obtain ⟨G, hG⟩ : ∃ g, g = w2.heap.size := ⟨_, rfl⟩
        obtain ⟨w9, hw9⟩ : ∃ z, z = w2.alloc (.cells #[.int .i64 0, .int .u32 0, .int .u32 0, .int .u64 0, .string ⟨#[]⟩, .string ⟨#[]⟩, .string ⟨#[]⟩, .string ⟨#[]⟩, .string ⟨#[]⟩, .string ⟨#[]⟩, .string ⟨#[]⟩, .string ⟨#[]⟩, .string ⟨#[]⟩] 61) := ⟨_, rfl⟩
        rw [← hw9, ← hG]
        have HR := Lib.hid (show w9.heap[G]? = some (.cells #[.int .i64 0, .int .u32 0, .int .u32 0, .int .u64 0, .string ⟨#[]⟩, .string ⟨#[]⟩, .string ⟨#[]⟩, .string ⟨#[]⟩, .string ⟨#[]⟩, .string ⟨#[]⟩, .string ⟨#[]⟩, .string ⟨#[]⟩, .string ⟨#[]⟩] 61 (0, 0)) from by rw [hw9, hG]; exact heap_alloc_new w2 _)
        have oN : Only (fun _ => False) w2 w9 := by rw [hw9]; exact (Only.refl _ w2).alloc _
        have NG := Lib.hid (show A + 1 < G from by rw [hG]; exact (show A + 1 < (w2).heap.size from lt_of (MsgAt.keep HG.out R.out id)))
        replace HA := Lib.hid (MsgAt.keep HA.out (R.out.trans oN) id)
        replace HG := Lib.hid (MsgAt.keep HG.out (R.out.trans oN) id)
        replace O := Lib.hid (O.out.trans (R.out.trans oN))
        have R := Lib.hid (Only.refl (fun _ => False) w9)
        clear oN hw9 hG
        obtain ⟨w2, hw2⟩ : ∃ z, z = w9 := ⟨_, rfl⟩
        rw [← hw2] at R O HA HG HR ⊢
        clear hw2
        refine hK.out _ _ ?_ (fun hHeld => ?_)
        · first | exact MsgAt.cells (MsgAt.keep HA.out R.out id) | exact MsgAt.cells (MsgAt.keep HA.out (R.out.alloc _) id) | exact MsgAt.cells (MsgAt.off (MsgAt.keep HA.out R.out id) _ (by have := NG.out; omega))
        clear hK K
        try simp only [List.getElem_toArray, List.getElem_cons_succ, List.getElem_cons_zero, Act.put, List.setIfInBounds_toArray, List.set_cons_zero, List.set_cons_succ]
        refine rgA.rd 10 (fun K hK => ?_)
        go_simp
        obtain ⟨BS, hBS⟩ : ∃ g, g = w2.heap.size := ⟨_, rfl⟩
        obtain ⟨w9, hw9⟩ : ∃ z, z = w2.alloc (.cells #[.string j, .string c, .string (m.t 11)] 9) := ⟨_, rfl⟩
        rw [← hw9, ← hBS]
        have HS := Lib.hid (show w9.heap[BS]? = some (.cells #[.string j, .string c, .string (m.t 11)] 9 (0, 0)) from by rw [hw9, hBS]; exact heap_alloc_new w2 _)
        have oN : Only (fun _ => False) w2 w9 := by rw [hw9]; exact (Only.refl _ w2).alloc _
        replace HA := Lib.hid (MsgAt.keep HA.out (R.out.trans oN) id)
        replace HG := Lib.hid (MsgAt.keep HG.out (R.out.trans oN) id)
        replace HR := Lib.hid (Only.keep (R.out.trans oN) HR.out id)
        replace O := Lib.hid (O.out.trans (R.out.trans oN))
        have R := Lib.hid (Only.refl (fun _ => False) w9)
        clear oN hw9 hBS
        obtain ⟨w2, hw2⟩ : ∃ z, z = w9 := ⟨_, rfl⟩
        rw [← hw2] at R O HA HG HR HS ⊢
        clear hw2
        refine hK.out _ _ ?_ (fun hHeld => ?_)
        · first | exact MsgAt.cells (MsgAt.keep HA.out R.out id) | exact MsgAt.cells (MsgAt.keep HA.out (R.out.alloc _) id) | exact MsgAt.cells (MsgAt.off (MsgAt.keep HA.out R.out id) _ (by have := NG.out; omega))
        clear hK K
        try simp only [List.getElem_toArray, List.getElem_cons_succ, List.getElem_cons_zero, Act.put, List.setIfInBounds_toArray, List.set_cons_zero, List.set_cons_succ]
        refine rgA.rd 11 (fun K hK => ?_)
        go_simp
        (with_reducible refine (CE.out _ _ ?_).mono ?_)
        · exact Only.keep R.out HS.out id
        rintro e w2 ⟨rfl, o⟩
        replace R := Lib.hid (R.out.trans o)
        clear o
        go_wp2_with fail
        refine hK.out _ _ ?_ (fun hHeld => ?_)
        · first | exact MsgAt.cells (MsgAt.keep HA.out R.out id) | exact MsgAt.cells (MsgAt.keep HA.out (R.out.alloc _) id) | exact MsgAt.cells (MsgAt.off (MsgAt.keep HA.out R.out id) _ (by have := NG.out; omega))
        clear hK K
        try simp only [List.getElem_toArray, List.getElem_cons_succ, List.getElem_cons_zero, Act.put, List.setIfInBounds_toArray, List.set_cons_zero, List.set_cons_succ]
        refine rgA.tk 12 hHeld ?_
        refine rgA.rd 14 (fun K hK => ?_)
        rw [if_pos (by rfl)]
        refine wp_store_row 61 (.tmp 10) (.tmp 37) rfl G (refM m nb sb).row rfl rfl 61 _ (Only.keep R.out HR.out id) (info61 _) (by rfl) (one61 _) ?_
        refine hK.out _ _ ?_ (fun hHeld => ?_)
        · first | exact MsgAt.cells (MsgAt.keep HA.out R.out id) | exact MsgAt.cells (MsgAt.keep HA.out (R.out.alloc _) id) | exact MsgAt.cells (MsgAt.off (MsgAt.keep HA.out R.out id) _ (by have := NG.out; omega))
        clear hK K
        try simp only [List.getElem_toArray, List.getElem_cons_succ, List.getElem_cons_zero, Act.put, List.setIfInBounds_toArray, List.set_cons_zero, List.set_cons_succ]
        refine wpAnyH_done (by kernel_rfl) ?_ _
        clear hHeld
    case' br4 =>
      go_simp
      obtain ⟨G, hG⟩ : ∃ g, g = w2.heap.size := ⟨_, rfl⟩
      obtain ⟨w9, hw9⟩ : ∃ z, z = w2.alloc (.cells #[.int .i64 0, .int .u32 0, .int .u32 0, .int .u64 0, .string ⟨#[]⟩, .string ⟨#[]⟩, .string ⟨#[]⟩, .string ⟨#[]⟩, .string ⟨#[]⟩, .string ⟨#[]⟩, .string ⟨#[]⟩, .string ⟨#[]⟩, .string ⟨#[]⟩] 61) := ⟨_, rfl⟩
      rw [← hw9, ← hG]
      have HR := Lib.hid (show w9.heap[G]? = some (.cells #[.int .i64 0, .int .u32 0, .int .u32 0, .int .u64 0, .string ⟨#[]⟩, .string ⟨#[]⟩, .string ⟨#[]⟩, .string ⟨#[]⟩, .string ⟨#[]⟩, .string ⟨#[]⟩, .string ⟨#[]⟩, .string ⟨#[]⟩, .string ⟨#[]⟩] 61 (0, 0)) from by rw [hw9, hG]; exact heap_alloc_new w2 _)
      have oN : Only (fun _ => False) w2 w9 := by rw [hw9]; exact (Only.refl _ w2).alloc _
      have NG := Lib.hid (show A + 1 < G from by rw [hG]; exact (show A + 1 < (w2).heap.size from lt_of (MsgAt.keep HG.out R.out id)))
      replace HA := Lib.hid (MsgAt.keep HA.out (R.out.trans oN) id)
      replace HG := Lib.hid (MsgAt.keep HG.out (R.out.trans oN) id)
      replace O := Lib.hid (O.out.trans (R.out.trans oN))
      have R := Lib.hid (Only.refl (fun _ => False) w9)
      clear oN hw9 hG
      obtain ⟨w2, hw2⟩ : ∃ z, z = w9 := ⟨_, rfl⟩
      rw [← hw2] at R O HA HG HR ⊢
      clear hw2
      refine hK.out _ _ ?_ (fun hHeld => ?_)
      · first | exact MsgAt.cells (MsgAt.keep HA.out R.out id) | exact MsgAt.cells (MsgAt.keep HA.out (R.out.alloc _) id) | exact MsgAt.cells (MsgAt.off (MsgAt.keep HA.out R.out id) _ (by have := NG.out; omega))
      clear hK K
      try simp only [List.getElem_toArray, List.getElem_cons_succ, List.getElem_cons_zero, Act.put, List.setIfInBounds_toArray, List.set_cons_zero, List.set_cons_succ]
      refine rgA.rd 6 (fun K hK => ?_)
      go_simp
      (with_reducible refine (CJ.out _).mono ?_)
      rintro e w2 ⟨rfl, o⟩
      replace R := Lib.hid (R.out.trans o)
      clear o
      go_wp2_with fail
      refine hK.out _ _ ?_ (fun hHeld => ?_)
      · first | exact MsgAt.cells (MsgAt.keep HA.out R.out id) | exact MsgAt.cells (MsgAt.keep HA.out (R.out.alloc _) id) | exact MsgAt.cells (MsgAt.off (MsgAt.keep HA.out R.out id) _ (by have := NG.out; omega))
      clear hK K
      try simp only [List.getElem_toArray, List.getElem_cons_succ, List.getElem_cons_zero, Act.put, List.setIfInBounds_toArray, List.set_cons_zero, List.set_cons_succ]
      refine rgA.rd 10 (fun K hK => ?_)
      go_simp
      obtain ⟨BS, hBS⟩ : ∃ g, g = w2.heap.size := ⟨_, rfl⟩
      obtain ⟨w9, hw9⟩ : ∃ z, z = w2.alloc (.cells #[.string j, .string c, .string (m.t 11)] 9) := ⟨_, rfl⟩
      rw [← hw9, ← hBS]
      have HS := Lib.hid (show w9.heap[BS]? = some (.cells #[.string j, .string c, .string (m.t 11)] 9 (0, 0)) from by rw [hw9, hBS]; exact heap_alloc_new w2 _)
      have oN : Only (fun _ => False) w2 w9 := by rw [hw9]; exact (Only.refl _ w2).alloc _
      replace HA := Lib.hid (MsgAt.keep HA.out (R.out.trans oN) id)
      replace HG := Lib.hid (MsgAt.keep HG.out (R.out.trans oN) id)
      replace HR := Lib.hid (Only.keep (R.out.trans oN) HR.out id)
      replace O := Lib.hid (O.out.trans (R.out.trans oN))
      have R := Lib.hid (Only.refl (fun _ => False) w9)
      clear oN hw9 hBS
      obtain ⟨w2, hw2⟩ : ∃ z, z = w9 := ⟨_, rfl⟩
      rw [← hw2] at R O HA HG HR HS ⊢
      clear hw2
      refine hK.out _ _ ?_ (fun hHeld => ?_)
      · first | exact MsgAt.cells (MsgAt.keep HA.out R.out id) | exact MsgAt.cells (MsgAt.keep HA.out (R.out.alloc _) id) | exact MsgAt.cells (MsgAt.off (MsgAt.keep HA.out R.out id) _ (by have := NG.out; omega))
      clear hK K
      try simp only [List.getElem_toArray, List.getElem_cons_succ, List.getElem_cons_zero, Act.put, List.setIfInBounds_toArray, List.set_cons_zero, List.set_cons_succ]
      refine rgA.rd 11 (fun K hK => ?_)
      go_simp
      (with_reducible refine (CE.out _ _ ?_).mono ?_)
      · exact Only.keep R.out HS.out id
      rintro e w2 ⟨rfl, o⟩
      replace R := Lib.hid (R.out.trans o)
      clear o
      go_wp2_with fail
      refine hK.out _ _ ?_ (fun hHeld => ?_)
      · first | exact MsgAt.cells (MsgAt.keep HA.out R.out id) | exact MsgAt.cells (MsgAt.keep HA.out (R.out.alloc _) id) | exact MsgAt.cells (MsgAt.off (MsgAt.keep HA.out R.out id) _ (by have := NG.out; omega))
      clear hK K
      try simp only [List.getElem_toArray, List.getElem_cons_succ, List.getElem_cons_zero, Act.put, List.setIfInBounds_toArray, List.set_cons_zero, List.set_cons_succ]
      refine rgA.tk 12 hHeld ?_
      refine rgA.rd 14 (fun K hK => ?_)
      rw [if_pos (by rfl)]
      refine wp_store_row 61 (.tmp 10) (.tmp 37) rfl G (refM m nb sb).row rfl rfl 61 _ (Only.keep R.out HR.out id) (info61 _) (by rfl) (one61 _) ?_
      refine hK.out _ _ ?_ (fun hHeld => ?_)
      · first | exact MsgAt.cells (MsgAt.keep HA.out R.out id) | exact MsgAt.cells (MsgAt.keep HA.out (R.out.alloc _) id) | exact MsgAt.cells (MsgAt.off (MsgAt.keep HA.out R.out id) _ (by have := NG.out; omega))
      clear hK K
      try simp only [List.getElem_toArray, List.getElem_cons_succ, List.getElem_cons_zero, Act.put, List.setIfInBounds_toArray, List.set_cons_zero, List.set_cons_succ]
      refine wpAnyH_done (by kernel_rfl) ?_ _
      clear hHeld
  case' br2 =>
    go_simp
    obtain ⟨G, hG⟩ : ∃ g, g = V.heap.size := ⟨_, rfl⟩
    obtain ⟨w9, hw9⟩ : ∃ z, z = (V.alloc (.cells #[.int .i64 0, .int .u32 0, .int .u32 0, .int .u64 0, .string ⟨#[]⟩, .string ⟨#[]⟩, .string ⟨#[]⟩, .string ⟨#[]⟩, .string ⟨#[]⟩, .string ⟨#[]⟩, .string ⟨#[]⟩, .string ⟨#[]⟩, .string ⟨#[]⟩] 61)).drew := ⟨_, rfl⟩
    rw [← hw9, ← hG]
    have HR := Lib.hid (show w9.heap[G]? = some (.cells #[.int .i64 0, .int .u32 0, .int .u32 0, .int .u64 0, .string ⟨#[]⟩, .string ⟨#[]⟩, .string ⟨#[]⟩, .string ⟨#[]⟩, .string ⟨#[]⟩, .string ⟨#[]⟩, .string ⟨#[]⟩, .string ⟨#[]⟩, .string ⟨#[]⟩] 61 (0, 0)) from by rw [hw9, hG]; exact heap_alloc_new V _)
    have oN : Only (fun _ => False) V.drew w9 := by rw [hw9]; exact (Only.refl _ V.drew).alloc _
    have NG := Lib.hid (show A + 1 < G from by rw [hG]; exact (show A + 1 < (V.drew).heap.size from lt_of (MsgAt.keep HG.out R.out id)))
    replace HA := Lib.hid (MsgAt.keep HA.out (R.out.trans oN) id)
    replace HG := Lib.hid (MsgAt.keep HG.out (R.out.trans oN) id)
    replace O := Lib.hid (O.out.trans (R.out.trans oN))
    have R := Lib.hid (Only.refl (fun _ => False) w9)
    clear oN hw9 hG
    obtain ⟨w2, hw2⟩ : ∃ z, z = w9 := ⟨_, rfl⟩
    rw [← hw2] at R O HA HG HR ⊢
    clear hw2
    refine hK.out _ _ ?_ (fun hHeld => ?_)
    · first | exact MsgAt.cells (MsgAt.keep HA.out R.out id) | exact MsgAt.cells (MsgAt.keep HA.out (R.out.alloc _) id) | exact MsgAt.cells (MsgAt.off (MsgAt.keep HA.out R.out id) _ (by have := NG.out; omega))
    clear hK K
    try simp only [List.getElem_toArray, List.getElem_cons_succ, List.getElem_cons_zero, Act.put, List.setIfInBounds_toArray, List.set_cons_zero, List.set_cons_succ]
    refine rgA.rd 3 (fun K hK => ?_)
    go_simp
    (with_reducible refine (CN.out _).mono ?_)
    rintro e w2 ⟨rfl, o⟩
    replace R := Lib.hid (R.out.trans o)
    clear o
    go_wp2_with fail
    refine hK.out _ _ ?_ (fun hHeld => ?_)
    · first | exact MsgAt.cells (MsgAt.keep HA.out R.out id) | exact MsgAt.cells (MsgAt.keep HA.out (R.out.alloc _) id) | exact MsgAt.cells (MsgAt.off (MsgAt.keep HA.out R.out id) _ (by have := NG.out; omega))
    clear hK K
    try simp only [List.getElem_toArray, List.getElem_cons_succ, List.getElem_cons_zero, Act.put, List.setIfInBounds_toArray, List.set_cons_zero, List.set_cons_succ]
    refine rgA.rd 6 (fun K hK => ?_)
    go_simp
    (with_reducible refine (CJ.out _).mono ?_)
    rintro e w2 ⟨rfl, o⟩
    replace R := Lib.hid (R.out.trans o)
    clear o
    go_wp2_with fail
    refine hK.out _ _ ?_ (fun hHeld => ?_)
    · first | exact MsgAt.cells (MsgAt.keep HA.out R.out id) | exact MsgAt.cells (MsgAt.keep HA.out (R.out.alloc _) id) | exact MsgAt.cells (MsgAt.off (MsgAt.keep HA.out R.out id) _ (by have := NG.out; omega))
    clear hK K
    try simp only [List.getElem_toArray, List.getElem_cons_succ, List.getElem_cons_zero, Act.put, List.setIfInBounds_toArray, List.set_cons_zero, List.set_cons_succ]
    refine rgA.rd 10 (fun K hK => ?_)
    go_simp
    obtain ⟨BS, hBS⟩ : ∃ g, g = w2.heap.size := ⟨_, rfl⟩
    obtain ⟨w9, hw9⟩ : ∃ z, z = w2.alloc (.cells #[.string j, .string c, .string (m.t 11)] 9) := ⟨_, rfl⟩
    rw [← hw9, ← hBS]
    have HS := Lib.hid (show w9.heap[BS]? = some (.cells #[.string j, .string c, .string (m.t 11)] 9 (0, 0)) from by rw [hw9, hBS]; exact heap_alloc_new w2 _)
    have oN : Only (fun _ => False) w2 w9 := by rw [hw9]; exact (Only.refl _ w2).alloc _
    replace HA := Lib.hid (MsgAt.keep HA.out (R.out.trans oN) id)
    replace HG := Lib.hid (MsgAt.keep HG.out (R.out.trans oN) id)
    replace HR := Lib.hid (Only.keep (R.out.trans oN) HR.out id)
    replace O := Lib.hid (O.out.trans (R.out.trans oN))
    have R := Lib.hid (Only.refl (fun _ => False) w9)
    clear oN hw9 hBS
    obtain ⟨w2, hw2⟩ : ∃ z, z = w9 := ⟨_, rfl⟩
    rw [← hw2] at R O HA HG HR HS ⊢
    clear hw2
    refine hK.out _ _ ?_ (fun hHeld => ?_)
    · first | exact MsgAt.cells (MsgAt.keep HA.out R.out id) | exact MsgAt.cells (MsgAt.keep HA.out (R.out.alloc _) id) | exact MsgAt.cells (MsgAt.off (MsgAt.keep HA.out R.out id) _ (by have := NG.out; omega))
    clear hK K
    try simp only [List.getElem_toArray, List.getElem_cons_succ, List.getElem_cons_zero, Act.put, List.setIfInBounds_toArray, List.set_cons_zero, List.set_cons_succ]
    refine rgA.rd 11 (fun K hK => ?_)
    go_simp
    (with_reducible refine (CE.out _ _ ?_).mono ?_)
    · exact Only.keep R.out HS.out id
    rintro e w2 ⟨rfl, o⟩
    replace R := Lib.hid (R.out.trans o)
    clear o
    go_wp2_with fail
    refine hK.out _ _ ?_ (fun hHeld => ?_)
    · first | exact MsgAt.cells (MsgAt.keep HA.out R.out id) | exact MsgAt.cells (MsgAt.keep HA.out (R.out.alloc _) id) | exact MsgAt.cells (MsgAt.off (MsgAt.keep HA.out R.out id) _ (by have := NG.out; omega))
    clear hK K
    try simp only [List.getElem_toArray, List.getElem_cons_succ, List.getElem_cons_zero, Act.put, List.setIfInBounds_toArray, List.set_cons_zero, List.set_cons_succ]
    refine rgA.tk 12 hHeld ?_
    refine rgA.rd 14 (fun K hK => ?_)
    rw [if_pos (by rfl)]
    refine wp_store_row 61 (.tmp 10) (.tmp 37) rfl G (refM m nb sb).row rfl rfl 61 _ (Only.keep R.out HR.out id) (info61 _) (by rfl) (one61 _) ?_
    refine hK.out _ _ ?_ (fun hHeld => ?_)
    · first | exact MsgAt.cells (MsgAt.keep HA.out R.out id) | exact MsgAt.cells (MsgAt.keep HA.out (R.out.alloc _) id) | exact MsgAt.cells (MsgAt.off (MsgAt.keep HA.out R.out id) _ (by have := NG.out; omega))
    clear hK K
    try simp only [List.getElem_toArray, List.getElem_cons_succ, List.getElem_cons_zero, Act.put, List.setIfInBounds_toArray, List.set_cons_zero, List.set_cons_succ]
    refine wpAnyH_done (by kernel_rfl) ?_ _
    clear hHeld
  all_goals
    obtain ⟨Z, hZ⟩ : ∃ Z, Z = w2.setRow G (refM m nb sb).row := ⟨_, rfl⟩
    rw [← hZ]
    have ne1 : A + 1 ≠ G := by have := NG.out; omega
    replace HG := Lib.hid (show MsgAt Z (A + 1) (zeroM 0) from by rw [hZ]; exact MsgAt.off (MsgAt.keep HG.out R.out id) _ ne1)
    replace HR := Lib.hid (show MsgAt Z G (refM m nb sb) from by rw [hZ]; exact setRow_heap _ _ _ _ _ _ (Only.keep R.out HR.out id))
    replace O := Lib.hid (show Only (fun k => A ≤ k) w Z from by rw [hZ]; exact only_row ((O.out.trans R.out).mono fun _ h => h.elim) _ (by have := NG.out; omega))
    clear hZ R HA
    obtain ⟨g0, g1, g2, g3, g4, g5, g6, g7, g8, g9, g10, g11, g12⟩ := MsgAt.cells HR.out
    simp [refM] at g0 g1 g2 g3 g4 g5 g6 g7 g8 g9 g10 g11 g12
    go_wp2_with fail
    (with_reducible refine (CR.out _).mono ?_)
    rintro e w5 ⟨rfl, o⟩
    replace HG := Lib.hid (MsgAt.keep HG.out o id)
    replace HR := Lib.hid (MsgAt.keep HR.out o id)
    replace O := Lib.hid (O.out.trans (o.mono fun _ h => h.elim))
    clear o g0 g1 g2 g3 g4 g5 g6 g7 g8 g9 g10 g11 g12
    go_wp2_with (first
      | (refine wpList_load_row rfl 61 (.tmp 10) rfl G rfl 61 (refM m nb sb).row (0, 0) _ HR.out Try.underlying61 rfl (info61 _) ?_)
      | (refine wpList_store_row rfl 61 (.tmp 8) (.tmp 42) rfl (A + 1) (refM m nb sb).row rfl rfl 61 _ HG.out (info61 _) (size61 _ _) (one61 _) ?_))
    exact bodyPost_ret (trB.res2 Try.results88 _ _ (A + 1) 61 (refM m nb sb).row (0, 0) _ rfl (MsgAt.row HG.out (refM m nb sb)) Try.underlying61 rfl (info61 _)) rfl ⟨rfl, Only.old (only_row (O.out.mono fun k h => by rw [← HAE.out]; exact h) _ (by rw [← HAE.out]; omega))⟩

set_option maxRecDepth 100000 in
set_option maxHeartbeats 3200000 in
theorem refrefuse_any (m : Msg) (p c nb sb : ByteArray) (N : Nat) (w : World) (hN : N ≤ most) (hnb : nb.data.toList = mkT 3 N [] []) (hsb : sb.data.toList = mkT 10 N [] [jarT p.data.toList, c.data.toList, (m.t 11).data.toList]) (ht : ∀ i, (m.t i).size ≤ 10000000) (hz : p.size ≤ 10000000) (hcz : c.size ≤ 10000000) (hs : 0 ≤ m.s ∧ m.s ≤ 4294967295) (hr : 0 ≤ m.r ∧ m.r ≤ 4294967295) : Calls Try.prog 89 #[mval m, .string p, .string c, .int .u64 N] w (numA.Told w (.agg (refM m nb sb).row)) := by
  obtain ⟨j, hj⟩ : ∃ j : ByteArray, j.data.toList = jarT p.data.toList := ⟨⟨(jarT p.data.toList).toArray⟩, rfl⟩
  have CH := Lib.hid (fun W G (hG : W.heap.size = G) => refhash_any ⟨#[120, 54, 51, 54, 102, 54, 102, 54, 98, 54, 57, 54, 53]⟩ p j W (by rw [hj]; rfl) (by decide) hz G hG)
  have CN := Lib.hid (fun W => told_str (b := nb) (by rw [hnb]; rfl) (refnumber_any N W (by omega) (by omega)))
  have CE := Lib.hid (fun W => told_str (b := sb) (by rw [hsb, hj]) (seal_any N j c (m.t 11) W hN (u_le hj (Nat.le_trans (mk_most (by decide)) (by decide))) hcz (ht 11)))
  have CW := Lib.hid (fun W => (show Calls Try.prog 74 #[.int .i64 3, .int .u32 0, .int .u32 m.s, .int .u64 0, .slice (some ⟨W.heap.size, 0, none⟩) 2 2] (W.alloc (.cells #[.string nb, .string sb] 9)) (numA.Told W (.agg (refM m nb sb).row)) from by
    have hb := heap_alloc_new W (.cells #[.string nb, .string sb] 9)
    refine (with_3 (refM m nb sb) (W.alloc (.cells #[.string nb, .string sb] 9)) W.heap.size 0 2 (by rw [World.size_alloc]; omega) (fun i hi => ?_)).mono ?_
    · rcases (by omega : i = 0 ∨ i = 1) with rfl | rfl
      · exact cell_of hb
      · exact cell_of hb
    · rintro e w' ⟨o, rfl⟩
      exact ⟨rfl, ((Only.refl _ W).alloc _).trans o⟩))
  have HA := Lib.hid (show MsgAt ((w.alloc (.cells m.row 61)).alloc (.cells (zeroM 0).row 61)) w.heap.size m from MsgAt.keep (heap_alloc_new w _) ((Only.refl (fun _ => False) _).alloc _) id)
  have HG := Lib.hid (show MsgAt ((w.alloc (.cells m.row 61)).alloc (.cells (zeroM 0).row 61)) (w.heap.size + 1) (zeroM 0) from by have h := heap_alloc_new (w.alloc (.cells m.row 61)) (.cells (zeroM 0).row 61); rw [World.size_alloc] at h; exact h)
  have O := Lib.hid (show Only (fun _ => False) w ((w.alloc (.cells m.row 61)).alloc (.cells (zeroM 0).row 61)) from ((Only.refl _ w).alloc _).alloc _)
  obtain ⟨Y, hY⟩ : ∃ Y, Y = (w.alloc (.cells m.row 61)).alloc (.cells (zeroM 0).row 61) := ⟨_, rfl⟩
  rw [← hY] at HA O HG
  obtain ⟨A, hA⟩ : ∃ A, A = w.heap.size := ⟨_, rfl⟩
  rw [← hA] at HA HG
  have HY := Lib.hid hY
  have HAE := Lib.hid hA
  simp only [Msg.row, zeroM] at HY
  clear hY hA
  have R := Lib.hid (Only.refl (fun _ => False) Y)
  obtain ⟨c2, hc2⟩ : ∃ c2, c2 = (refM m nb sb).row := ⟨_, rfl⟩
  have hi := info61 (refM m nb sb)
  have h1 := one61 (refM m nb sb)
  have hsz : (zeroM 0).row.size = c2.size := by rw [hc2]; rfl
  have HCE := Lib.hid hc2
  rw [← hc2] at hi h1 CW
  have HI := Lib.hid hi
  have H1 := Lib.hid h1
  have HSZ := Lib.hid hsz
  unfold mval
  clear ht hz hs hr hcz hj hnb hsb hN hc2 hi h1 hsz
  go_enter Try.func89, Try.ntmps89
  go_wp2_with fail
  rw [← HY.out, ← HAE.out]
  (with_reducible refine (CH.out _ _ ?_).mono ?_)
  · rw [HY.out, World.size_alloc, World.size_alloc, HAE.out]
  rintro e w2 ⟨rfl, o⟩
  replace HA := Lib.hid (MsgAt.keep HA.out o id)
  replace HG := Lib.hid (MsgAt.keep HG.out o id)
  replace O := Lib.hid (O.out.trans o)
  clear o R
  go_upto_region 2 with fail
  obtain ⟨V, hV⟩ : ∃ V, V = w2 := ⟨_, rfl⟩
  rw [← hV] at HA HG O ⊢
  clear hV
  have R := Lib.hid ((Only.refl (fun _ => False) V).drew)
  refine wp_region_held_drew (S := (fun w' => w'.cell? ⟨A, 0, none⟩ = some (.int .i64 m.k) ∧ w'.cell? ⟨A, 1, none⟩ = some (.int .u32 m.s) ∧ w'.cell? ⟨A, 2, none⟩ = some (.int .u32 m.r) ∧ w'.cell? ⟨A, 3, none⟩ = some (.int .u64 m.c) ∧ w'.cell? ⟨A, 4, none⟩ = some (.string (m.t 4)) ∧ w'.cell? ⟨A, 5, none⟩ = some (.string (m.t 5)) ∧ w'.cell? ⟨A, 6, none⟩ = some (.string (m.t 6)) ∧ w'.cell? ⟨A, 7, none⟩ = some (.string (m.t 7)) ∧ w'.cell? ⟨A, 8, none⟩ = some (.string (m.t 8)) ∧ w'.cell? ⟨A, 9, none⟩ = some (.string (m.t 9)) ∧ w'.cell? ⟨A, 10, none⟩ = some (.string (m.t 10)) ∧ w'.cell? ⟨A, 11, none⟩ = some (.string (m.t 11)) ∧ w'.cell? ⟨A, 12, none⟩ = some (.string (m.t 12)))) (by kernel_rfl) ?_ (fun hHeld => ?_)
  · exact MsgAt.cells (MsgAt.keep HA.out R.out id)
  refine rgA.tk 0 hHeld ?_
  refine rgA.tk 1 hHeld ?_
  refine rgA.tk 2 hHeld ?_
  refine rgA.tk 4 hHeld ?_
  refine rgA.tk 5 hHeld ?_
  refine rgA.tk 6 hHeld ?_
  refine rgA.tk 7 hHeld ?_
  refine rgA.tk 8 hHeld ?_
  refine rgA.rd 3 (fun K hK => ?_)
  go_simp
  (with_reducible refine (CN.out _).mono ?_)
  rintro e w2 ⟨rfl, o⟩
  replace R := Lib.hid (R.out.trans o)
  clear o
  go_wp2_with fail
  refine hK.out _ _ ?_ (fun hHeld => ?_)
  · first | exact MsgAt.cells (MsgAt.keep HA.out R.out id) | exact MsgAt.cells (MsgAt.keep HA.out (R.out.alloc _) id) | exact MsgAt.cells (MsgAt.off (MsgAt.keep HA.out R.out id) _ (by omega))
  clear hK K
  try simp only [List.getElem_toArray, List.getElem_cons_succ, List.getElem_cons_zero, Act.put, List.setIfInBounds_toArray, List.set_cons_zero, List.set_cons_succ]
  refine rgA.rd 9 (fun K hK => ?_)
  go_simp
  (with_reducible refine (CE.out _).mono ?_)
  rintro e w2 ⟨rfl, o⟩
  replace R := Lib.hid (R.out.trans o)
  clear o
  go_wp2_with fail
  refine hK.out _ _ ?_ (fun hHeld => ?_)
  · first | exact MsgAt.cells (MsgAt.keep HA.out R.out id) | exact MsgAt.cells (MsgAt.keep HA.out (R.out.alloc _) id) | exact MsgAt.cells (MsgAt.off (MsgAt.keep HA.out R.out id) _ (by omega))
  clear hK K
  try simp only [List.getElem_toArray, List.getElem_cons_succ, List.getElem_cons_zero, Act.put, List.setIfInBounds_toArray, List.set_cons_zero, List.set_cons_succ]
  refine rgA.rd 10 (fun K hK => ?_)
  go_simp
  refine hK.out _ _ ?_ (fun hHeld => ?_)
  · first | exact MsgAt.cells (MsgAt.keep HA.out R.out id) | exact MsgAt.cells (MsgAt.keep HA.out (R.out.alloc _) id) | exact MsgAt.cells (MsgAt.off (MsgAt.keep HA.out R.out id) _ (by omega))
  clear hK K
  try simp only [List.getElem_toArray, List.getElem_cons_succ, List.getElem_cons_zero, Act.put, List.setIfInBounds_toArray, List.set_cons_zero, List.set_cons_succ]
  refine rgA.rd 11 (fun K hK => ?_)
  go_simp
  (with_reducible refine (CW.out _).mono ?_)
  rintro e w2 ⟨rfl, o⟩
  replace R := Lib.hid (R.out.trans o)
  clear o
  go_wp2_with fail
  refine hK.out _ _ ?_ (fun hHeld => ?_)
  · first | exact MsgAt.cells (MsgAt.keep HA.out R.out id) | exact MsgAt.cells (MsgAt.keep HA.out (R.out.alloc _) id) | exact MsgAt.cells (MsgAt.off (MsgAt.keep HA.out R.out id) _ (by omega))
  clear hK K
  try simp only [List.getElem_toArray, List.getElem_cons_succ, List.getElem_cons_zero, Act.put, List.setIfInBounds_toArray, List.set_cons_zero, List.set_cons_succ]
  refine rgA.rd 12 (fun K hK => ?_)
  rw [if_pos (by rfl)]
  refine wp_store_row 61 (.tmp 8) (.tmp 24) rfl (A + 1) c2 rfl rfl 61 _ (MsgAt.keep HG.out R.out id) HI.out HSZ.out H1.out ?_
  refine hK.out _ _ ?_ (fun hHeld => ?_)
  · first | exact MsgAt.cells (MsgAt.keep HA.out R.out id) | exact MsgAt.cells (MsgAt.keep HA.out (R.out.alloc _) id) | exact MsgAt.cells (MsgAt.off (MsgAt.keep HA.out R.out id) _ (by omega))
  clear hK K
  try simp only [List.getElem_toArray, List.getElem_cons_succ, List.getElem_cons_zero, Act.put, List.setIfInBounds_toArray, List.set_cons_zero, List.set_cons_succ]
  refine wpAnyH_done (by kernel_rfl) ?_ _
  go_wp2_with fail
  exact bodyPost_ret (results_cell_row (p := 8) (ty := 61) Try.results89 _ _ (A + 1) 61 c2 (0, 0) _ rfl (setRow_heap _ _ _ _ _ _ (MsgAt.keep HG.out R.out id)) Try.underlying61 rfl HI.out) rfl ⟨by rw [HCE.out], Only.old (only_row ((O.out.trans R.out).mono fun _ h => h.elim) _ (by rw [HAE.out]; omega))⟩


end Go.Proofs.Ytbjnejnjlidiaaa.maM
