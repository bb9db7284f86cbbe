/- Macs: Sign. -/
import Derived.Test.YtbjnejnjlidiaaaMaD
namespace Go.Proofs.Ytbjnejnjlidiaaa.maE
open Go.RowKit kit numA numB numC numD numE tmA tmB tmC tmD tmE trA trB prR prS prW prX tsA tsB tsF tsI wrA wrB wrC wrD wrE wrF wrG wrH wrI wrJ wrK wrL mkA maA maB maC maD
set_option linter.unusedVariables false
set_option linter.unusedSimpArgs false

theorem only_row {S : Nat → Prop} {a w : World} (h : Only S a w) {g : Nat} (cs : Array Value) (hb : S g) : Only S a (w.setRow g cs) :=
  h.trans ⟨rfl, rfl, rfl, by simp, fun k _ hk => setRow_other w g k cs fun e => hk (e ▸ hb)⟩
theorem MsgAt.row {w : World} {B : Nat} {m : Msg} (h : MsgAt w B m) (m' : Msg) : MsgAt (w.setRow B m'.row) B m' := setRow_heap w B _ _ _ _ h
theorem MsgAt.off {w : World} {B g : Nat} {m : Msg} (h : MsgAt w B m) (cs : Array Value) (hg : B ≠ g) : MsgAt (w.setRow g cs) B m := (setRow_other w g B cs hg).trans h
theorem MsgAt.set {w : World} {B g o : Nat} {v : Value} {m : Msg} (h : MsgAt w B m) (hg : B ≠ g) : MsgAt (w.setCell ⟨g, o, none⟩ v) B m := (heap_other hg).trans h
theorem info61 (m : Msg) : (Try.prog.info? 61).map (·.size) = some m.row.size := by
  rw [show m.row.size = 13 from rfl]; kernel_rfl
theorem one61 (m : Msg) : m.row.all (·.oneCell') = true := by simp [Msg.row, Value.oneCell']
theorem size61 (m m' : Msg) : m.row.size = m'.row.size := rfl
theorem mval_row (m : Msg) : mval m = .agg m.row := rfl
theorem mac_most (k u : Txt) : (macT k u).length ≤ 65536 := mk_most (k := 9) (n := 0) (b := []) (ps := [k, u]) (by decide)
theorem isT_k {s : ByteArray} : ((trJ.ndOf s.data.toList).k ≠ 0) ↔ isT s.data.toList = true := by
  rcases nd_cases s.data.toList with ⟨e, h⟩ | ⟨ht, _, hr, h⟩
  · rw [show trJ.ndOf s.data.toList = nd s.data.toList from rfl, e, h]
    simp
  · obtain ⟨c, r, _, _, h1, _⟩ := T.ne ht
    rw [show trJ.ndOf s.data.toList = nd s.data.toList from rfl, h]
    exact ⟨fun _ => rfl, fun _ => by omega⟩

set_option maxRecDepth 100000 in
set_option maxHeartbeats 1600000 in
theorem sign_1 (m : Msg) (p c : ByteArray) (w : World) (ha : asksM m = false) (hp : True) (ht : ∀ i, (m.t i).size ≤ 10000000) (hz : p.size ≤ 10000000) (hs : 0 ≤ m.s ∧ m.s ≤ 4294967295) (hr : 0 ≤ m.r ∧ m.r ≤ 4294967295) : Calls Try.prog 78 #[mval m, .string p, .string c] w (numA.Told w (.tuple #[.agg (zeroM 0).row, .int .i64 3])) := by
  have CS := Lib.hid (fun W => issig_any m false W ha (fun i => Nat.le_trans (ht i) (by decide)))
  simp only [mval] at CS
  have HA := Lib.hid (show MsgAt ((w.alloc (.cells m.row 61)).alloc (.cells (zeroM 0).row 61)) w.heap.size m from MsgAt.keep (heap_alloc_new w _) ((Only.refl (fun _ => False) _).alloc _) id)
  have HG := Lib.hid (show MsgAt ((w.alloc (.cells m.row 61)).alloc (.cells (zeroM 0).row 61)) (w.heap.size + 1) (zeroM 0) from by have h := heap_alloc_new (w.alloc (.cells m.row 61)) (.cells (zeroM 0).row 61); rw [World.size_alloc] at h; exact h)
  have O := Lib.hid (show Only (fun _ => False) w ((w.alloc (.cells m.row 61)).alloc (.cells (zeroM 0).row 61)) from ((Only.refl _ w).alloc _).alloc _)
  obtain ⟨Y, hY⟩ : ∃ Y, Y = (w.alloc (.cells m.row 61)).alloc (.cells (zeroM 0).row 61) := ⟨_, rfl⟩
  rw [← hY] at HA O HG
  obtain ⟨A, hA⟩ : ∃ A, A = w.heap.size := ⟨_, rfl⟩
  rw [← hA] at HA HG
  have HY := Lib.hid hY
  have HAE := Lib.hid hA
  simp only [Msg.row, zeroM] at HY
  clear hY hA
  have R := Lib.hid (Only.refl (fun _ => False) Y)
  unfold mval
  clear ha hp ht hz hs hr
  go_enter Try.func78, Try.ntmps78
  go_wp2_with fail
  rw [← HY.out, ← HAE.out]
  (with_reducible refine (CS.out _).mono ?_)
  rintro e w2 ⟨rfl, o⟩
  replace R := Lib.hid (R.out.trans o)
  clear o
  have HZ := Lib.hid (MsgAt.keep HG.out R.out id)
  have hi := info61 (zeroM 0)
  have h1 := one61 (zeroM 0)
  go_wp2_with (refine wpList_store_row rfl 61 (.tmp 6) (.tmp 25) rfl (A + 1) (zeroM 0).row rfl rfl 61 _ HZ.out hi (size61 _ _) h1 ?_)
  exact bodyPost_ret (trB.res2 Try.results78 _ _ (A + 1) 61 (zeroM 0).row (0, 0) _ rfl (MsgAt.row HZ.out (zeroM 0)) Try.underlying61 rfl hi) rfl ⟨rfl, Only.old (only_row ((O.out.trans R.out).mono fun _ h => h.elim) _ (by rw [HAE.out]; omega))⟩

set_option maxRecDepth 100000 in
set_option maxHeartbeats 1600000 in
theorem sign_2 (m : Msg) (p c : ByteArray) (w : World) (ha : asksM m = true) (hp : pubB p.data.toList = false) (ht : ∀ i, (m.t i).size ≤ 10000000) (hz : p.size ≤ 10000000) (hs : 0 ≤ m.s ∧ m.s ≤ 4294967295) (hr : 0 ≤ m.r ∧ m.r ≤ 4294967295) : Calls Try.prog 78 #[mval m, .string p, .string c] w (numA.Told w (.tuple #[.agg (zeroM 0).row, .int .i64 3])) := by
  have CS := Lib.hid (fun W => issig_any m true W ha (fun i => Nat.le_trans (ht i) (by decide)))
  simp only [mval] at CS
  have CP := Lib.hid (fun W => ispub_any p false W hp (Nat.le_trans hz (by decide)))
  have HA := Lib.hid (show MsgAt ((w.alloc (.cells m.row 61)).alloc (.cells (zeroM 0).row 61)) w.heap.size m from MsgAt.keep (heap_alloc_new w _) ((Only.refl (fun _ => False) _).alloc _) id)
  have HG := Lib.hid (show MsgAt ((w.alloc (.cells m.row 61)).alloc (.cells (zeroM 0).row 61)) (w.heap.size + 1) (zeroM 0) from by have h := heap_alloc_new (w.alloc (.cells m.row 61)) (.cells (zeroM 0).row 61); rw [World.size_alloc] at h; exact h)
  have O := Lib.hid (show Only (fun _ => False) w ((w.alloc (.cells m.row 61)).alloc (.cells (zeroM 0).row 61)) from ((Only.refl _ w).alloc _).alloc _)
  obtain ⟨Y, hY⟩ : ∃ Y, Y = (w.alloc (.cells m.row 61)).alloc (.cells (zeroM 0).row 61) := ⟨_, rfl⟩
  rw [← hY] at HA O HG
  obtain ⟨A, hA⟩ : ∃ A, A = w.heap.size := ⟨_, rfl⟩
  rw [← hA] at HA HG
  have HY := Lib.hid hY
  have HAE := Lib.hid hA
  simp only [Msg.row, zeroM] at HY
  clear hY hA
  have R := Lib.hid (Only.refl (fun _ => False) Y)
  unfold mval
  clear ha hp ht hz hs hr
  go_enter Try.func78, Try.ntmps78
  go_wp2_with fail
  rw [← HY.out, ← HAE.out]
  (with_reducible refine (CS.out _).mono ?_)
  rintro e w2 ⟨rfl, o⟩
  replace R := Lib.hid (R.out.trans o)
  clear o
  go_wp2_with fail
  (with_reducible refine (CP.out _).mono ?_)
  rintro e w2 ⟨rfl, o⟩
  replace R := Lib.hid (R.out.trans o)
  clear o
  have HZ := Lib.hid (MsgAt.keep HG.out R.out id)
  have hi := info61 (zeroM 0)
  have h1 := one61 (zeroM 0)
  go_wp2_with (refine wpList_store_row rfl 61 (.tmp 6) (.tmp 25) rfl (A + 1) (zeroM 0).row rfl rfl 61 _ HZ.out hi (size61 _ _) h1 ?_)
  exact bodyPost_ret (trB.res2 Try.results78 _ _ (A + 1) 61 (zeroM 0).row (0, 0) _ rfl (MsgAt.row HZ.out (zeroM 0)) Try.underlying61 rfl hi) rfl ⟨rfl, Only.old (only_row ((O.out.trans R.out).mono fun _ h => h.elim) _ (by rw [HAE.out]; omega))⟩

set_option maxRecDepth 100000 in
set_option maxHeartbeats 1600000 in
theorem sign_3 (m : Msg) (p c : ByteArray) (w : World) (ha : asksM m = true) (hp : pubB p.data.toList = true) (hc : c.data.toList ≠ []) (hct : isT c.data.toList = false) (hcz : c.size ≤ 10000000) (ht : ∀ i, (m.t i).size ≤ 10000000) (hz : p.size ≤ 10000000) (hs : 0 ≤ m.s ∧ m.s ≤ 4294967295) (hr : 0 ≤ m.r ∧ m.r ≤ 4294967295) : Calls Try.prog 78 #[mval m, .string p, .string c] w (numA.Told w (.tuple #[.agg (zeroM 0).row, .int .i64 3])) := by
  have CS := Lib.hid (fun W => issig_any m true W ha (fun i => Nat.le_trans (ht i) (by decide)))
  simp only [mval] at CS
  have CP := Lib.hid (fun W => ispub_any p true W hp (Nat.le_trans hz (by decide)))
  obtain ⟨x1, x2, x3, x4⟩ := ne_facts hc
  have CK := Lib.hid (fun W => prR.kind_any c W (Nat.le_trans hcz (by decide)))
  rw [show (trJ.ndOf c.data.toList).k = 0 from Decidable.byContradiction fun q => by rw [isT_k.1 q] at hct; cases hct] at CK
  have HA := Lib.hid (show MsgAt ((w.alloc (.cells m.row 61)).alloc (.cells (zeroM 0).row 61)) w.heap.size m from MsgAt.keep (heap_alloc_new w _) ((Only.refl (fun _ => False) _).alloc _) id)
  have HG := Lib.hid (show MsgAt ((w.alloc (.cells m.row 61)).alloc (.cells (zeroM 0).row 61)) (w.heap.size + 1) (zeroM 0) from by have h := heap_alloc_new (w.alloc (.cells m.row 61)) (.cells (zeroM 0).row 61); rw [World.size_alloc] at h; exact h)
  have O := Lib.hid (show Only (fun _ => False) w ((w.alloc (.cells m.row 61)).alloc (.cells (zeroM 0).row 61)) from ((Only.refl _ w).alloc _).alloc _)
  obtain ⟨Y, hY⟩ : ∃ Y, Y = (w.alloc (.cells m.row 61)).alloc (.cells (zeroM 0).row 61) := ⟨_, rfl⟩
  rw [← hY] at HA O HG
  obtain ⟨A, hA⟩ : ∃ A, A = w.heap.size := ⟨_, rfl⟩
  rw [← hA] at HA HG
  have HY := Lib.hid hY
  have HAE := Lib.hid hA
  simp only [Msg.row, zeroM] at HY
  clear hY hA
  have R := Lib.hid (Only.refl (fun _ => False) Y)
  unfold mval
  clear ha hp ht hz hs hr hc hct hcz
  go_enter Try.func78, Try.ntmps78
  go_wp2_with fail
  rw [← HY.out, ← HAE.out]
  (with_reducible refine (CS.out _).mono ?_)
  rintro e w2 ⟨rfl, o⟩
  replace R := Lib.hid (R.out.trans o)
  clear o
  go_wp2_with fail
  (with_reducible refine (CP.out _).mono ?_)
  rintro e w2 ⟨rfl, o⟩
  replace R := Lib.hid (R.out.trans o)
  clear o
  go_wp2_with fail
  (with_reducible refine (CK.out _).mono ?_)
  rintro e w2 ⟨rfl, o⟩
  replace R := Lib.hid (R.out.trans o)
  clear o
  have HZ := Lib.hid (MsgAt.keep HG.out R.out id)
  have hi := info61 (zeroM 0)
  have h1 := one61 (zeroM 0)
  go_wp2_with (refine wpList_store_row rfl 61 (.tmp 6) (.tmp 25) rfl (A + 1) (zeroM 0).row rfl rfl 61 _ HZ.out hi (size61 _ _) h1 ?_)
  exact bodyPost_ret (trB.res2 Try.results78 _ _ (A + 1) 61 (zeroM 0).row (0, 0) _ rfl (MsgAt.row HZ.out (zeroM 0)) Try.underlying61 rfl hi) rfl ⟨rfl, Only.old (only_row ((O.out.trans R.out).mono fun _ h => h.elim) _ (by rw [HAE.out]; omega))⟩

theorem sums_sz {m : Msg} {a b : ByteArray} {n : Nat} (ht : ∀ i, (m.t i).size ≤ n) (h1 : a.size ≤ n) (h2 : b.size ≤ n) : ∀ i, ((sumsM m a b).t i).size ≤ n := by
  intro i
  obtain ⟨-, -, -, -, e5, e6, e7⟩ := sums_row m a b
  by_cases h11 : i = 11
  · rw [h11, e5]; exact h1
  by_cases h12 : i = 12
  · rw [h12, e6]; exact h2
  rw [e7 i h11 h12]
  exact ht i
theorem sums_put (m : Msg) (a z b : ByteArray) : (sumsM m a z).put 12 b = sumsM m a b := by
  unfold sumsM Msg.put
  simp only [Msg.mk.injEq, true_and]
  funext j
  by_cases h1 : j = 12
  · simp [h1]
  · simp [h1]

theorem signedM_len (m : Msg) : (signedM m).length ≤ 65536 := by
  unfold signedM
  split
  · exact Nat.zero_le _
  · exact mk_most (k := 11) (n := 0) (b := []) (ps := [bodyM m, (m.t 11).data.toList]) (by decide)

set_option maxRecDepth 100000 in
set_option maxHeartbeats 3200000 in
theorem sign_e (m : Msg) (p b1 : ByteArray) (w : World) (ha : asksM m = true) (hp : pubB p.data.toList = true) (hb1 : b1.data.toList = firstT m p.data.toList) (hR : rightM (sumsM m b1 ⟨#[48]⟩) = true) (ht : ∀ i, (m.t i).size ≤ 10000000) (hz : p.size ≤ 10000000) (hs : 0 ≤ m.s ∧ m.s ≤ 4294967295) (hr : 0 ≤ m.r ∧ m.r ≤ 4294967295) : Calls Try.prog 78 #[mval m, .string p, .string ⟨#[]⟩] w (numA.Told w (.tuple #[.agg (sumsM m b1 ⟨#[48]⟩).row, .int .i64 0])) := by
  have CS := Lib.hid (fun W => issig_any m true W ha (fun i => Nat.le_trans (ht i) (by decide)))
  simp only [mval] at CS
  have CP := Lib.hid (fun W => ispub_any p true W hp (Nat.le_trans hz (by decide)))
  obtain ⟨d, hd⟩ : ∃ d : ByteArray, d.data.toList = doorT p.data.toList := ⟨⟨(doorT p.data.toList).toArray⟩, rfl⟩
  obtain ⟨y, hy⟩ : ∃ y : ByteArray, y.data.toList = bodyM m := ⟨⟨(bodyM m).toArray⟩, rfl⟩
  have CD := Lib.hid (fun W => door_any p d W hd (Nat.le_trans hz (by decide)))
  have CB := Lib.hid (fun W => told_str hy (body_any m W (fun i => Nat.le_trans (ht i) (by decide)) hs hr))
  simp only [mval] at CB
  have CM := Lib.hid (fun W => mac_any d y b1 W (by rw [hb1, hd, hy]; rfl) (u_le hd (Nat.le_trans (mk_most (by decide)) (by decide))) (u_le hy (Nat.le_trans (bodyM_len m) (by decide))))
  have hb1z : b1.size ≤ 65536 := u_le hb1 (mac_most _ _)
  obtain ⟨m1, hm1⟩ : ∃ m1, m1 = sumsM m b1 ⟨#[48]⟩ := ⟨_, rfl⟩
  have ht1 : ∀ i, (m1.t i).size ≤ 10000000 := by rw [hm1]; exact sums_sz ht (Nat.le_trans hb1z (by decide)) (by decide)
  have hs1 : 0 ≤ m1.s ∧ m1.s ≤ 4294967295 := by rw [hm1]; exact hs
  have hr1 : 0 ≤ m1.r ∧ m1.r ≤ 4294967295 := by rw [hm1]; exact hr
  have HM1 := Lib.hid hm1
  rw [← hm1] at hR
  have CR := Lib.hid (fun W => (show Calls Try.prog 146 #[.agg m1.row] W _ from ismsg_any m1 true W hR (fun i => Nat.le_trans (ht1 i) (by decide))))
  have HA := Lib.hid (show MsgAt ((w.alloc (.cells m.row 61)).alloc (.cells (zeroM 0).row 61)) w.heap.size m from MsgAt.keep (heap_alloc_new w _) ((Only.refl (fun _ => False) _).alloc _) id)
  have HG := Lib.hid (show MsgAt ((w.alloc (.cells m.row 61)).alloc (.cells (zeroM 0).row 61)) (w.heap.size + 1) (zeroM 0) from by have h := heap_alloc_new (w.alloc (.cells m.row 61)) (.cells (zeroM 0).row 61); rw [World.size_alloc] at h; exact h)
  have O := Lib.hid (show Only (fun _ => False) w ((w.alloc (.cells m.row 61)).alloc (.cells (zeroM 0).row 61)) from ((Only.refl _ w).alloc _).alloc _)
  obtain ⟨Y, hY⟩ : ∃ Y, Y = (w.alloc (.cells m.row 61)).alloc (.cells (zeroM 0).row 61) := ⟨_, rfl⟩
  rw [← hY] at HA O HG
  obtain ⟨A, hA⟩ : ∃ A, A = w.heap.size := ⟨_, rfl⟩
  rw [← hA] at HA HG
  have HY := Lib.hid hY
  have HAE := Lib.hid hA
  simp only [Msg.row, zeroM] at HY
  clear hY hA
  have R := Lib.hid (Only.refl (fun _ => False) Y)
  unfold mval
  clear ha hp ht hz hs hr hb1 hd hy hm1 hb1z ht1 hs1 hr1 hR
  go_enter Try.func78, Try.ntmps78
  go_wp2_with fail
  rw [← HY.out, ← HAE.out]
  (with_reducible refine (CS.out _).mono ?_)
  rintro e w2 ⟨rfl, o⟩
  replace R := Lib.hid (R.out.trans o)
  clear o
  go_wp2_with fail
  (with_reducible refine (CP.out _).mono ?_)
  rintro e w2 ⟨rfl, o⟩
  replace R := Lib.hid (R.out.trans o)
  clear o
  go_wp2_with fail
  obtain ⟨V, hV⟩ : ∃ V, V = w2 := ⟨_, rfl⟩
  replace HA := Lib.hid (MsgAt.keep HA.out R.out id)
  replace HG := Lib.hid (MsgAt.keep HG.out R.out id)
  replace O := Lib.hid (O.out.trans R.out)
  clear R
  rw [← hV] at HA HG O ⊢
  clear hV
  have R := Lib.hid ((Only.refl (fun _ => False) V).drew)
  obtain ⟨d0, d1, d2, d3, d4, d5, d6, d7, d8, d9, d10, d11, d12⟩ := MsgAt.cells HA.out
  have f11 := MsgAt.free HA.out 11
  have f12 := MsgAt.free HA.out 12
  go_region_with (first
    | (go_at_call 145; (with_reducible refine Calls.mono (CD.out _) ?_); rintro e w7 ⟨rfl, o⟩; replace R := Lib.hid (R.out.trans o); clear o; obtain ⟨d0, d1, d2, d3, d4, d5, d6, d7, d8, d9, d10, d11, d12⟩ := MsgAt.cells (MsgAt.keep HA.out R.out id))
    | (go_at_call 58; (with_reducible refine Calls.mono (CB.out _) ?_); rintro e w7 ⟨rfl, o⟩; replace R := Lib.hid (R.out.trans o); clear o)
    | (go_at_call 144; (with_reducible refine Calls.mono (CM.out _) ?_); rintro e w7 ⟨rfl, o⟩; replace R := Lib.hid (R.out.trans o); clear o; have d11 := MsgAt.text (MsgAt.keep HA.out R.out id) (i := 11) (by decide) (by decide); have d12 := MsgAt.text (MsgAt.keep HA.out R.out id) (i := 12) (by decide) (by decide); have f11 := MsgAt.free (MsgAt.keep HA.out R.out id) 11; have f12 := MsgAt.free (MsgAt.keep HA.out R.out id) 12))
  all_goals
    have HAW := Lib.hid (MsgAt.keep HA.out R.out id)
    have HGW := Lib.hid (MsgAt.keep HG.out R.out id)
    have OW := Lib.hid (O.out.trans R.out)
    obtain ⟨Z, hZ⟩ : ∃ Z, Z = (w7.setCell ⟨A, 11, none⟩ (.string b1)).setCell ⟨A, 12, none⟩ (.string ⟨#[48]⟩) := ⟨_, rfl⟩
    rw [← hZ]
    have HAZ := Lib.hid (show MsgAt Z A m1 from by rw [hZ, HM1.out]; exact (HAW.out.put (i := 11) (by decide) (by decide) b1).put (i := 12) (by decide) (by decide) ⟨#[48]⟩)
    have HGZ := Lib.hid (show MsgAt Z (A + 1) (zeroM 0) from by rw [hZ]; exact (MsgAt.set (MsgAt.set HGW.out (by omega)) (by omega)))
    have OZ := Lib.hid (show Only (fun k => A ≤ k) w Z from by rw [hZ]; exact ((OW.out.mono fun _ h => h.elim).set (Nat.le_refl _)).set (Nat.le_refl _))
    clear hZ d0 d1 d2 d3 d4 d5 d6 d7 d8 d9 d10 d11 d12 f11 f12 HAW HGW OW R HA HG O
    have R := Lib.hid (Only.refl (fun _ => False) Z)
    have hi := info61 m1
    have h1 := one61 m1
    go_wp2_with (refine wpList_load_row rfl 61 (.tmp 3) rfl A rfl 61 m1.row (0, 0) _ HAZ.out Try.underlying61 rfl hi ?_)
    (with_reducible refine (CR.out _).mono ?_)
    rintro e w2 ⟨rfl, o⟩
    have HAF := Lib.hid (MsgAt.keep HAZ.out o id)
    have HGF := Lib.hid (MsgAt.keep HGZ.out o id)
    have OF := Lib.hid (OZ.out.trans (o.mono fun _ h => h.elim))
    clear o
    go_wp2_with (first | (refine wpList_load_row rfl 61 (.tmp 3) rfl A rfl 61 m1.row (0, 0) _ HAF.out Try.underlying61 rfl hi ?_) | (refine wpList_store_row rfl 61 (.tmp 6) (.tmp 44) rfl (A + 1) m1.row rfl rfl 61 _ HGF.out hi (size61 _ _) h1 ?_))
    exact bodyPost_ret (trB.res2 Try.results78 _ _ (A + 1) 61 m1.row (0, 0) _ rfl (MsgAt.row HGF.out m1) Try.underlying61 rfl hi) rfl ⟨by rw [← HM1.out]; rfl, Only.old (only_row (OF.out.mono fun k h => by rw [← HAE.out]; exact h) _ (by rw [← HAE.out]; omega))⟩

set_option maxRecDepth 100000 in
set_option maxHeartbeats 3200000 in
theorem sign_t (m : Msg) (p c b1 b2 : ByteArray) (w : World) (ha : asksM m = true) (hp : pubB p.data.toList = true) (hct : isT c.data.toList = true) (hcz : c.size ≤ 10000000) (hb1 : b1.data.toList = firstT m p.data.toList) (hb2 : b2.data.toList = macT c.data.toList (signedM (sumsM m b1 ⟨#[48]⟩))) (hR : rightM ((sumsM m b1 ⟨#[48]⟩).put 12 b2) = true) (ht : ∀ i, (m.t i).size ≤ 10000000) (hz : p.size ≤ 10000000) (hs : 0 ≤ m.s ∧ m.s ≤ 4294967295) (hr : 0 ≤ m.r ∧ m.r ≤ 4294967295) : Calls Try.prog 78 #[mval m, .string p, .string c] w (numA.Told w (.tuple #[.agg (sumsM m b1 b2).row, .int .i64 0])) := by
  have CS := Lib.hid (fun W => issig_any m true W ha (fun i => Nat.le_trans (ht i) (by decide)))
  simp only [mval] at CS
  have CP := Lib.hid (fun W => ispub_any p true W hp (Nat.le_trans hz (by decide)))
  obtain ⟨x1, x2, x3, x4⟩ := ne_facts (isT_ne hct)
  have CK := Lib.hid (fun W => prR.kind_any c W (Nat.le_trans hcz (by decide)))
  obtain ⟨k, hk⟩ : ∃ k, (trJ.ndOf c.data.toList).k = k := ⟨_, rfl⟩
  have k0 : ((k : Int) == 0) = false := by
    have := isT_k.2 hct
    rw [beq_eq_false_iff_ne]
    omega
  rw [hk] at CK
  obtain ⟨d, hd⟩ : ∃ d : ByteArray, d.data.toList = doorT p.data.toList := ⟨⟨(doorT p.data.toList).toArray⟩, rfl⟩
  obtain ⟨y, hy⟩ : ∃ y : ByteArray, y.data.toList = bodyM m := ⟨⟨(bodyM m).toArray⟩, rfl⟩
  have CD := Lib.hid (fun W => door_any p d W hd (Nat.le_trans hz (by decide)))
  have CB := Lib.hid (fun W => told_str hy (body_any m W (fun i => Nat.le_trans (ht i) (by decide)) hs hr))
  simp only [mval] at CB
  have CM := Lib.hid (fun W => mac_any d y b1 W (by rw [hb1, hd, hy]; rfl) (u_le hd (Nat.le_trans (mk_most (by decide)) (by decide))) (u_le hy (Nat.le_trans (bodyM_len m) (by decide))))
  have hb1z : b1.size ≤ 65536 := u_le hb1 (mac_most _ _)
  obtain ⟨m1, hm1⟩ : ∃ m1, m1 = sumsM m b1 ⟨#[48]⟩ := ⟨_, rfl⟩
  have ht1 : ∀ i, (m1.t i).size ≤ 10000000 := by rw [hm1]; exact sums_sz ht (Nat.le_trans hb1z (by decide)) (by decide)
  have hs1 : 0 ≤ m1.s ∧ m1.s ≤ 4294967295 := by rw [hm1]; exact hs
  have hr1 : 0 ≤ m1.r ∧ m1.r ≤ 4294967295 := by rw [hm1]; exact hr
  have HM1 := Lib.hid hm1
  rw [← hm1] at hR
  rw [← hm1] at hb2
  have hb2z : b2.size ≤ 65536 := u_le hb2 (mac_most _ _)
  obtain ⟨y2, hy2⟩ : ∃ y2 : ByteArray, y2.data.toList = signedM m1 := ⟨⟨(signedM m1).toArray⟩, rfl⟩
  have CB2 := Lib.hid (fun W => (show Calls Try.prog 59 #[.agg m1.row] W _ from told_str hy2 (wrF.signed_any m1 W (fun i => Nat.le_trans (ht1 i) (by decide)) hs1 hr1)))
  have CM2 := Lib.hid (fun W => mac_any c y2 b2 W (by rw [hb2, hy2]) (Nat.le_trans hcz (by decide)) (u_le hy2 (Nat.le_trans (signedM_len m1) (by decide))))
  have CR := Lib.hid (fun W => (show Calls Try.prog 146 #[.agg (m1.put 12 b2).row] W _ from ismsg_any (m1.put 12 b2) true W hR (fun i => by
    rw [hm1, sums_put]
    exact sums_sz (n := 100000000) (fun i => Nat.le_trans (ht i) (by decide)) (Nat.le_trans hb1z (by decide)) (Nat.le_trans hb2z (by decide)) i)))
  have HA := Lib.hid (show MsgAt ((w.alloc (.cells m.row 61)).alloc (.cells (zeroM 0).row 61)) w.heap.size m from MsgAt.keep (heap_alloc_new w _) ((Only.refl (fun _ => False) _).alloc _) id)
  have HG := Lib.hid (show MsgAt ((w.alloc (.cells m.row 61)).alloc (.cells (zeroM 0).row 61)) (w.heap.size + 1) (zeroM 0) from by have h := heap_alloc_new (w.alloc (.cells m.row 61)) (.cells (zeroM 0).row 61); rw [World.size_alloc] at h; exact h)
  have O := Lib.hid (show Only (fun _ => False) w ((w.alloc (.cells m.row 61)).alloc (.cells (zeroM 0).row 61)) from ((Only.refl _ w).alloc _).alloc _)
  obtain ⟨Y, hY⟩ : ∃ Y, Y = (w.alloc (.cells m.row 61)).alloc (.cells (zeroM 0).row 61) := ⟨_, rfl⟩
  rw [← hY] at HA O HG
  obtain ⟨A, hA⟩ : ∃ A, A = w.heap.size := ⟨_, rfl⟩
  rw [← hA] at HA HG
  have HY := Lib.hid hY
  have HAE := Lib.hid hA
  simp only [Msg.row, zeroM] at HY
  clear hY hA
  have R := Lib.hid (Only.refl (fun _ => False) Y)
  unfold mval
  clear ha hp ht hz hs hr hb1 hd hy hm1 hb1z ht1 hs1 hr1 hR hct hcz hk hb2 hb2z hy2
  go_enter Try.func78, Try.ntmps78
  go_wp2_with fail
  rw [← HY.out, ← HAE.out]
  (with_reducible refine (CS.out _).mono ?_)
  rintro e w2 ⟨rfl, o⟩
  replace R := Lib.hid (R.out.trans o)
  clear o
  go_wp2_with fail
  (with_reducible refine (CP.out _).mono ?_)
  rintro e w2 ⟨rfl, o⟩
  replace R := Lib.hid (R.out.trans o)
  clear o
  go_wp2_with fail
  (with_reducible refine (CK.out _).mono ?_)
  rintro e w2 ⟨rfl, o⟩
  replace R := Lib.hid (R.out.trans o)
  clear o
  go_wp2_with fail
  obtain ⟨V, hV⟩ : ∃ V, V = w2 := ⟨_, rfl⟩
  replace HA := Lib.hid (MsgAt.keep HA.out R.out id)
  replace HG := Lib.hid (MsgAt.keep HG.out R.out id)
  replace O := Lib.hid (O.out.trans R.out)
  clear R
  rw [← hV] at HA HG O ⊢
  clear hV
  have R := Lib.hid ((Only.refl (fun _ => False) V).drew)
  obtain ⟨d0, d1, d2, d3, d4, d5, d6, d7, d8, d9, d10, d11, d12⟩ := MsgAt.cells HA.out
  have f11 := MsgAt.free HA.out 11
  have f12 := MsgAt.free HA.out 12
  go_region_with (first
    | (go_at_call 145; (with_reducible refine Calls.mono (CD.out _) ?_); rintro e w7 ⟨rfl, o⟩; replace R := Lib.hid (R.out.trans o); clear o; obtain ⟨d0, d1, d2, d3, d4, d5, d6, d7, d8, d9, d10, d11, d12⟩ := MsgAt.cells (MsgAt.keep HA.out R.out id))
    | (go_at_call 58; (with_reducible refine Calls.mono (CB.out _) ?_); rintro e w7 ⟨rfl, o⟩; replace R := Lib.hid (R.out.trans o); clear o)
    | (go_at_call 144; (with_reducible refine Calls.mono (CM.out _) ?_); rintro e w7 ⟨rfl, o⟩; replace R := Lib.hid (R.out.trans o); clear o; have d11 := MsgAt.text (MsgAt.keep HA.out R.out id) (i := 11) (by decide) (by decide); have d12 := MsgAt.text (MsgAt.keep HA.out R.out id) (i := 12) (by decide) (by decide); have f11 := MsgAt.free (MsgAt.keep HA.out R.out id) 11; have f12 := MsgAt.free (MsgAt.keep HA.out R.out id) 12))
  all_goals
    have HAW := Lib.hid (MsgAt.keep HA.out R.out id)
    have HGW := Lib.hid (MsgAt.keep HG.out R.out id)
    have OW := Lib.hid (O.out.trans R.out)
    obtain ⟨Z, hZ⟩ : ∃ Z, Z = (w7.setCell ⟨A, 11, none⟩ (.string b1)).setCell ⟨A, 12, none⟩ (.string ⟨#[48]⟩) := ⟨_, rfl⟩
    rw [← hZ]
    have HAZ := Lib.hid (show MsgAt Z A m1 from by rw [hZ, HM1.out]; exact (HAW.out.put (i := 11) (by decide) (by decide) b1).put (i := 12) (by decide) (by decide) ⟨#[48]⟩)
    have HGZ := Lib.hid (show MsgAt Z (A + 1) (zeroM 0) from by rw [hZ]; exact (MsgAt.set (MsgAt.set HGW.out (by omega)) (by omega)))
    have OZ := Lib.hid (show Only (fun k => A ≤ k) w Z from by rw [hZ]; exact ((OW.out.mono fun _ h => h.elim).set (Nat.le_refl _)).set (Nat.le_refl _))
    clear hZ d0 d1 d2 d3 d4 d5 d6 d7 d8 d9 d10 d11 d12 f11 f12 HAW HGW OW R HA HG O
    have R := Lib.hid (Only.refl (fun _ => False) Z)
    have hi := info61 m1
    go_wp2_with (refine wpList_load_row rfl 61 (.tmp 3) rfl A rfl 61 m1.row (0, 0) _ HAZ.out Try.underlying61 rfl hi ?_)
    (with_reducible refine (CB2.out _).mono ?_)
    rintro e w2 ⟨rfl, o⟩
    replace R := Lib.hid (R.out.trans o)
    clear o
    go_wp2_with fail
    (with_reducible refine (CM2.out _).mono ?_)
    rintro e w3 ⟨rfl, o⟩
    replace R := Lib.hid (R.out.trans o)
    clear o
    have d12 := MsgAt.text (MsgAt.keep HAZ.out R.out id) (i := 12) (by decide) (by decide)
    have f12 := MsgAt.free (MsgAt.keep HAZ.out R.out id) 12
    obtain ⟨Z2, hZ2⟩ : ∃ Z, Z = w3.setCell ⟨A, 12, none⟩ (.string b2) := ⟨_, rfl⟩
    have HAE2 := Lib.hid (show MsgAt Z2 A (m1.put 12 b2) from by rw [hZ2]; exact (MsgAt.keep HAZ.out R.out id).put (i := 12) (by decide) (by decide) b2)
    have HGE2 := Lib.hid (show MsgAt Z2 (A + 1) (zeroM 0) from by rw [hZ2]; exact MsgAt.set (MsgAt.keep HGZ.out R.out id) (by omega))
    have OE2 := Lib.hid (show Only (fun k => A ≤ k) w Z2 from by rw [hZ2]; exact (OZ.out.trans (R.out.mono fun _ h => h.elim)).set (Nat.le_refl _))
    have HZ2 := Lib.hid hZ2
    clear hZ2
    obtain ⟨c2, hc2⟩ : ∃ c2, c2 = (m1.put 12 b2).row := ⟨_, rfl⟩
    have HCE := Lib.hid hc2
    have hi2 := info61 (m1.put 12 b2)
    have h12 := one61 (m1.put 12 b2)
    have hsz : (zeroM 0).row.size = c2.size := by rw [hc2]; rfl
    have HAE3 := Lib.hid (show Z2.heap[A]? = some (.cells c2 61 (0, 0)) from by rw [hc2]; exact HAE2.out)
    rw [← hc2] at hi2 h12 CR
    clear hc2
    go_upto_region 6 with fail
    rw [← HZ2.out]
    go_wp2_with (refine wpList_load_row rfl 61 (.tmp 3) rfl A rfl 61 c2 (0, 0) _ HAE3.out Try.underlying61 rfl hi2 ?_)
    (with_reducible refine (CR.out _).mono ?_)
    rintro e w4 ⟨rfl, o⟩
    have HAF := Lib.hid (o.keep HAE3.out id)
    have HGF := Lib.hid (MsgAt.keep HGE2.out o id)
    have OF := Lib.hid (OE2.out.trans (o.mono fun _ h => h.elim))
    clear o
    go_wp2_with (first | (refine wpList_load_row rfl 61 (.tmp 3) rfl A rfl 61 c2 (0, 0) _ HAF.out Try.underlying61 rfl hi2 ?_) | (refine wpList_store_row rfl 61 (.tmp 6) (.tmp 44) rfl (A + 1) c2 rfl rfl 61 _ HGF.out hi2 hsz h12 ?_))
    exact bodyPost_ret (trB.res2 Try.results78 _ _ (A + 1) 61 c2 (0, 0) _ rfl (setRow_heap _ _ _ _ _ _ HGF.out) Try.underlying61 rfl hi2) rfl ⟨by rw [HCE.out, HM1.out, sums_put]; rfl, Only.old (only_row (OF.out.mono fun k h => by rw [← HAE.out]; exact h) _ (by rw [← HAE.out]; omega))⟩


end Go.Proofs.Ytbjnejnjlidiaaa.maE
