/- Noise: Finish. -/
import Derived.Test.YtbjnejnjlidiaaaNoJ
namespace Go.Proofs.Ytbjnejnjlidiaaa.noK
open Go.RowKit kit numA numB numC numD numE tmA tmB tmC tmD tmE trA trB prR prS prW prX tsA tsB tsF tsI wrA wrB wrC wrD wrE wrF wrG wrH wrI wrJ mkA maA maB maC noA noB noC noD noE tsG noF noG noH noJ
set_option linter.unusedVariables false
set_option linter.unusedSimpArgs false

/-- Finish: the chain, what Empty is sealed by and with, and what is opened. -/
def finC (e c s q t : Txt) : Txt := ltC c t (agr e t) (agr s t) q
def finK (e c s q t : Txt) : Txt := ltK c t (agr e t) (agr s t) q
def finW (e c h s q t : Txt) : Txt := ltW c h t (agr e t) (agr s t) q
def finO (e c h s q t o : Txt) : Txt × Nat := opn o (finK e c s q t) 0 (finW e c h s q t)
def finR (x : Int) (e c h s q : Txt) (m : Msg) : Nat :=
  if [s, q, e, c, h].all isT = true ∧ (m.k == 2 && rightM m) = true ∧ pubB (m.t 4).data.toList = true then
    if m.r = x then
      if (finO e c h s q (m.t 4).data.toList (m.t 7).data.toList).2 = 0 ∧ (finO e c h s q (m.t 4).data.toList (m.t 7).data.toList).1 = [48] then 0 else 8
    else 6
  else 3
def finVal (x : Int) (e c h s q : Txt) (m : Msg) : Value :=
  if finR x e c h s q m = 0 then .tuple #[.agg (keysV ⟨(kdfT 1 (finC e c s q (m.t 4).data.toList) zeroT).toArray⟩ ⟨(kdfT 2 (finC e c s q (m.t 4).data.toList) zeroT).toArray⟩), .int .i64 0]
  else .tuple #[.agg (keysV ⟨#[]⟩ ⟨#[]⟩), .int .i64 (finR x e c h s q m : Nat)]
theorem fv_no {x : Int} {e c h s q : Txt} {m : Msg} {k : Nat} (hh : finR x e c h s q m = k) (hk : k ≠ 0) : finVal x e c h s q m = .tuple #[.agg (keysV ⟨#[]⟩ ⟨#[]⟩), .int .i64 (k : Nat)] := by
  unfold finVal
  rw [hh, if_neg hk]

set_option maxRecDepth 100000 in
set_option maxHeartbeats 8000000 in
theorem finish_any (x : Int) (e c h s q : ByteArray) (m : Msg) (w : World) (ht : ∀ i, (m.t i).size ≤ 10000000) (ez : e.size ≤ 10000000) (cz : c.size ≤ 10000000) (hz : h.size ≤ 10000000) (sz : s.size ≤ 10000000) (qz : q.size ≤ 10000000) : Calls Try.prog 75 #[.agg (startV x e c h), .string s, .string q, mval m] w (numA.Told w (finVal x e.data.toList c.data.toList h.data.toList s.data.toList q.data.toList m)) := by
  obtain ⟨b1, hb1⟩ : ∃ b, b = [s, q, e, c, h].all (fun x => isT x.data.toList) := ⟨_, rfl⟩
  obtain ⟨b2, hb2⟩ : ∃ b, b = (m.k == 2 && rightM m) := ⟨_, rfl⟩
  obtain ⟨b3, hb3⟩ : ∃ b, b = pubB (m.t 4).data.toList := ⟨_, rfl⟩
  obtain ⟨u, hu⟩ : ∃ u : ByteArray, u.data.toList = agr e.data.toList (m.t 4).data.toList := ⟨⟨(agr e.data.toList (m.t 4).data.toList).toArray⟩, rfl⟩
  obtain ⟨v, hv⟩ : ∃ v : ByteArray, v.data.toList = agr s.data.toList (m.t 4).data.toList := ⟨⟨(agr s.data.toList (m.t 4).data.toList).toArray⟩, rfl⟩
  obtain ⟨X, hX⟩ : ∃ X : ByteArray, X.data.toList = finC e.data.toList c.data.toList s.data.toList q.data.toList (m.t 4).data.toList := ⟨⟨(finC e.data.toList c.data.toList s.data.toList q.data.toList (m.t 4).data.toList).toArray⟩, rfl⟩
  obtain ⟨K, hK⟩ : ∃ K : ByteArray, K.data.toList = finK e.data.toList c.data.toList s.data.toList q.data.toList (m.t 4).data.toList := ⟨⟨(finK e.data.toList c.data.toList s.data.toList q.data.toList (m.t 4).data.toList).toArray⟩, rfl⟩
  obtain ⟨Z, hZ⟩ : ∃ Z : ByteArray, Z.data.toList = finW e.data.toList c.data.toList h.data.toList s.data.toList q.data.toList (m.t 4).data.toList := ⟨⟨(finW e.data.toList c.data.toList h.data.toList s.data.toList q.data.toList (m.t 4).data.toList).toArray⟩, rfl⟩
  obtain ⟨o, ho⟩ : ∃ o : ByteArray, o.data.toList = (finO e.data.toList c.data.toList h.data.toList s.data.toList q.data.toList (m.t 4).data.toList (m.t 7).data.toList).1 := ⟨⟨((finO e.data.toList c.data.toList h.data.toList s.data.toList q.data.toList (m.t 4).data.toList (m.t 7).data.toList).1).toArray⟩, rfl⟩
  obtain ⟨x1, hx1⟩ : ∃ x, x = (finO e.data.toList c.data.toList h.data.toList s.data.toList q.data.toList (m.t 4).data.toList (m.t 7).data.toList).2 := ⟨_, rfl⟩
  obtain ⟨k1, hk1⟩ : ∃ k1 : ByteArray, k1.data.toList = kdfT 1 (finC e.data.toList c.data.toList s.data.toList q.data.toList (m.t 4).data.toList) zeroT := ⟨⟨(kdfT 1 (finC e.data.toList c.data.toList s.data.toList q.data.toList (m.t 4).data.toList) zeroT).toArray⟩, rfl⟩
  obtain ⟨k2, hk2⟩ : ∃ k2 : ByteArray, k2.data.toList = kdfT 2 (finC e.data.toList c.data.toList s.data.toList q.data.toList (m.t 4).data.toList) zeroT := ⟨⟨(kdfT 2 (finC e.data.toList c.data.toList s.data.toList q.data.toList (m.t 4).data.toList) zeroT).toArray⟩, rfl⟩
  have uz : u.size ≤ 100000000 := u_le hu (Nat.le_trans (agr_most _ _) (by decide))
  have vz : v.size ≤ 100000000 := u_le hv (Nat.le_trans (agr_most _ _) (by decide))
  have Xz : X.size ≤ 100000000 := u_le hX (Nat.le_trans (kdf_most _ (by decide) _ _) (by decide))
  have C1 := Lib.hid (fun W => (show Calls Try.prog 128 #[.slice (some ⟨W.heap.size, 0, none⟩) 5 5] (W.alloc (.cells #[.string s, .string q, .string e, .string c, .string h] 9)) (numA.Told W (.bool b1)) from lst_of (terms_blk [s, q, e, c, h] b1 (hb1.symm) (by simp) (by
    intro x hx
    simp at hx
    rcases hx with rfl | rfl | rfl | rfl | rfl
    · exact Nat.le_trans sz (by decide)
    · exact Nat.le_trans qz (by decide)
    · exact Nat.le_trans ez (by decide)
    · exact Nat.le_trans cz (by decide)
    · exact Nat.le_trans hz (by decide)) (W.alloc (.cells #[.string s, .string q, .string e, .string c, .string h] 9)) W.heap.size (blk_new W _))))
  have C2 := Lib.hid (fun W => (show Calls Try.prog 138 #[.agg #[.int .i64 m.k, .int .u32 m.s, .int .u32 m.r, .int .u64 m.c, .string (m.t 4), .string (m.t 5), .string (m.t 6), .string (m.t 7), .string (m.t 8), .string (m.t 9), .string (m.t 10), .string (m.t 11), .string (m.t 12)], .int .i64 2] W (numA.Told W (.bool b2)) from is_any m 2 b2 W hb2.symm (fun i => Nat.le_trans (ht i) (by decide))))
  have C3 := Lib.hid (fun W => (show Calls Try.prog 129 #[.slice (some ⟨W.heap.size, 0, none⟩) 1 1] (W.alloc (.cells #[.string (m.t 4)] 9)) (numA.Told W (.bool b3)) from lst_of (publics_blk [(m.t 4)] b3 (by rw [hb3]; simp) (by simp) (by
    intro x hx
    simp at hx
    subst hx; exact Nat.le_trans (ht 4) (by decide)) (W.alloc (.cells #[.string (m.t 4)] 9)) W.heap.size (blk_new W _))))
  have C5 := Lib.hid (fun W => told_str (b := u) hu (prX.agree_any e (m.t 4) W (Nat.le_trans ez (by decide)) (Nat.le_trans (ht 4) (by decide))))
  have C6 := Lib.hid (fun W => told_str (b := v) hv (prX.agree_any s (m.t 4) W (Nat.le_trans sz (by decide)) (Nat.le_trans (ht 4) (by decide))))
  have C7 := Lib.hid (fun W => last_any c h (m.t 4) u v q X K Z W (by rw [hX, hu, hv]; rfl) (by rw [hK, hu, hv]; rfl) (by rw [hZ, hu, hv]; rfl) (Nat.le_trans cz (by decide)) (Nat.le_trans hz (by decide)) (Nat.le_trans (ht 4) (by decide)) uz vz (Nat.le_trans qz (by decide)))
  have C8 := Lib.hid (fun W => (show Calls Try.prog 33 #[.string (m.t 7), .string K, .int .u64 0, .string Z] W (numA.Told W (.tuple #[.string o, .int .i64 (x1 : Nat)])) from open_let (m.t 7) K 0 Z o x1 W (Nat.le_trans (ht 7) (by decide)) (by rw [ho, hK, hZ]; rfl) (by rw [hx1, hK, hZ]; rfl)))
  have C9 := Lib.hid (fun W => (show Calls Try.prog 135 #[.int .u64 1, .string X, .string ⟨#[48]⟩] W (numA.Told W (.string k1)) from derive_any 1 X ⟨#[48]⟩ k1 W (by rw [hk1, hX]; rfl) (by decide) (Xz) (by decide)))
  have C10 := Lib.hid (fun W => (show Calls Try.prog 135 #[.int .u64 2, .string X, .string ⟨#[48]⟩] W (numA.Told W (.string k2)) from derive_any 2 X ⟨#[48]⟩ k2 W (by rw [hk2, hX]; rfl) (by decide) (Xz) (by decide)))
  have HB1 := Lib.hid (show b1 = [s.data.toList, q.data.toList, e.data.toList, c.data.toList, h.data.toList].all isT from hb1)
  have HB2 := Lib.hid hb2
  have HB3 := Lib.hid hb3
  have HX1 := Lib.hid hx1
  have HO := Lib.hid ho
  have HK1 := Lib.hid hk1
  have HK2 := Lib.hid hk2
  clear hb1 hb2 hb3 hx1 ho hk1 hk2 ht ez cz hz sz qz uz vz Xz hu hv hX hK hZ
  unfold mval
  obtain ⟨Y, hY⟩ : ∃ Y, Y = (((w.alloc (.cells (startV x e c h) 74)).alloc (.cells #[.int .i64 m.k, .int .u32 m.s, .int .u32 m.r, .int .u64 m.c, .string (m.t 4), .string (m.t 5), .string (m.t 6), .string (m.t 7), .string (m.t 8), .string (m.t 9), .string (m.t 10), .string (m.t 11), .string (m.t 12)] 61)).alloc (.cells #[.string ⟨#[]⟩, .string ⟨#[]⟩] 92)) := ⟨_, rfl⟩
  obtain ⟨A, hA⟩ : ∃ A, A = w.heap.size := ⟨_, rfl⟩
  have O := Lib.hid (show Only (fun _ => False) w Y from by rw [hY]; exact (((Only.refl _ w).alloc _).alloc _).alloc _)
  have HR0 := Lib.hid (show Blk Y (A) 74 (startV x e c h) from by have h := (Blk.keep (Blk.keep (Blk.new w 74 (startV x e c h)) ((Only.refl (fun _ => False) _).alloc (.cells #[.int .i64 m.k, .int .u32 m.s, .int .u32 m.r, .int .u64 m.c, .string (m.t 4), .string (m.t 5), .string (m.t 6), .string (m.t 7), .string (m.t 8), .string (m.t 9), .string (m.t 10), .string (m.t 11), .string (m.t 12)] 61)) id) ((Only.refl (fun _ => False) _).alloc (.cells #[.string ⟨#[]⟩, .string ⟨#[]⟩] 92)) id); rw [hY, hA]; exact h)
  have HR1 := Lib.hid (show Blk Y (A + 1) 61 #[.int .i64 m.k, .int .u32 m.s, .int .u32 m.r, .int .u64 m.c, .string (m.t 4), .string (m.t 5), .string (m.t 6), .string (m.t 7), .string (m.t 8), .string (m.t 9), .string (m.t 10), .string (m.t 11), .string (m.t 12)] from by have h := (Blk.keep (Blk.new (w.alloc (.cells (startV x e c h) 74)) 61 #[.int .i64 m.k, .int .u32 m.s, .int .u32 m.r, .int .u64 m.c, .string (m.t 4), .string (m.t 5), .string (m.t 6), .string (m.t 7), .string (m.t 8), .string (m.t 9), .string (m.t 10), .string (m.t 11), .string (m.t 12)]) ((Only.refl (fun _ => False) _).alloc (.cells #[.string ⟨#[]⟩, .string ⟨#[]⟩] 92)) id); simp only [World.size_alloc] at h; rw [hY, hA]; exact h)
  have HR2 := Lib.hid (show Blk Y (A + 2) 92 #[.string ⟨#[]⟩, .string ⟨#[]⟩] from by have h := (Blk.new ((w.alloc (.cells (startV x e c h) 74)).alloc (.cells #[.int .i64 m.k, .int .u32 m.s, .int .u32 m.r, .int .u64 m.c, .string (m.t 4), .string (m.t 5), .string (m.t 6), .string (m.t 7), .string (m.t 8), .string (m.t 9), .string (m.t 10), .string (m.t 11), .string (m.t 12)] 61)) 92 #[.string ⟨#[]⟩, .string ⟨#[]⟩]); simp only [World.size_alloc] at h; rw [hY, hA]; exact h)
  have HY := Lib.hid hY
  have HAE := Lib.hid hA
  have HYS := Lib.hid (show Y.heap.size = A + 3 from by rw [hY, hA]; simp only [World.size_alloc])
  have HYW := Lib.hid (show Y.heap.size = w.heap.size + 1 + 1 + 1 from by rw [hY]; simp only [World.size_alloc])
  clear hY hA
  have HA := Lib.hid (show MsgAt Y (A + 1) m from HR1.out)
  clear HR1
  go_enter Try.func75, Try.ntmps75
  go_upto_region 1 with fail
  rw [← HY.out, ← HAE.out]
  have e1 : Y.cell? ⟨A, 1, none⟩ = some (.string e) := Blk.cell HR0.out 1
  have e2 : Y.cell? ⟨A, 2, none⟩ = some (.string c) := Blk.cell HR0.out 2
  have e3 : Y.cell? ⟨A, 3, none⟩ = some (.string h) := Blk.cell HR0.out 3
  go_wp2_with fail
  (with_reducible refine (C1.out _).mono ?_)
  rintro e w2 ⟨rfl, o⟩
  replace O := Lib.hid (O.out.trans o)
  replace HR0 := Lib.hid (Blk.keep HR0.out o id)
  replace HR2 := Lib.hid (Blk.keep HR2.out o id)
  replace HA := Lib.hid (MsgAt.keep HA.out o id)
  clear o
  clear e1 e2 e3
  cases b1
  case false =>
    have HV := fv_no (show finR x e.data.toList c.data.toList h.data.toList s.data.toList q.data.toList m = 3 from by rw [finR, if_neg (fun z => by have := z.1; rw [← HB1.out] at this; cases this)]) (by decide)
    go_wp2_with (refine wpList_store_row rfl 92 (.tmp 8) (.tmp 38) rfl (A + 2) (keysV ⟨#[]⟩ ⟨#[]⟩) rfl rfl 92 _ HR2.out (info92 ⟨#[]⟩ ⟨#[]⟩) rfl (one92 ⟨#[]⟩ ⟨#[]⟩) ?_)
    exact bodyPost_ret (trB.res2 Try.results75 _ _ (A + 2) 92 (keysV ⟨#[]⟩ ⟨#[]⟩) (0, 0) _ rfl (Blk.row HR2.out _) Try.underlying92 rfl (info92 _ _)) rfl ⟨by rw [HV]; rfl, Only.old (only_row (O.out.mono fun _ h => h.elim) _ (by rw [HAE.out]; omega))⟩
  obtain ⟨d0, d1, d2, d3, d4, d5, d6, d7, d8, d9, d10, d11, d12⟩ := MsgAt.cells HA.out
  go_wp2_with fail
  (with_reducible refine (C2.out _).mono ?_)
  rintro e w2 ⟨rfl, o⟩
  replace O := Lib.hid (O.out.trans o)
  replace HR0 := Lib.hid (Blk.keep HR0.out o id)
  replace HR2 := Lib.hid (Blk.keep HR2.out o id)
  replace HA := Lib.hid (MsgAt.keep HA.out o id)
  clear o
  clear d0 d1 d2 d3 d4 d5 d6 d7 d8 d9 d10 d11 d12
  cases b2
  case false =>
    have HV := fv_no (show finR x e.data.toList c.data.toList h.data.toList s.data.toList q.data.toList m = 3 from by rw [finR, if_neg (fun z => by have := z.2.1; rw [← HB2.out] at this; cases this)]) (by decide)
    go_wp2_with (refine wpList_store_row rfl 92 (.tmp 8) (.tmp 38) rfl (A + 2) (keysV ⟨#[]⟩ ⟨#[]⟩) rfl rfl 92 _ HR2.out (info92 ⟨#[]⟩ ⟨#[]⟩) rfl (one92 ⟨#[]⟩ ⟨#[]⟩) ?_)
    exact bodyPost_ret (trB.res2 Try.results75 _ _ (A + 2) 92 (keysV ⟨#[]⟩ ⟨#[]⟩) (0, 0) _ rfl (Blk.row HR2.out _) Try.underlying92 rfl (info92 _ _)) rfl ⟨by rw [HV]; rfl, Only.old (only_row (O.out.mono fun _ h => h.elim) _ (by rw [HAE.out]; omega))⟩
  have d4 := MsgAt.text HA.out (i := 4) (by decide) (by decide)
  go_wp2_with fail
  (with_reducible refine (C3.out _).mono ?_)
  rintro e w2 ⟨rfl, o⟩
  replace O := Lib.hid (O.out.trans o)
  replace HR0 := Lib.hid (Blk.keep HR0.out o id)
  replace HR2 := Lib.hid (Blk.keep HR2.out o id)
  replace HA := Lib.hid (MsgAt.keep HA.out o id)
  clear o
  clear d4
  cases b3
  case false =>
    have HV := fv_no (show finR x e.data.toList c.data.toList h.data.toList s.data.toList q.data.toList m = 3 from by rw [finR, if_neg (fun z => by have := z.2.2; rw [← HB3.out] at this; cases this)]) (by decide)
    go_wp2_with (refine wpList_store_row rfl 92 (.tmp 8) (.tmp 38) rfl (A + 2) (keysV ⟨#[]⟩ ⟨#[]⟩) rfl rfl 92 _ HR2.out (info92 ⟨#[]⟩ ⟨#[]⟩) rfl (one92 ⟨#[]⟩ ⟨#[]⟩) ?_)
    exact bodyPost_ret (trB.res2 Try.results75 _ _ (A + 2) 92 (keysV ⟨#[]⟩ ⟨#[]⟩) (0, 0) _ rfl (Blk.row HR2.out _) Try.underlying92 rfl (info92 _ _)) rfl ⟨by rw [HV]; rfl, Only.old (only_row (O.out.mono fun _ h => h.elim) _ (by rw [HAE.out]; omega))⟩
  have d2 : w2.cell? ⟨A + 1, 2, none⟩ = some (.int .u32 m.r) := (MsgAt.cells HA.out).2.2.1
  have e0 : w2.cell? ⟨A, 0, none⟩ = some (.int .u32 x) := Blk.cell HR0.out 0
  by_cases hr : m.r = x
  case neg =>
    have z1 : (m.r != x) = true := by rw [bne_iff_ne]; exact hr
    have HV := fv_no (show finR x e.data.toList c.data.toList h.data.toList s.data.toList q.data.toList m = 6 from by rw [finR, if_pos ⟨HB1.out.symm, HB2.out.symm, HB3.out.symm⟩, if_neg hr]) (by decide)
    go_wp2_with (refine wpList_store_row rfl 92 (.tmp 8) (.tmp 44) rfl (A + 2) (keysV ⟨#[]⟩ ⟨#[]⟩) rfl rfl 92 _ HR2.out (info92 ⟨#[]⟩ ⟨#[]⟩) rfl (one92 ⟨#[]⟩ ⟨#[]⟩) ?_)
    exact bodyPost_ret (trB.res2 Try.results75 _ _ (A + 2) 92 (keysV ⟨#[]⟩ ⟨#[]⟩) (0, 0) _ rfl (Blk.row HR2.out _) Try.underlying92 rfl (info92 _ _)) rfl ⟨by rw [HV]; rfl, Only.old (only_row (O.out.mono fun _ h => h.elim) _ (by rw [HAE.out]; omega))⟩
  have z1 : (m.r != x) = false := by rw [bne_eq_false_iff_eq]; exact hr
  have HRX := Lib.hid hr
  clear hr
  go_upto_region 5 with fail
  clear d2 e0
  have R := Lib.hid ((Only.refl (fun _ => False) w2).drew)
  obtain ⟨V, hV⟩ : ∃ V, V = w2 := ⟨_, rfl⟩
  rw [← hV] at HR0 HR2 HA O R ⊢
  clear hV
  refine wp_region_held_drew (S := (fun w' => w'.cell? ⟨A, 1, none⟩ = some (.string e) ∧ w'.cell? ⟨A, 2, none⟩ = some (.string c) ∧ w'.cell? ⟨A, 3, none⟩ = some (.string h) ∧ w'.cell? ⟨A + 1, 4, none⟩ = some (.string (m.t 4)))) (by kernel_rfl) ?_ (fun hHeld => ?_)
  · exact ⟨Blk.cell (Blk.keep HR0.out R.out id) 1, Blk.cell (Blk.keep HR0.out R.out id) 2, Blk.cell (Blk.keep HR0.out R.out id) 3, MsgAt.text (MsgAt.keep HA.out R.out id) (i := 4) (by decide) (by decide)⟩
  refine rgA.tk 0 hHeld ?_
  refine rgA.tk 1 hHeld ?_
  refine rgA.tk 2 hHeld ?_
  refine rgA.tk 3 hHeld ?_
  refine rgA.tk 4 hHeld ?_
  refine rgA.tk 5 hHeld ?_
  refine rgA.tk 6 hHeld ?_
  refine rgA.tk 7 hHeld ?_
  refine rgA.tk 8 hHeld ?_
  refine rgA.tk 9 hHeld ?_
  refine rgA.tk 11 hHeld ?_
  refine rgA.tk 12 hHeld ?_
  refine rgA.tk 13 hHeld ?_
  refine rgA.tk 15 hHeld ?_
  refine rgA.rd 10 (fun K hK => ?_)
  go_simp
  (with_reducible refine (C5.out _).mono ?_)
  rintro e w2 ⟨rfl, o⟩
  replace R := Lib.hid (R.out.trans o)
  clear o
  go_wp2_with fail
  refine hK.out _ _ ?_ (fun hHeld => ?_)
  · exact ⟨Blk.cell (Blk.keep HR0.out R.out id) 1, Blk.cell (Blk.keep HR0.out R.out id) 2, Blk.cell (Blk.keep HR0.out R.out id) 3, MsgAt.text (MsgAt.keep HA.out R.out id) (i := 4) (by decide) (by decide)⟩
  clear hK K
  try simp only [List.getElem_toArray, List.getElem_cons_succ, List.getElem_cons_zero, Act.put, List.setIfInBounds_toArray, List.set_cons_zero, List.set_cons_succ]
  refine rgA.rd 14 (fun K hK => ?_)
  go_simp
  (with_reducible refine (C6.out _).mono ?_)
  rintro e w2 ⟨rfl, o⟩
  replace R := Lib.hid (R.out.trans o)
  clear o
  go_wp2_with fail
  refine hK.out _ _ ?_ (fun hHeld => ?_)
  · exact ⟨Blk.cell (Blk.keep HR0.out R.out id) 1, Blk.cell (Blk.keep HR0.out R.out id) 2, Blk.cell (Blk.keep HR0.out R.out id) 3, MsgAt.text (MsgAt.keep HA.out R.out id) (i := 4) (by decide) (by decide)⟩
  clear hK K
  try simp only [List.getElem_toArray, List.getElem_cons_succ, List.getElem_cons_zero, Act.put, List.setIfInBounds_toArray, List.set_cons_zero, List.set_cons_succ]
  refine rgA.rd 16 (fun K hK => ?_)
  go_simp
  (with_reducible refine (C7.out _).mono ?_)
  rintro e w2 ⟨rfl, o⟩
  replace R := Lib.hid (R.out.trans o)
  clear o
  go_wp2_with fail
  refine hK.out _ _ ?_ (fun hHeld => ?_)
  · exact ⟨Blk.cell (Blk.keep HR0.out R.out id) 1, Blk.cell (Blk.keep HR0.out R.out id) 2, Blk.cell (Blk.keep HR0.out R.out id) 3, MsgAt.text (MsgAt.keep HA.out R.out id) (i := 4) (by decide) (by decide)⟩
  clear hK K
  try simp only [List.getElem_toArray, List.getElem_cons_succ, List.getElem_cons_zero, Act.put, List.setIfInBounds_toArray, List.set_cons_zero, List.set_cons_succ]
  refine rgA.tk 17 hHeld ?_
  refine rgA.tk 18 hHeld ?_
  refine rgA.tk 19 hHeld ?_
  refine rgA.tk 20 hHeld ?_
  refine rgA.tk 21 hHeld ?_
  refine rgA.tk 22 hHeld ?_
  refine rgA.tk 23 hHeld ?_
  refine wpAnyH_done (by kernel_rfl) ?_ _
  replace O := Lib.hid (O.out.trans R.out)
  replace HA := Lib.hid (MsgAt.keep HA.out R.out id)
  replace HR0 := Lib.hid (Blk.keep HR0.out R.out id)
  replace HR2 := Lib.hid (Blk.keep HR2.out R.out id)
  clear R
  have d7 := MsgAt.text HA.out (i := 7) (by decide) (by decide)
  go_wp2_with fail
  (with_reducible refine (C8.out _).mono ?_)
  rintro e w2 ⟨rfl, o⟩
  replace O := Lib.hid (O.out.trans o)
  replace HR0 := Lib.hid (Blk.keep HR0.out o id)
  replace HR2 := Lib.hid (Blk.keep HR2.out o id)
  replace HA := Lib.hid (MsgAt.keep HA.out o id)
  clear o
  clear d7
  by_cases hz1 : x1 = 0
  case neg =>
    have z2 : ((x1 : Int) != 0) = true := by rw [bne_iff_ne]; omega
    have HV := fv_no (show finR x e.data.toList c.data.toList h.data.toList s.data.toList q.data.toList m = 8 from by rw [finR, if_pos ⟨HB1.out.symm, HB2.out.symm, HB3.out.symm⟩, if_pos HRX.out, if_neg (fun z => hz1 (by rw [HX1.out]; exact z.1))]) (by decide)
    go_wp2_with (refine wpList_store_row rfl 92 (.tmp 8) (.tmp 80) rfl (A + 2) (keysV ⟨#[]⟩ ⟨#[]⟩) rfl rfl 92 _ HR2.out (info92 ⟨#[]⟩ ⟨#[]⟩) rfl (one92 ⟨#[]⟩ ⟨#[]⟩) ?_)
    exact bodyPost_ret (trB.res2 Try.results75 _ _ (A + 2) 92 (keysV ⟨#[]⟩ ⟨#[]⟩) (0, 0) _ rfl (Blk.row HR2.out _) Try.underlying92 rfl (info92 _ _)) rfl ⟨by rw [HV]; rfl, Only.old (only_row (O.out.mono fun _ h => h.elim) _ (by rw [HAE.out]; omega))⟩
  have z2 : ((x1 : Int) != 0) = false := by rw [bne_eq_false_iff_eq]; omega
  have HZ1 := Lib.hid hz1
  clear hz1
  by_cases hs : o.data.toList = [48]
  case neg =>
    have z3 : (o.data.toList == [48]) = false := by simpa using hs
    have z4 : (o.data.toList = [48]) = False := eq_false hs
    have z5 : (o.data.toList != [48]) = true := by simpa using hs
    have z6 : (o.toList == [48]) = false := by rw [byteArray_toList]; exact z3
    have z7 : (o.toList = [48]) = False := by rw [byteArray_toList]; exact z4
    have HV := fv_no (show finR x e.data.toList c.data.toList h.data.toList s.data.toList q.data.toList m = 8 from by rw [finR, if_pos ⟨HB1.out.symm, HB2.out.symm, HB3.out.symm⟩, if_pos HRX.out, if_neg (fun z => hs (by rw [HO.out]; exact z.2))]) (by decide)
    go_wp2_with (refine wpList_store_row rfl 92 (.tmp 8) (.tmp 80) rfl (A + 2) (keysV ⟨#[]⟩ ⟨#[]⟩) rfl rfl 92 _ HR2.out (info92 ⟨#[]⟩ ⟨#[]⟩) rfl (one92 ⟨#[]⟩ ⟨#[]⟩) ?_)
    exact bodyPost_ret (trB.res2 Try.results75 _ _ (A + 2) 92 (keysV ⟨#[]⟩ ⟨#[]⟩) (0, 0) _ rfl (Blk.row HR2.out _) Try.underlying92 rfl (info92 _ _)) rfl ⟨by rw [HV]; rfl, Only.old (only_row (O.out.mono fun _ h => h.elim) _ (by rw [HAE.out]; omega))⟩
  have z3 : (o.data.toList == [48]) = true := by simpa using hs
  have z4 : (o.data.toList = [48]) = True := eq_true hs
  have z5 : (o.data.toList != [48]) = false := by simpa using hs
  have z6 : (o.toList == [48]) = true := by rw [byteArray_toList]; exact z3
  have z7 : (o.toList = [48]) = True := by rw [byteArray_toList]; exact z4
  have HS := Lib.hid hs
  clear hs
  go_wp2_with fail
  (with_reducible refine (C9.out _).mono ?_)
  rintro e w2 ⟨rfl, o⟩
  replace O := Lib.hid (O.out.trans o)
  replace HR0 := Lib.hid (Blk.keep HR0.out o id)
  replace HR2 := Lib.hid (Blk.keep HR2.out o id)
  replace HA := Lib.hid (MsgAt.keep HA.out o id)
  clear o
  go_wp2_with fail
  (with_reducible refine (C10.out _).mono ?_)
  rintro e w2 ⟨rfl, o⟩
  replace O := Lib.hid (O.out.trans o)
  replace HR0 := Lib.hid (Blk.keep HR0.out o id)
  replace HR2 := Lib.hid (Blk.keep HR2.out o id)
  replace HA := Lib.hid (MsgAt.keep HA.out o id)
  clear o
  have HV := show finVal x e.data.toList c.data.toList h.data.toList s.data.toList q.data.toList m = .tuple #[.agg (keysV k1 k2), .int .i64 0] from by
    rw [finVal, if_pos (show finR x e.data.toList c.data.toList h.data.toList s.data.toList q.data.toList m = 0 from by rw [finR, if_pos ⟨HB1.out.symm, HB2.out.symm, HB3.out.symm⟩, if_pos HRX.out, if_pos ⟨by rw [← HX1.out]; exact HZ1.out, by rw [← HO.out]; exact HS.out⟩]), ← HK1.out, ← HK2.out]
  go_wp2_with (refine wpList_store_row rfl 92 (.tmp 8) (.tmp 85) rfl (A + 2) (keysV k1 k2) rfl rfl 92 _ HR2.out (info92 k1 k2) rfl (one92 k1 k2) ?_)
  exact bodyPost_ret (trB.res2 Try.results75 _ _ (A + 2) 92 (keysV k1 k2) (0, 0) _ rfl (Blk.row HR2.out _) Try.underlying92 rfl (info92 _ _)) rfl ⟨by rw [HV]; rfl, Only.old (only_row (O.out.mono fun _ h => h.elim) _ (by rw [HAE.out]; omega))⟩

end Go.Proofs.Ytbjnejnjlidiaaa.noK
