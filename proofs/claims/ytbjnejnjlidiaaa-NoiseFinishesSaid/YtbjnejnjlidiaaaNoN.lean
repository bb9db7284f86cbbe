/- Noise: plain facts on answers. -/
import Derived.Test.YtbjnejnjlidiaaaNoM
namespace Go.Proofs.Ytbjnejnjlidiaaa.noN
open Go.RowKit kit numA numB numC numD numE tmA tmB tmC tmD tmE trA trB prR prS prW prX tsA tsB tsF tsI wrA wrB wrC wrD wrE wrF wrG wrH wrI wrJ mkA maA maB maC noA noB noC noD noE tsG noF noG noH noJ noK noL noM
set_option linter.unusedVariables false
set_option linter.unusedSimpArgs false

theorem kdf_inj {n : Nat} {c u c' u' : Txt} (hn : n ≤ most) (hT : isT (kdfT n c u) = true) (h : kdfT n c u = kdfT n c' u') : c = c' ∧ u = u' := by
  have h1 : mkT 8 n [] [c, u] ≠ [] := (mk_isT hn).1 hT
  have h2 : mkT 8 n [] [c', u'] ≠ [] := by
    have e : mkT 8 n [] [c, u] = mkT 8 n [] [c', u'] := h
    rw [← e]; exact h1
  have e1 := nd_make hn h1
  have e2 := nd_make hn h2
  have e : mkT 8 n [] [c, u] = mkT 8 n [] [c', u'] := h
  rw [e, e2] at e1
  have := congrArg Nd.ps e1
  simp [nodeOf, srt] at this
  exact ⟨this.1.symm, this.2.symm⟩
theorem hash_inj {c u c' u' : Txt} (hT : isT (hashT c u) = true) (h : hashT c u = hashT c' u') : c = c' ∧ u = u' := by
  have h1 : mkT 7 0 [] [c, u] ≠ [] := (mk_isT (by decide)).1 hT
  have e : mkT 7 0 [] [c, u] = mkT 7 0 [] [c', u'] := h
  have h2 : mkT 7 0 [] [c', u'] ≠ [] := by rw [← e]; exact h1
  have e1 := nd_make (by decide) h1
  have e2 := nd_make (by decide) h2
  rw [e, e2] at e1
  have := congrArg Nd.ps e1
  simp [nodeOf, srt] at this
  exact ⟨this.1.symm, this.2.symm⟩
structure LastOk (c h e u v q : Txt) (n w : Nat) : Prop where
  C : Ok (ltC c e u v q) n
  K : Ok (ltK c e u v q) n
  W : Ok (ltW c h e u v q) w
  em : Ok (sealT (ltK c e u v q) zeroT (ltW c h e u v q)) (n + w + 28)
  k1 : Ok (kdfT 1 (ltC c e u v q) zeroT) (n + 27)
  k2 : Ok (kdfT 2 (ltC c e u v q) zeroT) (n + 27)
theorem last_ok {c h e u v q : Txt} {a b i j k l : Nat} (hc : Ok c a) (hh : Ok h b) (he : Ok e i) (hu : Ok u j) (hv : Ok v k) (hq : Ok q l) (hl : 2 * (a + i + j + k + l) + b + i + 400 ≤ 60000) : LastOk c h e u v q (a + i + j + k + l + 104) (b + i + (a + i + j + k + l) + 156) := by
  have f1 : Ok (chainT c [e, u, v]) (a + i + j + k + 78) := by
    have g1 := ok_kdf (n := 1) (by decide) (by decide) hc he (by omega)
    have g2 := ok_kdf (n := 1) (by decide) (by decide) g1 hu (by omega)
    have g3 := ok_kdf (n := 1) (by decide) (by decide) g2 hv (by omega)
    exact g3.mono (by omega)
  have f2 : Ok (ltC c e u v q) (a + i + j + k + l + 104) := (ok_kdf (by decide) (by decide) f1 hq (by omega)).mono (by omega)
  have f3 : Ok (ltK c e u v q) (a + i + j + k + l + 104) := (ok_kdf (by decide) (by decide) f1 hq (by omega)).mono (by omega)
  have f4 : Ok (ltW c h e u v q) (b + i + (a + i + j + k + l) + 156) := (ok_hash (ok_hash hh he (by omega)) (ok_kdf (n := 2) (by decide) (by decide) f1 hq (by omega)) (by omega)).mono (by omega)
  exact ⟨f2, f3, f4, (ok_seal f3 ok_zero f4 (by omega)).mono (by omega), (ok_kdf (by decide) (by decide) f2 ok_zero (by omega)).mono (by omega), (ok_kdf (by decide) (by decide) f2 ok_zero (by omega)).mono (by omega)⟩
/-- What Finish opens of an answer: the same chain. -/
theorem fin_texts {e c h s q f : Txt} (he : Ok e 250) (hs : Ok s 250) (hf : Ok f 250) : finC e c s q (pubT f) = ltC c (pubT f) (agr f (pubT e)) (agr f (pubT s)) q ∧ finK e c s q (pubT f) = ltK c (pubT f) (agr f (pubT e)) (agr f (pubT s)) q ∧ finW e c h s q (pubT f) = ltW c h (pubT f) (agr f (pubT e)) (agr f (pubT s)) q := by
  have a1 : agr e (pubT f) = agr f (pubT e) := agr_swap (hf.mono (by decide)) (he.mono (by decide))
  have a2 : agr s (pubT f) = agr f (pubT s) := agr_swap (hf.mono (by decide)) (hs.mono (by decide))
  unfold finC finK finW
  rw [a1, a2]
  exact ⟨rfl, rfl, rfl⟩
theorem agr_ok {f s : Txt} (hf : Ok f 250) (hs : Ok s 250) : Ok (agr f (pubT s)) 529 :=
  (ok_agr hf (by rw [(ok_pub hs (by decide)).2]) (ok_pub hs (by decide)).1.2 (by decide)).mono (by decide)
theorem answer_ok {e c h s q f : Txt} (he : Ok e 250) (hs : Ok s 250) (hf : Ok f 250) (hq : Ok q 250) (hc : Ok c 1500) (hh : Ok h 6200) : LastOk c h (pubT f) (agr f (pubT e)) (agr f (pubT s)) q 3165 9670 := by
  have := last_ok hc hh (ok_pub hf (by decide)).1 (agr_ok hf he) (agr_ok hf hs) hq (by decide)
  exact ⟨this.C, this.K, this.W, this.em, this.k1, this.k2⟩
theorem finish_answer {x y : Int} {e c h s q q' f : Txt} {eph em : ByteArray} (he : Ok e 250) (hs : Ok s 250) (hf : Ok f 250) (hq : Ok q 250) (hq' : Ok q' 250) (hc : Ok c 1500) (hh : Ok h 6200) (heph : eph.data.toList = pubT f) (hem : em.data.toList = sealT (ltK c (pubT f) (agr f (pubT e)) (agr f (pubT s)) q) zeroT (ltW c h (pubT f) (agr f (pubT e)) (agr f (pubT s)) q)) : finR x e c h s q' (respM y x eph em) = if q' = q then 0 else 8 := by
  have hL := answer_ok (h := h) he hs hf hq hc hh
  have hL' := answer_ok (h := h) he hs hf hq' hc hh
  obtain ⟨t1, t2, t3⟩ := fin_texts (c := c) (h := h) (q := q') he hs hf
  have hpe : pubB eph.data.toList = true := by rw [heph]; exact pubB_of hf (by decide)
  have hR := right_resp (x := y) (y := x) (eph := eph) (em := em) (ok_fit (n := 253) (by rw [heph]; exact (ok_pub hf (by decide)).1) (by decide)) (ok_fit (n := 12863) (by rw [hem]; exact hL.em) (by decide))
  have hO : finO e c h s q' eph.data.toList em.data.toList = if q' = q then (zeroT, 0) else ([], 8) := by
    unfold finO
    rw [heph, hem, t2, t3, open_seal hL.em.1]
    by_cases hqq : q' = q
    · rw [hqq, if_pos ⟨rfl, rfl⟩, if_pos rfl]
    · rw [if_neg hqq, if_neg]
      intro z
      exact hqq (kdf_inj (by decide) hL.K.1 z.1).2.symm
  unfold finR
  rw [if_pos ⟨by simp [hs.1, hq'.1, he.1, hc.1, hh.1], by rw [hR]; rfl, hpe⟩, if_pos (show (respM y x eph em).r = x from rfl)]
  show (if (finO e c h s q' eph.data.toList em.data.toList).2 = 0 ∧ (finO e c h s q' eph.data.toList em.data.toList).1 = [48] then 0 else 8) = _
  rw [hO]
  by_cases hqq : q' = q
  · rw [if_pos hqq, if_pos hqq]; rfl
  · rw [if_neg hqq, if_neg hqq]; rfl
set_option maxHeartbeats 1600000 in
/-- The bounds of what Hear makes. -/
theorem hear_ok {r : Txt} {m : Msg} {n a b : Nat} (hr : Ok r n) (h4 : (m.t 4).size ≤ a) (h5 : (m.t 5).size ≤ a) (h6 : (m.t 6).size ≤ a) (hz : (hearR r m).1 = 0) (hl : 2 * n + 4 * a + 400 ≤ 50000) : Ok (hearR r m).2.2.2.1 (2 * n + 3 * a + 200) ∧ Ok (hearR r m).2.2.2.2 (n + 3 * a + 200) := by
  unfold hearR at hz ⊢
  by_cases h : isT r = true ∧ (m.k == 1 && rightM m) = true ∧ pubB (m.t 4).data.toList = true
  case neg => rw [if_neg h] at hz; simp at hz
  rw [if_pos h] at hz ⊢
  obtain ⟨-, hR, hp⟩ := h
  rw [Bool.and_eq_true] at hR
  have hk : m.k = 1 := by simpa using hR.1
  have hf := rterms_is hR.2
  unfold rterms rtexts at hf
  rw [if_pos hk] at hf
  have z4 : Ok (m.t 4).data.toList a := ⟨hf _ (by simp), by rw [tl_size]; exact h4⟩
  have z5 : Ok (m.t 5).data.toList a := ⟨hf _ (by simp), by rw [tl_size]; exact h5⟩
  have z6 : Ok (m.t 6).data.toList a := ⟨hf _ (by simp), by rw [tl_size]; exact h6⟩
  have k5 : (nd (m.t 4).data.toList).k = 5 := by simpa [pubB] using hp
  have ou : Ok (agr r (m.t 4).data.toList) (n + a + 26) := ok_agr hr k5 z4.2 (by omega)
  have c1 : Ok (hc1T (m.t 4).data.toList) (20 + a + 26) := ok_kdf (by decide) (by decide) ok_c0 z4 (by omega)
  have h1 : Ok (hh1T r (m.t 4).data.toList) (20 + (n + 3) + 26 + a + 26) := ok_hash (ok_hash ok_c0 (ok_pub hr (by omega)).1 (by omega)) z4 (by omega)
  have c2 : Ok (hc2T r (m.t 4).data.toList) (20 + a + 26 + (n + a + 26) + 26) := ok_kdf (by decide) (by decide) c1 ou (by omega)
  have h2 : Ok (hh2T r (m.t 4).data.toList (m.t 5).data.toList) (20 + (n + 3) + 26 + a + 26 + a + 26) := ok_hash h1 z5 (by omega)
  unfold hear4 at hz ⊢
  by_cases e1 : (opn (m.t 5).data.toList (hk1T r (m.t 4).data.toList) 0 (hh1T r (m.t 4).data.toList)).2 = 0
  case neg => rw [if_neg e1] at hz; simp at hz
  rw [if_pos e1] at hz ⊢
  by_cases e2 : pubB (hfrom r (m.t 4).data.toList (m.t 5).data.toList) = true
  case neg => rw [if_neg e2] at hz; simp at hz
  rw [if_pos e2] at hz ⊢
  by_cases e3 : (opn (m.t 6).data.toList (hk2T r (m.t 4).data.toList (m.t 5).data.toList) 0 (hh2T r (m.t 4).data.toList (m.t 5).data.toList)).2 = 0
  case neg => rw [if_neg e3] at hz; simp at hz
  rw [if_pos e3] at hz ⊢
  by_cases e4 : (nd (hst r (m.t 4).data.toList (m.t 5).data.toList (m.t 6).data.toList)).k = 3
  case neg => rw [if_neg e4] at hz; simp at hz
  rw [if_pos e4]
  have kf : (nd (hfrom r (m.t 4).data.toList (m.t 5).data.toList)).k = 5 := by simpa [pubB] using e2
  have fl : (hfrom r (m.t 4).data.toList (m.t 5).data.toList).length ≤ a := Nat.le_trans (opn_le _ _ _ _) z5.2
  have ov : Ok (hvT r (m.t 4).data.toList (m.t 5).data.toList) (n + a + 26) := ok_agr hr kf fl (by omega)
  have c3 : Ok (hc3T r (m.t 4).data.toList (m.t 5).data.toList) (20 + a + 26 + (n + a + 26) + 26 + (n + a + 26) + 26) := ok_kdf (by decide) (by decide) c2 ov (by omega)
  have h3 : Ok (hh3T r (m.t 4).data.toList (m.t 5).data.toList (m.t 6).data.toList) (20 + (n + 3) + 26 + a + 26 + a + 26 + a + 26) := ok_hash h2 z6 (by omega)
  exact ⟨c3.mono (by omega), h3.mono (by omega)⟩

end Go.Proofs.Ytbjnejnjlidiaaa.noN
