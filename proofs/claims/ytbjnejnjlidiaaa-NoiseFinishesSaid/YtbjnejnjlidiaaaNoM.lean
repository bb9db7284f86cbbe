/- Noise: plain facts. -/
import Derived.Test.YtbjnejnjlidiaaaNoL
namespace Go.Proofs.Ytbjnejnjlidiaaa.noM
open Go.RowKit kit numA numB numC numD numE tmA tmB tmC tmD tmE trA trB prR prS prW prX tsA tsB tsF tsI wrA wrB wrC wrD wrE wrF wrG wrH wrI wrJ mkA maA maB maC noA noB noC noD noE tsG noF noG noH noJ noK noL
set_option linter.unusedVariables false
set_option linter.unusedSimpArgs false

theorem zero_fits : fitB (⟨#[48]⟩ : ByteArray).data.toList = true := by decide +kernel
theorem right_init {x : Int} {eph st se : ByteArray} (h1 : fitB eph.data.toList = true) (h2 : fitB st.data.toList = true) (h3 : fitB se.data.toList = true) : rightM (initM x eph st se) = true := by
  have h0 := zero_fits
  unfold rightM
  simp only [Bool.and_eq_true]
  refine ⟨by simp [initM], ?_, ?_⟩
  · unfold rterms rtexts
    rw [show (initM x eph st se).k = 1 from rfl, if_pos rfl]
    simp only [List.map_cons, List.map_nil, List.all_cons, List.all_nil, Bool.and_true, Bool.and_eq_true]
    exact ⟨h1, h2, h3, h0, h0⟩
  · rw [eqM_iff]
    unfold keepM
    rw [if_pos (show (initM x eph st se).k = 1 from rfl)]
    simp [initM]
theorem right_resp {x y : Int} {eph em : ByteArray} (h1 : fitB eph.data.toList = true) (h2 : fitB em.data.toList = true) : rightM (respM x y eph em) = true := by
  have h0 := zero_fits
  unfold rightM
  simp only [Bool.and_eq_true]
  refine ⟨by simp [respM], ?_, ?_⟩
  · unfold rterms rtexts
    rw [show (respM x y eph em).k = 2 from rfl, if_neg (by decide), if_pos rfl]
    simp only [List.map_cons, List.map_nil, List.all_cons, List.all_nil, Bool.and_true, Bool.and_eq_true]
    exact ⟨h1, h2, h0, h0⟩
  · rw [eqM_iff]
    unfold keepM
    rw [if_neg (by rw [show (respM x y eph em).k = 2 from rfl]; decide), if_pos (show (respM x y eph em).k = 2 from rfl)]
    simp [respM]
theorem seal_nd {k u v : Txt} (h : isT (sealT k u v) = true) : nd (sealT k u v) = ⟨10, 0, [], [k, u, v]⟩ := by
  have hne : mkT 10 0 [] [k, u, v] ≠ [] := (mk_isT (by decide)).1 h
  rw [sealT, nd_make (by decide) hne]
  rfl
theorem open_seal {k u v key x : Txt} (h : isT (sealT k u v) = true) : opn (sealT k u v) key 0 x = if k = key ∧ v = x then (u, 0) else ([], 8) := by
  rw [opn, seal_nd h]
  simp
theorem open_same {k u v : Txt} (h : isT (sealT k u v) = true) : opn (sealT k u v) k 0 v = (u, 0) := by
  rw [open_seal h, if_pos ⟨rfl, rfl⟩]
/-- What opens is the seal. -/
theorem seal_of {t key x u : Txt} (h : opn t key 0 x = (u, 0)) : t = sealT key u x := by
  unfold opn at h
  by_cases h10 : (nd t).k = 10
  · rw [if_pos h10] at h
    by_cases hc : (nd t).ps.getD 0 [] = key ∧ (nd t).n = 0 ∧ (nd t).ps.getD 2 [] = x
    · rw [if_pos hc] at h
      obtain ⟨a, b, c, hp⟩ := nd3 h10
      have hb := nd_back (t := t) (by omega)
      rw [h10, hc.2.1, hp] at hb
      rw [hp] at hc h
      have e1 : a = key := hc.1
      have e2 : c = x := hc.2.2
      have e3 : b = u := congrArg Prod.fst h
      subst e1; subst e2; subst e3
      have hbn : (nd t).b = [] := by
        rcases nd_cases t with ⟨g, -⟩ | ⟨-, -, g, -⟩
        · rw [g]
        · have m := make_read g
          have : mkT 10 0 (nd t).b [a, b, c] = mkT 10 0 [] [a, b, c] := by rw [mk_br (by decide) (by decide), mk_br (by decide) (by decide)]
          have m2 : mkT 10 0 [] [a, b, c] = t := by rw [← this]; exact hb
          have hne : mkT 10 0 [] [a, b, c] ≠ [] := by rw [m2]; intro q; rw [q, nd_nil] at h10; cases h10
          have := nd_make (by decide) hne
          rw [m2] at this
          rw [this]
          rfl
      rw [hbn] at hb
      exact hb.symm
    · rw [if_neg hc] at h
      have := congrArg Prod.snd h
      cases this
  · rw [if_neg h10] at h
    have := congrArg Prod.snd h
    cases this
theorem agr_swap {e r : Txt} (he : Ok e 30000) (hr : Ok r 30000) : agr r (pubT e) = agr e (pubT r) := by
  unfold pubT
  rw [agr_pub (by have := he.2; omega), agr_pub (by have := hr.2; omega), if_pos he.1, if_pos hr.1, mk_swap]
theorem pub_back {t : Txt} (h : pubB t = true) : t = pubT ((nd t).ps.getD 0 []) ∧ isT ((nd t).ps.getD 0 []) = true ∧ ((nd t).ps.getD 0 []).length + 2 ≤ t.length := by
  have h5 : (nd t).k = 5 := by simpa [pubB] using h
  have hr := nd_right (t := t) (by omega)
  rw [h5] at hr
  have hl1 : (nd t).ps.length = 1 := by simpa [right] using hr
  obtain ⟨y, hy⟩ : ∃ y, (nd t).ps = [y] := by
    match h : (nd t).ps, hl1 with
    | [y], _ => exact ⟨y, rfl⟩
  have hyp := nd_parts (t := t) (p := y) (by rw [hy]; simp)
  rw [hy]
  refine ⟨?_, hyp⟩
  rcases nd_cases t with ⟨g, -⟩ | ⟨-, hl, g, -⟩
  · rw [g] at h5; cases h5
  · have m := make_read g
    rw [h5, hy] at m
    have e : mkT 5 (nd t).n (nd t).b [y] = mkT 5 0 [] [y] := by
      have hq : ∀ n, pre 5 n = [] := fun n => by simp only [pre]; rfl
      rw [mk_br (by decide) (by decide), mk_br (by decide) (by decide), hq, hq]
      have hf : fitsB 5 (nd t).n [y] ↔ fitsB 5 0 [y] := by simp [fitsB, numbered, hq]
      by_cases hz : fitsB 5 0 [y]
      · rw [if_pos hz, if_pos (hf.2 hz)]
      · rw [if_neg hz, if_neg (fun q => hz (hf.1 q))]
    rw [e] at m
    exact m.symm
theorem pubB_of {s : Txt} {n : Nat} (h : Ok s n) (hn : n ≤ 60000) : pubB (pubT s) = true := by
  rw [pubB, (ok_pub h hn).2]; rfl
structure BegO (eph u c1 h1 k1 p st c2 h2 u2 k2 nb se c3 h3 : ByteArray) : Prop where
  eph : Ok eph.data.toList 253
  u : Ok u.data.toList 529
  c1 : Ok c1.data.toList 299
  h1 : Ok h1.data.toList 578
  k1 : Ok k1.data.toList 854
  p : Ok p.data.toList 253
  st : Ok st.data.toList 1712
  c2 : Ok c2.data.toList 854
  h2 : Ok h2.data.toList 2316
  u2 : Ok u2.data.toList 529
  k2 : Ok k2.data.toList 1409
  nb : Ok nb.data.toList 21
  se : Ok se.data.toList 3773
  c3 : Ok c3.data.toList 1409
  h3 : Ok h3.data.toList 6115
theorem beg_sizes {N : Nat} {s e tu eph u c1 h1 k1 p st c2 h2 u2 k2 nb se c3 h3 : ByteArray} (hB : BegT s e tu N eph u c1 h1 k1 p st c2 h2 u2 k2 nb se c3 h3) (hN : N ≤ most) (hs : Ok s.data.toList 250) (he : Ok e.data.toList 250) (hto : Ok tu.data.toList 253) (hp : pubB tu.data.toList = true) : BegO eph u c1 h1 k1 p st c2 h2 u2 k2 nb se c3 h3 := by
  have h5 : (nd tu.data.toList).k = 5 := by simpa [pubB] using hp
  have f_eph : Ok eph.data.toList 253 := by rw [hB.e_eph]; exact (ok_pub he (by decide)).1
  have f_u : Ok u.data.toList 529 := by rw [hB.e_u]; exact ok_agr he h5 hto.2 (by decide)
  have f_c1 : Ok c1.data.toList 299 := by rw [hB.e_c1]; exact ok_kdf (by decide) (by decide) ok_c0 f_eph (by decide)
  have f_h1 : Ok h1.data.toList 578 := by rw [hB.e_h1]; exact ok_hash (ok_hash ok_c0 hto (by decide)) f_eph (by decide)
  have f_k1 : Ok k1.data.toList 854 := by rw [hB.e_k1]; exact ok_kdf (by decide) (by decide) f_c1 f_u (by decide)
  have f_p : Ok p.data.toList 253 := by rw [hB.e_p]; exact (ok_pub hs (by decide)).1
  have f_st : Ok st.data.toList 1712 := by rw [hB.e_st]; exact ok_seal f_k1 f_p f_h1 (by decide)
  have f_c2 : Ok c2.data.toList 854 := by rw [hB.e_c2]; exact ok_kdf (by decide) (by decide) f_c1 f_u (by decide)
  have f_h2 : Ok h2.data.toList 2316 := by rw [hB.e_h2]; exact ok_hash f_h1 f_st (by decide)
  have f_u2 : Ok u2.data.toList 529 := by rw [hB.e_u2]; exact ok_agr hs h5 hto.2 (by decide)
  have f_k2 : Ok k2.data.toList 1409 := by rw [hB.e_k2]; exact ok_kdf (by decide) (by decide) f_c2 f_u2 (by decide)
  have f_nb : Ok nb.data.toList 21 := by
    rw [hB.e_nb]
    have h := num_ok N hN
    exact ⟨h.2.1, h.2.2.1⟩
  have f_se : Ok se.data.toList 3773 := by rw [hB.e_se]; exact ok_seal f_k2 f_nb f_h2 (by decide)
  have f_c3 : Ok c3.data.toList 1409 := by rw [hB.e_c3]; exact ok_kdf (by decide) (by decide) f_c2 f_u2 (by decide)
  have f_h3 : Ok h3.data.toList 6115 := by rw [hB.e_h3]; exact ok_hash f_h2 f_se (by decide)
  exact ⟨f_eph, f_u, f_c1, f_h1, f_k1, f_p, f_st, f_c2, f_h2, f_u2, f_k2, f_nb, f_se, f_c3, f_h3⟩
theorem beg_hear {N : Nat} {s e tu eph u c1 h1 k1 p st c2 h2 u2 k2 nb se c3 h3 : ByteArray} {x : Int} {r : Txt} (hB : BegT s e tu N eph u c1 h1 k1 p st c2 h2 u2 k2 nb se c3 h3) (hN : N ≤ most) (hs : Ok s.data.toList 250) (he : Ok e.data.toList 250) (hr : Ok r 250) (hto : tu.data.toList = pubT r) : hearR r (initM x eph st se) = (0, pubT s.data.toList, N, c3.data.toList, h3.data.toList) := by
  have hop := ok_pub hr (by decide)
  have hO := beg_sizes hB hN hs he (by rw [hto]; exact hop.1) (by rw [hto]; exact pubB_of hr (by decide))
  have hpe : pubB eph.data.toList = true := by rw [hB.e_eph]; exact pubB_of he (by decide)
  have hps : pubB (pubT s.data.toList) = true := pubB_of hs (by decide)
  have a1 : hc1T eph.data.toList = c1.data.toList := hB.e_c1.symm
  have a2 : hh1T r eph.data.toList = h1.data.toList := by rw [hB.e_h1, hto]; rfl
  have au : agr r eph.data.toList = u.data.toList := by rw [hB.e_eph, hB.e_u, hto]; exact agr_swap (he.mono (by decide)) (hr.mono (by decide))
  have a3 : hk1T r eph.data.toList = k1.data.toList := by rw [hk1T, a1, au, hB.e_k1]
  have o1 : opn st.data.toList k1.data.toList 0 h1.data.toList = (pubT s.data.toList, 0) := by
    have h := hO.st.1
    rw [hB.e_st] at h ⊢
    rw [open_same h, hB.e_p]
  have a4 : hfrom r eph.data.toList st.data.toList = pubT s.data.toList := by rw [hfrom, a3, a2, o1]
  have a5 : hc2T r eph.data.toList = c2.data.toList := by rw [hc2T, a1, au, hB.e_c2]
  have a6 : hh2T r eph.data.toList st.data.toList = h2.data.toList := by rw [hh2T, a2, hB.e_h2]
  have a7 : hvT r eph.data.toList st.data.toList = u2.data.toList := by rw [hvT, a4, hB.e_u2, hto]; exact agr_swap (hs.mono (by decide)) (hr.mono (by decide))
  have a8 : hk2T r eph.data.toList st.data.toList = k2.data.toList := by rw [hk2T, a5, a7, hB.e_k2]
  have o2 : opn se.data.toList k2.data.toList 0 h2.data.toList = (mkT 3 N [] [], 0) := by
    have h := hO.se.1
    rw [hB.e_se] at h ⊢
    rw [open_same h, hB.e_nb]
  have a9 : hst r eph.data.toList st.data.toList se.data.toList = mkT 3 N [] [] := by rw [hst, a8, a6, o2]
  have hnn : nd (mkT 3 N [] []) = ⟨3, N, [], []⟩ := by
    have h := hO.nb.1
    rw [hB.e_nb] at h
    rw [nd_make hN ((mk_isT hN).1 h)]
    rfl
  have a10 : hc3T r eph.data.toList st.data.toList = c3.data.toList := by rw [hc3T, a5, a7, hB.e_c3]
  have a11 : hh3T r eph.data.toList st.data.toList se.data.toList = h3.data.toList := by rw [hh3T, a6, hB.e_h3]
  unfold hearR
  rw [if_pos ⟨hr.1, by rw [right_init (ok_fit hO.eph (by decide)) (ok_fit hO.st (by decide)) (ok_fit hO.se (by decide))]; rfl, hpe⟩]
  show hear4 r eph.data.toList st.data.toList se.data.toList = _
  unfold hear4
  rw [a3, a2, o1, if_pos rfl, a4, if_pos hps, a8, a6, o2, if_pos rfl, a9, hnn, if_pos rfl, a10, a11]

end Go.Proofs.Ytbjnejnjlidiaaa.noM
