/- Noise: both sides together. -/
import Derived.Test.YtbjnejnjlidiaaaNoN
namespace Go.Proofs.Ytbjnejnjlidiaaa.noO
open Go.RowKit kit numA numB numC numD numE tmA tmB tmC tmD tmE trA trB prR prS prW prX tsA tsB tsF tsI wrA wrB wrC wrD wrE wrF wrG wrH wrI wrJ mkA maA maB maC noA noB noC noD noE tsG noF noG noH noJ noK noL noM noN
set_option linter.unusedVariables false
set_option linter.unusedSimpArgs false

theorem mkb (t : Txt) : ∃ b : ByteArray, b.data.toList = t := ⟨⟨t.toArray⟩, rfl⟩
theorem beg_ex (s e tu : ByteArray) (N : Nat) : ∃ eph u c1 h1 k1 p st c2 h2 u2 k2 nb se c3 h3, BegT s e tu N eph u c1 h1 k1 p st c2 h2 u2 k2 nb se c3 h3 := by
  obtain ⟨eph, e1⟩ := mkb (pubT e.data.toList)
  obtain ⟨u, e2⟩ := mkb (agr e.data.toList tu.data.toList)
  obtain ⟨c1, e3⟩ := mkb (kdfT 1 c0T eph.data.toList)
  obtain ⟨h1, e4⟩ := mkb (hashT (hashT c0T tu.data.toList) eph.data.toList)
  obtain ⟨k1, e5⟩ := mkb (kdfT 2 c1.data.toList u.data.toList)
  obtain ⟨p, e6⟩ := mkb (pubT s.data.toList)
  obtain ⟨st, e7⟩ := mkb (sealT k1.data.toList p.data.toList h1.data.toList)
  obtain ⟨c2, e8⟩ := mkb (kdfT 1 c1.data.toList u.data.toList)
  obtain ⟨h2, e9⟩ := mkb (hashT h1.data.toList st.data.toList)
  obtain ⟨u2, e10⟩ := mkb (agr s.data.toList tu.data.toList)
  obtain ⟨k2, e11⟩ := mkb (kdfT 2 c2.data.toList u2.data.toList)
  obtain ⟨nb, e12⟩ := mkb (mkT 3 N [] [])
  obtain ⟨se, e13⟩ := mkb (sealT k2.data.toList nb.data.toList h2.data.toList)
  obtain ⟨c3, e14⟩ := mkb (kdfT 1 c2.data.toList u2.data.toList)
  obtain ⟨h3, e15⟩ := mkb (hashT h2.data.toList se.data.toList)
  exact ⟨eph, u, c1, h1, k1, p, st, c2, h2, u2, k2, nb, se, c3, h3, ⟨e1, e2, e3, e4, e5, e6, e7, e8, e9, e10, e11, e12, e13, e14, e15⟩⟩
theorem begin_told {s e tu : ByteArray} {N : Nat} {eph u c1 h1 k1 p st c2 h2 u2 k2 nb se c3 h3 : ByteArray} (x : Int) (W : World) (hB : BegT s e tu N eph u c1 h1 k1 p st c2 h2 u2 k2 nb se c3 h3) (hN : N ≤ most) (hs : Ok s.data.toList 250) (he : Ok e.data.toList 250) (hto : Ok tu.data.toList 253) (hp : pubB tu.data.toList = true) : Calls Try.prog 68 #[.string s, .string e, .string tu, .int .u64 N, .int .u32 x] W (numA.Told W (.tuple #[.agg (initM x eph st se).row, .agg (startV x e c3 h3), .int .i64 0])) := by
  have hO := beg_sizes hB hN hs he hto hp
  have z1 : s.size ≤ 10000000 := by have := hs.2; rw [tl_size] at this; omega
  have z2 : e.size ≤ 10000000 := by have := he.2; rw [tl_size] at this; omega
  have z3 : tu.size ≤ 10000000 := by have := hto.2; rw [tl_size] at this; omega
  exact begin_ok s e tu N x eph u c1 h1 k1 p st c2 h2 u2 k2 nb se c3 h3 W hN (by simp [hs.1, he.1]) (by simp [hp]) hB (by simp [hO.eph.1, hO.st.1, hO.se.1, hO.c3.1, hO.h3.1]) z1 z2 z3
theorem init_sz {x : Int} {eph st se : ByteArray} {n : Nat} (h1 : eph.size ≤ n) (h2 : st.size ≤ n) (h3 : se.size ≤ n) (hn : 1 ≤ n) (i : Nat) : ((initM x eph st se).t i).size ≤ n := by
  show (if i = 4 then eph else if i = 5 then st else if i = 6 then se else if i = 11 then ⟨#[48]⟩ else if i = 12 then ⟨#[48]⟩ else (⟨#[]⟩ : ByteArray)).size ≤ n
  have z1 : (⟨#[48]⟩ : ByteArray).size ≤ n := hn
  have z0 : (⟨#[]⟩ : ByteArray).size ≤ n := Nat.zero_le _
  by_cases a4 : i = 4
  · rw [if_pos a4]; exact h1
  rw [if_neg a4]
  by_cases a5 : i = 5
  · rw [if_pos a5]; exact h2
  rw [if_neg a5]
  by_cases a6 : i = 6
  · rw [if_pos a6]; exact h3
  rw [if_neg a6]
  by_cases a11 : i = 11
  · rw [if_pos a11]; exact z1
  rw [if_neg a11]
  by_cases a12 : i = 12
  · rw [if_pos a12]; exact z1
  rw [if_neg a12]; exact z0
theorem resp_sz {x y : Int} {eph em : ByteArray} {n : Nat} (h1 : eph.size ≤ n) (h2 : em.size ≤ n) (hn : 1 ≤ n) (i : Nat) : ((respM x y eph em).t i).size ≤ n := by
  show (if i = 4 then eph else if i = 7 then em else if i = 11 then ⟨#[48]⟩ else if i = 12 then ⟨#[48]⟩ else (⟨#[]⟩ : ByteArray)).size ≤ n
  have z1 : (⟨#[48]⟩ : ByteArray).size ≤ n := hn
  have z0 : (⟨#[]⟩ : ByteArray).size ≤ n := Nat.zero_le _
  by_cases a4 : i = 4
  · rw [if_pos a4]; exact h1
  rw [if_neg a4]
  by_cases a7 : i = 7
  · rw [if_pos a7]; exact h2
  rw [if_neg a7]
  by_cases a11 : i = 11
  · rw [if_pos a11]; exact z1
  rw [if_neg a11]
  by_cases a12 : i = 12
  · rw [if_pos a12]; exact z1
  rw [if_neg a12]; exact z0
theorem hear_told {r s e tu : ByteArray} {N : Nat} {eph u c1 h1 k1 p st c2 h2 u2 k2 nb se c3 h3 : ByteArray} (x : Int) (W : World) (hB : BegT s e tu N eph u c1 h1 k1 p st c2 h2 u2 k2 nb se c3 h3) (hN : N ≤ most) (hs : Ok s.data.toList 250) (he : Ok e.data.toList 250) (hr : Ok r.data.toList 250) (hto : tu.data.toList = pubT r.data.toList) : Calls Try.prog 70 #[.string r, mval (initM x eph st se)] W (numA.Told W (.tuple #[.agg (heardV x p N eph c3 h3), .int .i64 0])) := by
  have hO := beg_sizes hB hN hs he (by rw [hto]; exact (ok_pub hr (by decide)).1) (by rw [hto]; exact pubB_of hr (by decide))
  have hR := beg_hear (x := x) hB hN hs he hr hto
  have z1 : eph.size ≤ 10000 := by have := hO.eph.2; rw [tl_size] at this; omega
  have z2 : st.size ≤ 10000 := by have := hO.st.2; rw [tl_size] at this; omega
  have z3 : se.size ≤ 10000 := by have := hO.se.2; rw [tl_size] at this; omega
  have z4 : r.size ≤ 10000000 := by have := hr.2; rw [tl_size] at this; omega
  have h := hear_any r (initM x eph st se) W (fun _ => by rw [hR]; exact ⟨hO.c3.1, hO.h3.1⟩) (fun i => Nat.le_trans (init_sz z1 z2 z3 (by decide) i) (by decide)) z4
  have hv : hearVal r.data.toList (initM x eph st se) = .tuple #[.agg (heardV x p N eph c3 h3), .int .i64 0] := by
    unfold hearVal
    rw [hR, if_pos rfl, ← hB.e_p, bytes_mk, bytes_mk, bytes_mk]
    rfl
  rw [hv] at h
  exact h
structure AnsT (s e f q c h : Txt) (eph em sd rc : ByteArray) : Prop where
  eph : eph.data.toList = pubT f
  em : em.data.toList = sealT (ltK c (pubT f) (agr f (pubT e)) (agr f (pubT s)) q) zeroT (ltW c h (pubT f) (agr f (pubT e)) (agr f (pubT s)) q)
  sd : sd.data.toList = kdfT 2 (ltC c (pubT f) (agr f (pubT e)) (agr f (pubT s)) q) zeroT
  rc : rc.data.toList = kdfT 1 (ltC c (pubT f) (agr f (pubT e)) (agr f (pubT s)) q) zeroT
theorem ans_ex (s e f q c h : Txt) : ∃ eph em sd rc, AnsT s e f q c h eph em sd rc := by
  obtain ⟨eph, e1⟩ := mkb (pubT f)
  obtain ⟨em, e2⟩ := mkb (sealT (ltK c (pubT f) (agr f (pubT e)) (agr f (pubT s)) q) zeroT (ltW c h (pubT f) (agr f (pubT e)) (agr f (pubT s)) q))
  obtain ⟨sd, e3⟩ := mkb (kdfT 2 (ltC c (pubT f) (agr f (pubT e)) (agr f (pubT s)) q) zeroT)
  obtain ⟨rc, e4⟩ := mkb (kdfT 1 (ltC c (pubT f) (agr f (pubT e)) (agr f (pubT s)) q) zeroT)
  exact ⟨eph, em, sd, rc, ⟨e1, e2, e3, e4⟩⟩
theorem answer_told {s e : Txt} {p ee c h f q eph em sd rc : ByteArray} (x y n : Int) (W : World) (hp : p.data.toList = pubT s) (hee : ee.data.toList = pubT e) (hA : AnsT s e f.data.toList q.data.toList c.data.toList h.data.toList eph em sd rc) (hs : Ok s 250) (he : Ok e 250) (hf : Ok f.data.toList 250) (hq : Ok q.data.toList 250) (hc : Ok c.data.toList 1500) (hh : Ok h.data.toList 6200) : Calls Try.prog 72 #[.agg (heardV y p n ee c h), .string f, .string q, .int .u32 x] W (numA.Told W (.tuple #[.agg (respM x y eph em).row, .agg (keysV sd rc), .int .i64 0])) := by
  have hL := answer_ok (h := h.data.toList) he hs hf hq hc hh
  have bp : pubB p.data.toList = true := by rw [hp]; exact pubB_of hs (by decide)
  have be : pubB ee.data.toList = true := by rw [hee]; exact pubB_of he (by decide)
  have sz : ∀ {b : ByteArray} {n : Nat}, Ok b.data.toList n → n ≤ 10000000 → b.size ≤ 10000000 := fun h hn => by have := h.2; rw [tl_size] at this; omega
  have opp : Ok p.data.toList 253 := by rw [hp]; exact (ok_pub hs (by decide)).1
  have oee : Ok ee.data.toList 253 := by rw [hee]; exact (ok_pub he (by decide)).1
  have hb : ansB f.data.toList q.data.toList p.data.toList ee.data.toList c.data.toList h.data.toList = true := by simp [ansB, hf.1, hq.1, bp, be, hc.1, hh.1]
  have hh' := answer_any x y n p ee c h f q eph em sd rc W hA.eph (by rw [hA.em, hA.eph, hp, hee]) (by rw [hA.sd, hA.eph, hp, hee]) (by rw [hA.rc, hA.eph, hp, hee]) (fun _ => by
    have i1 : isT eph.data.toList = true := by rw [hA.eph]; exact (ok_pub hf (by decide)).1.1
    have i2 : isT em.data.toList = true := by rw [hA.em]; exact hL.em.1
    have i3 : isT sd.data.toList = true := by rw [hA.sd]; exact hL.k2.1
    have i4 : isT rc.data.toList = true := by rw [hA.rc]; exact hL.k1.1
    simp [i1, i2, i3, i4]) (sz opp (by decide)) (sz oee (by decide)) (sz hc (by decide)) (sz hh (by decide)) (sz hf (by decide)) (sz hq (by decide))
  rw [ansVal, if_pos hb] at hh'
  exact hh'
theorem finish_told {s e c h q q' f : ByteArray} {eph em sd rc : ByteArray} (x y : Int) (W : World) (hA : AnsT s.data.toList e.data.toList f.data.toList q.data.toList c.data.toList h.data.toList eph em sd rc) (hs : Ok s.data.toList 250) (he : Ok e.data.toList 250) (hf : Ok f.data.toList 250) (hq : Ok q.data.toList 250) (hq' : Ok q'.data.toList 250) (hc : Ok c.data.toList 1500) (hh : Ok h.data.toList 6200) : Calls Try.prog 75 #[.agg (startV x e c h), .string s, .string q', mval (respM y x eph em)] W (numA.Told W (if q'.data.toList = q.data.toList then .tuple #[.agg (keysV rc sd), .int .i64 0] else .tuple #[.agg (keysV ⟨#[]⟩ ⟨#[]⟩), .int .i64 8])) := by
  have hL := answer_ok (h := h.data.toList) he hs hf hq hc hh
  have sz : ∀ {b : ByteArray} {n : Nat}, Ok b.data.toList n → n ≤ 10000000 → b.size ≤ 10000000 := fun h hn => by have := h.2; rw [tl_size] at this; omega
  have oe : eph.size ≤ 20000 := by have := (ok_pub hf (by decide)).1.2; rw [← hA.eph, tl_size] at this; omega
  have om : em.size ≤ 20000 := by have := hL.em.2; rw [← hA.em, tl_size] at this; omega
  have hr := finish_answer (x := x) (y := y) he hs hf hq hq' hc hh hA.eph hA.em
  have h0 := finish_any x e c h s q' (respM y x eph em) W (fun i => Nat.le_trans (resp_sz oe om (by decide) i) (by decide)) (sz he (by decide)) (sz hc (by decide)) (sz hh (by decide)) (sz hs (by decide)) (sz hq' (by decide))
  have hv : finVal x e.data.toList c.data.toList h.data.toList s.data.toList q'.data.toList (respM y x eph em) = (if q'.data.toList = q.data.toList then .tuple #[.agg (keysV rc sd), .int .i64 0] else .tuple #[.agg (keysV ⟨#[]⟩ ⟨#[]⟩), .int .i64 8]) := by
    by_cases hqq : q'.data.toList = q.data.toList
    · rw [if_pos hqq] at hr ⊢
      rw [finVal, if_pos hr]
      show Value.tuple #[.agg (keysV ⟨(kdfT 1 (finC e.data.toList c.data.toList s.data.toList q'.data.toList eph.data.toList) zeroT).toArray⟩ ⟨(kdfT 2 (finC e.data.toList c.data.toList s.data.toList q'.data.toList eph.data.toList) zeroT).toArray⟩), .int .i64 0] = _
      rw [hA.eph, (fin_texts (h := h.data.toList) he hs hf).1, hqq, ← hA.sd, ← hA.rc, bytes_mk, bytes_mk]
    · rw [if_neg hqq] at hr ⊢
      rw [fv_no hr (by decide)]
      rfl
  rw [hv] at h0
  exact h0

end Go.Proofs.Ytbjnejnjlidiaaa.noO
