/- Noise: who else hears. -/
import Derived.Test.YtbjnejnjlidiaaaNoP
namespace Go.Proofs.Ytbjnejnjlidiaaa.noS
open Go.RowKit kit numA numB numC numD numE tmA tmB tmC tmD tmE trA trB prR prS prW prX tsA tsB tsF tsI wrA wrB wrC wrD wrE wrF wrG wrH wrI wrJ mkA maA maB maC noA noB noC noD noE tsG noF noG noH noJ noK noL noM noN noO noP
set_option linter.unusedVariables false
set_option linter.unusedSimpArgs false

theorem pub_inj {r r2 : Txt} (hr : Ok r 250) (hr2 : Ok r2 250) (h : pubT r = pubT r2) : r = r2 := by
  have a := (ok_pub hr (by decide)).2
  have b := (ok_pub hr2 (by decide)).2
  rw [h, b] at a
  injection a with _ _ _ a4
  exact (List.cons.inj a4).1.symm
theorem beg_other {s e tu : ByteArray} {N : Nat} {eph u c1 h1 k1 p st c2 h2 u2 k2 nb se c3 h3 : ByteArray} {x : Int} {r r2 : Txt} (hB : BegT s e tu N eph u c1 h1 k1 p st c2 h2 u2 k2 nb se c3 h3) (hN : N ≤ most) (hs : Ok s.data.toList 250) (he : Ok e.data.toList 250) (hr : Ok r 250) (hto : tu.data.toList = pubT r) (hr2 : Ok r2 250) (hne : r2 ≠ r) : hearR r2 (initM x eph st se) = (8, [], 0, [], []) := by
  have hop := ok_pub hr (by decide)
  have hO := beg_sizes hB hN hs he (by rw [hto]; exact hop.1) (by rw [hto]; exact pubB_of hr (by decide))
  have hpe : pubB eph.data.toList = true := by rw [hB.e_eph]; exact pubB_of he (by decide)
  have a2 : ¬ h1.data.toList = hh1T r2 eph.data.toList := by
    intro h
    have i1 : isT (hashT (hashT c0T tu.data.toList) eph.data.toList) = true := by
      have o1 : Ok tu.data.toList 253 := by rw [hto]; exact hop.1
      exact (ok_hash (ok_hash ok_c0 o1 (by decide)) (hO.eph) (by decide)).1
    rw [hB.e_h1] at h
    have h2 := (hash_inj i1 h).1
    have i2 : isT (hashT c0T tu.data.toList) = true := by
      have o1 : Ok tu.data.toList 253 := by rw [hto]; exact hop.1
      exact (ok_hash ok_c0 o1 (by decide)).1
    have h3 := (hash_inj i2 h2).2
    rw [hto] at h3
    exact hne (pub_inj hr hr2 h3).symm
  have o1 : (opn st.data.toList (hk1T r2 eph.data.toList) 0 (hh1T r2 eph.data.toList)).2 = 8 := by
    have h := hO.st.1
    rw [hB.e_st] at h ⊢
    rw [open_seal h, if_neg (fun z => a2 z.2)]
  unfold hearR
  rw [if_pos ⟨hr2.1, by rw [right_init (ok_fit hO.eph (by decide)) (ok_fit hO.st (by decide)) (ok_fit hO.se (by decide))]; rfl, hpe⟩]
  show hear4 r2 eph.data.toList st.data.toList se.data.toList = _
  unfold hear4
  rw [o1, if_neg (by decide)]
theorem hear_other {s e tu : ByteArray} {N : Nat} {eph u c1 h1 k1 p st c2 h2 u2 k2 nb se c3 h3 : ByteArray} {r2 : ByteArray} {r : Txt} (x : Int) (W : World) (hB : BegT s e tu N eph u c1 h1 k1 p st c2 h2 u2 k2 nb se c3 h3) (hN : N ≤ most) (hs : Ok s.data.toList 250) (he : Ok e.data.toList 250) (hr : Ok r 250) (hto : tu.data.toList = pubT r) (hr2 : Ok r2.data.toList 250) (hne : r2.data.toList ≠ r) : Calls Try.prog 70 #[.string r2, mval (initM x eph st se)] W (numA.Told W (.tuple #[.agg (heardV 0 ⟨#[]⟩ 0 ⟨#[]⟩ ⟨#[]⟩ ⟨#[]⟩), .int .i64 8])) := by
  have hop := ok_pub hr (by decide)
  have hO := beg_sizes hB hN hs he (by rw [hto]; exact hop.1) (by rw [hto]; exact pubB_of hr (by decide))
  have hR := beg_other (x := x) hB hN hs he hr hto hr2 hne
  have z1 : eph.size ≤ 10000 := by have := hO.eph.2; rw [tl_size] at this; omega
  have z2 : st.size ≤ 10000 := by have := hO.st.2; rw [tl_size] at this; omega
  have z3 : se.size ≤ 10000 := by have := hO.se.2; rw [tl_size] at this; omega
  have z4 : r2.size ≤ 10000000 := by have := hr2.2; rw [tl_size] at this; omega
  have h := hear_any r2 (initM x eph st se) W (fun h0 => by rw [hR] at h0; cases h0) (fun i => Nat.le_trans (init_sz z1 z2 z3 (by decide) i) (by decide)) z4
  rw [hv_no hR (by decide)] at h
  exact h


end Go.Proofs.Ytbjnejnjlidiaaa.noS
