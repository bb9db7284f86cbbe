/- Macs: plain facts on sums. -/
import Derived.Test.YtbjnejnjlidiaaaMaG
namespace Go.Proofs.Ytbjnejnjlidiaaa.maI
open Go.RowKit kit numA numB numC numD numE tmA tmB tmC tmD tmE trA trB prR prS prW prX tsA tsB tsF tsI wrA wrB wrC wrD wrE wrF wrG wrH wrI wrJ wrK wrL mkA maA maB maC maD maE maF maG
set_option linter.unusedVariables false
set_option linter.unusedSimpArgs false

theorem size_le_of_any {ps : List Txt} {m : Msg} (h : bigB m ps = false) : (∀ p ∈ ps, p.length ≤ 200) ∧ bytesM m ≤ 3000 := by
  unfold bigB at h
  rw [Bool.or_eq_false_iff, List.any_eq_false] at h
  refine ⟨fun p hp => ?_, ?_⟩
  · have := h.1 p hp
    simp at this
    exact this
  · have := of_decide_eq_false h.2
    omega
theorem ba_ext {a b : ByteArray} (h : a.data.toList = b.data.toList) : a = b := by
  have e : a = ⟨a.data.toList.toArray⟩ := by simp
  have f : b = ⟨b.data.toList.toArray⟩ := by simp
  rw [e, f, h]

theorem tsz_bytes (m : Msg) : bytesM m = (tsz m : Int) := by
  unfold bytesM tsz
  simp only [Int.natCast_add]

theorem sgn_beq {t : ByteArray} {key u : Txt} {F : ByteArray} (hF : F.data.toList = macT key u) (hk : isT key = true) (hu : isT u = true) (hl : key.length + u.length ≤ 60000) : sgn t.data.toList key u = (t.toList == F.toList) := by
  rw [Bool.eq_iff_iff, sgn_iff hk hu hl, beq_iff_eq, byteArray_toList, byteArray_toList, hF]
  rfl

theorem door_ok {p : Txt} (hp : pubB p = true) (hl : p.length ≤ 10000) : isT (doorT p) = true ∧ (doorT p).length ≤ p.length + 40 := by
  have h := hash2 doorN_is (pub_is hp) (by simp [doorN]; omega)
  exact ⟨h.1, by have := h.2.1; simp [doorN] at this; unfold doorT; simp only [doorN]; omega⟩

theorem first_law {m : Msg} {p : Txt} {F : ByteArray} (ha : asksM m = true) (hp : pubB p = true) (hF : F.data.toList = firstT m p) (hs : 0 ≤ m.s ∧ m.s ≤ 4294967295) (hr : 0 ≤ m.r ∧ m.r ≤ 4294967295) (hz : tsz m ≤ 20000) (hl : p.length ≤ 10000) : firstB m p = ((m.t 11).toList == F.toList) := by
  obtain ⟨b1, b2, b3⟩ := body_ok ha hs hr (by omega)
  obtain ⟨d1, d2⟩ := door_ok hp hl
  rw [firstB, ha, hp, Bool.true_and, Bool.true_and, sgn_beq hF d1 b1 (by omega)]

theorem second_law {m : Msg} {c : Txt} {F : ByteArray} (ha : asksM m = true) (hc : isT c = true) (hF : F.data.toList = secondT m c) (hs : 0 ≤ m.s ∧ m.s ≤ 4294967295) (hr : 0 ≤ m.r ∧ m.r ≤ 4294967295) (hz : tsz m ≤ 20000) (hl : c.length ≤ 10000) : secondB m c = ((m.t 12).toList == F.toList) := by
  obtain ⟨b1, b2, b3⟩ := signed_ok ha hs hr hz
  rw [secondT, if_neg (isT_ne hc)] at hF
  rw [secondB, ha, Bool.true_and, sgn_beq hF hc b1 (by omega)]

theorem second_no {m : Msg} {c : Txt} (hc : isT c = false) : secondB m c = false := by
  unfold secondB
  cases h : sgn (m.t 12).data.toList c (signedM m)
  · rw [Bool.and_false]
  · have := (sgn_parts h).1
    rw [hc] at this
    cases this
theorem first_no {m : Msg} {p : Txt} (h : asksM m = false ∨ pubB p = false) : firstB m p = false := by
  unfold firstB
  rcases h with h | h <;> rw [h]
  · rfl
  · rw [Bool.false_and, Bool.and_false]
theorem second_not {m : Msg} {c : Txt} (h : asksM m = false) : secondB m c = false := by rw [secondB, h]; rfl

theorem fit_of {t : Txt} (h : isT t = true) (hl : t.length ≤ 65535) : fitB t = true := by rw [fitB, h, decide_eq_true hl]; rfl
theorem zero_fit : fitB (⟨#[48]⟩ : ByteArray).data.toList = true := fit_of zeroT_is (by decide)

/-- The first sum of a message. -/
theorem firstT_ok {m : Msg} {p : Txt} (ha : asksM m = true) (hp : pubB p = true) (hs : 0 ≤ m.s ∧ m.s ≤ 4294967295) (hr : 0 ≤ m.r ∧ m.r ≤ 4294967295) (hz : tsz m ≤ 20000) (hl : p.length ≤ 10000) : fitB (firstT m p) = true ∧ (firstT m p).length ≤ tsz m + p.length + 300 ∧ firstT m p ≠ [] := by
  obtain ⟨b1, b2, b3⟩ := body_ok ha hs hr (by omega)
  obtain ⟨d1, d2⟩ := door_ok hp hl
  obtain ⟨e1, e2, e3⟩ := mac2 d1 b1 (by omega)
  rw [show firstT m p = macT (doorT p) (bodyM m) from rfl]
  exact ⟨fit_of e1 (by omega), by omega, e3⟩

theorem first_put {m : Msg} {p : Txt} (ha : asksM m = true) {a b : ByteArray} (h1 : fitB a.data.toList = true) (h2 : fitB b.data.toList = true) : firstT (sumsM m a b) p = firstT m p := by
  rw [firstT, firstT, sums_body ha h1 h2]

theorem tsz_sums (m : Msg) (a b : ByteArray) : tsz (sumsM m a b) ≤ tsz m + a.size + b.size := by
  obtain ⟨-, -, -, -, e5, e6, e7⟩ := sums_row m a b
  unfold tsz
  rw [e5, e6, e7 4 (by decide) (by decide), e7 5 (by decide) (by decide), e7 6 (by decide) (by decide), e7 7 (by decide) (by decide), e7 8 (by decide) (by decide), e7 9 (by decide) (by decide), e7 10 (by decide) (by decide)]
  omega

theorem signed_sums (m : Msg) (ha : asksM m = true) {a b b' : ByteArray} (h1 : fitB a.data.toList = true) (h2 : fitB b.data.toList = true) (h3 : fitB b'.data.toList = true) : signedM (sumsM m a b) = signedM (sumsM m a b') := by
  unfold signedM
  rw [sums_body ha h1 h2, sums_body ha h1 h3, (sums_row m a b).2.2.2.2.1, (sums_row m a b').2.2.2.2.1]

/-- Whose first sum it is. -/
theorem first_who {m : Msg} {p q : Txt} {b1 b2 : ByteArray} (ha : asksM m = true) (hp : pubB p = true) (hb1 : b1.data.toList = firstT m p) (hf2 : fitB b2.data.toList = true) (hs : 0 ≤ m.s ∧ m.s ≤ 4294967295) (hr : 0 ≤ m.r ∧ m.r ≤ 4294967295) (hz : tsz m ≤ 20000) (hl : p.length ≤ 10000) : firstB (sumsM m b1 b2) q = true ↔ q = p := by
  obtain ⟨f1, f2, f3⟩ := firstT_ok ha hp hs hr hz hl
  obtain ⟨c1, c2, c3⟩ := body_ok ha hs hr (by omega)
  obtain ⟨d1, d2⟩ := door_ok hp hl
  rw [← hb1] at f1
  have hA := sums_asks ha f1 hf2
  have e5 : (sumsM m b1 b2).t 11 = b1 := (sums_row m b1 b2).2.2.2.2.1
  constructor
  · intro h
    simp only [firstB, Bool.and_eq_true, e5, sums_body ha f1 hf2] at h
    obtain ⟨-, hq, hsg⟩ := h
    obtain ⟨k1, k2, k3⟩ := sgn_parts hsg
    rw [hb1] at k3
    have i1 := (mk_inj (k := 9) (b := []) (b' := []) (ps := [doorT p, bodyM m]) (by decide) (by decide) (by decide) (by decide) f3 k3).1
    rw [srt_not (by decide), srt_not (by decide)] at i1
    simp only [List.cons.injEq, and_true] at i1
    have dn : doorT p ≠ [] := isT_ne d1
    have i2 := (mk_inj (k := 7) (by decide) (by decide) (by decide) (by decide) dn i1).1
    rw [srt_not (by decide), srt_not (by decide)] at i2
    simp only [List.cons.injEq, and_true, true_and] at i2
    exact i2.symm
  · rintro rfl
    simp only [firstB, hA, hp, Bool.true_and, e5, sums_body ha f1 hf2]
    exact (sgn_iff d1 c1 (by omega)).2 hb1

theorem second_who {m : Msg} {c q : Txt} {b1 b2 : ByteArray} (ha : asksM m = true) (hc : isT c = true) (hf1 : fitB b1.data.toList = true) (hb2 : b2.data.toList = macT c (signedM (sumsM m b1 ⟨#[48]⟩))) (hs : 0 ≤ m.s ∧ m.s ≤ 4294967295) (hr : 0 ≤ m.r ∧ m.r ≤ 4294967295) (hz : tsz m + b1.size ≤ 10000) (hl : c.length ≤ 10000) : secondB (sumsM m b1 b2) q = true ↔ q = c := by
  have hA0 := sums_asks ha hf1 zero_fit
  have ht := tsz_sums m b1 ⟨#[48]⟩
  rw [show (⟨#[48]⟩ : ByteArray).size = 1 from rfl] at ht
  obtain ⟨c1, c2, c3⟩ := signed_ok hA0 hs hr (by omega)
  obtain ⟨e1, e2, e3⟩ := mac2 hc c1 (by omega)
  have f2 : fitB b2.data.toList = true := by rw [hb2]; exact fit_of e1 (by omega)
  have hA := sums_asks ha hf1 f2
  have e6 : (sumsM m b1 b2).t 12 = b2 := (sums_row m b1 b2).2.2.2.2.2.1
  have hsg : signedM (sumsM m b1 b2) = signedM (sumsM m b1 ⟨#[48]⟩) := signed_sums m ha hf1 f2 zero_fit
  constructor
  · intro h
    simp only [secondB, Bool.and_eq_true, e6, hsg] at h
    obtain ⟨k1, k2, k3⟩ := sgn_parts h.2
    rw [hb2] at k3
    have i1 := (mk_inj (k := 9) (by decide) (by decide) (by decide) (by decide) e3 k3).1
    rw [srt_not (by decide), srt_not (by decide)] at i1
    simp only [List.cons.injEq, and_true] at i1
    exact i1.symm
  · rintro rfl
    simp only [secondB, hA, Bool.true_and, e6, hsg]
    exact (sgn_iff hc c1 (by omega)).2 hb2

theorem second_zero {m : Msg} {q : Txt} {b1 : ByteArray} : secondB (sumsM m b1 ⟨#[48]⟩) q = false := by
  unfold secondB
  rw [(sums_row m b1 ⟨#[48]⟩).2.2.2.2.2.1]
  have : ∀ u, sgn (⟨#[48]⟩ : ByteArray).data.toList q u = false := by
    intro u
    have e : nd (⟨#[48]⟩ : ByteArray).data.toList = ⟨1, 0, [], []⟩ := by decide +kernel
    rw [sgn, e]
    rfl
  rw [this, Bool.and_false]

/-- What the document makes with both sums is the program's. -/
theorem sums_ref (m : Msg) (z a b : ByteArray) : ((sumsM m z z).put 11 a).put 12 b = sumsM m a b := by
  unfold sumsM Msg.put
  simp only [Msg.mk.injEq, true_and]
  funext j
  by_cases h1 : j = 12
  · simp [h1]
  · by_cases h2 : j = 11 <;> simp [h1, h2]
theorem sums_ref1 (m : Msg) (z a : ByteArray) : (sumsM m z z).put 11 a = sumsM m a z := by
  unfold sumsM Msg.put
  simp only [Msg.mk.injEq, true_and]
  funext j
  by_cases h1 : j = 12
  · simp [h1]
  · by_cases h2 : j = 11 <;> simp [h1, h2]
theorem eqM_self (m : Msg) : eqM m m = true := by
  unfold eqM
  simp

end Go.Proofs.Ytbjnejnjlidiaaa.maI
