/- Macs: plain facts. -/
import Derived.Test.YtbjnejnjlidiaaaWrH
import Derived.Test.YtbjnejnjlidiaaaMkA
namespace Go.Proofs.Ytbjnejnjlidiaaa.maA
open Go.RowKit kit numA numB numC numE tmA tmB tmC tmD tmE trA prW prX wrA wrB wrC wrD wrE wrF wrG wrH wrI wrJ wrK wrL mkA
set_option linter.unusedVariables false
set_option linter.unusedSimpArgs false

/-- "mac1", "cookie". -/
def doorN : Txt := [120, 54, 100, 54, 49, 54, 51, 51, 49]
def jarN : Txt := [120, 54, 51, 54, 102, 54, 102, 54, 98, 54, 57, 54, 53]
def zeroT : Txt := [48]
def doorT (p : Txt) : Txt := mkT 7 0 [] [doorN, p]
def jarT (p : Txt) : Txt := mkT 7 0 [] [jarN, p]
def macT (k u : Txt) : Txt := mkT 9 0 [] [k, u]
def pubB (t : Txt) : Bool := (nd t).k == 5
def asksM (m : Msg) : Bool := rightM m && decide (m.k ≤ 2)
def firstT (m : Msg) (p : Txt) : Txt := macT (doorT p) (bodyM m)
def firstB (m : Msg) (p : Txt) : Bool := asksM m && (pubB p && sgn (m.t 11).data.toList (doorT p) (bodyM m))
def secondB (m : Msg) (c : Txt) : Bool := asksM m && sgn (m.t 12).data.toList c (signedM m)
def secondT (m : Msg) (c : Txt) : Txt := if c = [] then zeroT else macT c (signedM m)

theorem doorN_is : isT doorN = true := by decide +kernel
theorem jarN_is : isT jarN = true := by decide +kernel
theorem zeroT_is : isT zeroT = true := by decide +kernel

theorem pub_is {t : Txt} (h : pubB t = true) : isT t = true := by
  rw [pubB, beq_iff_eq] at h
  rcases nd_cases t with ⟨e, _⟩ | ⟨_, _, _, h⟩
  · rw [e] at h; cases h
  · exact h

theorem hash2 {a b : Txt} (ha : isT a = true) (hb : isT b = true) (hl : a.length + b.length ≤ 60000) : isT (mkT 7 0 [] [a, b]) = true ∧ (mkT 7 0 [] [a, b]).length ≤ a.length + b.length + 26 ∧ mkT 7 0 [] [a, b] ≠ [] := by
  have hne : mkT 7 0 [] [a, b] ≠ [] := mk_good (by decide) (by decide) (by decide) (by simp [least]) (by simp [mostk]) (fun h => by cases h) (by simp [ha, hb]) (by simp [total]; omega)
  refine ⟨(mk_isT (by decide)).2 hne, ?_, hne⟩
  have h := mk_le (k := 7) (n := 0) (b := []) (ps := [a, b]) (by decide) (by decide) (by decide)
  simp only [total, List.map_cons, List.map_nil, List.sum_cons, List.sum_nil, List.length_cons, List.length_nil] at h
  omega
theorem mac2 {a b : Txt} (ha : isT a = true) (hb : isT b = true) (hl : a.length + b.length ≤ 60000) : isT (macT a b) = true ∧ (macT a b).length ≤ a.length + b.length + 26 ∧ macT a b ≠ [] := by
  have hne : macT a b ≠ [] := mk_good (by decide) (by decide) (by decide) (by simp [least]) (by simp [mostk]) (fun h => by cases h) (by simp [ha, hb]) (by simp [total]; omega)
  refine ⟨(mk_isT (by decide)).2 hne, ?_, hne⟩
  have h := mk_le (k := 9) (n := 0) (b := []) (ps := [a, b]) (by decide) (by decide) (by decide)
  simp only [total, List.map_cons, List.map_nil, List.sum_cons, List.sum_nil, List.length_cons, List.length_nil] at h
  unfold macT
  omega

theorem mac_ne {k u : Txt} (hk : k.length + u.length ≤ 60000) : macT k u ≠ [] ↔ isT k = true ∧ isT u = true := by
  constructor
  · intro h
    have hp := mk_parts (by decide) (by decide) h
    exact ⟨hp k (by simp), hp u (by simp)⟩
  · exact fun h => (mac2 h.1 h.2 hk).2.2

/-- Texts of a message of so many bytes. -/
def tsz (m : Msg) : Nat := (m.t 4).size + (m.t 5).size + (m.t 6).size + (m.t 7).size + (m.t 8).size + (m.t 9).size + (m.t 10).size + (m.t 11).size + (m.t 12).size

theorem fit_is {t : Txt} (h : fitB t = true) : isT t = true := by
  unfold fitB at h
  rw [Bool.and_eq_true] at h
  exact h.2

theorem rterms_is {m : Msg} (hr : rightM m = true) : ∀ p ∈ rterms m, isT p = true := by
  unfold rightM at hr
  simp only [Bool.and_eq_true] at hr
  exact fun p hp => fit_is (List.all_eq_true.1 hr.2.1 p hp)

theorem asks_r {m : Msg} (h : asksM m = true) : rightM m = true ∧ (m.k = 1 ∨ m.k = 2) := by
  unfold asksM at h
  rw [Bool.and_eq_true] at h
  have := rightM_k h.1
  have h2 : m.k ≤ 2 := of_decide_eq_true h.2
  exact ⟨h.1, by omega⟩

theorem numT_ok {n : Int} (h0 : 0 ≤ n) (h1 : n ≤ (most : Nat)) : isT (numT n) = true ∧ (numT n).length ≤ 21 := by
  have h := num_ok n.toNat (by omega)
  exact ⟨h.2.1, h.2.2.1⟩

/-- What is signed first: of a message that asks. -/
theorem body_ok {m : Msg} (ha : asksM m = true) (hs : 0 ≤ m.s ∧ m.s ≤ 4294967295) (hr : 0 ≤ m.r ∧ m.r ≤ 4294967295) (hz : tsz m ≤ 40000) : isT (bodyM m) = true ∧ (bodyM m).length ≤ tsz m + 200 ∧ bodyM m ≠ [] := by
  obtain ⟨hR, hk⟩ := asks_r ha
  have n1 := numT_ok (n := m.k) (by omega) (by unfold most; omega)
  have n2 := numT_ok (n := m.s) hs.1 (by unfold most; omega)
  have n3 := numT_ok (n := m.r) hr.1 (by unfold most; omega)
  have hp := rterms_is hR
  have e : bodyM m = mkT 11 0 [] ([numT m.k, numT m.s, numT m.r] ++ (rterms m).take ((rterms m).length - 2)) := by
    rw [bodyM_eq, if_pos ⟨hR, by omega⟩]
    rfl
  have hall : ∀ p ∈ [numT m.k, numT m.s, numT m.r] ++ (rterms m).take ((rterms m).length - 2), isT p = true := by
    intro p h
    rcases List.mem_append.1 h with h | h
    · simp at h
      rcases h with rfl | rfl | rfl
      · exact n1.1
      · exact n2.1
      · exact n3.1
    · exact hp p (List.mem_of_mem_take h)
  have ht : total ([numT m.k, numT m.s, numT m.r] ++ (rterms m).take ((rterms m).length - 2)) ≤ 63 + tsz m ∧ ([numT m.k, numT m.s, numT m.r] ++ (rterms m).take ((rterms m).length - 2)).length ≤ 6 := by
    unfold rterms rtexts tsz
    rcases hk with hk | hk
    · rw [if_pos hk]
      simp [total, tl_size]
      have := n1.2; have := n2.2; have := n3.2
      omega
    · rw [if_neg (by omega), if_pos hk]
      simp [total, tl_size]
      have := n1.2; have := n2.2; have := n3.2
      omega
  have hne : bodyM m ≠ [] := by
    rw [e]
    exact mk_good (by decide) (by decide) (by decide) (Nat.zero_le _) (by simp [mostk]; have := ht.2; simp at this; omega) (fun h => by cases h) hall (by omega)
  refine ⟨?_, ?_, hne⟩
  · rw [e]
    rw [e] at hne
    exact (mk_isT (by decide)).2 hne
  · rw [e]
    have h := mk_le (k := 11) (n := 0) (b := []) (ps := [numT m.k, numT m.s, numT m.r] ++ (rterms m).take ((rterms m).length - 2)) (by decide) (by decide) (by decide)
    omega

theorem asks_mac {m : Msg} (ha : asksM m = true) : isT (m.t 11).data.toList = true ∧ isT (m.t 12).data.toList = true := by
  obtain ⟨hR, hk⟩ := asks_r ha
  have hp := rterms_is hR
  unfold rterms rtexts at hp
  rcases hk with hk | hk
  · rw [if_pos hk] at hp
    exact ⟨hp _ (by simp), hp _ (by simp)⟩
  · rw [if_neg (by omega), if_pos hk] at hp
    exact ⟨hp _ (by simp), hp _ (by simp)⟩

theorem signed_ok {m : Msg} (ha : asksM m = true) (hs : 0 ≤ m.s ∧ m.s ≤ 4294967295) (hr : 0 ≤ m.r ∧ m.r ≤ 4294967295) (hz : tsz m ≤ 20000) : isT (signedM m) = true ∧ (signedM m).length ≤ 2 * tsz m + 300 ∧ signedM m = mkT 11 0 [] [bodyM m, (m.t 11).data.toList] := by
  obtain ⟨b1, b2, b3⟩ := body_ok ha hs hr (by omega)
  have e : signedM m = mkT 11 0 [] [bodyM m, (m.t 11).data.toList] := by
    rw [signedM, if_neg b3]
    rfl
  have hm := (asks_mac ha).1
  have hml : (m.t 11).data.toList.length ≤ tsz m := by rw [tl_size]; unfold tsz; omega
  have hne : mkT 11 0 [] [bodyM m, (m.t 11).data.toList] ≠ [] := mk_good (by decide) (by decide) (by decide) (Nat.zero_le _) (by simp [mostk]) (fun h => by cases h) (by simp [b1, hm]) (by simp only [total, List.map_cons, List.map_nil, List.sum_cons, List.sum_nil, List.length_cons, List.length_nil]; omega)
  refine ⟨?_, ?_, e⟩
  · rw [e]
    exact (mk_isT (by decide)).2 hne
  · rw [e]
    have h := mk_le (k := 11) (n := 0) (b := []) (ps := [bodyM m, (m.t 11).data.toList]) (by decide) (by decide) (by decide)
    simp only [total, List.map_cons, List.map_nil, List.sum_cons, List.sum_nil, List.length_cons, List.length_nil] at h
    omega

/-- A message with both sums. -/
def sumsM (m : Msg) (a b : ByteArray) : Msg := (m.put 11 a).put 12 b

theorem sums_row (m : Msg) (a b : ByteArray) : (sumsM m a b).k = m.k ∧ (sumsM m a b).s = m.s ∧ (sumsM m a b).r = m.r ∧ (sumsM m a b).c = m.c ∧ (sumsM m a b).t 11 = a ∧ (sumsM m a b).t 12 = b ∧ ∀ i, i ≠ 11 → i ≠ 12 → (sumsM m a b).t i = m.t i := by
  refine ⟨rfl, rfl, rfl, rfl, ?_, ?_, ?_⟩
  · simp [sumsM, Msg.put]
  · simp [sumsM, Msg.put]
  · intro i h1 h2
    simp [sumsM, Msg.put, h1, h2]

theorem sums_asks {m : Msg} (ha : asksM m = true) {a b : ByteArray} (h1 : fitB a.data.toList = true) (h2 : fitB b.data.toList = true) : asksM (sumsM m a b) = true := by
  obtain ⟨hR, hk⟩ := asks_r ha
  obtain ⟨e1, e2, e3, e4, e5, e6, e7⟩ := sums_row m a b
  unfold asksM
  rw [e1, decide_eq_true (by omega), Bool.and_true]
  unfold rightM at hR ⊢
  simp only [Bool.and_eq_true] at hR ⊢
  refine ⟨by rw [e1]; exact hR.1, ?_, ?_⟩
  · have h := hR.2.1
    unfold rterms rtexts at h ⊢
    rw [e1]
    rcases hk with hk | hk
    · rw [if_pos hk] at h ⊢
      rw [e5, e6, e7 4 (by decide) (by decide), e7 5 (by decide) (by decide), e7 6 (by decide) (by decide)]
      simp only [List.map_cons, List.map_nil, List.all_cons, List.all_nil, Bool.and_true, Bool.and_eq_true] at h ⊢
      exact ⟨h.1, h.2.1, h.2.2.1, h1, h2⟩
    · rw [if_neg (by omega), if_pos hk] at h ⊢
      rw [e5, e6, e7 4 (by decide) (by decide), e7 7 (by decide) (by decide)]
      simp only [List.map_cons, List.map_nil, List.all_cons, List.all_nil, Bool.and_true, Bool.and_eq_true] at h ⊢
      exact ⟨h.1, h.2.1, h1, h2⟩
  · have h := hR.2.2
    rw [eqM_iff] at h ⊢
    unfold keepM at h ⊢
    rw [e1]
    rcases hk with hk | hk
    · rw [if_pos hk] at h ⊢
      simp [e1, e2, e3, e4, e5, e6, e7 4 (by decide) (by decide), e7 5 (by decide) (by decide), e7 6 (by decide) (by decide), e7 7 (by decide) (by decide), e7 8 (by decide) (by decide), e7 9 (by decide) (by decide), e7 10 (by decide) (by decide)] at h ⊢
      exact h
    · rw [if_neg (by omega), if_pos hk] at h ⊢
      simp [e1, e2, e3, e4, e5, e6, e7 4 (by decide) (by decide), e7 5 (by decide) (by decide), e7 6 (by decide) (by decide), e7 7 (by decide) (by decide), e7 8 (by decide) (by decide), e7 9 (by decide) (by decide), e7 10 (by decide) (by decide)] at h ⊢
      exact h

theorem sums_body {m : Msg} (ha : asksM m = true) {a b : ByteArray} (h1 : fitB a.data.toList = true) (h2 : fitB b.data.toList = true) : bodyM (sumsM m a b) = bodyM m := by
  obtain ⟨hR, hk⟩ := asks_r ha
  obtain ⟨hR', hk'⟩ := asks_r (sums_asks ha h1 h2)
  obtain ⟨e1, e2, e3, e4, e5, e6, e7⟩ := sums_row m a b
  have et : (rterms (sumsM m a b)).take ((rterms (sumsM m a b)).length - 2) = (rterms m).take ((rterms m).length - 2) := by
    unfold rterms rtexts
    rw [e1]
    rcases hk with hk | hk
    · simp [hk, e5, e6, e7 4 (by decide) (by decide), e7 5 (by decide) (by decide), e7 6 (by decide) (by decide)]
    · simp [hk, e5, e6, e7 4 (by decide) (by decide), e7 7 (by decide) (by decide)]
  rw [bodyM_eq (sumsM m a b), bodyM_eq m, if_pos ⟨hR', by omega⟩, if_pos ⟨hR, by omega⟩, et, e1, e2, e3]

theorem sums_eq (m : Msg) (a b : ByteArray) : sumsM (sumsM m b b) a b = sumsM m a b := by
  unfold sumsM Msg.put
  simp only [Msg.mk.injEq, true_and]
  funext j
  by_cases h1 : j = 12
  · simp [h1]
  · by_cases h2 : j = 11 <;> simp [h1, h2]

end Go.Proofs.Ytbjnejnjlidiaaa.maA
