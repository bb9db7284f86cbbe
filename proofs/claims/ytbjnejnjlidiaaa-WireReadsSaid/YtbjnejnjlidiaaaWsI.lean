/- Wire: what is read is printed as it was. -/
import Derived.Test.YtbjnejnjlidiaaaWsF
namespace Go.Proofs.Ytbjnejnjlidiaaa.wsI
open Go.RowKit kit numA numB numC numD numE numF tmA tmD trA trB prR prS prW prX wrA wrB wrC wrD wrE wrF wrG wrH wrI wrJ wrK wrM wrN wrO wrQ wrR wrS wrT wrU wrV wrW wrZ wsF
set_option linter.unusedVariables false
set_option linter.unusedSimpArgs false

theorem leb_vb : ∀ (l : Txt), leb l.length (vb l) = l
  | [] => rfl
  | b :: l => by
    have hb := UInt8.toNat_lt b
    rw [List.length_cons, leb, vb, show (b.toNat + 256 * vb l) / 256 = vb l from by omega, leb_vb l, show (b.toNat + 256 * vb l) % 256 = b.toNat from by omega]
    simp
theorem leb_vb' {l : Txt} {n : Nat} (h : l.length = n) : leb n (vb l) = l := by subst h; exact leb_vb l
theorem num_inv {f : Fl} {n : Nat} (hf : (∃ i, f = .n i ∧ n = 4) ∨ (f = .c ∧ n = 8)) {fs : List Fl} {l : Txt} {m M : Msg} (h : fin (rowR (f :: fs) (l, 0, m)) = (0, M)) : ∃ (u : Nat) (l' : Txt), u < 256 ^ n ∧ l = leb n u ++ l' ∧ fin (rowR fs (l', 0, setN f (u : Nat) m)) = (0, M) := by
  by_cases hl : l.length < n
  · rw [num_short hf _ _ _ hl] at h
    cases h
  · rw [num_ok hf _ _ _ hl] at h
    have e : (l.take n).length = n := by rw [List.length_take]; omega
    refine ⟨vb (l.take n), l.drop n, ?_, ?_, h⟩
    · have h1 := wrS.vb_lt (l.take n)
      rw [e] at h1
      exact h1
    · rw [leb_vb' e, List.take_append_drop]
theorem txt_inv {i : Nat} {fs : List Fl} {l : Txt} {m M : Msg} (h : fin (rowR (.t i :: fs) (l, 0, m)) = (0, M)) : ∃ (x : ByteArray) (l' : Txt), x.size ≤ 65535 ∧ isT x.data.toList = true ∧ l = leb 2 x.size ++ (x.data.toList ++ l') ∧ fin (rowR fs (l', 0, m.put i x)) = (0, M) := by
  by_cases hl : l.length < 2
  · rw [txt_short i _ _ _ (.inl hl)] at h
    cases h
  by_cases hl2 : l.length < 2 + vb (l.take 2)
  · rw [txt_short i _ _ _ (.inr hl2)] at h
    cases h
  by_cases hT : isT ((l.drop 2).take (vb (l.take 2))) = true
  · rw [txt_ok i _ _ _ hl hl2 hT] at h
    have e : (l.take 2).length = 2 := by rw [List.length_take]; omega
    have es : (⟨((l.drop 2).take (vb (l.take 2))).toArray⟩ : ByteArray).size = vb (l.take 2) := by
      rw [← tl_size]
      show ((l.drop 2).take (vb (l.take 2))).length = _
      rw [List.length_take, List.length_drop]
      omega
    refine ⟨_, _, ?_, ?_, ?_, h⟩
    · rw [es]
      exact vb_two l
    · exact hT
    · rw [es, leb_vb' e]
      show l = l.take 2 ++ ((l.drop 2).take _ ++ l.drop _)
      rw [← List.drop_drop, List.take_append_drop, List.take_append_drop]
  · rw [txt_bad i _ _ _ hl hl2 (by simpa using hT)] at h
    cases h
theorem end_inv {l : Txt} {m M : Msg} (h : fin (l, 0, m) = (0, M)) : l = [] ∧ M = m := by
  by_cases hl : l = []
  · rw [fin_ok rfl hl] at h
    exact ⟨hl, (Prod.mk.inj h).2.symm⟩
  · rw [fin_left rfl hl] at h
    cases h
theorem head_inv {bs : Txt} {M : Msg} (h : readM bs = (0, M)) : ∃ (k : Nat) (r : Txt), (k = 1 ∨ k = 2 ∨ k = 3 ∨ k = 4) ∧ bs = [UInt8.ofNat k, 0, 0, 0] ++ r ∧ fin (rowR (rowOf (k : Int)) (r, 0, zeroM (k : Int))) = (0, M) := by
  cases bs with
  | nil => rw [read_nil] at h; cases h
  | cons k t =>
    by_cases hk : k.toNat < 1 ∨ 4 < k.toNat
    · rw [read_kind k t hk] at h; cases h
    have hk' : 1 ≤ k.toNat ∧ k.toNat ≤ 4 := by omega
    have bad : ∀ i, i < 3 → t ≠ List.replicate i 0 := fun i hi e => by
      rw [e, read_short k i hk' hi] at h; cases h
    have bad2 : ∀ i x r, i < 3 → x ≠ 0 → t ≠ List.replicate i 0 ++ x :: r := fun i x r hi hx e => by
      rw [e, read_byte k x r i hk' hi hx] at h; cases h
    rcases t with _ | ⟨a, t⟩
    · exact absurd rfl (bad 0 (by decide))
    by_cases ha : a = 0
    case neg => exact absurd rfl (bad2 0 a t (by decide) ha)
    subst ha
    rcases t with _ | ⟨a, t⟩
    · exact absurd rfl (bad 1 (by decide))
    by_cases ha : a = 0
    case neg => exact absurd rfl (bad2 1 a t (by decide) ha)
    subst ha
    rcases t with _ | ⟨a, t⟩
    · exact absurd rfl (bad 2 (by decide))
    by_cases ha : a = 0
    case neg => exact absurd rfl (bad2 2 a t (by decide) ha)
    subst ha
    rw [read_head k t hk'] at h
    refine ⟨k.toNat, t, by omega, ?_, h⟩
    simp
theorem fit_of {x : ByteArray} (hs : x.size ≤ 65535) (hT : isT x.data.toList = true) : fitB x.data.toList = true := by
  unfold fitB
  rw [tl_size, hT, decide_eq_true hs]
  rfl
/-- What is read without an error is right, and is printed as it was. -/
theorem read_inv {bs : Txt} {m : Msg} (h : readM bs = (0, m)) : rightM m = true ∧ outB m (rowOf m.k) = bs ∧ (∀ i, (m.t i).size ≤ bs.length) ∧ (0 ≤ m.s ∧ m.s ≤ 4294967295) ∧ (0 ≤ m.r ∧ m.r ≤ 4294967295) ∧ (0 ≤ m.c ∧ m.c ≤ (most : Nat)) := by
  obtain ⟨k, r, hk, rfl, g⟩ := head_inv h
  clear h
  have h := g
  clear g
  have h4 : ∀ {u : Nat}, u < 256 ^ 4 → ((u : Nat) : Int) ≤ 4294967295 := fun h => by omega
  have h8 : ∀ {u : Nat}, u < 256 ^ 8 → ((u : Nat) : Int) ≤ (most : Nat) := fun h => by unfold most; omega
  have z0 : (0 : Int) ≤ (most : Nat) := by unfold most; omega
  rcases hk with rfl | rfl | rfl | rfl
  · rw [show rowOf ((1 : Nat) : Int) = [.n 1, .t 4, .t 5, .t 6, .t 11, .t 12] from rfl] at h
    obtain ⟨u0, r, hu0, rfl, g⟩ := num_inv (.inl ⟨_, rfl, rfl⟩) h
    clear h
    have h := g
    clear g
    obtain ⟨x0, r, hx0, ht0, rfl, g⟩ := txt_inv h
    clear h
    have h := g
    clear g
    have hf0 := fit_of hx0 ht0
    obtain ⟨x1, r, hx1, ht1, rfl, g⟩ := txt_inv h
    clear h
    have h := g
    clear g
    have hf1 := fit_of hx1 ht1
    obtain ⟨x2, r, hx2, ht2, rfl, g⟩ := txt_inv h
    clear h
    have h := g
    clear g
    have hf2 := fit_of hx2 ht2
    obtain ⟨x3, r, hx3, ht3, rfl, g⟩ := txt_inv h
    clear h
    have h := g
    clear g
    have hf3 := fit_of hx3 ht3
    obtain ⟨x4, r, hx4, ht4, rfl, g⟩ := txt_inv h
    clear h
    have h := g
    clear g
    have hf4 := fit_of hx4 ht4
    obtain ⟨rfl, rfl⟩ := end_inv h
    clear h
    refine ⟨?_, ?_, ?_, ?_, ?_, ?_⟩
    · simp [rightM, rterms, rtexts, eqM, keepM, Msg.put, setN, zeroM, hf0, hf1, hf2, hf3, hf4]
    · simp [outB, headB, rowOf, fB, Msg.put, setN, zeroM]
    · intro i
      simp only [Msg.put, setN, zeroM]
      repeat' split
      all_goals first | exact Nat.zero_le _ | (simp only [List.length_append, tl_size]; omega)
    · simp [Msg.put, setN, zeroM]
      try omega
    · simp [Msg.put, setN, zeroM]
      try omega
    · simp [Msg.put, setN, zeroM]
      first | done | exact Int.ofNat_le.1 (h8 hu1) | exact h8 hu1
  · rw [show rowOf ((2 : Nat) : Int) = [.n 1, .n 2, .t 4, .t 7, .t 11, .t 12] from rfl] at h
    obtain ⟨u0, r, hu0, rfl, g⟩ := num_inv (.inl ⟨_, rfl, rfl⟩) h
    clear h
    have h := g
    clear g
    obtain ⟨u1, r, hu1, rfl, g⟩ := num_inv (.inl ⟨_, rfl, rfl⟩) h
    clear h
    have h := g
    clear g
    obtain ⟨x0, r, hx0, ht0, rfl, g⟩ := txt_inv h
    clear h
    have h := g
    clear g
    have hf0 := fit_of hx0 ht0
    obtain ⟨x1, r, hx1, ht1, rfl, g⟩ := txt_inv h
    clear h
    have h := g
    clear g
    have hf1 := fit_of hx1 ht1
    obtain ⟨x2, r, hx2, ht2, rfl, g⟩ := txt_inv h
    clear h
    have h := g
    clear g
    have hf2 := fit_of hx2 ht2
    obtain ⟨x3, r, hx3, ht3, rfl, g⟩ := txt_inv h
    clear h
    have h := g
    clear g
    have hf3 := fit_of hx3 ht3
    obtain ⟨rfl, rfl⟩ := end_inv h
    clear h
    refine ⟨?_, ?_, ?_, ?_, ?_, ?_⟩
    · simp [rightM, rterms, rtexts, eqM, keepM, Msg.put, setN, zeroM, hf0, hf1, hf2, hf3]
    · simp [outB, headB, rowOf, fB, Msg.put, setN, zeroM]
    · intro i
      simp only [Msg.put, setN, zeroM]
      repeat' split
      all_goals first | exact Nat.zero_le _ | (simp only [List.length_append, tl_size]; omega)
    · simp [Msg.put, setN, zeroM]
      try omega
    · simp [Msg.put, setN, zeroM]
      try omega
    · simp [Msg.put, setN, zeroM]
      first | done | exact Int.ofNat_le.1 (h8 hu1) | exact h8 hu1
  · rw [show rowOf ((3 : Nat) : Int) = [.n 2, .t 8, .t 9] from rfl] at h
    obtain ⟨u0, r, hu0, rfl, g⟩ := num_inv (.inl ⟨_, rfl, rfl⟩) h
    clear h
    have h := g
    clear g
    obtain ⟨x0, r, hx0, ht0, rfl, g⟩ := txt_inv h
    clear h
    have h := g
    clear g
    have hf0 := fit_of hx0 ht0
    obtain ⟨x1, r, hx1, ht1, rfl, g⟩ := txt_inv h
    clear h
    have h := g
    clear g
    have hf1 := fit_of hx1 ht1
    obtain ⟨rfl, rfl⟩ := end_inv h
    clear h
    refine ⟨?_, ?_, ?_, ?_, ?_, ?_⟩
    · simp [rightM, rterms, rtexts, eqM, keepM, Msg.put, setN, zeroM, hf0, hf1]
    · simp [outB, headB, rowOf, fB, Msg.put, setN, zeroM]
    · intro i
      simp only [Msg.put, setN, zeroM]
      repeat' split
      all_goals first | exact Nat.zero_le _ | (simp only [List.length_append, tl_size]; omega)
    · simp [Msg.put, setN, zeroM]
      try omega
    · simp [Msg.put, setN, zeroM]
      try omega
    · simp [Msg.put, setN, zeroM]
      first | done | exact Int.ofNat_le.1 (h8 hu1) | exact h8 hu1
  · rw [show rowOf ((4 : Nat) : Int) = [.n 2, .c, .t 10] from rfl] at h
    obtain ⟨u0, r, hu0, rfl, g⟩ := num_inv (.inl ⟨_, rfl, rfl⟩) h
    clear h
    have h := g
    clear g
    obtain ⟨u1, r, hu1, rfl, g⟩ := num_inv (.inr ⟨rfl, rfl⟩) h
    clear h
    have h := g
    clear g
    obtain ⟨x0, r, hx0, ht0, rfl, g⟩ := txt_inv h
    clear h
    have h := g
    clear g
    have hf0 := fit_of hx0 ht0
    obtain ⟨rfl, rfl⟩ := end_inv h
    clear h
    refine ⟨?_, ?_, ?_, ?_, ?_, ?_⟩
    · simp [rightM, rterms, rtexts, eqM, keepM, Msg.put, setN, zeroM, hf0]
    · simp [outB, headB, rowOf, fB, Msg.put, setN, zeroM]
    · intro i
      simp only [Msg.put, setN, zeroM]
      repeat' split
      all_goals first | exact Nat.zero_le _ | (simp only [List.length_append, tl_size]; omega)
    · simp [Msg.put, setN, zeroM]
      try omega
    · simp [Msg.put, setN, zeroM]
      try omega
    · simp [Msg.put, setN, zeroM]
      first | done | exact Int.ofNat_le.1 (h8 hu1) | exact h8 hu1

end Go.Proofs.Ytbjnejnjlidiaaa.wsI
