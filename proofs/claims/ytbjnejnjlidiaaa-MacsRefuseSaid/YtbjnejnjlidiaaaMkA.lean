/- Plain facts on terms that are made. No condition beside those that each theorem names. -/
import Derived.Test.YtbjnejnjlidiaaaPrX
namespace Go.Proofs.Ytbjnejnjlidiaaa.mkA
open Go.RowKit numA numB numC numE tmA tmB tmC tmD tmE prX
set_option linter.unusedVariables false
set_option linter.unusedSimpArgs false

/-- What is made is never longer than a term may be. -/
theorem mk_most {k n : Nat} {b : Txt} {ps : List Txt} (hn : n ≤ most) : (mkT k n b ps).length ≤ 65536 := by
  by_cases h : mkT k n b ps = []
  · rw [h]; exact Nat.zero_le _
  · exact (rdT_iff.1 (read_make hn h)).2

theorem mk_isT {k n : Nat} {b : Txt} {ps : List Txt} (hn : n ≤ most) : isT (mkT k n b ps) = true ↔ mkT k n b ps ≠ [] := by
  constructor
  · intro h e
    rw [e] at h
    exact absurd h (by decide)
  · intro h
    rw [isT, read_make hn h]
    rfl

theorem join_le : ∀ ps : List Txt, (join ps).length ≤ total ps + ps.length
  | [] => Nat.zero_le _
  | [p] => by simp [join, total]
  | p :: q :: r => by
    have h := join_le (q :: r)
    rw [join, List.length_append, List.length_cons]
    simp only [total, List.map_cons, List.sum_cons, List.length_cons] at h ⊢
    omega

theorem pre_le {k n : Nat} (hn : n ≤ most) : (pre k n).length ≤ 21 := by
  unfold pre
  split
  · have := dec_short hn
    rw [List.length_append, List.length_singleton]
    omega
  · exact Nat.zero_le _

theorem text_le {k n : Nat} {ps : List Txt} (hn : n ≤ most) : (letter k :: 40 :: (pre k n ++ (join (srt k ps) ++ [41]))).length ≤ total ps + ps.length + 24 := by
  have h1 := join_le (srt k ps)
  have h2 := pre_le (k := k) hn
  rw [total_srt, srt_len] at h1
  simp only [List.length_cons, List.length_append, List.length_nil]
  omega

theorem mk_le {k n : Nat} {b : Txt} {ps : List Txt} (h5 : 5 ≤ k) (h11 : k ≤ 11) (hn : n ≤ most) : (mkT k n b ps).length ≤ total ps + ps.length + 24 := by
  rw [mk_br h5 h11]
  split
  · exact text_le hn
  · exact Nat.zero_le _

/-- Of terms that are short enough something is made. -/
theorem mk_good {k n : Nat} {b : Txt} {ps : List Txt} (h5 : 5 ≤ k) (h11 : k ≤ 11) (hn : n ≤ most) (h1 : least k ≤ ps.length) (h2 : ps.length ≤ mostk k) (h3 : numbered k = true → lowk k ≤ n ∧ n ≤ highk k) (hp : ∀ p ∈ ps, isT p = true) (ht : total ps + ps.length + 24 ≤ 65536) : mkT k n b ps ≠ [] := by
  rw [mk_br h5 h11, if_pos ⟨h1, h2, h3, hp, by omega, by have := text_le (k := k) (ps := ps) hn; omega⟩]
  exact List.cons_ne_nil _ _

/-- Where something is made, all parts are terms. -/
theorem mk_parts {k n : Nat} {b : Txt} {ps : List Txt} (h5 : 5 ≤ k) (h11 : k ≤ 11) (h : mkT k n b ps ≠ []) : ∀ p ∈ ps, isT p = true := by
  rw [mk_br h5 h11] at h
  by_cases hf : fitsB k n ps
  · exact hf.2.2.2.1
  · exact absurd (if_neg hf) h

theorem isT_len {t : Txt} (h : isT t = true) : t.length ≤ 65536 := (isT_iff.1 h).2
theorem isT_ne {t : Txt} (h : isT t = true) : t ≠ [] := fun e => by rw [e] at h; exact absurd h (by decide)

theorem mk_arg {k n : Nat} {b : Txt} {ps : List Txt} (h5 : 5 ≤ k) (h11 : k ≤ 11) (hk : numbered k = false) : mkT k n b ps = mkT k 0 [] ps := by
  rw [mk_br h5 h11, mk_br h5 h11]
  have e : fitsB k n ps ↔ fitsB k 0 ps := by
    unfold fitsB pre
    rw [hk]
    simp
  unfold pre
  rw [hk]
  by_cases h : fitsB k n ps
  · rw [if_pos h, if_pos (e.1 h)]; rfl
  · rw [if_neg h, if_neg (fun q => h (e.2 q))]

theorem nd_back {t : Txt} (h : (nd t).k ≠ 0) : mkT (nd t).k (nd t).n (nd t).b (nd t).ps = t := by
  rcases nd_cases t with ⟨e, _⟩ | ⟨_, _, hr, _⟩
  · rw [e] at h; exact absurd rfl h
  · exact make_read hr

theorem nd_two {t : Txt} {k : Nat} (hk : (nd t).k = k) (h : k = 6 ∨ k = 8 ∨ k = 9) : (nd t).ps = [(nd t).ps.getD 0 [], (nd t).ps.getD 1 []] := by
  refine two_of ?_
  have := nd_right (t := t) (by omega)
  rw [hk] at this
  unfold right at this
  rw [if_neg (by omega), if_pos h] at this
  simpa using this

/-- What is signed by a key: the one term. -/
theorem sgn_iff {t key u : Txt} (hk : isT key = true) (hu : isT u = true) (hl : key.length + u.length ≤ 60000) : sgn t key u = true ↔ t = mkT 9 0 [] [key, u] := by
  have hne : mkT 9 0 [] [key, u] ≠ [] := mk_good (by decide) (by decide) (by decide) (by simp [least]) (by simp [mostk]) (fun h => by cases h) (by simp [hk, hu]) (by simp [total]; omega)
  constructor
  · intro h
    simp only [sgn, Bool.and_eq_true, beq_iff_eq] at h
    obtain ⟨⟨h9, hq⟩, hr⟩ := h
    have e := nd_back (t := t) (by omega)
    rw [h9, mk_arg (by decide) (by decide) rfl, nd_two h9 (by omega), hq, hr] at e
    exact e.symm
  · rintro rfl
    rw [sgn, nd_make (by decide) hne]
    simp [nodeOf, srt]

theorem sgn_parts {t key u : Txt} (h : sgn t key u = true) : isT key = true ∧ isT u = true ∧ t = mkT 9 0 [] [key, u] := by
  simp only [sgn, Bool.and_eq_true, beq_iff_eq] at h
  obtain ⟨⟨h9, hq⟩, hr⟩ := h
  have hp := nd_two h9 (by omega)
  have e := nd_back (t := t) (by omega)
  rw [h9, mk_arg (by decide) (by decide) rfl, hp, hq, hr] at e
  refine ⟨?_, ?_, e.symm⟩
  · rw [← hq]; exact (nd_parts (by rw [hp]; simp)).1
  · rw [← hr]; exact (nd_parts (by rw [hp]; simp)).1

/-- Parts of what was made of parts. -/
theorem mk_inj {k n n' : Nat} {b b' : Txt} {ps qs : List Txt} (h5 : 5 ≤ k) (h11 : k ≤ 11) (hn : n ≤ most) (hn' : n' ≤ most) (hne : mkT k n b ps ≠ []) (h : mkT k n b ps = mkT k n' b' qs) : srt k ps = srt k qs ∧ (k = 8 ∨ k = 10 → n = n') := by
  have e := nd_make hn hne
  rw [h] at hne e
  rw [nd_make hn' hne] at e
  simp only [nodeOf, Nd.mk.injEq] at e
  obtain ⟨-, e1, -, e2⟩ := e
  refine ⟨e2.symm, fun hk => ?_⟩
  rw [if_pos (by omega), if_pos (by omega)] at e1
  exact e1.symm

theorem srt_not {k : Nat} {ps : List Txt} (h : k ≠ 6) : srt k ps = ps := by
  unfold srt
  rw [if_neg (fun q => h q.1)]

/-- Numbers as terms. -/
theorem num_ok (n : Nat) (hn : n ≤ most) : mkT 3 n [] [] = 110 :: dec n ∧ isT (mkT 3 n [] []) = true ∧ (mkT 3 n [] []).length ≤ 21 ∧ nd (mkT 3 n [] []) = ⟨3, n, [], []⟩ := by
  have e : mkT 3 n [] [] = 110 :: dec n := rfl
  have hne : mkT 3 n [] [] ≠ [] := by rw [e]; exact List.cons_ne_nil _ _
  refine ⟨e, (mk_isT hn).2 hne, ?_, ?_⟩
  · rw [e, List.length_cons]
    have := dec_short hn
    omega
  · rw [nd_make hn hne]
    rfl
theorem num_inj {n m : Nat} (hn : n ≤ most) (hm : m ≤ most) (h : mkT 3 n [] [] = mkT 3 m [] []) : n = m := by
  have a := (num_ok n hn).2.2.2
  rw [h, (num_ok m hm).2.2.2] at a
  simpa using a.symm

end Go.Proofs.Ytbjnejnjlidiaaa.mkA
