/- Plain facts on terms that are made. No condition beside those that each theorem names. -/
import Derived.Test.YtbjnejnjlidiaaaPrX
namespace Go.Proofs.Ytbjnejnjlidiaaa.mkA
open Go.RowKit numA numB numC numE tmA tmB tmC tmD tmE prX
set_option linter.unusedVariables false
set_option linter.unusedSimpArgs false

/-- What is made is never longer than a term may be. -/
theorem mk_most {k n : Nat} {b : Txt} {ps : List Txt} (hn : n ≤ most) : (mkT k n b ps).length ≤ 65536 := by
  by_cases h : mkT k n b ps = []
  · rw [h]; exact Nat.zero_le _
  · exact (rdT_iff.1 (read_make hn h)).2

theorem mk_isT {k n : Nat} {b : Txt} {ps : List Txt} (hn : n ≤ most) : isT (mkT k n b ps) = true ↔ mkT k n b ps ≠ [] := by
  constructor
  · intro h e
    rw [e] at h
    exact absurd h (by decide)
  · intro h
    rw [isT, read_make hn h]
    rfl

theorem join_le : ∀ ps : List Txt, (join ps).length ≤ total ps + ps.length
  | [] => Nat.zero_le _
  | [p] => by simp [join, total]
  | p :: q :: r => by
    have h := join_le (q :: r)
    rw [join, List.length_append, List.length_cons]
    simp only [total, List.map_cons, List.sum_cons, List.length_cons] at h ⊢
    omega

theorem pre_le {k n : Nat} (hn : n ≤ most) : (pre k n).length ≤ 21 := by
  unfold pre
  split
  · have := dec_short hn
    rw [List.length_append, List.length_singleton]
    omega
  · exact Nat.zero_le _

theorem text_le {k n : Nat} {ps : List Txt} (hn : n ≤ most) : (letter k :: 40 :: (pre k n ++ (join (srt k ps) ++ [41]))).length ≤ total ps + ps.length + 24 := by
  have h1 := join_le (srt k ps)
  have h2 := pre_le (k := k) hn
  rw [total_srt, srt_len] at h1
  simp only [List.length_cons, List.length_append, List.length_nil]
  omega

theorem mk_le {k n : Nat} {b : Txt} {ps : List Txt} (h5 : 5 ≤ k) (h11 : k ≤ 11) (hn : n ≤ most) : (mkT k n b ps).length ≤ total ps + ps.length + 24 := by
  rw [mk_br h5 h11]
  split
  · exact text_le hn
  · exact Nat.zero_le _

/-- Of terms that are short enough something is made. -/
theorem mk_good {k n : Nat} {b : Txt} {ps : List Txt} (h5 : 5 ≤ k) (h11 : k ≤ 11) (hn : n ≤ most) (h1 : least k ≤ ps.length) (h2 : ps.length ≤ mostk k) (h3 : numbered k = true → lowk k ≤ n ∧ n ≤ highk k) (hp : ∀ p ∈ ps, isT p = true) (ht : total ps + ps.length + 24 ≤ 65536) : mkT k n b ps ≠ [] := by
  rw [mk_br h5 h11, if_pos ⟨h1, h2, h3, hp, by omega, by have := text_le (k := k) (ps := ps) hn; omega⟩]
  exact List.cons_ne_nil _ _

theorem nd_back {t : Txt} (h : (nd t).k ≠ 0) : mkT (nd t).k (nd t).n (nd t).b (nd t).ps = t := by
  rcases nd_cases t with ⟨e, _⟩ | ⟨_, _, hr, _⟩
  · rw [e] at h; exact absurd rfl h
  · exact make_read hr

/-- Numbers as terms. -/
theorem num_ok (n : Nat) (hn : n ≤ most) : mkT 3 n [] [] = 110 :: dec n ∧ isT (mkT 3 n [] []) = true ∧ (mkT 3 n [] []).length ≤ 21 ∧ nd (mkT 3 n [] []) = ⟨3, n, [], []⟩ := by
  have e : mkT 3 n [] [] = 110 :: dec n := rfl
  have hne : mkT 3 n [] [] ≠ [] := by rw [e]; exact List.cons_ne_nil _ _
  refine ⟨e, (mk_isT hn).2 hne, ?_, ?_⟩
  · rw [e, List.length_cons]
    have := dec_short hn
    omega
  · rw [nd_make hn hne]
    rfl
end Go.Proofs.Ytbjnejnjlidiaaa.mkA
