/- (more) Term: the document's Make. -/
import Derived.Test.YtbjnejnjlidiaaaTsJ
namespace Go.Proofs.Ytbjnejnjlidiaaa.tsJ
open Go.RowKit kit numA numB numC numD numE numF numG numH numI tmA tmB tmC tmD tmE srcA trA trB trD prA prC prR prS prW prX tsA tsB tsF tsG tsH tsI
set_option linter.unusedVariables false
set_option linter.unusedSimpArgs false

theorem mkI_nd {k : Int} {n : Nat} {b : Txt} {ps : List Txt} (hn : n ≤ most) (h : mkI k n b ps ≠ []) : ∃ K : Nat, k = K ∧ K ≤ 11 ∧ nd (mkI k n b ps) = nodeOf K n b ps ∧ mkI k n b ps = mkT K n b ps := by
  by_cases hk : 1 ≤ k ∧ k ≤ 11
  · obtain ⟨K, rfl⟩ : ∃ K : Nat, k = K := ⟨k.toNat, by omega⟩
    rw [mkI_nat (by omega) (by omega)] at h ⊢
    exact ⟨K, rfl, by omega, nd_make hn h, rfl⟩
  · exact absurd (by rw [mkI, if_neg hk]) h

theorem mkI_len {k : Int} {n : Nat} {b : Txt} {ps : List Txt} (hn : n ≤ most) : (mkI k n b ps).length ≤ 65536 := by
  by_cases h : mkI k n b ps = []
  · rw [h]
    simp
  · obtain ⟨K, rfl, _, hnd, e⟩ := mkI_nd hn h
    rw [e] at h ⊢
    exact (rdT_iff.1 (read_make hn h)).2

end Go.Proofs.Ytbjnejnjlidiaaa.tsJ

