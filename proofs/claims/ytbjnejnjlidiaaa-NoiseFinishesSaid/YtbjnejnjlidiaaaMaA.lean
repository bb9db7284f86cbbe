/- Macs: plain facts. -/
import Derived.Test.YtbjnejnjlidiaaaWrH
import Derived.Test.YtbjnejnjlidiaaaMkA
namespace Go.Proofs.Ytbjnejnjlidiaaa.maA
open Go.RowKit kit numA numB numC numE tmA tmB tmC tmD tmE trA prW prX wrA wrB wrC wrD wrE wrF wrG wrH wrI wrJ wrK wrL mkA
set_option linter.unusedVariables false
set_option linter.unusedSimpArgs false

def zeroT : Txt := [48]
def pubB (t : Txt) : Bool := (nd t).k == 5
theorem zeroT_is : isT zeroT = true := by decide +kernel

theorem hash2 {a b : Txt} (ha : isT a = true) (hb : isT b = true) (hl : a.length + b.length ≤ 60000) : isT (mkT 7 0 [] [a, b]) = true ∧ (mkT 7 0 [] [a, b]).length ≤ a.length + b.length + 26 ∧ mkT 7 0 [] [a, b] ≠ [] := by
  have hne : mkT 7 0 [] [a, b] ≠ [] := mk_good (by decide) (by decide) (by decide) (by simp [least]) (by simp [mostk]) (fun h => by cases h) (by simp [ha, hb]) (by simp [total]; omega)
  refine ⟨(mk_isT (by decide)).2 hne, ?_, hne⟩
  have h := mk_le (k := 7) (n := 0) (b := []) (ps := [a, b]) (by decide) (by decide) (by decide)
  simp only [total, List.map_cons, List.map_nil, List.sum_cons, List.sum_nil, List.length_cons, List.length_nil] at h
  omega
theorem fit_is {t : Txt} (h : fitB t = true) : isT t = true := by
  unfold fitB at h
  rw [Bool.and_eq_true] at h
  exact h.2

theorem rterms_is {m : Msg} (hr : rightM m = true) : ∀ p ∈ rterms m, isT p = true := by
  unfold rightM at hr
  simp only [Bool.and_eq_true] at hr
  exact fun p hp => fit_is (List.all_eq_true.1 hr.2.1 p hp)

theorem numT_ok {n : Int} (h0 : 0 ≤ n) (h1 : n ≤ (most : Nat)) : isT (numT n) = true ∧ (numT n).length ≤ 21 := by
  have h := num_ok n.toNat (by omega)
  exact ⟨h.2.1, h.2.2.1⟩

end Go.Proofs.Ytbjnejnjlidiaaa.maA
