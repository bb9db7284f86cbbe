/- Macs: the program's small functions. -/
import Derived.Test.YtbjnejnjlidiaaaTsI
import Derived.Test.YtbjnejnjlidiaaaPrQ
import Derived.Test.YtbjnejnjlidiaaaMaA
namespace Go.Proofs.Ytbjnejnjlidiaaa.maB
open Go.RowKit kit numA numB numC numD numE tmA tmB tmC tmD tmE trA trB prR prS prW prX tsA tsF tsI wrA wrB wrC wrD wrE wrF wrG wrH wrI wrJ wrK wrL mkA maA
set_option linter.unusedVariables false
set_option linter.unusedSimpArgs false

/-- A text that is told. -/
theorem str_of {b : ByteArray} {t : Txt} (h : b.data.toList = t) : Value.string b = .string ⟨t.toArray⟩ := by subst h; rfl
theorem told_str {f : FuncId} {args : Array Value} {w0 w : World} {t : Txt} {b : ByteArray} (hb : b.data.toList = t) (h : Calls Try.prog f args w0 (Made w t)) : Calls Try.prog f args w0 (numA.Told w (.string b)) := made_told h hb

theorem termsOf_pos {m : Msg} : (0 < (termsOf m).length) ↔ rightM m = true := by
  rw [termsOf_eq]
  by_cases hr : rightM m = true
  · rw [if_pos hr]
    have hk := rightM_k hr
    have : 0 < (rterms m).length := by
      have e : m.k = 1 ∨ m.k = 2 ∨ m.k = 3 ∨ m.k = 4 := by omega
      unfold rterms rtexts
      rcases e with e | e | e | e <;> rw [e] <;> simp
    exact ⟨fun _ => hr, fun _ => this⟩
  · rw [if_neg hr]
    exact ⟨fun h => absurd h (by decide), fun h => absurd h hr⟩

theorem ret_bool {a b : Bool} (h : a = b) : Ending.returned (.bool a) = .returned (.bool b) := by rw [h]

end Go.Proofs.Ytbjnejnjlidiaaa.maB
