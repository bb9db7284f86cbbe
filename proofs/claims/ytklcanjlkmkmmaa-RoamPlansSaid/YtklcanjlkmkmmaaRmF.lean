/- Roam: the same acts. -/
import Derived.Test.YtklcanjlkmkmmaaRmD
import Derived.Laws.BytesString
namespace Go.Proofs.Ytklcanjlkmkmmaa.rmF
open Go.RowKit Go.Proofs.Ytklcanjlkmkmmaa.kit Go.Proofs.Ytklcanjlkmkmmaa.skyE Go.Proofs.Ytklcanjlkmkmmaa.rmD
set_option linter.unusedVariables false
set_option linter.unusedSimpArgs false

abbrev acv (x : Ac) : Value := .agg #[.int .i64 x.k, .int .i64 x.a, .int .i64 x.n, .int .i64 x.f, .slice none 0 0]

theorem nil_text (w : World) : (convert 43 9 (.slice none 0 0)).run Try.prog w = .ok (.string ByteArray.empty) w := by
  have h := run_convert_bytes_string (P := Try.prog) w 43 9 5 none 0 0 Try.underlying43 Try.underlying5 Try.underlying9
  rw [h]
  rfl

theorem same_any (x : Ac) (w : World) : Calls Try.prog 14 #[acv x, acv x] w fun e w' => e = .returned (.bool true) ∧ Only (fun _ => False) w w' := by
  have hh := heap_alloc_new w (.cells #[.int .i64 x.k, .int .i64 x.a, .int .i64 x.n, .int .i64 x.f, .slice none 0 0] 47)
  have ht := nil_text
  go_enter Try.func14, Try.ntmps14
  go_wp2_with fail
  all_goals
    go_ret
    exact ⟨by simp, ((Only.refl _ w).alloc _).alloc _⟩
end Go.Proofs.Ytklcanjlkmkmmaa.rmF
