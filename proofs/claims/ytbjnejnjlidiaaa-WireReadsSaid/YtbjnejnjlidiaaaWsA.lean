/- Wire: awake. -/
import Derived.Test.YtbjnejnjlidiaaaWrZ
import Derived.Test.YtbjnejnjlidiaaaWrW
namespace Go.Proofs.Ytbjnejnjlidiaaa.wsA
open Go.RowKit kit numA numB numC numD numE numF numG numH numI tmA tmD trA trB prR prS prW prX wrA wrB wrC wrD wrE wrF wrG wrH wrI wrJ wrK wrM wrN wrO wrQ wrR wrS wrT wrU wrV wrW wrY wrZ
set_option linter.unusedVariables false
set_option linter.unusedSimpArgs false

theorem own_slt {w : World} {base : Nat} {v : Value} {n : Nat} {xs : List Value} (h : w.ownsRow base 5 1 v n xs) : Sl w (fun k => k < w.heap.size) v xs := by
  obtain ⟨hm, a, cap, hv, h | ⟨g, o, ha, hS, hg, hc⟩⟩ := Sl.of_lst (Lst.of_owns h)
  · exact ⟨hm, a, cap, hv, .inl h⟩
  · exact ⟨hm, a, cap, hv, .inr ⟨g, o, ha, hg, hg, hc⟩⟩
def m0 : Msg := ⟨4, 0, 7, 1, fun i => if i = 10 then ⟨#[48]⟩ else ⟨#[]⟩⟩
theorem right_m0 : rightM m0 = true := by
  unfold rightM
  rw [show (rterms m0).all fitB = true from by decide +kernel, (eqM_iff (keepM m0) m0).2 ⟨rfl, rfl, rfl, rfl, rfl, rfl, rfl, rfl, rfl, rfl, rfl, rfl, rfl⟩]
  rfl
theorem good_m0 : goodF m0 = [.n 2, .c, .t 10] := by rw [goodF_eq, if_pos right_m0]; rfl
theorem print_m0 (w : World) : Calls Try.prog 55 #[.agg #[.int .i64 4, .int .u32 0, .int .u32 7, .int .u64 1, .string ⟨#[]⟩, .string ⟨#[]⟩, .string ⟨#[]⟩, .string ⟨#[]⟩, .string ⟨#[]⟩, .string ⟨#[]⟩, .string ⟨#[48]⟩, .string ⟨#[]⟩, .string ⟨#[]⟩]] w (fun e w' => ∃ a c, e = .returned (.tuple #[.slice a 19 c, .int .i64 0]) ∧ Only (fun _ => False) w w' ∧ (convert 24 9 (.slice a 19 c)).run Try.prog w' = .ok (.string ⟨#[4, 0, 0, 0, 7, 0, 0, 0, 1, 0, 0, 0, 0, 0, 0, 0, 1, 0, 48]⟩) w') := by
  have h : Calls Try.prog 55 #[.agg #[.int .i64 4, .int .u32 0, .int .u32 7, .int .u64 1, .string ⟨#[]⟩, .string ⟨#[]⟩, .string ⟨#[]⟩, .string ⟨#[]⟩, .string ⟨#[]⟩, .string ⟨#[]⟩, .string ⟨#[48]⟩, .string ⟨#[]⟩, .string ⟨#[]⟩]] w (PrintP m0 w) := print_any m0 w (fun i => by unfold m0; dsimp only; split <;> decide) (by decide) (by decide) (by decide)
  refine h.mono ?_
  rintro e w' ⟨o, ⟨h1, -⟩ | ⟨-, a, c, rfl, own⟩⟩
  · rw [good_m0] at h1; cases h1
  · have e1 : outB m0 (goodF m0) = [4, 0, 0, 0, 7, 0, 0, 0, 1, 0, 0, 0, 0, 0, 0, 0, 1, 0, 48] := by rw [good_m0]; rfl
    rw [e1] at own ⊢
    exact ⟨a, c, rfl, o, conv_lst (own_slt own)⟩
set_option maxRecDepth 100000 in
set_option maxHeartbeats 1600000 in
theorem awake_any (w : World) : Calls Try.prog 53 #[] w (numA.Told w (.bool true)) := by
  have CP := Lib.hid (fun W => print_m0 W)
  go_enter Try.func53, Try.ntmps53
  go_wp2_with fail
  (with_reducible refine (CP.out _).mono ?_)
  rintro e w2 ⟨a, c, rfl, o, cv⟩
  have O := Lib.hid o
  clear o
  go_wp2_with fail
  go_ret
  exact ⟨rfl, O.out⟩


end Go.Proofs.Ytbjnejnjlidiaaa.wsA
