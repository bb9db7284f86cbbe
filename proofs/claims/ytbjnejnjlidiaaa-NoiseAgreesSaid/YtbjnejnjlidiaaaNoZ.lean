/- Noise: both who agree, for any arguments. -/
import Derived.Test.YtbjnejnjlidiaaaNoX
namespace Go.Proofs.Ytbjnejnjlidiaaa.noZ
open Go.RowKit kit numA numB numC numD numE tmA tmB tmC tmD tmE trA trB prR prS prW prX tsA tsB tsF tsI wrA wrB wrC wrD wrE wrF wrG wrH wrI wrJ mkA maA maB maC noA noB noC noD noE tsG noF noG noH noJ noK noL noM noN noO noP noS noU noV noX
set_option linter.unusedVariables false
set_option linter.unusedSimpArgs false

theorem agrees_law (s r e f q ot : ByteArray) (x y : Int) (w : World) (hx : 0 ≤ x ∧ x ≤ 4294967295) : Calls Try.prog 14 #[.string s, .string r, .string e, .string f, .string q, .string ot, .int .u32 x, .int .u32 y] w (numA.Told w (.bool true)) := by
  cases hb : bigN [s.data.toList, r.data.toList, e.data.toList, f.data.toList, q.data.toList, ot.data.toList]
  case true => exact na_big s r e f q ot x y w hb
  have hz : s.size ≤ 200 ∧ r.size ≤ 200 ∧ e.size ≤ 200 ∧ f.size ≤ 200 ∧ q.size ≤ 200 ∧ ot.size ≤ 200 := by
    have h := hb
    simp only [bigN, List.any_cons, List.any_nil, Bool.or_false, Bool.or_eq_false_iff, decide_eq_false_iff_not, tl_size] at h
    omega
  obtain ⟨zs, zr, ze, zf, zq, zo⟩ := hz
  by_cases hn : isT s.data.toList = true ∧ isT r.data.toList = true ∧ isT e.data.toList = true
  case neg => exact na_out s r e f q ot x y w hb zs zr ze zf zq zo hn
  obtain ⟨h1, h2, h3⟩ := hn
  have hs : Ok s.data.toList 250 := ⟨h1, by rw [tl_size]; omega⟩
  have hr : Ok r.data.toList 250 := ⟨h2, by rw [tl_size]; omega⟩
  have he : Ok e.data.toList 250 := ⟨h3, by rw [tl_size]; omega⟩
  by_cases hn : isT f.data.toList = true ∧ isT q.data.toList = true
  case neg => exact na_fq s r e f q ot x y w hb zs zr ze zf zq zo hs hr he hn
  exact na_ok s r e f q ot x y w hb hx zs zr ze zf zq zo hs hr he ⟨hn.1, by rw [tl_size]; omega⟩ ⟨hn.2, by rw [tl_size]; omega⟩
theorem agrees_walk (s : ByteArray) (_ : s.size ≤ 9223372036854775807) (r : ByteArray) (_ : r.size ≤ 9223372036854775807) (e : ByteArray) (_ : e.size ≤ 9223372036854775807) (f : ByteArray) (_ : f.size ≤ 9223372036854775807) (q : ByteArray) (_ : q.size ≤ 9223372036854775807) (ot : ByteArray) (_ : ot.size ≤ 9223372036854775807) (x : Int) (hx : (Lit.int .u32 x).wf = true) (y : Int) (_ : (Lit.int .u32 y).wf = true) {w : World} : Calls Try.prog 14 #[.string s, .string r, .string e, .string f, .string q, .string ot, .int .u32 x, .int .u32 y] w fun e w' => e = .returned (.bool true) ∧ Below w.heap.size w w' := by
  refine (agrees_law s r e f q ot x y w (bounds_u32 hx)).mono ?_
  rintro e w' ⟨rfl, o⟩
  exact ⟨rfl, o.below (fun _ h => h.elim) (Nat.le_refl _)⟩

end Go.Proofs.Ytbjnejnjlidiaaa.noZ
