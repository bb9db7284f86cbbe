/- Noise: the law on the Init, for any arguments. -/
import Derived.Test.YtbjnejnjlidiaaaNoT
namespace Go.Proofs.Ytbjnejnjlidiaaa.noW
open Go.RowKit kit numA numB numC numD numE tmA tmB tmC tmD tmE trA trB prR prS prW prX tsA tsB tsF tsI wrA wrB wrC wrD wrE wrF wrG wrH wrI wrJ mkA maA maB maC noA noB noC noD noE tsG noF noG noH noJ noK noL noM noN noO noP noS noG noGb noT
set_option linter.unusedVariables false
set_option linter.unusedSimpArgs false

theorem begins_law (s e pk ot : ByteArray) (x : Int) (N : Nat) (w : World) (hN : N ≤ most) : Calls Try.prog 12 #[.string s, .string e, .string pk, .string ot, .int .u64 N, .int .u32 x] w (numA.Told w (.bool true)) := by
  cases hb : bigN [s.data.toList, e.data.toList, pk.data.toList, ot.data.toList]
  case true => exact nb_big s e pk ot x N w hb
  have hz : s.size ≤ 200 ∧ e.size ≤ 200 ∧ pk.size ≤ 200 ∧ ot.size ≤ 200 := by
    have h := hb
    simp only [bigN, List.any_cons, List.any_nil, Bool.or_false, Bool.or_eq_false_iff, decide_eq_false_iff_not, tl_size] at h
    omega
  by_cases hn : isT s.data.toList = true ∧ isT e.data.toList = true ∧ (trJ.ndOf pk.data.toList).k = 5
  case neg => exact nb_no s e pk ot x N w hb hz.1 hz.2.1 hz.2.2.1 hn
  obtain ⟨h1, h2, h3⟩ := hn
  have hp : pubB pk.data.toList = true := by rw [pubB]; exact beq_iff_eq.2 h3
  obtain ⟨hto, hr, hl⟩ := pub_back hp
  obtain ⟨r, er⟩ := mkb ((nd pk.data.toList).ps.getD 0 [])
  rw [← er] at hto hr hl
  have l3 : pk.data.toList.length ≤ 200 := by rw [tl_size]; exact hz.2.2.1
  exact nb_ok s e pk ot r x N w hb hN ⟨h1, by rw [tl_size]; omega⟩ ⟨h2, by rw [tl_size]; omega⟩ ⟨hr, by omega⟩ hto hz.1 hz.2.1 hz.2.2.1 hz.2.2.2
theorem begins_walk (s : ByteArray) (_ : s.size ≤ 9223372036854775807) (e : ByteArray) (_ : e.size ≤ 9223372036854775807) (pk : ByteArray) (_ : pk.size ≤ 9223372036854775807) (ot : ByteArray) (_ : ot.size ≤ 9223372036854775807) (n : Int) (hn : (Lit.int .u64 n).wf = true) (x : Int) (_ : (Lit.int .u32 x).wf = true) {w : World} : Calls Try.prog 12 #[.string s, .string e, .string pk, .string ot, .int .u64 n, .int .u32 x] w fun e w' => e = .returned (.bool true) ∧ Below w.heap.size w w' := by
  have b := bounds_u64 hn
  obtain ⟨N, rfl⟩ := Int.eq_ofNat_of_zero_le b.1
  refine (begins_law s e pk ot x N w (by unfold most; omega)).mono ?_
  rintro e w' ⟨rfl, o⟩
  exact ⟨rfl, o.below (fun _ h => h.elim) (Nat.le_refl _)⟩

end Go.Proofs.Ytbjnejnjlidiaaa.noW
