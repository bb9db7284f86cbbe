/- An argument that is a message. -/
import Derived.SizedLaws
import Derived.Test.YtbjnejnjlidiaaaWrA
namespace Go.Proofs.Ytbjnejnjlidiaaa.argM
open Go.ChangeShapes Go.WideShapes Go.ChangeAt Go.RowKit kit args numA tmA trA trB wrA
set_option linter.unusedVariables false
set_option linter.unusedSimpArgs false

/-- What a walk is told of a message that came in. -/
def MsgOk (m : Msg) : Prop := (-9223372036854775808 ≤ m.k ∧ m.k ≤ 9223372036854775807) ∧ (0 ≤ m.s ∧ m.s ≤ 4294967295) ∧ (0 ≤ m.r ∧ m.r ≤ 4294967295) ∧ (0 ≤ m.c ∧ m.c < 18446744073709551616) ∧ (∀ i, i < 4 ∨ 12 < i → (m.t i).size = 0) ∧ ∀ i, (m.t i).size ≤ 140737488351232

set_option maxRecDepth 100000 in
set_option maxHeartbeats 1600000 in
theorem msg_by {H : Type} {enc : TypeId × Value → H} {w : World} {base : Nat} {spare : Nat → Bool} {held : Bool} {cs : Array Value} {d : DataW H} {p : List MemPlace} {ts : List TypeId} {ds : List (DataW H)} {j : Nat} (h : DataW.Trod enc Try.prog w base spare held 61 (.agg cs) d p) (hsz : (DataW.weightsEach Try.prog ts ds).all (· ≤ reachBytes) = true) (hj : ts[j]? = some 61) (hd : ds[j]? = some d) : ∃ m : Msg, cs = m.row ∧ MsgOk m := by
  obtain ⟨fuel, hf⟩ := h
  obtain ⟨xs, n, _, hx, hl, hlen, hF⟩ := DataW.trod_struct Try.underlying61 hf
  have hl13 : cs.toList.length = 13 := hl
  have hx13 : xs.length = 13 := hlen
  have hdd : d = .agg (xs.map (·.1)) := by rw [← (Prod.mk.inj hx).1]
  subst hdd
  have hs2 : (DataW.weightsEach Try.prog [3, 59, 59, 23, 9, 9, 9, 9, 9, 9, 9, 9, 9] (xs.map (·.1))).all (· ≤ reachBytes) = true := by
    rw [List.all_eq_true]
    intro z hz
    refine List.all_eq_true.1 hsz z (DataW.weights_mem_each hj hd z ?_)
    simp only [DataW.weights, Try.underlying61]
    exact hz
  obtain ⟨L⟩ := cs
  clear hx hl hlen hf hd hj
  match L, hl13, xs, hx13 with
  | [v0, v1, v2, v3, v4, v5, v6, v7, v8, v9, v10, v11, v12], _, [y0, y1, y2, y3, y4, y5, y6, y7, y8, y9, y10, y11, y12], _ =>
    have e0 : DataW.trod enc Try.prog w base spare held n 3 [v0] = some y0 := hF 0 _ rfl
    obtain ⟨n0, q0, r0, w0⟩ := DataW.trod_int Try.underlying3 e0
    simp only [List.cons.injEq, and_true] at q0
    subst q0
    clear e0
    have e1 : DataW.trod enc Try.prog w base spare held n 59 [v1] = some y1 := hF 1 _ rfl
    obtain ⟨n1, q1, r1, w1⟩ := DataW.trod_int Try.underlying59 e1
    simp only [List.cons.injEq, and_true] at q1
    subst q1
    clear e1
    have e2 : DataW.trod enc Try.prog w base spare held n 59 [v2] = some y2 := hF 2 _ rfl
    obtain ⟨n2, q2, r2, w2⟩ := DataW.trod_int Try.underlying59 e2
    simp only [List.cons.injEq, and_true] at q2
    subst q2
    clear e2
    have e3 : DataW.trod enc Try.prog w base spare held n 23 [v3] = some y3 := hF 3 _ rfl
    obtain ⟨n3, q3, r3, w3⟩ := DataW.trod_int Try.underlying23 e3
    simp only [List.cons.injEq, and_true] at q3
    subst q3
    clear e3
    have e4 : DataW.trod enc Try.prog w base spare held n 9 [v4] = some y4 := hF 4 _ rfl
    obtain ⟨s4, q4, r4, w4⟩ := DataW.trod_string Try.underlying9 e4
    have z4 := sized_string hs2 (j := 4) (t := 9) (bytes := s4.data.toList) rfl (by rw [r4]; rfl)
    simp only [List.cons.injEq, and_true] at q4
    subst q4
    clear e4
    have e5 : DataW.trod enc Try.prog w base spare held n 9 [v5] = some y5 := hF 5 _ rfl
    obtain ⟨s5, q5, r5, w5⟩ := DataW.trod_string Try.underlying9 e5
    have z5 := sized_string hs2 (j := 5) (t := 9) (bytes := s5.data.toList) rfl (by rw [r5]; rfl)
    simp only [List.cons.injEq, and_true] at q5
    subst q5
    clear e5
    have e6 : DataW.trod enc Try.prog w base spare held n 9 [v6] = some y6 := hF 6 _ rfl
    obtain ⟨s6, q6, r6, w6⟩ := DataW.trod_string Try.underlying9 e6
    have z6 := sized_string hs2 (j := 6) (t := 9) (bytes := s6.data.toList) rfl (by rw [r6]; rfl)
    simp only [List.cons.injEq, and_true] at q6
    subst q6
    clear e6
    have e7 : DataW.trod enc Try.prog w base spare held n 9 [v7] = some y7 := hF 7 _ rfl
    obtain ⟨s7, q7, r7, w7⟩ := DataW.trod_string Try.underlying9 e7
    have z7 := sized_string hs2 (j := 7) (t := 9) (bytes := s7.data.toList) rfl (by rw [r7]; rfl)
    simp only [List.cons.injEq, and_true] at q7
    subst q7
    clear e7
    have e8 : DataW.trod enc Try.prog w base spare held n 9 [v8] = some y8 := hF 8 _ rfl
    obtain ⟨s8, q8, r8, w8⟩ := DataW.trod_string Try.underlying9 e8
    have z8 := sized_string hs2 (j := 8) (t := 9) (bytes := s8.data.toList) rfl (by rw [r8]; rfl)
    simp only [List.cons.injEq, and_true] at q8
    subst q8
    clear e8
    have e9 : DataW.trod enc Try.prog w base spare held n 9 [v9] = some y9 := hF 9 _ rfl
    obtain ⟨s9, q9, r9, w9⟩ := DataW.trod_string Try.underlying9 e9
    have z9 := sized_string hs2 (j := 9) (t := 9) (bytes := s9.data.toList) rfl (by rw [r9]; rfl)
    simp only [List.cons.injEq, and_true] at q9
    subst q9
    clear e9
    have e10 : DataW.trod enc Try.prog w base spare held n 9 [v10] = some y10 := hF 10 _ rfl
    obtain ⟨s10, q10, r10, w10⟩ := DataW.trod_string Try.underlying9 e10
    have z10 := sized_string hs2 (j := 10) (t := 9) (bytes := s10.data.toList) rfl (by rw [r10]; rfl)
    simp only [List.cons.injEq, and_true] at q10
    subst q10
    clear e10
    have e11 : DataW.trod enc Try.prog w base spare held n 9 [v11] = some y11 := hF 11 _ rfl
    obtain ⟨s11, q11, r11, w11⟩ := DataW.trod_string Try.underlying9 e11
    have z11 := sized_string hs2 (j := 11) (t := 9) (bytes := s11.data.toList) rfl (by rw [r11]; rfl)
    simp only [List.cons.injEq, and_true] at q11
    subst q11
    clear e11
    have e12 : DataW.trod enc Try.prog w base spare held n 9 [v12] = some y12 := hF 12 _ rfl
    obtain ⟨s12, q12, r12, w12⟩ := DataW.trod_string Try.underlying9 e12
    have z12 := sized_string hs2 (j := 12) (t := 9) (bytes := s12.data.toList) rfl (by rw [r12]; rfl)
    simp only [List.cons.injEq, and_true] at q12
    subst q12
    clear e12
    refine ⟨⟨n0, n1, n2, n3, fun i => if i = 4 then s4 else if i = 5 then s5 else if i = 6 then s6 else if i = 7 then s7 else if i = 8 then s8 else if i = 9 then s9 else if i = 10 then s10 else if i = 11 then s11 else if i = 12 then s12 else ⟨#[]⟩⟩, rfl, bounds_i64 w0, bounds_u32 w1, bounds_u32 w2, ?_, ?_, ?_⟩
    · have := bounds_u64 w3
      exact ⟨this.1, Int.lt_of_le_of_lt this.2 (by decide)⟩
    · intro i hi
      show ByteArray.size (if i = 4 then s4 else if i = 5 then s5 else if i = 6 then s6 else if i = 7 then s7 else if i = 8 then s8 else if i = 9 then s9 else if i = 10 then s10 else if i = 11 then s11 else if i = 12 then s12 else ⟨#[]⟩) = 0
      rw [if_neg (by omega), if_neg (by omega), if_neg (by omega), if_neg (by omega), if_neg (by omega), if_neg (by omega), if_neg (by omega), if_neg (by omega), if_neg (by omega)]
      rfl
    · intro i
      show ByteArray.size (if i = 4 then s4 else if i = 5 then s5 else if i = 6 then s6 else if i = 7 then s7 else if i = 8 then s8 else if i = 9 then s9 else if i = 10 then s10 else if i = 11 then s11 else if i = 12 then s12 else ⟨#[]⟩) ≤ _
      rw [tl_size] at z4 z5 z6 z7 z8 z9 z10 z11 z12
      unfold reachBytes at z4 z5 z6 z7 z8 z9 z10 z11 z12
      by_cases h4 : i = 4
      · rw [if_pos h4]; omega
      by_cases h5 : i = 5
      · rw [if_neg h4, if_pos h5]; omega
      by_cases h6 : i = 6
      · rw [if_neg h4, if_neg h5, if_pos h6]; omega
      by_cases h7 : i = 7
      · rw [if_neg h4, if_neg h5, if_neg h6, if_pos h7]; omega
      by_cases h8 : i = 8
      · rw [if_neg h4, if_neg h5, if_neg h6, if_neg h7, if_pos h8]; omega
      by_cases h9 : i = 9
      · rw [if_neg h4, if_neg h5, if_neg h6, if_neg h7, if_neg h8, if_pos h9]; omega
      by_cases h10 : i = 10
      · rw [if_neg h4, if_neg h5, if_neg h6, if_neg h7, if_neg h8, if_neg h9, if_pos h10]; omega
      by_cases h11 : i = 11
      · rw [if_neg h4, if_neg h5, if_neg h6, if_neg h7, if_neg h8, if_neg h9, if_neg h10, if_pos h11]; omega
      by_cases h12 : i = 12
      · rw [if_neg h4, if_neg h5, if_neg h6, if_neg h7, if_neg h8, if_neg h9, if_neg h10, if_neg h11, if_pos h12]; omega
      rw [if_neg h4, if_neg h5, if_neg h6, if_neg h7, if_neg h8, if_neg h9, if_neg h10, if_neg h11, if_neg h12]; exact Nat.zero_le _

end Go.Proofs.Ytbjnejnjlidiaaa.argM
