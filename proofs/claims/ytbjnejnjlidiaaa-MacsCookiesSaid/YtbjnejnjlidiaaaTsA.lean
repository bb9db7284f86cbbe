/- Term: what the document compares and counts. -/
import Derived.Test.YtbjnejnjlidiaaaPrX
import Derived.Test.YtbjnejnjlidiaaaNumF
import Derived.Test.YtbjnejnjlidiaaaTrJ
namespace Go.Proofs.Ytbjnejnjlidiaaa.tsA
open Go.RowKit Go.Proofs.Ytbjnejnjlidiaaa.kit Go.Proofs.Ytbjnejnjlidiaaa.numA Go.Proofs.Ytbjnejnjlidiaaa.numB Go.Proofs.Ytbjnejnjlidiaaa.numC Go.Proofs.Ytbjnejnjlidiaaa.numD Go.Proofs.Ytbjnejnjlidiaaa.numE Go.Proofs.Ytbjnejnjlidiaaa.numF Go.Proofs.Ytbjnejnjlidiaaa.tmA Go.Proofs.Ytbjnejnjlidiaaa.tmB Go.Proofs.Ytbjnejnjlidiaaa.tmC Go.Proofs.Ytbjnejnjlidiaaa.tmD Go.Proofs.Ytbjnejnjlidiaaa.tmE Go.Proofs.Ytbjnejnjlidiaaa.srcA Go.Proofs.Ytbjnejnjlidiaaa.trA Go.Proofs.Ytbjnejnjlidiaaa.trB Go.Proofs.Ytbjnejnjlidiaaa.prA Go.Proofs.Ytbjnejnjlidiaaa.prC Go.Proofs.Ytbjnejnjlidiaaa.prQ Go.Proofs.Ytbjnejnjlidiaaa.prR Go.Proofs.Ytbjnejnjlidiaaa.prS Go.Proofs.Ytbjnejnjlidiaaa.prX
set_option linter.unusedVariables false
set_option linter.unusedSimpArgs false

theorem list_eq {xs ys : List Txt} (hl : xs.length = ys.length) (h : ∀ q, q < xs.length → xs.getD q [] = ys.getD q []) : xs = ys := by
  refine List.ext_getElem hl fun i h1 h2 => ?_
  have := h i h1
  simpa [h1, h2] using this

set_option maxRecDepth 100000 in
theorem same_any (xs ys : List Txt) (S T : Nat → Prop) (a b : Value) (w : World) (ha : Sl w S a (xs.map sv)) (hb : Sl w T b (ys.map sv)) (hx : xs.length ≤ 1000000) : Calls Try.prog 28 #[a, b] w (numA.Told w (.bool (xs == ys))) := by
  obtain ⟨a', n, c, rfl⟩ : ∃ a' n c, a = .slice a' n c := by obtain ⟨_, a', c, h, _⟩ := ha; exact ⟨a', _, c, h⟩
  obtain ⟨b', m, d, rfl⟩ : ∃ b' m d, b = .slice b' m d := by obtain ⟨_, b', d, h, _⟩ := hb; exact ⟨b', _, d, h⟩
  obtain rfl := sl_len ha
  obtain rfl := sl_len hb
  have HA := Lib.hid ha
  have HB := Lib.hid hb
  have HX := Lib.hid hx
  clear ha hb hx
  by_cases hl : xs.length = ys.length
  · have l1 : (((xs.length : Nat) : Int) != (ys.length : Nat)) = false := by rw [bne_eq_false_iff_eq]; omega
    have HL := Lib.hid hl
    obtain ⟨N, hN⟩ : ∃ N, N = xs.length := ⟨_, rfl⟩
    have HN := Lib.hid hN
    clear hl
    rw [← hN] at l1 ⊢
    clear hN
    go_enter Try.func28, Try.ntmps28
    go_wp2_with fail
    go_loopw [5] (fun i wr => ∃ j : Nat, i = .int .i64 j ∧ j ≤ N ∧ (∀ q, q < j → xs.getD q [] = ys.getD q []) ∧ Only (fun _ => False) w wr) (fun i _ => N - (Lib.intOf i).toNat)
    case atStart => exact ⟨0, rfl, Nat.zero_le _, fun q h => absurd h (Nat.not_lt_zero _), Only.refl _ _⟩
    case round =>
      obtain ⟨j, rfl, hj, hq, ho⟩ := hrel
      have O := Lib.hid ho
      have HQ := Lib.hid hq
      clear hq
      by_cases hlt : j < N
      · obtain ⟨g, o, rfl, -, -, x0⟩ := sl_get (HA.out.keep ho fun _ _ h => h) j (by have := HN.out; omega)
        obtain ⟨g2, o2, rfl, -, -, x1⟩ := sl_get (HB.out.keep ho fun _ _ h => h) j (by have := HN.out; have := HL.out; omega)
        unfold sv at x0 x1
        obtain ⟨sa, hsa⟩ : ∃ sa : ByteArray, sa = ⟨(xs.getD j []).toArray⟩ := ⟨_, rfl⟩
        obtain ⟨sb, hsb⟩ : ∃ sb : ByteArray, sb = ⟨(ys.getD j []).toArray⟩ := ⟨_, rfl⟩
        rw [← hsa] at x0
        rw [← hsb] at x1
        have k0 : (0 : Int) ≤ (j : Int) := by omega
        have k1 : (j : Int) < (N : Int) := by omega
        have k2 : (j : Int) < (ys.length : Int) := by have := HN.out; have := HL.out; omega
        have wj : wrap64 ((j : Int) + 1) = (j : Int) + 1 := IntWalk.wrap64_in _ (by have := HX.out; have := HN.out; omega)
        have HSE := Lib.hid (show (sa = sb ↔ xs.getD j [] = ys.getD j []) from by rw [hsa, bytes_eq, hsb])
        have HJ := Lib.hid hlt
        clear hsa hsb ho hj hlt
        cases hs : (sa.toList == sb.toList)
        · have HF := Lib.hid (show (xs == ys) = false from by
            rw [beq_eq_false_iff_ne]
            intro e
            have : sa = sb := HSE.out.2 (by rw [e])
            rw [beq_t this] at hs
            cases hs)
          have hs' : (sa.toList = sb.toList) = False := eq_false (beq_eq_false_iff_ne.1 hs)
          go_wp2_with fail
          go_quiet (fail)
          go_wp2_with fail
          go_ret
          exact ⟨by rw [HF.out]; rfl, O.out.drewN _⟩
        · have HE := Lib.hid (show xs.getD j [] = ys.getD j [] from HSE.out.1 (ByteArray.ext (Array.ext' (by have := beq_iff_eq.1 hs; rwa [byteArray_toList, byteArray_toList] at this))))
          have hs' : (sa.toList = sb.toList) = True := eq_true (beq_iff_eq.1 hs)
          go_wp2_with fail
          go_quiet (fail)
          go_wp2_with fail
          go_roundw
          case rel =>
            refine ⟨j + 1, by rw [wj]; rfl, by have := HJ.out; omega, fun q hq => ?_, O.out.drewN _⟩
            rcases Nat.lt_or_ge q j with h | h
            · exact HQ.out q h
            · obtain rfl : q = j := by omega
              exact HE.out
          case measure =>
            rw [wj]
            have := HJ.out
            simp only [Lib.intOf]
            omega
      · obtain rfl : j = N := by omega
        have HF := Lib.hid (show (xs == ys) = true from by
          rw [beq_iff_eq]
          exact list_eq HL.out fun q h => HQ.out q (by rw [HN.out]; exact h))
        have k1 : ¬ ((j : Int) < (j : Int)) := by omega
        clear ho hj hlt
        go_wp2_with fail
        go_ret
        exact ⟨by rw [HF.out]; rfl, O.out⟩
  · have l1 : (((xs.length : Nat) : Int) != (ys.length : Nat)) = true := by rw [bne_iff_ne]; omega
    have HF := Lib.hid (show (xs == ys) = false from by
      rw [beq_eq_false_iff_ne]
      intro e
      exact hl (by rw [e]))
    clear hl
    go_enter Try.func28, Try.ntmps28
    go_wp2_with fail
    go_ret
    exact ⟨by rw [HF.out]; rfl, Only.refl _ _⟩

set_option maxRecDepth 100000 in
theorem size_any (xs : List Txt) (S : Nat → Prop) (a : Value) (w : World) (ha : Sl w S a (xs.map sv)) (hx : xs.length ≤ 1000000) (ht : total xs ≤ 100000000000000000) : Calls Try.prog 31 #[a] w fun e w' => e = .returned (.int .i64 (total xs : Nat)) ∧ w = w' := by
  obtain ⟨a', n, c, rfl⟩ : ∃ a' n c, a = .slice a' n c := by obtain ⟨_, a', c, h, _⟩ := ha; exact ⟨a', _, c, h⟩
  obtain rfl := sl_len ha
  have HA := Lib.hid ha
  have HX := Lib.hid hx
  have HT := Lib.hid ht
  clear ha hx ht
  go_enter Try.func31, Try.ntmps31
  go_wp2_with fail
  go_loop [3, 4] (fun n i => ∃ j : Nat, i = .int .i64 j ∧ j ≤ xs.length ∧ n = .int .i64 (total (xs.take j) : Nat)) (fun _ i => xs.length - (Lib.intOf i).toNat)
  case atStart => exact ⟨0, rfl, Nat.zero_le _, rfl⟩
  case round =>
    obtain ⟨j, rfl, hj, rfl⟩ := hrel
    by_cases hlt : j < xs.length
    · obtain ⟨g, o, rfl, -, -, x0⟩ := sl_get HA.out j hlt
      unfold sv at x0
      obtain ⟨p, hp⟩ : ∃ p, p = xs.getD j [] := ⟨_, rfl⟩
      obtain ⟨tt, htt⟩ : ∃ tt, tt = total (xs.take j) := ⟨_, rfl⟩
      rw [← hp] at x0
      rw [← htt]
      have hsz : ((⟨p.toArray⟩ : ByteArray).size : Int) = (p.length : Int) := by simp [ByteArray.size]
      have hb : tt + p.length ≤ total xs := by
        have := total_take xs (j + 1)
        rw [total_succ hlt, ← htt, ← hp] at this
        exact this
      have k0 : (0 : Int) ≤ (j : Int) := by omega
      have k1 : (j : Int) < (xs.length : Int) := by omega
      have wj : wrap64 ((j : Int) + 1) = (j : Int) + 1 := IntWalk.wrap64_in _ (by have := HX.out; omega)
      have wt : wrap64 ((tt : Int) + (p.length : Int)) = (tt : Int) + (p.length : Int) := IntWalk.wrap64_in _ (by have := HT.out; omega)
      have HP := Lib.hid hp
      have HTT := Lib.hid htt
      have HJ := Lib.hid hlt
      clear hp htt hb hj hlt
      go_wp2_with fail
      go_round
      case rel =>
        refine ⟨j + 1, by rw [wj]; rfl, HJ.out, ?_⟩
        rw [total_succ HJ.out, ← HTT.out, ← HP.out, wt]
        rfl
      case measure =>
        rw [wj]
        have := HJ.out
        simp only [Lib.intOf]
        omega
    · obtain rfl : j = xs.length := by omega
      have k1 : ¬ ((xs.length : Int) < (xs.length : Int)) := by omega
      rw [List.take_length]
      clear hj hlt
      go_wp2_with fail
      go_ret
      exact ⟨rfl, rfl⟩
end Go.Proofs.Ytbjnejnjlidiaaa.tsA
namespace Go.Proofs.Ytbjnejnjlidiaaa.tsB
open Go.RowKit Go.Proofs.Ytbjnejnjlidiaaa.kit Go.Proofs.Ytbjnejnjlidiaaa.numA Go.Proofs.Ytbjnejnjlidiaaa.numB Go.Proofs.Ytbjnejnjlidiaaa.numC Go.Proofs.Ytbjnejnjlidiaaa.numD Go.Proofs.Ytbjnejnjlidiaaa.numE Go.Proofs.Ytbjnejnjlidiaaa.numF Go.Proofs.Ytbjnejnjlidiaaa.numG Go.Proofs.Ytbjnejnjlidiaaa.numH Go.Proofs.Ytbjnejnjlidiaaa.numI Go.Proofs.Ytbjnejnjlidiaaa.tmA Go.Proofs.Ytbjnejnjlidiaaa.tmB Go.Proofs.Ytbjnejnjlidiaaa.tmC Go.Proofs.Ytbjnejnjlidiaaa.tmD Go.Proofs.Ytbjnejnjlidiaaa.tmE Go.Proofs.Ytbjnejnjlidiaaa.srcA Go.Proofs.Ytbjnejnjlidiaaa.trA Go.Proofs.Ytbjnejnjlidiaaa.trB Go.Proofs.Ytbjnejnjlidiaaa.trD Go.Proofs.Ytbjnejnjlidiaaa.prA Go.Proofs.Ytbjnejnjlidiaaa.prC Go.Proofs.Ytbjnejnjlidiaaa.prS Go.Proofs.Ytbjnejnjlidiaaa.prX Go.Proofs.Ytbjnejnjlidiaaa.tsA
set_option linter.unusedVariables false
set_option linter.unusedSimpArgs false

/-- What stands ahead of the parts, as the document writes it. -/
def headT (k n : Nat) (ps : List Txt) : Txt := letter k :: 40 :: (if numbered k = true then dec n ++ (if ps = [] then [] else [44]) else [])

theorem doc_text {k n : Nat} {b : Txt} {ps : List Txt} (h5 : 5 ≤ k) (h11 : k ≤ 11) (hn : n ≤ most) :
    mkT k n b ps = if (∀ p ∈ ps, isT p = true) ∧ isT (headT k n ps ++ (join (srt k ps) ++ [41])) = true then headT k n ps ++ (join (srt k ps) ++ [41]) else [] := by
  rw [mk_br h5 h11]
  by_cases hb : numbered k = true ∧ ps = []
  · obtain ⟨hk, rfl⟩ := hb
    have e8 : k = 8 ∨ k = 10 := by simpa [numbered] using hk
    have e : headT k n [] ++ (join (srt k []) ++ [41]) = letter k :: 40 :: (dec n ++ [41]) := by
      rw [headT, if_pos hk, if_pos rfl, srt, if_neg (fun q => by have := q.2.1; simp at this)]
      simp [join]
    rw [if_neg, if_neg]
    · rintro ⟨_, hi⟩
      rw [e] at hi
      obtain ⟨⟨d, hd⟩, _⟩ := isT_iff.1 hi
      exact bare_T h11 h5 hk d hd
    · intro q
      have := q.1
      rcases e8 with rfl | rfl <;> exact absurd this (by decide)
  · have e : headT k n ps ++ (join (srt k ps) ++ [41]) = letter k :: 40 :: (pre k n ++ (join (srt k ps) ++ [41])) := by
      unfold headT pre
      by_cases hk : numbered k = true
      · rw [if_pos hk, if_pos hk, if_neg (fun q => hb ⟨hk, q⟩)]
        rfl
      · rw [if_neg hk, if_neg hk]
        rfl
    rw [e]
    by_cases hf : fitsB k n ps
    · rw [if_pos hf, if_pos ((fits_iff h5 h11 hn).2 hf)]
    · rw [if_neg hf, if_neg (fun q => hf ((fits_iff h5 h11 hn).1 q))]

theorem join_snoc {ps : List Txt} {j : Nat} (h0 : 0 < j) (hj : j < ps.length) : join (ps.take (j + 1)) = join (ps.take j) ++ 44 :: ps.getD j [] := by
  induction ps generalizing j with
  | nil => cases hj
  | cons p ps ih =>
    obtain ⟨j, rfl⟩ : ∃ i, j = i + 1 := ⟨j - 1, by omega⟩
    simp only [List.length_cons] at hj
    have hne : ps.take (j + 1) ≠ [] := by
      intro q
      have := congrArg List.length q
      simp only [List.length_take, List.length_nil] at this
      omega
    rw [List.take_succ_cons, join_cons p _ hne, List.take_succ_cons]
    by_cases h : j = 0
    · subst h
      cases ps with
      | nil => simp at hj
      | cons q qs => simp [join]
    · have hne' : ps.take j ≠ [] := by
        intro q
        have := congrArg List.length q
        simp only [List.length_take, List.length_nil] at this
        omega
      rw [ih (by omega) (by omega), join_cons p _ hne']
      simp

theorem join_take_le (ps : List Txt) (j : Nat) : (join (ps.take j)).length ≤ total ps + ps.length := by
  have h1 := join_le (ps.take j)
  have h2 := total_take ps j
  rw [List.length_take] at h1
  omega

theorem head_len {k n : Nat} {ps : List Txt} (hn : n ≤ most) : (headT k n ps).length ≤ 30 := by
  have := dec_short hn
  unfold headT
  split
  · split <;> simp only [List.length_cons, List.length_append, List.length_nil] <;> omega
  · simp

theorem refIs (s : ByteArray) (w : World) (hm : s.size ≤ 100000000) : Calls Try.prog 39 #[.string s] w (numA.Told w (.bool (isT s.data.toList))) := trJ.is_any s w hm

/-- What holds at each part: the text so far. -/
structure MR (w : World) (hd : Txt) (qs : List Txt) (j : Nat) (X : ByteArray) (wr : World) : Prop where
  le : j ≤ qs.length
  tx : X.data.toList = hd ++ join (qs.take j)
  all : ∀ p ∈ qs.take j, isT p = true
  only : Only (fun _ => False) w wr

theorem MR.next {w wr w' : World} {hd : Txt} {qs : List Txt} {j : Nat} {X Y : ByteArray} (h : MR w hd qs j X wr) (hj : j < qs.length) (hp : isT (qs.getD j []) = true) (hY : Y.data.toList = X.data.toList ++ (if j = 0 then [] else [44]) ++ qs.getD j []) (o : Only (fun _ => False) wr w') : MR w hd qs (j + 1) Y w' := by
  refine ⟨hj, ?_, fun p hp' => ?_, h.only.trans o⟩
  · rw [hY, h.tx]
    by_cases h0 : j = 0
    · subst h0
      cases qs with
      | nil => cases hj
      | cons q qs => simp [join]
    · rw [if_neg h0, join_snoc (by omega) hj]
      simp
  · rw [List.take_succ_eq_append_getElem hj, List.mem_append] at hp'
    rcases hp' with q | q
    · exact h.all p q
    · simp at q
      subst q
      simpa [hj] using hp

theorem sz_of {s : ByteArray} {l : Txt} (h : s.data.toList = l) : s.size = l.length := by rw [← h, tl_size]
theorem ext_of {s : ByteArray} {l : Txt} (h : s.data.toList = l) : s = ⟨l.toArray⟩ := ByteArray.ext (Array.ext' h)
end Go.Proofs.Ytbjnejnjlidiaaa.tsB
