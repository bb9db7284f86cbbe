/- Term: what the document compares and counts. -/
import Derived.Test.YtbjnejnjlidiaaaPrX
import Derived.Test.YtbjnejnjlidiaaaNumF
import Derived.Test.YtbjnejnjlidiaaaTrE
import Derived.StillTailTactics
namespace Go.Proofs.Ytbjnejnjlidiaaa.tsA
open Go.RowKit kit numA numB numC numD numE numF tmA tmB tmC tmD tmE srcA trA trB prA prC prQ prR prS prX
set_option linter.unusedVariables false
set_option linter.unusedSimpArgs false

end Go.Proofs.Ytbjnejnjlidiaaa.tsA
namespace Go.Proofs.Ytbjnejnjlidiaaa.tsB
open Go.RowKit kit numA numB numC numD numE numF numG numH numI tmA tmB tmC tmD tmE srcA trA trB trD prA prC prS prX tsA
set_option linter.unusedVariables false
set_option linter.unusedSimpArgs false

/-- What stands ahead of the parts, as the document writes it. -/
def headT (k n : Nat) (ps : List Txt) : Txt := letter k :: 40 :: (if numbered k = true then dec n ++ (if ps = [] then [] else [44]) else [])

theorem doc_text {k n : Nat} {b : Txt} {ps : List Txt} (h5 : 5 ≤ k) (h11 : k ≤ 11) (hn : n ≤ most) :
    mkT k n b ps = if (∀ p ∈ ps, isT p = true) ∧ isT (headT k n ps ++ (join (srt k ps) ++ [41])) = true then headT k n ps ++ (join (srt k ps) ++ [41]) else [] := by
  rw [mk_br h5 h11]
  by_cases hb : numbered k = true ∧ ps = []
  · obtain ⟨hk, rfl⟩ := hb
    have e8 : k = 8 ∨ k = 10 := by simpa [numbered] using hk
    have e : headT k n [] ++ (join (srt k []) ++ [41]) = letter k :: 40 :: (dec n ++ [41]) := by
      rw [headT, if_pos hk, if_pos rfl, srt, if_neg (fun q => by have := q.2.1; simp at this)]
      simp [join]
    rw [if_neg, if_neg]
    · rintro ⟨_, hi⟩
      rw [e] at hi
      obtain ⟨⟨d, hd⟩, _⟩ := isT_iff.1 hi
      exact bare_T h11 h5 hk d hd
    · intro q
      have := q.1
      rcases e8 with rfl | rfl <;> exact absurd this (by decide)
  · have e : headT k n ps ++ (join (srt k ps) ++ [41]) = letter k :: 40 :: (pre k n ++ (join (srt k ps) ++ [41])) := by
      unfold headT pre
      by_cases hk : numbered k = true
      · rw [if_pos hk, if_pos hk, if_neg (fun q => hb ⟨hk, q⟩)]
        rfl
      · rw [if_neg hk, if_neg hk]
        rfl
    rw [e]
    by_cases hf : fitsB k n ps
    · rw [if_pos hf, if_pos ((fits_iff h5 h11 hn).2 hf)]
    · rw [if_neg hf, if_neg (fun q => hf ((fits_iff h5 h11 hn).1 q))]

theorem join_snoc {ps : List Txt} {j : Nat} (h0 : 0 < j) (hj : j < ps.length) : join (ps.take (j + 1)) = join (ps.take j) ++ 44 :: ps.getD j [] := by
  induction ps generalizing j with
  | nil => cases hj
  | cons p ps ih =>
    obtain ⟨j, rfl⟩ : ∃ i, j = i + 1 := ⟨j - 1, by omega⟩
    simp only [List.length_cons] at hj
    have hne : ps.take (j + 1) ≠ [] := by
      intro q
      have := congrArg List.length q
      simp only [List.length_take, List.length_nil] at this
      omega
    rw [List.take_succ_cons, join_cons p _ hne, List.take_succ_cons]
    by_cases h : j = 0
    · subst h
      cases ps with
      | nil => simp at hj
      | cons q qs => simp [join]
    · have hne' : ps.take j ≠ [] := by
        intro q
        have := congrArg List.length q
        simp only [List.length_take, List.length_nil] at this
        omega
      rw [ih (by omega) (by omega), join_cons p _ hne']
      simp

theorem join_take_le (ps : List Txt) (j : Nat) : (join (ps.take j)).length ≤ total ps + ps.length := by
  have h1 := join_le (ps.take j)
  have h2 := total_take ps j
  rw [List.length_take] at h1
  omega

theorem head_len {k n : Nat} {ps : List Txt} (hn : n ≤ most) : (headT k n ps).length ≤ 30 := by
  have := dec_short hn
  unfold headT
  split
  · split <;> simp only [List.length_cons, List.length_append, List.length_nil] <;> omega
  · simp

theorem refIs (s : ByteArray) (w : World) (hm : s.size ≤ 100000000) : Calls Try.prog 39 #[.string s] w (numA.Told w (.bool (isT s.data.toList))) := trJ.is_any s w hm

/-- What holds at each part: the text so far. -/
structure MR (w : World) (hd : Txt) (qs : List Txt) (j : Nat) (X : ByteArray) (wr : World) : Prop where
  le : j ≤ qs.length
  tx : X.data.toList = hd ++ join (qs.take j)
  all : ∀ p ∈ qs.take j, isT p = true
  only : Only (fun _ => False) w wr

theorem MR.next {w wr w' : World} {hd : Txt} {qs : List Txt} {j : Nat} {X Y : ByteArray} (h : MR w hd qs j X wr) (hj : j < qs.length) (hp : isT (qs.getD j []) = true) (hY : Y.data.toList = X.data.toList ++ (if j = 0 then [] else [44]) ++ qs.getD j []) (o : Only (fun _ => False) wr w') : MR w hd qs (j + 1) Y w' := by
  refine ⟨hj, ?_, fun p hp' => ?_, h.only.trans o⟩
  · rw [hY, h.tx]
    by_cases h0 : j = 0
    · subst h0
      cases qs with
      | nil => cases hj
      | cons q qs => simp [join]
    · rw [if_neg h0, join_snoc (by omega) hj]
      simp
  · rw [List.take_succ_eq_append_getElem hj, List.mem_append] at hp'
    rcases hp' with q | q
    · exact h.all p q
    · simp at q
      subst q
      simpa [hj] using hp

theorem sz_of {s : ByteArray} {l : Txt} (h : s.data.toList = l) : s.size = l.length := by rw [← h, tl_size]
theorem ext_of {s : ByteArray} {l : Txt} (h : s.data.toList = l) : s = ⟨l.toArray⟩ := ByteArray.ext (Array.ext' h)
end Go.Proofs.Ytbjnejnjlidiaaa.tsB
namespace Go.Proofs.Ytbjnejnjlidiaaa.tsB
open Go.RowKit kit numA numB numC numD numE numF numG numH numI tmA tmB tmC tmD tmE srcA trA trB trD prA prC prS prX tsA
set_option linter.unusedVariables false
set_option linter.unusedSimpArgs false

set_option maxRecDepth 100000 in
set_option maxHeartbeats 6400000 in
theorem refmake_o (k n : Nat) (b : Txt) (ps : List Txt) (S : Nat → Prop) (bv lv : Value) (w : World) (h5 : k = 5 ∨ k = 7 ∨ k = 9 ∨ k = 11) (hn : n ≤ most) (hsl : Sl w S lv (ps.map sv)) (ht : total ps ≤ 50000000) (hlen : ps.length ≤ 1000000) : Calls Try.prog 32 #[.int .i64 k, .int .u64 n, bv, lv] w (Made w (mkT k n b ps)) := by
  obtain ⟨a, m, cap, rfl⟩ : ∃ a m cap, lv = .slice a m cap := by
    obtain ⟨_, a, cap, h, _⟩ := hsl
    exact ⟨a, _, cap, h⟩
  obtain rfl := sl_len hsl
  obtain ⟨LT, hx, hlt⟩ : ∃ LT : ByteArray, (⟨#[48, 97, 110, 120, 112, 100, 104, 107, 109, 115, 108]⟩ : ByteArray).extract (k - 1) k = LT ∧ LT.data.toList = [letter k] := ⟨_, rfl, by rcases h5 with rfl | rfl | rfl | rfl <;> rfl⟩
  have DT := Lib.hid (doc_text (k := k) (n := n) (b := b) (ps := ps) (by omega) (by omega) hn)
  obtain ⟨hd, hhd⟩ : ∃ hd, hd = headT k n ps := ⟨_, rfl⟩
  rw [← hhd] at DT
  obtain ⟨M, hM⟩ : ∃ M, M = mkT k n b ps := ⟨_, rfl⟩
  rw [← hM] at DT ⊢
  clear hM
  have HDL := Lib.hid (show hd.length ≤ 30 from by rw [hhd]; exact head_len hn)
  have HN := Lib.hid hn
  have HSL := Lib.hid hsl
  have HT := Lib.hid ht
  have HLEN := Lib.hid hlen
  have HLT := Lib.hid hlt
  have HHD := Lib.hid hhd
  have ltz := sz_of hlt
  simp only [List.length_cons, List.length_nil, Nat.zero_add] at ltz
  have A0 := fun W => run_string_add_sum (P := Try.prog) W LT ⟨#[40]⟩ (by have : (⟨#[40]⟩ : ByteArray).size = 1 := rfl; omega)
  clear hn hsl ht hlen hlt hhd
  have HQ := Lib.hid (show srt k ps = ps from by
    rw [srt, if_neg (fun q => by omega)])
  have HX0 := Lib.hid (show (LT ++ ⟨#[40]⟩ : ByteArray).data.toList = hd from by
    rw [ByteArray.data_append, Array.toList_append, HLT.out, HHD.out, headT]
    rcases h5 with rfl | rfl | rfl | rfl <;> rfl)
  obtain ⟨X0, hX0⟩ : ∃ X0 : ByteArray, X0 = LT ++ ⟨#[40]⟩ := ⟨_, rfl⟩
  rw [← hX0] at A0 HX0
  clear hX0 ltz
  have HTQ := HT
  have HLQ := HLEN
  rcases h5 with rfl | rfl | rfl | rfl
  all_goals
    simp only [Nat.reduceSub] at hx
    first | simp only [Nat.cast_ofNat] | simp only [Int.cast_ofNat_Int] | simp only [Int.natCast_ofNat]
    have HX := Lib.hid hx
    clear hx
    go_enter Try.func32, Try.ntmps32
    go_wp2_with fail
    rw [HX.out]
    go_quiet (fail)
    have O0 := Lib.hid (show Only (fun _ => False) w (w.drewN nq) from (Only.refl _ w).drewN _)
    have HSQ := Lib.hid (HSL.out.keep O0.out fun _ _ h => h)
    go_wp2_with fail
    have HD0 := Lib.hid (show X0.data.toList = hd from HX0.out)
    generalize w.drewN nq = W0 at O0 HSQ ⊢
    go_loopw [9, 10] (fun s i wr => ∃ (j : Nat) (X : ByteArray), i = .int .i64 j ∧ s = .string X ∧ MR W0 hd ps j X wr) (fun _ i _ => ps.length - (Lib.intOf i).toNat)
    case atStart => exact ⟨0, X0, rfl, rfl, Nat.zero_le _, by rw [HD0.out]; simp [join], by simp, Only.refl _ _⟩
    case round =>
      obtain ⟨j, X, rfl, rfl, hB⟩ := hrel
      have BR := Lib.hid hB
      have xs : X.size ≤ 60000030 := by
        rw [sz_of hB.tx, List.length_append]
        have := join_take_le ps j
        have := HDL.out
        have := HTQ.out
        have := HLQ.out
        omega
      by_cases hj : j < ps.length
      · obtain ⟨g, o, hae, -, hgl, hc⟩ := sl_get (HSQ.out.keep hB.only fun _ _ h => h) j hj
        rw [hae]
        have HAE := Lib.hid hae
        clear hae
        obtain ⟨p, hp⟩ : ∃ p, p = ps.getD j [] := ⟨_, rfl⟩
        rw [← hp] at hc
        obtain ⟨sp, hsp⟩ : ∃ sp : ByteArray, sp = ⟨p.toArray⟩ := ⟨_, rfl⟩
        have hc' : wr.cell? ⟨g, o + j, none⟩ = some (.string sp) := by rw [hsp]; exact hc
        have hpm : p ∈ ps := by
          rw [hp, show ps.getD j [] = ps[j] by simp [hj]]
          exact List.getElem_mem _
        have hpl : p.length ≤ 50000000 := by have := len_total hpm; have := HTQ.out; omega
        have ssp : sp.size = p.length := by rw [hsp]; simp [ByteArray.size]
        have hspl : sp.data.toList = p := by rw [hsp]
        have IS := Lib.hid (refIs sp wr (by omega))
        rw [hspl] at IS
        have k0 : (0 : Int) ≤ (j : Int) := by omega
        have k1 : (j : Int) < (ps.length : Int) := by omega
        have wj : wrap64 ((j : Int) + 1) = (j : Int) + 1 := IntWalk.wrap64_in _ (by have := HLQ.out; omega)
        have HP := Lib.hid hp
        have HPM := Lib.hid hpm
        have HJ := Lib.hid hj
        have HSP := Lib.hid hspl
        have KC := Lib.hid (fun (w' : World) (o' : Only (fun _ => False) wr w') => (show w'.cell? ⟨g, o + j, none⟩ = some (.string sp) from (World.cell?_of_block (w := wr) (a := ⟨g, o + j, none⟩) (o'.block g hgl id)).trans hc'))
        clear hgl
        cases hi : isT p
        · have HF := Lib.hid (show M = [] from by
            rw [DT.out, if_neg (fun q => by
              have := q.1 p (srt_mem.1 (by rw [HQ.out]; exact hpm))
              rw [hi] at this
              cases this)])
          clear hB hc hp hsp hpm hj hspl ssp hpl
          rw [hi] at IS
          go_wp2_with fail
          (with_reducible refine IS.out.mono ?_)
          rintro e w' ⟨rfl, o'⟩
          have O2 := Lib.hid (O0.out.trans (BR.out.only.trans o'))
          clear o' IS
          go_wp2_with fail
          go_ret
          exact ⟨O2.out, by rw [HF.out]; rfl⟩
        · have HI := Lib.hid hi
          have A1 := fun W => run_string_add_sum (P := Try.prog) W X ⟨#[44]⟩ (by have : (⟨#[44]⟩ : ByteArray).size = 1 := rfl; omega)
          have A2 := fun W => run_string_add_sum (P := Try.prog) W X sp (by omega)
          have A3 := fun W => run_string_add_sum (P := Try.prog) W (X ++ ⟨#[44]⟩) sp (by have : (⟨#[44]⟩ : ByteArray).size = 1 := rfl; rw [ByteArray.size_append]; omega)
          rw [hi] at IS
          clear hB hc hp hsp hpm hj hspl ssp hpl hi xs
          by_cases h0 : j = 0
          · have HJ0 := Lib.hid h0
            have j0 : ¬ 0 < j := by omega
            clear h0
            go_wp2_with fail
            (with_reducible refine IS.out.mono ?_)
            rintro e w' ⟨rfl, o'⟩
            have O2 := Lib.hid o'
            have hc2 := KC.out w' o'
            clear o' IS
            go_wp2_with fail
            have NX := Lib.hid (BR.out.next (Y := X ++ sp) HJ.out (by rw [← HP.out]; exact HI.out) (by rw [ByteArray.data_append, Array.toList_append, HSP.out, HP.out, if_pos HJ0.out, List.append_nil]) O2.out)
            have HMS := Lib.hid HJ.out
            go_roundw
            case rel => exact ⟨j + 1, X ++ sp, by first | (rw [wj]; rfl) | rfl | go_num, rfl, NX.out⟩
            case measure =>
              try rw [wj]
              have := HMS.out
              simp only [Lib.intOf]
              omega
          · have j0 : 0 < j := by omega
            have HJ0 := Lib.hid h0
            clear h0
            go_wp2_with fail
            (with_reducible refine IS.out.mono ?_)
            rintro e w' ⟨rfl, o'⟩
            have O2 := Lib.hid o'
            have hc2 := KC.out w' o'
            clear o' IS
            go_wp2_with fail
            have NX := Lib.hid (BR.out.next (Y := (X ++ ⟨#[44]⟩) ++ sp) HJ.out (by rw [← HP.out]; exact HI.out) (by rw [ByteArray.data_append, Array.toList_append, ByteArray.data_append, Array.toList_append, HSP.out, HP.out, if_neg HJ0.out]) O2.out)
            go_roundw
            case rel => exact ⟨j + 1, (X ++ ⟨#[44]⟩) ++ sp, by first | (rw [wj]; rfl) | rfl | go_num, rfl, NX.out⟩
            case measure =>
              try rw [wj]
              have := HJ.out
              simp only [Lib.intOf]
              omega
      · obtain rfl : j = ps.length := by have := hB.le; omega
        have j1 : ¬ ((ps.length : Int) < (ps.length : Int)) := by omega
        have htx := hB.tx
        rw [List.take_length] at htx
        have hall := hB.all
        rw [List.take_length] at hall
        have A1 := fun W => run_string_add_sum (P := Try.prog) W X ⟨#[41]⟩ (by have : (⟨#[41]⟩ : ByteArray).size = 1 := rfl; omega)
        have hY : (X ++ ⟨#[41]⟩ : ByteArray).data.toList = hd ++ (join ps ++ [41]) := by
          rw [ByteArray.data_append, Array.toList_append, htx, List.append_assoc]
        have hfin : M = if isT (hd ++ (join ps ++ [41])) = true then hd ++ (join ps ++ [41]) else [] := by
          rw [DT.out, HQ.out]
          by_cases hi : isT (hd ++ (join ps ++ [41])) = true
          · rw [if_pos hi, if_pos ⟨fun p hp => hall p (by rw [← HQ.out]; exact srt_mem.2 hp), hi⟩]
          · rw [if_neg hi, if_neg (fun q => hi q.2)]
        obtain ⟨Y, hYe⟩ : ∃ Y : ByteArray, Y = X ++ ⟨#[41]⟩ := ⟨_, rfl⟩
        rw [← hYe] at A1 hY
        have ys : Y.size ≤ 60000031 := by
          rw [hYe, ByteArray.size_append]
          have : (⟨#[41]⟩ : ByteArray).size = 1 := rfl
          omega
        have IS := Lib.hid (refIs Y wr (by omega))
        rw [hY] at IS
        have HY := Lib.hid (ext_of hY)
        cases hi : isT (hd ++ (join ps ++ [41]))
        · have HF := Lib.hid (show M = [] from by rw [hfin, hi]; rfl)
          rw [hi] at IS
          clear hB htx hall hY hfin hYe ys hi xs hj
          go_wp2_with fail
          (with_reducible refine IS.out.mono ?_)
          rintro e w' ⟨rfl, o'⟩
          have O2 := Lib.hid (O0.out.trans (BR.out.only.trans o'))
          clear o' IS
          go_wp2_with fail
          go_ret
          exact ⟨O2.out, by rw [HF.out]; rfl⟩
        · have HF := Lib.hid (show M = hd ++ (join ps ++ [41]) from by rw [hfin, hi]; rfl)
          rw [hi] at IS
          clear hB htx hall hY hfin hYe ys hi xs hj
          go_wp2_with fail
          (with_reducible refine IS.out.mono ?_)
          rintro e w' ⟨rfl, o'⟩
          have O2 := Lib.hid (O0.out.trans (BR.out.only.trans o'))
          clear o' IS
          go_wp2_with fail
          go_ret
          exact ⟨O2.out, by rw [HF.out, HY.out]; rfl⟩
end Go.Proofs.Ytbjnejnjlidiaaa.tsB
namespace Go.Proofs.Ytbjnejnjlidiaaa.tsB
open Go.RowKit kit numA numB numC numD numE numF numG numH numI tmA tmB tmC tmD tmE srcA trA trB trD prA prC prS prX tsA
set_option linter.unusedVariables false
set_option linter.unusedSimpArgs false

set_option maxRecDepth 100000 in
set_option maxHeartbeats 6400000 in
theorem refmake_n (k n : Nat) (b : Txt) (ps : List Txt) (S : Nat → Prop) (bv lv : Value) (w : World) (h5 : k = 8 ∨ k = 10) (hn : n ≤ most) (hsl : Sl w S lv (ps.map sv)) (ht : total ps ≤ 50000000) (hlen : ps.length ≤ 1000000) : Calls Try.prog 32 #[.int .i64 k, .int .u64 n, bv, lv] w (Made w (mkT k n b ps)) := by
  obtain ⟨a, m, cap, rfl⟩ : ∃ a m cap, lv = .slice a m cap := by
    obtain ⟨_, a, cap, h, _⟩ := hsl
    exact ⟨a, _, cap, h⟩
  obtain rfl := sl_len hsl
  obtain ⟨LT, hx, hlt⟩ : ∃ LT : ByteArray, (⟨#[48, 97, 110, 120, 112, 100, 104, 107, 109, 115, 108]⟩ : ByteArray).extract (k - 1) k = LT ∧ LT.data.toList = [letter k] := ⟨_, rfl, by rcases h5 with rfl | rfl <;> rfl⟩
  have DT := Lib.hid (doc_text (k := k) (n := n) (b := b) (ps := ps) (by omega) (by omega) hn)
  obtain ⟨hd, hhd⟩ : ∃ hd, hd = headT k n ps := ⟨_, rfl⟩
  rw [← hhd] at DT
  obtain ⟨M, hM⟩ : ∃ M, M = mkT k n b ps := ⟨_, rfl⟩
  rw [← hM] at DT ⊢
  clear hM
  have HDL := Lib.hid (show hd.length ≤ 30 from by rw [hhd]; exact head_len hn)
  have HN := Lib.hid hn
  have HSL := Lib.hid hsl
  have HT := Lib.hid ht
  have HLEN := Lib.hid hlen
  have HLT := Lib.hid hlt
  have HHD := Lib.hid hhd
  have ltz := sz_of hlt
  simp only [List.length_cons, List.length_nil, Nat.zero_add] at ltz
  have A0 := fun W => run_string_add_sum (P := Try.prog) W LT ⟨#[40]⟩ (by have : (⟨#[40]⟩ : ByteArray).size = 1 := rfl; omega)
  clear hn hsl ht hlen hlt hhd
  have HQ := Lib.hid (show srt k ps = ps from by
    rw [srt, if_neg (fun q => by omega)])
  have HKN := Lib.hid (show numbered k = true from by rcases h5 with rfl | rfl <;> rfl)
  have PN := Lib.hid (fun W => print_ref n W HN.out)
  obtain ⟨DN, hDN⟩ : ∃ DN : ByteArray, DN = ⟨(dec n).toArray⟩ := ⟨_, rfl⟩
  have zDN : DN.size ≤ 20 := by rw [hDN]; have := dec_short HN.out; simpa [ByteArray.size] using this
  have hdn : DN.data.toList = dec n := by rw [hDN]
  rw [← hDN] at PN
  clear hDN
  obtain ⟨X1, hX1⟩ : ∃ X1 : ByteArray, X1 = LT ++ ⟨#[40]⟩ := ⟨_, rfl⟩
  have z1 : X1.size = 2 := by rw [hX1, ByteArray.size_append, ltz]; rfl
  have t1 : X1.data.toList = [letter k, 40] := by rw [hX1, ByteArray.data_append, Array.toList_append, HLT.out]; rfl
  rw [← hX1] at A0
  have A4 := fun W => run_string_add_sum (P := Try.prog) W X1 DN (by omega)
  obtain ⟨X2, hX2⟩ : ∃ X2 : ByteArray, X2 = X1 ++ DN := ⟨_, rfl⟩
  have z2 : X2.size ≤ 22 := by rw [hX2, ByteArray.size_append]; omega
  have t2 : X2.data.toList = letter k :: 40 :: dec n := by rw [hX2, ByteArray.data_append, Array.toList_append, t1, hdn]; rfl
  rw [← hX2] at A4
  have A5 := fun W => run_string_add_sum (P := Try.prog) W X2 ⟨#[44]⟩ (by have : (⟨#[44]⟩ : ByteArray).size = 1 := rfl; omega)
  have T2 := Lib.hid t2
  clear hX1 hX2 z1 z2 t1 t2 zDN hdn ltz
  have HTQ := HT
  have HLQ := HLEN
  by_cases hp : ps = []
  · have HX0 := Lib.hid (show X2.data.toList = hd from by
      rw [T2.out, HHD.out, headT, if_pos HKN.out, if_pos hp, List.append_nil])
    have l1 : ¬ 0 < ps.length := by rw [hp]; simp
    obtain ⟨X0, hX0⟩ : ∃ X0, X0 = X2 := ⟨_, rfl⟩
    rw [← hX0] at HX0
    have HX2 := Lib.hid hX0
    clear hp hX0
    rcases h5 with rfl | rfl
    all_goals
      simp only [Nat.reduceSub] at hx
      first | simp only [Nat.cast_ofNat] | simp only [Int.cast_ofNat_Int] | simp only [Int.natCast_ofNat]
      have HX := Lib.hid hx
      clear hx
      go_enter Try.func32, Try.ntmps32
      go_wp2_with fail
      rw [HX.out]
      go_quiet (fail)
      go_wp2_with fail
      (with_reducible refine (PN.out _).mono ?_)
      rintro e w2 ⟨rfl, o2⟩
      have O0 := Lib.hid (show Only (fun _ => False) w w2 from ((Only.refl _ w).drewN _).trans o2)
      have HSQ := Lib.hid (HSL.out.keep O0.out fun _ _ h => h)
      clear o2
      go_wp2_with fail
      rw [← HX2.out]
      have HD0 := Lib.hid (show X0.data.toList = hd from HX0.out)
      generalize w2 = W0 at O0 HSQ ⊢
      go_loopw [9, 10] (fun s i wr => ∃ (j : Nat) (X : ByteArray), i = .int .i64 j ∧ s = .string X ∧ MR W0 hd ps j X wr) (fun _ i _ => ps.length - (Lib.intOf i).toNat)
      case atStart => exact ⟨0, X0, rfl, rfl, Nat.zero_le _, by rw [HD0.out]; simp [join], by simp, Only.refl _ _⟩
      case round =>
        obtain ⟨j, X, rfl, rfl, hB⟩ := hrel
        have BR := Lib.hid hB
        have xs : X.size ≤ 60000030 := by
          rw [sz_of hB.tx, List.length_append]
          have := join_take_le ps j
          have := HDL.out
          have := HTQ.out
          have := HLQ.out
          omega
        by_cases hj : j < ps.length
        · obtain ⟨g, o, hae, -, hgl, hc⟩ := sl_get (HSQ.out.keep hB.only fun _ _ h => h) j hj
          rw [hae]
          have HAE := Lib.hid hae
          clear hae
          obtain ⟨p, hp⟩ : ∃ p, p = ps.getD j [] := ⟨_, rfl⟩
          rw [← hp] at hc
          obtain ⟨sp, hsp⟩ : ∃ sp : ByteArray, sp = ⟨p.toArray⟩ := ⟨_, rfl⟩
          have hc' : wr.cell? ⟨g, o + j, none⟩ = some (.string sp) := by rw [hsp]; exact hc
          have hpm : p ∈ ps := by
            rw [hp, show ps.getD j [] = ps[j] by simp [hj]]
            exact List.getElem_mem _
          have hpl : p.length ≤ 50000000 := by have := len_total hpm; have := HTQ.out; omega
          have ssp : sp.size = p.length := by rw [hsp]; simp [ByteArray.size]
          have hspl : sp.data.toList = p := by rw [hsp]
          have IS := Lib.hid (refIs sp wr (by omega))
          rw [hspl] at IS
          have k0 : (0 : Int) ≤ (j : Int) := by omega
          have k1 : (j : Int) < (ps.length : Int) := by omega
          have wj : wrap64 ((j : Int) + 1) = (j : Int) + 1 := IntWalk.wrap64_in _ (by have := HLQ.out; omega)
          have HP := Lib.hid hp
          have HPM := Lib.hid hpm
          have HJ := Lib.hid hj
          have HSP := Lib.hid hspl
          have KC := Lib.hid (fun (w' : World) (o' : Only (fun _ => False) wr w') => (show w'.cell? ⟨g, o + j, none⟩ = some (.string sp) from (World.cell?_of_block (w := wr) (a := ⟨g, o + j, none⟩) (o'.block g hgl id)).trans hc'))
          clear hgl
          cases hi : isT p
          · have HF := Lib.hid (show M = [] from by
              rw [DT.out, if_neg (fun q => by
                have := q.1 p (srt_mem.1 (by rw [HQ.out]; exact hpm))
                rw [hi] at this
                cases this)])
            clear hB hc hp hsp hpm hj hspl ssp hpl
            rw [hi] at IS
            go_wp2_with fail
            (with_reducible refine IS.out.mono ?_)
            rintro e w' ⟨rfl, o'⟩
            have O2 := Lib.hid (O0.out.trans (BR.out.only.trans o'))
            clear o' IS
            go_wp2_with fail
            go_ret
            exact ⟨O2.out, by rw [HF.out]; rfl⟩
          · have HI := Lib.hid hi
            have A1 := fun W => run_string_add_sum (P := Try.prog) W X ⟨#[44]⟩ (by have : (⟨#[44]⟩ : ByteArray).size = 1 := rfl; omega)
            have A2 := fun W => run_string_add_sum (P := Try.prog) W X sp (by omega)
            have A3 := fun W => run_string_add_sum (P := Try.prog) W (X ++ ⟨#[44]⟩) sp (by have : (⟨#[44]⟩ : ByteArray).size = 1 := rfl; rw [ByteArray.size_append]; omega)
            rw [hi] at IS
            clear hB hc hp hsp hpm hj hspl ssp hpl hi xs
            by_cases h0 : j = 0
            · have HJ0 := Lib.hid h0
              have j0 : ¬ 0 < j := by omega
              clear h0
              go_wp2_with fail
              (with_reducible refine IS.out.mono ?_)
              rintro e w' ⟨rfl, o'⟩
              have O2 := Lib.hid o'
              have hc2 := KC.out w' o'
              clear o' IS
              go_wp2_with fail
              have NX := Lib.hid (BR.out.next (Y := X ++ sp) HJ.out (by rw [← HP.out]; exact HI.out) (by rw [ByteArray.data_append, Array.toList_append, HSP.out, HP.out, if_pos HJ0.out, List.append_nil]) O2.out)
              have HMS := Lib.hid HJ.out
              go_roundw
              case rel => exact ⟨j + 1, X ++ sp, by first | (rw [wj]; rfl) | rfl | go_num, rfl, NX.out⟩
              case measure =>
                try rw [wj]
                have := HMS.out
                simp only [Lib.intOf]
                omega
            · have j0 : 0 < j := by omega
              have HJ0 := Lib.hid h0
              clear h0
              go_wp2_with fail
              (with_reducible refine IS.out.mono ?_)
              rintro e w' ⟨rfl, o'⟩
              have O2 := Lib.hid o'
              have hc2 := KC.out w' o'
              clear o' IS
              go_wp2_with fail
              have NX := Lib.hid (BR.out.next (Y := (X ++ ⟨#[44]⟩) ++ sp) HJ.out (by rw [← HP.out]; exact HI.out) (by rw [ByteArray.data_append, Array.toList_append, ByteArray.data_append, Array.toList_append, HSP.out, HP.out, if_neg HJ0.out]) O2.out)
              go_roundw
              case rel => exact ⟨j + 1, (X ++ ⟨#[44]⟩) ++ sp, by first | (rw [wj]; rfl) | rfl | go_num, rfl, NX.out⟩
              case measure =>
                try rw [wj]
                have := HJ.out
                simp only [Lib.intOf]
                omega
        · obtain rfl : j = ps.length := by have := hB.le; omega
          have j1 : ¬ ((ps.length : Int) < (ps.length : Int)) := by omega
          have htx := hB.tx
          rw [List.take_length] at htx
          have hall := hB.all
          rw [List.take_length] at hall
          have A1 := fun W => run_string_add_sum (P := Try.prog) W X ⟨#[41]⟩ (by have : (⟨#[41]⟩ : ByteArray).size = 1 := rfl; omega)
          have hY : (X ++ ⟨#[41]⟩ : ByteArray).data.toList = hd ++ (join ps ++ [41]) := by
            rw [ByteArray.data_append, Array.toList_append, htx, List.append_assoc]
          have hfin : M = if isT (hd ++ (join ps ++ [41])) = true then hd ++ (join ps ++ [41]) else [] := by
            rw [DT.out, HQ.out]
            by_cases hi : isT (hd ++ (join ps ++ [41])) = true
            · rw [if_pos hi, if_pos ⟨fun p hp => hall p (by rw [← HQ.out]; exact srt_mem.2 hp), hi⟩]
            · rw [if_neg hi, if_neg (fun q => hi q.2)]
          obtain ⟨Y, hYe⟩ : ∃ Y : ByteArray, Y = X ++ ⟨#[41]⟩ := ⟨_, rfl⟩
          rw [← hYe] at A1 hY
          have ys : Y.size ≤ 60000031 := by
            rw [hYe, ByteArray.size_append]
            have : (⟨#[41]⟩ : ByteArray).size = 1 := rfl
            omega
          have IS := Lib.hid (refIs Y wr (by omega))
          rw [hY] at IS
          have HY := Lib.hid (ext_of hY)
          cases hi : isT (hd ++ (join ps ++ [41]))
          · have HF := Lib.hid (show M = [] from by rw [hfin, hi]; rfl)
            rw [hi] at IS
            clear hB htx hall hY hfin hYe ys hi xs hj
            go_wp2_with fail
            (with_reducible refine IS.out.mono ?_)
            rintro e w' ⟨rfl, o'⟩
            have O2 := Lib.hid (O0.out.trans (BR.out.only.trans o'))
            clear o' IS
            go_wp2_with fail
            go_ret
            exact ⟨O2.out, by rw [HF.out]; rfl⟩
          · have HF := Lib.hid (show M = hd ++ (join ps ++ [41]) from by rw [hfin, hi]; rfl)
            rw [hi] at IS
            clear hB htx hall hY hfin hYe ys hi xs hj
            go_wp2_with fail
            (with_reducible refine IS.out.mono ?_)
            rintro e w' ⟨rfl, o'⟩
            have O2 := Lib.hid (O0.out.trans (BR.out.only.trans o'))
            clear o' IS
            go_wp2_with fail
            go_ret
            exact ⟨O2.out, by rw [HF.out, HY.out]; rfl⟩
  · have HX0 := Lib.hid (show (X2 ++ ⟨#[44]⟩ : ByteArray).data.toList = hd from by
      rw [ByteArray.data_append, Array.toList_append, T2.out, HHD.out, headT, if_pos HKN.out, if_neg hp]
      rfl)
    have l1 : 0 < ps.length := List.length_pos_iff.2 hp
    obtain ⟨X0, hX0⟩ : ∃ X0 : ByteArray, X0 = X2 ++ ⟨#[44]⟩ := ⟨_, rfl⟩
    rw [← hX0] at A5 HX0
    clear hp hX0
    rcases h5 with rfl | rfl
    all_goals
      simp only [Nat.reduceSub] at hx
      first | simp only [Nat.cast_ofNat] | simp only [Int.cast_ofNat_Int] | simp only [Int.natCast_ofNat]
      have HX := Lib.hid hx
      clear hx
      go_enter Try.func32, Try.ntmps32
      go_wp2_with fail
      rw [HX.out]
      go_quiet (fail)
      go_wp2_with fail
      (with_reducible refine (PN.out _).mono ?_)
      rintro e w2 ⟨rfl, o2⟩
      have O0 := Lib.hid (show Only (fun _ => False) w w2 from ((Only.refl _ w).drewN _).trans o2)
      have HSQ := Lib.hid (HSL.out.keep O0.out fun _ _ h => h)
      clear o2
      go_wp2_with fail
      have HD0 := Lib.hid (show X0.data.toList = hd from HX0.out)
      generalize w2 = W0 at O0 HSQ ⊢
      go_loopw [9, 10] (fun s i wr => ∃ (j : Nat) (X : ByteArray), i = .int .i64 j ∧ s = .string X ∧ MR W0 hd ps j X wr) (fun _ i _ => ps.length - (Lib.intOf i).toNat)
      case atStart => exact ⟨0, X0, rfl, rfl, Nat.zero_le _, by rw [HD0.out]; simp [join], by simp, Only.refl _ _⟩
      case round =>
        obtain ⟨j, X, rfl, rfl, hB⟩ := hrel
        have BR := Lib.hid hB
        have xs : X.size ≤ 60000030 := by
          rw [sz_of hB.tx, List.length_append]
          have := join_take_le ps j
          have := HDL.out
          have := HTQ.out
          have := HLQ.out
          omega
        by_cases hj : j < ps.length
        · obtain ⟨g, o, hae, -, hgl, hc⟩ := sl_get (HSQ.out.keep hB.only fun _ _ h => h) j hj
          rw [hae]
          have HAE := Lib.hid hae
          clear hae
          obtain ⟨p, hp⟩ : ∃ p, p = ps.getD j [] := ⟨_, rfl⟩
          rw [← hp] at hc
          obtain ⟨sp, hsp⟩ : ∃ sp : ByteArray, sp = ⟨p.toArray⟩ := ⟨_, rfl⟩
          have hc' : wr.cell? ⟨g, o + j, none⟩ = some (.string sp) := by rw [hsp]; exact hc
          have hpm : p ∈ ps := by
            rw [hp, show ps.getD j [] = ps[j] by simp [hj]]
            exact List.getElem_mem _
          have hpl : p.length ≤ 50000000 := by have := len_total hpm; have := HTQ.out; omega
          have ssp : sp.size = p.length := by rw [hsp]; simp [ByteArray.size]
          have hspl : sp.data.toList = p := by rw [hsp]
          have IS := Lib.hid (refIs sp wr (by omega))
          rw [hspl] at IS
          have k0 : (0 : Int) ≤ (j : Int) := by omega
          have k1 : (j : Int) < (ps.length : Int) := by omega
          have wj : wrap64 ((j : Int) + 1) = (j : Int) + 1 := IntWalk.wrap64_in _ (by have := HLQ.out; omega)
          have HP := Lib.hid hp
          have HPM := Lib.hid hpm
          have HJ := Lib.hid hj
          have HSP := Lib.hid hspl
          have KC := Lib.hid (fun (w' : World) (o' : Only (fun _ => False) wr w') => (show w'.cell? ⟨g, o + j, none⟩ = some (.string sp) from (World.cell?_of_block (w := wr) (a := ⟨g, o + j, none⟩) (o'.block g hgl id)).trans hc'))
          clear hgl
          cases hi : isT p
          · have HF := Lib.hid (show M = [] from by
              rw [DT.out, if_neg (fun q => by
                have := q.1 p (srt_mem.1 (by rw [HQ.out]; exact hpm))
                rw [hi] at this
                cases this)])
            clear hB hc hp hsp hpm hj hspl ssp hpl
            rw [hi] at IS
            go_wp2_with fail
            (with_reducible refine IS.out.mono ?_)
            rintro e w' ⟨rfl, o'⟩
            have O2 := Lib.hid (O0.out.trans (BR.out.only.trans o'))
            clear o' IS
            go_wp2_with fail
            go_ret
            exact ⟨O2.out, by rw [HF.out]; rfl⟩
          · have HI := Lib.hid hi
            have A1 := fun W => run_string_add_sum (P := Try.prog) W X ⟨#[44]⟩ (by have : (⟨#[44]⟩ : ByteArray).size = 1 := rfl; omega)
            have A2 := fun W => run_string_add_sum (P := Try.prog) W X sp (by omega)
            have A3 := fun W => run_string_add_sum (P := Try.prog) W (X ++ ⟨#[44]⟩) sp (by have : (⟨#[44]⟩ : ByteArray).size = 1 := rfl; rw [ByteArray.size_append]; omega)
            rw [hi] at IS
            clear hB hc hp hsp hpm hj hspl ssp hpl hi xs
            by_cases h0 : j = 0
            · have HJ0 := Lib.hid h0
              have j0 : ¬ 0 < j := by omega
              clear h0
              go_wp2_with fail
              (with_reducible refine IS.out.mono ?_)
              rintro e w' ⟨rfl, o'⟩
              have O2 := Lib.hid o'
              have hc2 := KC.out w' o'
              clear o' IS
              go_wp2_with fail
              have NX := Lib.hid (BR.out.next (Y := X ++ sp) HJ.out (by rw [← HP.out]; exact HI.out) (by rw [ByteArray.data_append, Array.toList_append, HSP.out, HP.out, if_pos HJ0.out, List.append_nil]) O2.out)
              have HMS := Lib.hid HJ.out
              go_roundw
              case rel => exact ⟨j + 1, X ++ sp, by first | (rw [wj]; rfl) | rfl | go_num, rfl, NX.out⟩
              case measure =>
                try rw [wj]
                have := HMS.out
                simp only [Lib.intOf]
                omega
            · have j0 : 0 < j := by omega
              have HJ0 := Lib.hid h0
              clear h0
              go_wp2_with fail
              (with_reducible refine IS.out.mono ?_)
              rintro e w' ⟨rfl, o'⟩
              have O2 := Lib.hid o'
              have hc2 := KC.out w' o'
              clear o' IS
              go_wp2_with fail
              have NX := Lib.hid (BR.out.next (Y := (X ++ ⟨#[44]⟩) ++ sp) HJ.out (by rw [← HP.out]; exact HI.out) (by rw [ByteArray.data_append, Array.toList_append, ByteArray.data_append, Array.toList_append, HSP.out, HP.out, if_neg HJ0.out]) O2.out)
              go_roundw
              case rel => exact ⟨j + 1, (X ++ ⟨#[44]⟩) ++ sp, by first | (rw [wj]; rfl) | rfl | go_num, rfl, NX.out⟩
              case measure =>
                try rw [wj]
                have := HJ.out
                simp only [Lib.intOf]
                omega
        · obtain rfl : j = ps.length := by have := hB.le; omega
          have j1 : ¬ ((ps.length : Int) < (ps.length : Int)) := by omega
          have htx := hB.tx
          rw [List.take_length] at htx
          have hall := hB.all
          rw [List.take_length] at hall
          have A1 := fun W => run_string_add_sum (P := Try.prog) W X ⟨#[41]⟩ (by have : (⟨#[41]⟩ : ByteArray).size = 1 := rfl; omega)
          have hY : (X ++ ⟨#[41]⟩ : ByteArray).data.toList = hd ++ (join ps ++ [41]) := by
            rw [ByteArray.data_append, Array.toList_append, htx, List.append_assoc]
          have hfin : M = if isT (hd ++ (join ps ++ [41])) = true then hd ++ (join ps ++ [41]) else [] := by
            rw [DT.out, HQ.out]
            by_cases hi : isT (hd ++ (join ps ++ [41])) = true
            · rw [if_pos hi, if_pos ⟨fun p hp => hall p (by rw [← HQ.out]; exact srt_mem.2 hp), hi⟩]
            · rw [if_neg hi, if_neg (fun q => hi q.2)]
          obtain ⟨Y, hYe⟩ : ∃ Y : ByteArray, Y = X ++ ⟨#[41]⟩ := ⟨_, rfl⟩
          rw [← hYe] at A1 hY
          have ys : Y.size ≤ 60000031 := by
            rw [hYe, ByteArray.size_append]
            have : (⟨#[41]⟩ : ByteArray).size = 1 := rfl
            omega
          have IS := Lib.hid (refIs Y wr (by omega))
          rw [hY] at IS
          have HY := Lib.hid (ext_of hY)
          cases hi : isT (hd ++ (join ps ++ [41]))
          · have HF := Lib.hid (show M = [] from by rw [hfin, hi]; rfl)
            rw [hi] at IS
            clear hB htx hall hY hfin hYe ys hi xs hj
            go_wp2_with fail
            (with_reducible refine IS.out.mono ?_)
            rintro e w' ⟨rfl, o'⟩
            have O2 := Lib.hid (O0.out.trans (BR.out.only.trans o'))
            clear o' IS
            go_wp2_with fail
            go_ret
            exact ⟨O2.out, by rw [HF.out]; rfl⟩
          · have HF := Lib.hid (show M = hd ++ (join ps ++ [41]) from by rw [hfin, hi]; rfl)
            rw [hi] at IS
            clear hB htx hall hY hfin hYe ys hi xs hj
            go_wp2_with fail
            (with_reducible refine IS.out.mono ?_)
            rintro e w' ⟨rfl, o'⟩
            have O2 := Lib.hid (O0.out.trans (BR.out.only.trans o'))
            clear o' IS
            go_wp2_with fail
            go_ret
            exact ⟨O2.out, by rw [HF.out, HY.out]; rfl⟩
end Go.Proofs.Ytbjnejnjlidiaaa.tsB
