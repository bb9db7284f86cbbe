/- Term: the document's Make. -/
import Derived.Test.YtbjnejnjlidiaaaTsA
import Derived.StillTailTactics
namespace Go.Proofs.Ytbjnejnjlidiaaa.tsB
open Go.RowKit kit numA numB numC numD numE numF numG numH numI tmA tmB tmC tmD tmE srcA trA trB trD prA prC prS prX tsA
set_option linter.unusedVariables false
set_option linter.unusedSimpArgs false

set_option maxRecDepth 100000 in
set_option maxHeartbeats 6400000 in
theorem refmake_6 (k n : Nat) (b : Txt) (ps : List Txt) (S : Nat → Prop) (bv lv : Value) (w : World) (h5 : k = 6) (hn : n ≤ most) (hsl : Sl w S lv (ps.map sv)) (ht : total ps ≤ 50000000) (hlen : ps.length ≤ 1000000) : Calls Try.prog 32 #[.int .i64 k, .int .u64 n, bv, lv] w (Made w (mkT k n b ps)) := by
  obtain ⟨a, m, cap, rfl⟩ : ∃ a m cap, lv = .slice a m cap := by
    obtain ⟨_, a, cap, h, _⟩ := hsl
    exact ⟨a, _, cap, h⟩
  obtain rfl := sl_len hsl
  obtain ⟨LT, hx, hlt⟩ : ∃ LT : ByteArray, (⟨#[48, 97, 110, 120, 112, 100, 104, 107, 109, 115, 108]⟩ : ByteArray).extract (k - 1) k = LT ∧ LT.data.toList = [letter k] := ⟨_, rfl, by obtain rfl := h5 <;> rfl⟩
  have DT := Lib.hid (doc_text (k := k) (n := n) (b := b) (ps := ps) (by omega) (by omega) hn)
  obtain ⟨hd, hhd⟩ : ∃ hd, hd = headT k n ps := ⟨_, rfl⟩
  rw [← hhd] at DT
  obtain ⟨M, hM⟩ : ∃ M, M = mkT k n b ps := ⟨_, rfl⟩
  rw [← hM] at DT ⊢
  clear hM
  have HDL := Lib.hid (show hd.length ≤ 30 from by rw [hhd]; exact head_len hn)
  have HN := Lib.hid hn
  have HSL := Lib.hid hsl
  have HT := Lib.hid ht
  have HLEN := Lib.hid hlen
  have HLT := Lib.hid hlt
  have HHD := Lib.hid hhd
  have ltz := sz_of hlt
  simp only [List.length_cons, List.length_nil, Nat.zero_add] at ltz
  have A0 := fun W => run_string_add_sum (P := Try.prog) W LT ⟨#[40]⟩ (by have : (⟨#[40]⟩ : ByteArray).size = 1 := rfl; omega)
  clear hn hsl ht hlen hlt hhd
  have HX0 := Lib.hid (show (LT ++ ⟨#[40]⟩ : ByteArray).data.toList = hd from by
    rw [ByteArray.data_append, Array.toList_append, HLT.out, HHD.out, headT]
    obtain rfl := h5
    rfl)
  obtain ⟨X0, hX0⟩ : ∃ X0 : ByteArray, X0 = LT ++ ⟨#[40]⟩ := ⟨_, rfl⟩
  rw [← hX0] at A0 HX0
  clear hX0 ltz
  obtain rfl := h5
  simp only [Nat.reduceSub] at hx
  first | simp only [Nat.cast_ofNat] | simp only [Int.cast_ofNat_Int] | simp only [Int.natCast_ofNat]
  have HX := Lib.hid hx
  clear hx
  by_cases l2 : ps.length = 2
  · obtain ⟨pa, pb, hpp⟩ : ∃ pa pb, ps = [pa, pb] := ⟨_, _, two_of l2⟩
    obtain ⟨ga, oa, hae, -, -, hx0⟩ := sl_get HSL.out 0 (by omega)
    obtain ⟨ga', oa', hae', -, -, hx1⟩ := sl_get HSL.out 1 (by omega)
    subst hae
    injection hae' with q
    injection q with q q'
    subst q q'
    have x0 : w.cell? ⟨ga, oa, none⟩ = some (.string ⟨pa.toArray⟩) := by rw [hpp] at hx0; exact hx0
    have x1 : w.cell? ⟨ga, oa + 1, none⟩ = some (.string ⟨pb.toArray⟩) := by rw [hpp] at hx1; exact hx1
    have y0 : (0 : Int) < (ps.length : Int) := by omega
    have y1 : (1 : Int) < (ps.length : Int) := by omega
    have y0n : 0 < ps.length := by omega
    have y1n : 1 < ps.length := by omega
    have e2 : (((ps.length : Nat) : Int) == 2) = true := by rw [beq_iff_eq]; omega
    have HGT := Lib.hid (show gt pa pb = !(Op.bytesLess (ByteArray.toList ⟨pa.toArray⟩) (ByteArray.toList ⟨pb.toArray⟩) || ByteArray.toList ⟨pa.toArray⟩ == ByteArray.toList ⟨pb.toArray⟩) from by
      rw [byteArray_toList, byteArray_toList]
      rfl)
    have HPP := Lib.hid hpp
    obtain ⟨sa, hsa⟩ : ∃ sa : ByteArray, sa = ⟨pa.toArray⟩ := ⟨_, rfl⟩
    obtain ⟨sb, hsb⟩ : ∃ sb : ByteArray, sb = ⟨pb.toArray⟩ := ⟨_, rfl⟩
    rw [← hsa, ← hsb] at HGT
    rw [← hsa] at x0
    rw [← hsb] at x1
    have HSA := Lib.hid hsa
    have HSB := Lib.hid hsb
    clear hsa hsb hpp hx0 hx1 l2
    cases hA : Op.bytesLess sa.toList sb.toList <;> cases hB : (sa.toList == sb.toList)
    · have HG := Lib.hid (show gt pa pb = true from by rw [HGT.out, hA, hB]; rfl)
      have HQ := Lib.hid (show srt 6 ps = [pb, pa] from by
        rw [HPP.out, srt_two, HG.out]
        rfl)
      have HTQ := Lib.hid (show total [pb, pa] ≤ 50000000 from by
        have e : total [pb, pa] = total ps := by rw [HPP.out]; simp [total]; omega
        rw [e]
        exact HT.out)
      have HLQ := Lib.hid (show [pb, pa].length ≤ 1000000 from by simp)
      go_enter Try.func32, Try.ntmps32
      go_wp2_with fail
      rw [HX.out]
      go_quiet (fail)
      go_wp2_with fail
      go_region
      all_goals go_wp2_with fail
      have O0 := Lib.hid (show Only (fun _ => False) w ((w.drewN (nq + 1)).alloc (.cells #[.string sb, .string sa] 9)) from ((Only.refl _ w).drewN _).alloc _)
      have HSQ := Lib.hid (show Sl ((w.drewN (nq + 1)).alloc (.cells #[.string sb, .string sa] 9)) (fun k => w.heap.size ≤ k) (.slice (some ⟨w.heap.size, 0, none⟩) 2 2) ([pb, pa].map sv) from by
        rw [HSA.out, HSB.out]
        exact sl_two (w.drewN (nq + 1)) pb pa)
      have hsl2 : Value.slice (some ⟨w.heap.size, 0, none⟩) 2 2 = Value.slice (some ⟨w.heap.size, 0, none⟩) [pb, pa].length 2 := rfl
      rw [hsl2]
      rw [hsl2] at HSQ
      clear hsl2
      obtain ⟨QP, hQP⟩ : ∃ QP, QP = [pb, pa] := ⟨_, rfl⟩
      rw [← hQP] at HQ HTQ HLQ HSQ ⊢
      have HQP := Lib.hid hQP
      clear hQP
      have HD0 := Lib.hid (show X0.data.toList = hd from HX0.out)
      generalize ((w.drewN (nq + 1)).alloc (.cells #[.string sb, .string sa] 9)) = W0 at O0 HSQ ⊢
      go_loopw [9, 10] (fun s i wr => ∃ (j : Nat) (X : ByteArray), i = .int .i64 j ∧ s = .string X ∧ MR W0 hd QP j X wr) (fun _ i _ => QP.length - (Lib.intOf i).toNat)
      case atStart => exact ⟨0, X0, rfl, rfl, Nat.zero_le _, by rw [HD0.out]; simp [join], by simp, Only.refl _ _⟩
      case round =>
        obtain ⟨j, X, rfl, rfl, hB⟩ := hrel
        have BR := Lib.hid hB
        have xs : X.size ≤ 60000030 := by
          rw [sz_of hB.tx, List.length_append]
          have := join_take_le QP j
          have := HDL.out
          have := HTQ.out
          have := HLQ.out
          omega
        by_cases hj : j < QP.length
        · obtain ⟨g, o, hae, -, hgl, hc⟩ := sl_get (HSQ.out.keep hB.only fun _ _ h => h) j hj
          rw [hae]
          have HAE := Lib.hid hae
          clear hae
          obtain ⟨p, hp⟩ : ∃ p, p = QP.getD j [] := ⟨_, rfl⟩
          rw [← hp] at hc
          obtain ⟨sp, hsp⟩ : ∃ sp : ByteArray, sp = ⟨p.toArray⟩ := ⟨_, rfl⟩
          have hc' : wr.cell? ⟨g, o + j, none⟩ = some (.string sp) := by rw [hsp]; exact hc
          have hpm : p ∈ QP := by
            rw [hp, show QP.getD j [] = QP[j] by simp [hj]]
            exact List.getElem_mem _
          have hpl : p.length ≤ 50000000 := by have := len_total hpm; have := HTQ.out; omega
          have ssp : sp.size = p.length := by rw [hsp]; simp [ByteArray.size]
          have hspl : sp.data.toList = p := by rw [hsp]
          have IS := Lib.hid (refIs sp wr (by omega))
          rw [hspl] at IS
          have k0 : (0 : Int) ≤ (j : Int) := by omega
          have k1 : (j : Int) < (QP.length : Int) := by omega
          have wj : wrap64 ((j : Int) + 1) = (j : Int) + 1 := IntWalk.wrap64_in _ (by have := HLQ.out; omega)
          have HP := Lib.hid hp
          have HPM := Lib.hid hpm
          have HJ := Lib.hid hj
          have HSP := Lib.hid hspl
          have KC := Lib.hid (fun (w' : World) (o' : Only (fun _ => False) wr w') => (show w'.cell? ⟨g, o + j, none⟩ = some (.string sp) from (World.cell?_of_block (w := wr) (a := ⟨g, o + j, none⟩) (o'.block g hgl id)).trans hc'))
          clear hgl
          cases hi : isT p
          · have HF := Lib.hid (show M = [] from by
              rw [DT.out, if_neg (fun q => by
                have := q.1 p (srt_mem.1 (by rw [HQ.out]; exact hpm))
                rw [hi] at this
                cases this)])
            clear hB hc hp hsp hpm hj hspl ssp hpl
            rw [hi] at IS
            go_wp2_with fail
            (with_reducible refine IS.out.mono ?_)
            rintro e w' ⟨rfl, o'⟩
            have O2 := Lib.hid (O0.out.trans (BR.out.only.trans o'))
            clear o' IS
            go_wp2_with fail
            go_ret
            exact ⟨O2.out, by rw [HF.out]; rfl⟩
          · have HI := Lib.hid hi
            have A1 := fun W => run_string_add_sum (P := Try.prog) W X ⟨#[44]⟩ (by have : (⟨#[44]⟩ : ByteArray).size = 1 := rfl; omega)
            have A2 := fun W => run_string_add_sum (P := Try.prog) W X sp (by omega)
            have A3 := fun W => run_string_add_sum (P := Try.prog) W (X ++ ⟨#[44]⟩) sp (by have : (⟨#[44]⟩ : ByteArray).size = 1 := rfl; rw [ByteArray.size_append]; omega)
            rw [hi] at IS
            clear hB hc hp hsp hpm hj hspl ssp hpl hi xs
            by_cases h0 : j = 0
            · have HJ0 := Lib.hid h0
              have j0 : ¬ 0 < j := by omega
              clear h0
              go_wp2_with fail
              (with_reducible refine IS.out.mono ?_)
              rintro e w' ⟨rfl, o'⟩
              have O2 := Lib.hid o'
              have hc2 := KC.out w' o'
              clear o' IS
              go_wp2_with fail
              have NX := Lib.hid (BR.out.next (Y := X ++ sp) HJ.out (by rw [← HP.out]; exact HI.out) (by rw [ByteArray.data_append, Array.toList_append, HSP.out, HP.out, if_pos HJ0.out, List.append_nil]) O2.out)
              have HMS := Lib.hid HJ.out
              go_roundw
              case rel => exact ⟨j + 1, X ++ sp, by first | (rw [wj]; rfl) | rfl | go_num, rfl, NX.out⟩
              case measure =>
                try rw [wj]
                have := HMS.out
                simp only [Lib.intOf]
                omega
            · have j0 : 0 < j := by omega
              have HJ0 := Lib.hid h0
              clear h0
              go_wp2_with fail
              (with_reducible refine IS.out.mono ?_)
              rintro e w' ⟨rfl, o'⟩
              have O2 := Lib.hid o'
              have hc2 := KC.out w' o'
              clear o' IS
              go_wp2_with fail
              have NX := Lib.hid (BR.out.next (Y := (X ++ ⟨#[44]⟩) ++ sp) HJ.out (by rw [← HP.out]; exact HI.out) (by rw [ByteArray.data_append, Array.toList_append, ByteArray.data_append, Array.toList_append, HSP.out, HP.out, if_neg HJ0.out]) O2.out)
              go_roundw
              case rel => exact ⟨j + 1, (X ++ ⟨#[44]⟩) ++ sp, by first | (rw [wj]; rfl) | rfl | go_num, rfl, NX.out⟩
              case measure =>
                try rw [wj]
                have := HJ.out
                simp only [Lib.intOf]
                omega
        · obtain rfl : j = QP.length := by have := hB.le; omega
          have j1 : ¬ ((QP.length : Int) < (QP.length : Int)) := by omega
          have htx := hB.tx
          rw [List.take_length] at htx
          have hall := hB.all
          rw [List.take_length] at hall
          have A1 := fun W => run_string_add_sum (P := Try.prog) W X ⟨#[41]⟩ (by have : (⟨#[41]⟩ : ByteArray).size = 1 := rfl; omega)
          have hY : (X ++ ⟨#[41]⟩ : ByteArray).data.toList = hd ++ (join QP ++ [41]) := by
            rw [ByteArray.data_append, Array.toList_append, htx, List.append_assoc]
          have hfin : M = if isT (hd ++ (join QP ++ [41])) = true then hd ++ (join QP ++ [41]) else [] := by
            rw [DT.out, HQ.out]
            by_cases hi : isT (hd ++ (join QP ++ [41])) = true
            · rw [if_pos hi, if_pos ⟨fun p hp => hall p (by rw [← HQ.out]; exact srt_mem.2 hp), hi⟩]
            · rw [if_neg hi, if_neg (fun q => hi q.2)]
          obtain ⟨Y, hYe⟩ : ∃ Y : ByteArray, Y = X ++ ⟨#[41]⟩ := ⟨_, rfl⟩
          rw [← hYe] at A1 hY
          have ys : Y.size ≤ 60000031 := by
            rw [hYe, ByteArray.size_append]
            have : (⟨#[41]⟩ : ByteArray).size = 1 := rfl
            omega
          have IS := Lib.hid (refIs Y wr (by omega))
          rw [hY] at IS
          have HY := Lib.hid (ext_of hY)
          cases hi : isT (hd ++ (join QP ++ [41]))
          · have HF := Lib.hid (show M = [] from by rw [hfin, hi]; rfl)
            rw [hi] at IS
            clear hB htx hall hY hfin hYe ys hi xs hj
            go_wp2_with fail
            (with_reducible refine IS.out.mono ?_)
            rintro e w' ⟨rfl, o'⟩
            have O2 := Lib.hid (O0.out.trans (BR.out.only.trans o'))
            clear o' IS
            go_wp2_with fail
            go_ret
            exact ⟨O2.out, by rw [HF.out]; rfl⟩
          · have HF := Lib.hid (show M = hd ++ (join QP ++ [41]) from by rw [hfin, hi]; rfl)
            rw [hi] at IS
            clear hB htx hall hY hfin hYe ys hi xs hj
            go_wp2_with fail
            (with_reducible refine IS.out.mono ?_)
            rintro e w' ⟨rfl, o'⟩
            have O2 := Lib.hid (O0.out.trans (BR.out.only.trans o'))
            clear o' IS
            go_wp2_with fail
            go_ret
            exact ⟨O2.out, by rw [HF.out, HY.out]; rfl⟩
    · have HG := Lib.hid (show gt pa pb = false from by rw [HGT.out, hA, hB]; rfl)
      have HQ := Lib.hid (show srt 6 ps = ps from by
        rw [HPP.out, srt_two, HG.out]
        rfl)
      have HTQ := HT
      have HLQ := HLEN
      go_enter Try.func32, Try.ntmps32
      go_wp2_with fail
      rw [HX.out]
      go_quiet (fail)
      have O0 := Lib.hid (show Only (fun _ => False) w (w.drewN nq) from (Only.refl _ w).drewN _)
      have HSQ := Lib.hid (HSL.out.keep O0.out fun _ _ h => h)
      go_wp2_with fail
      have HD0 := Lib.hid (show X0.data.toList = hd from HX0.out)
      generalize w.drewN nq = W0 at O0 HSQ ⊢
      go_loopw [9, 10] (fun s i wr => ∃ (j : Nat) (X : ByteArray), i = .int .i64 j ∧ s = .string X ∧ MR W0 hd ps j X wr) (fun _ i _ => ps.length - (Lib.intOf i).toNat)
      case atStart => exact ⟨0, X0, rfl, rfl, Nat.zero_le _, by rw [HD0.out]; simp [join], by simp, Only.refl _ _⟩
      case round =>
        obtain ⟨j, X, rfl, rfl, hB⟩ := hrel
        have BR := Lib.hid hB
        have xs : X.size ≤ 60000030 := by
          rw [sz_of hB.tx, List.length_append]
          have := join_take_le ps j
          have := HDL.out
          have := HTQ.out
          have := HLQ.out
          omega
        by_cases hj : j < ps.length
        · obtain ⟨g, o, hae, -, hgl, hc⟩ := sl_get (HSQ.out.keep hB.only fun _ _ h => h) j hj
          rw [hae]
          have HAE := Lib.hid hae
          clear hae
          obtain ⟨p, hp⟩ : ∃ p, p = ps.getD j [] := ⟨_, rfl⟩
          rw [← hp] at hc
          obtain ⟨sp, hsp⟩ : ∃ sp : ByteArray, sp = ⟨p.toArray⟩ := ⟨_, rfl⟩
          have hc' : wr.cell? ⟨g, o + j, none⟩ = some (.string sp) := by rw [hsp]; exact hc
          have hpm : p ∈ ps := by
            rw [hp, show ps.getD j [] = ps[j] by simp [hj]]
            exact List.getElem_mem _
          have hpl : p.length ≤ 50000000 := by have := len_total hpm; have := HTQ.out; omega
          have ssp : sp.size = p.length := by rw [hsp]; simp [ByteArray.size]
          have hspl : sp.data.toList = p := by rw [hsp]
          have IS := Lib.hid (refIs sp wr (by omega))
          rw [hspl] at IS
          have k0 : (0 : Int) ≤ (j : Int) := by omega
          have k1 : (j : Int) < (ps.length : Int) := by omega
          have wj : wrap64 ((j : Int) + 1) = (j : Int) + 1 := IntWalk.wrap64_in _ (by have := HLQ.out; omega)
          have HP := Lib.hid hp
          have HPM := Lib.hid hpm
          have HJ := Lib.hid hj
          have HSP := Lib.hid hspl
          have KC := Lib.hid (fun (w' : World) (o' : Only (fun _ => False) wr w') => (show w'.cell? ⟨g, o + j, none⟩ = some (.string sp) from (World.cell?_of_block (w := wr) (a := ⟨g, o + j, none⟩) (o'.block g hgl id)).trans hc'))
          clear hgl
          cases hi : isT p
          · have HF := Lib.hid (show M = [] from by
              rw [DT.out, if_neg (fun q => by
                have := q.1 p (srt_mem.1 (by rw [HQ.out]; exact hpm))
                rw [hi] at this
                cases this)])
            clear hB hc hp hsp hpm hj hspl ssp hpl
            rw [hi] at IS
            go_wp2_with fail
            (with_reducible refine IS.out.mono ?_)
            rintro e w' ⟨rfl, o'⟩
            have O2 := Lib.hid (O0.out.trans (BR.out.only.trans o'))
            clear o' IS
            go_wp2_with fail
            go_ret
            exact ⟨O2.out, by rw [HF.out]; rfl⟩
          · have HI := Lib.hid hi
            have A1 := fun W => run_string_add_sum (P := Try.prog) W X ⟨#[44]⟩ (by have : (⟨#[44]⟩ : ByteArray).size = 1 := rfl; omega)
            have A2 := fun W => run_string_add_sum (P := Try.prog) W X sp (by omega)
            have A3 := fun W => run_string_add_sum (P := Try.prog) W (X ++ ⟨#[44]⟩) sp (by have : (⟨#[44]⟩ : ByteArray).size = 1 := rfl; rw [ByteArray.size_append]; omega)
            rw [hi] at IS
            clear hB hc hp hsp hpm hj hspl ssp hpl hi xs
            by_cases h0 : j = 0
            · have HJ0 := Lib.hid h0
              have j0 : ¬ 0 < j := by omega
              clear h0
              go_wp2_with fail
              (with_reducible refine IS.out.mono ?_)
              rintro e w' ⟨rfl, o'⟩
              have O2 := Lib.hid o'
              have hc2 := KC.out w' o'
              clear o' IS
              go_wp2_with fail
              have NX := Lib.hid (BR.out.next (Y := X ++ sp) HJ.out (by rw [← HP.out]; exact HI.out) (by rw [ByteArray.data_append, Array.toList_append, HSP.out, HP.out, if_pos HJ0.out, List.append_nil]) O2.out)
              have HMS := Lib.hid HJ.out
              go_roundw
              case rel => exact ⟨j + 1, X ++ sp, by first | (rw [wj]; rfl) | rfl | go_num, rfl, NX.out⟩
              case measure =>
                try rw [wj]
                have := HMS.out
                simp only [Lib.intOf]
                omega
            · have j0 : 0 < j := by omega
              have HJ0 := Lib.hid h0
              clear h0
              go_wp2_with fail
              (with_reducible refine IS.out.mono ?_)
              rintro e w' ⟨rfl, o'⟩
              have O2 := Lib.hid o'
              have hc2 := KC.out w' o'
              clear o' IS
              go_wp2_with fail
              have NX := Lib.hid (BR.out.next (Y := (X ++ ⟨#[44]⟩) ++ sp) HJ.out (by rw [← HP.out]; exact HI.out) (by rw [ByteArray.data_append, Array.toList_append, ByteArray.data_append, Array.toList_append, HSP.out, HP.out, if_neg HJ0.out]) O2.out)
              go_roundw
              case rel => exact ⟨j + 1, (X ++ ⟨#[44]⟩) ++ sp, by first | (rw [wj]; rfl) | rfl | go_num, rfl, NX.out⟩
              case measure =>
                try rw [wj]
                have := HJ.out
                simp only [Lib.intOf]
                omega
        · obtain rfl : j = ps.length := by have := hB.le; omega
          have j1 : ¬ ((ps.length : Int) < (ps.length : Int)) := by omega
          have htx := hB.tx
          rw [List.take_length] at htx
          have hall := hB.all
          rw [List.take_length] at hall
          have A1 := fun W => run_string_add_sum (P := Try.prog) W X ⟨#[41]⟩ (by have : (⟨#[41]⟩ : ByteArray).size = 1 := rfl; omega)
          have hY : (X ++ ⟨#[41]⟩ : ByteArray).data.toList = hd ++ (join ps ++ [41]) := by
            rw [ByteArray.data_append, Array.toList_append, htx, List.append_assoc]
          have hfin : M = if isT (hd ++ (join ps ++ [41])) = true then hd ++ (join ps ++ [41]) else [] := by
            rw [DT.out, HQ.out]
            by_cases hi : isT (hd ++ (join ps ++ [41])) = true
            · rw [if_pos hi, if_pos ⟨fun p hp => hall p (by rw [← HQ.out]; exact srt_mem.2 hp), hi⟩]
            · rw [if_neg hi, if_neg (fun q => hi q.2)]
          obtain ⟨Y, hYe⟩ : ∃ Y : ByteArray, Y = X ++ ⟨#[41]⟩ := ⟨_, rfl⟩
          rw [← hYe] at A1 hY
          have ys : Y.size ≤ 60000031 := by
            rw [hYe, ByteArray.size_append]
            have : (⟨#[41]⟩ : ByteArray).size = 1 := rfl
            omega
          have IS := Lib.hid (refIs Y wr (by omega))
          rw [hY] at IS
          have HY := Lib.hid (ext_of hY)
          cases hi : isT (hd ++ (join ps ++ [41]))
          · have HF := Lib.hid (show M = [] from by rw [hfin, hi]; rfl)
            rw [hi] at IS
            clear hB htx hall hY hfin hYe ys hi xs hj
            go_wp2_with fail
            (with_reducible refine IS.out.mono ?_)
            rintro e w' ⟨rfl, o'⟩
            have O2 := Lib.hid (O0.out.trans (BR.out.only.trans o'))
            clear o' IS
            go_wp2_with fail
            go_ret
            exact ⟨O2.out, by rw [HF.out]; rfl⟩
          · have HF := Lib.hid (show M = hd ++ (join ps ++ [41]) from by rw [hfin, hi]; rfl)
            rw [hi] at IS
            clear hB htx hall hY hfin hYe ys hi xs hj
            go_wp2_with fail
            (with_reducible refine IS.out.mono ?_)
            rintro e w' ⟨rfl, o'⟩
            have O2 := Lib.hid (O0.out.trans (BR.out.only.trans o'))
            clear o' IS
            go_wp2_with fail
            go_ret
            exact ⟨O2.out, by rw [HF.out, HY.out]; rfl⟩
    · have HG := Lib.hid (show gt pa pb = false from by rw [HGT.out, hA, hB]; rfl)
      have HQ := Lib.hid (show srt 6 ps = ps from by
        rw [HPP.out, srt_two, HG.out]
        rfl)
      have HTQ := HT
      have HLQ := HLEN
      go_enter Try.func32, Try.ntmps32
      go_wp2_with fail
      rw [HX.out]
      go_quiet (fail)
      have O0 := Lib.hid (show Only (fun _ => False) w (w.drewN nq) from (Only.refl _ w).drewN _)
      have HSQ := Lib.hid (HSL.out.keep O0.out fun _ _ h => h)
      go_wp2_with fail
      have HD0 := Lib.hid (show X0.data.toList = hd from HX0.out)
      generalize w.drewN nq = W0 at O0 HSQ ⊢
      go_loopw [9, 10] (fun s i wr => ∃ (j : Nat) (X : ByteArray), i = .int .i64 j ∧ s = .string X ∧ MR W0 hd ps j X wr) (fun _ i _ => ps.length - (Lib.intOf i).toNat)
      case atStart => exact ⟨0, X0, rfl, rfl, Nat.zero_le _, by rw [HD0.out]; simp [join], by simp, Only.refl _ _⟩
      case round =>
        obtain ⟨j, X, rfl, rfl, hB⟩ := hrel
        have BR := Lib.hid hB
        have xs : X.size ≤ 60000030 := by
          rw [sz_of hB.tx, List.length_append]
          have := join_take_le ps j
          have := HDL.out
          have := HTQ.out
          have := HLQ.out
          omega
        by_cases hj : j < ps.length
        · obtain ⟨g, o, hae, -, hgl, hc⟩ := sl_get (HSQ.out.keep hB.only fun _ _ h => h) j hj
          rw [hae]
          have HAE := Lib.hid hae
          clear hae
          obtain ⟨p, hp⟩ : ∃ p, p = ps.getD j [] := ⟨_, rfl⟩
          rw [← hp] at hc
          obtain ⟨sp, hsp⟩ : ∃ sp : ByteArray, sp = ⟨p.toArray⟩ := ⟨_, rfl⟩
          have hc' : wr.cell? ⟨g, o + j, none⟩ = some (.string sp) := by rw [hsp]; exact hc
          have hpm : p ∈ ps := by
            rw [hp, show ps.getD j [] = ps[j] by simp [hj]]
            exact List.getElem_mem _
          have hpl : p.length ≤ 50000000 := by have := len_total hpm; have := HTQ.out; omega
          have ssp : sp.size = p.length := by rw [hsp]; simp [ByteArray.size]
          have hspl : sp.data.toList = p := by rw [hsp]
          have IS := Lib.hid (refIs sp wr (by omega))
          rw [hspl] at IS
          have k0 : (0 : Int) ≤ (j : Int) := by omega
          have k1 : (j : Int) < (ps.length : Int) := by omega
          have wj : wrap64 ((j : Int) + 1) = (j : Int) + 1 := IntWalk.wrap64_in _ (by have := HLQ.out; omega)
          have HP := Lib.hid hp
          have HPM := Lib.hid hpm
          have HJ := Lib.hid hj
          have HSP := Lib.hid hspl
          have KC := Lib.hid (fun (w' : World) (o' : Only (fun _ => False) wr w') => (show w'.cell? ⟨g, o + j, none⟩ = some (.string sp) from (World.cell?_of_block (w := wr) (a := ⟨g, o + j, none⟩) (o'.block g hgl id)).trans hc'))
          clear hgl
          cases hi : isT p
          · have HF := Lib.hid (show M = [] from by
              rw [DT.out, if_neg (fun q => by
                have := q.1 p (srt_mem.1 (by rw [HQ.out]; exact hpm))
                rw [hi] at this
                cases this)])
            clear hB hc hp hsp hpm hj hspl ssp hpl
            rw [hi] at IS
            go_wp2_with fail
            (with_reducible refine IS.out.mono ?_)
            rintro e w' ⟨rfl, o'⟩
            have O2 := Lib.hid (O0.out.trans (BR.out.only.trans o'))
            clear o' IS
            go_wp2_with fail
            go_ret
            exact ⟨O2.out, by rw [HF.out]; rfl⟩
          · have HI := Lib.hid hi
            have A1 := fun W => run_string_add_sum (P := Try.prog) W X ⟨#[44]⟩ (by have : (⟨#[44]⟩ : ByteArray).size = 1 := rfl; omega)
            have A2 := fun W => run_string_add_sum (P := Try.prog) W X sp (by omega)
            have A3 := fun W => run_string_add_sum (P := Try.prog) W (X ++ ⟨#[44]⟩) sp (by have : (⟨#[44]⟩ : ByteArray).size = 1 := rfl; rw [ByteArray.size_append]; omega)
            rw [hi] at IS
            clear hB hc hp hsp hpm hj hspl ssp hpl hi xs
            by_cases h0 : j = 0
            · have HJ0 := Lib.hid h0
              have j0 : ¬ 0 < j := by omega
              clear h0
              go_wp2_with fail
              (with_reducible refine IS.out.mono ?_)
              rintro e w' ⟨rfl, o'⟩
              have O2 := Lib.hid o'
              have hc2 := KC.out w' o'
              clear o' IS
              go_wp2_with fail
              have NX := Lib.hid (BR.out.next (Y := X ++ sp) HJ.out (by rw [← HP.out]; exact HI.out) (by rw [ByteArray.data_append, Array.toList_append, HSP.out, HP.out, if_pos HJ0.out, List.append_nil]) O2.out)
              have HMS := Lib.hid HJ.out
              go_roundw
              case rel => exact ⟨j + 1, X ++ sp, by first | (rw [wj]; rfl) | rfl | go_num, rfl, NX.out⟩
              case measure =>
                try rw [wj]
                have := HMS.out
                simp only [Lib.intOf]
                omega
            · have j0 : 0 < j := by omega
              have HJ0 := Lib.hid h0
              clear h0
              go_wp2_with fail
              (with_reducible refine IS.out.mono ?_)
              rintro e w' ⟨rfl, o'⟩
              have O2 := Lib.hid o'
              have hc2 := KC.out w' o'
              clear o' IS
              go_wp2_with fail
              have NX := Lib.hid (BR.out.next (Y := (X ++ ⟨#[44]⟩) ++ sp) HJ.out (by rw [← HP.out]; exact HI.out) (by rw [ByteArray.data_append, Array.toList_append, ByteArray.data_append, Array.toList_append, HSP.out, HP.out, if_neg HJ0.out]) O2.out)
              go_roundw
              case rel => exact ⟨j + 1, (X ++ ⟨#[44]⟩) ++ sp, by first | (rw [wj]; rfl) | rfl | go_num, rfl, NX.out⟩
              case measure =>
                try rw [wj]
                have := HJ.out
                simp only [Lib.intOf]
                omega
        · obtain rfl : j = ps.length := by have := hB.le; omega
          have j1 : ¬ ((ps.length : Int) < (ps.length : Int)) := by omega
          have htx := hB.tx
          rw [List.take_length] at htx
          have hall := hB.all
          rw [List.take_length] at hall
          have A1 := fun W => run_string_add_sum (P := Try.prog) W X ⟨#[41]⟩ (by have : (⟨#[41]⟩ : ByteArray).size = 1 := rfl; omega)
          have hY : (X ++ ⟨#[41]⟩ : ByteArray).data.toList = hd ++ (join ps ++ [41]) := by
            rw [ByteArray.data_append, Array.toList_append, htx, List.append_assoc]
          have hfin : M = if isT (hd ++ (join ps ++ [41])) = true then hd ++ (join ps ++ [41]) else [] := by
            rw [DT.out, HQ.out]
            by_cases hi : isT (hd ++ (join ps ++ [41])) = true
            · rw [if_pos hi, if_pos ⟨fun p hp => hall p (by rw [← HQ.out]; exact srt_mem.2 hp), hi⟩]
            · rw [if_neg hi, if_neg (fun q => hi q.2)]
          obtain ⟨Y, hYe⟩ : ∃ Y : ByteArray, Y = X ++ ⟨#[41]⟩ := ⟨_, rfl⟩
          rw [← hYe] at A1 hY
          have ys : Y.size ≤ 60000031 := by
            rw [hYe, ByteArray.size_append]
            have : (⟨#[41]⟩ : ByteArray).size = 1 := rfl
            omega
          have IS := Lib.hid (refIs Y wr (by omega))
          rw [hY] at IS
          have HY := Lib.hid (ext_of hY)
          cases hi : isT (hd ++ (join ps ++ [41]))
          · have HF := Lib.hid (show M = [] from by rw [hfin, hi]; rfl)
            rw [hi] at IS
            clear hB htx hall hY hfin hYe ys hi xs hj
            go_wp2_with fail
            (with_reducible refine IS.out.mono ?_)
            rintro e w' ⟨rfl, o'⟩
            have O2 := Lib.hid (O0.out.trans (BR.out.only.trans o'))
            clear o' IS
            go_wp2_with fail
            go_ret
            exact ⟨O2.out, by rw [HF.out]; rfl⟩
          · have HF := Lib.hid (show M = hd ++ (join ps ++ [41]) from by rw [hfin, hi]; rfl)
            rw [hi] at IS
            clear hB htx hall hY hfin hYe ys hi xs hj
            go_wp2_with fail
            (with_reducible refine IS.out.mono ?_)
            rintro e w' ⟨rfl, o'⟩
            have O2 := Lib.hid (O0.out.trans (BR.out.only.trans o'))
            clear o' IS
            go_wp2_with fail
            go_ret
            exact ⟨O2.out, by rw [HF.out, HY.out]; rfl⟩
    · have HG := Lib.hid (show gt pa pb = false from by rw [HGT.out, hA, hB]; rfl)
      have HQ := Lib.hid (show srt 6 ps = ps from by
        rw [HPP.out, srt_two, HG.out]
        rfl)
      have HTQ := HT
      have HLQ := HLEN
      go_enter Try.func32, Try.ntmps32
      go_wp2_with fail
      rw [HX.out]
      go_quiet (fail)
      have O0 := Lib.hid (show Only (fun _ => False) w (w.drewN nq) from (Only.refl _ w).drewN _)
      have HSQ := Lib.hid (HSL.out.keep O0.out fun _ _ h => h)
      go_wp2_with fail
      have HD0 := Lib.hid (show X0.data.toList = hd from HX0.out)
      generalize w.drewN nq = W0 at O0 HSQ ⊢
      go_loopw [9, 10] (fun s i wr => ∃ (j : Nat) (X : ByteArray), i = .int .i64 j ∧ s = .string X ∧ MR W0 hd ps j X wr) (fun _ i _ => ps.length - (Lib.intOf i).toNat)
      case atStart => exact ⟨0, X0, rfl, rfl, Nat.zero_le _, by rw [HD0.out]; simp [join], by simp, Only.refl _ _⟩
      case round =>
        obtain ⟨j, X, rfl, rfl, hB⟩ := hrel
        have BR := Lib.hid hB
        have xs : X.size ≤ 60000030 := by
          rw [sz_of hB.tx, List.length_append]
          have := join_take_le ps j
          have := HDL.out
          have := HTQ.out
          have := HLQ.out
          omega
        by_cases hj : j < ps.length
        · obtain ⟨g, o, hae, -, hgl, hc⟩ := sl_get (HSQ.out.keep hB.only fun _ _ h => h) j hj
          rw [hae]
          have HAE := Lib.hid hae
          clear hae
          obtain ⟨p, hp⟩ : ∃ p, p = ps.getD j [] := ⟨_, rfl⟩
          rw [← hp] at hc
          obtain ⟨sp, hsp⟩ : ∃ sp : ByteArray, sp = ⟨p.toArray⟩ := ⟨_, rfl⟩
          have hc' : wr.cell? ⟨g, o + j, none⟩ = some (.string sp) := by rw [hsp]; exact hc
          have hpm : p ∈ ps := by
            rw [hp, show ps.getD j [] = ps[j] by simp [hj]]
            exact List.getElem_mem _
          have hpl : p.length ≤ 50000000 := by have := len_total hpm; have := HTQ.out; omega
          have ssp : sp.size = p.length := by rw [hsp]; simp [ByteArray.size]
          have hspl : sp.data.toList = p := by rw [hsp]
          have IS := Lib.hid (refIs sp wr (by omega))
          rw [hspl] at IS
          have k0 : (0 : Int) ≤ (j : Int) := by omega
          have k1 : (j : Int) < (ps.length : Int) := by omega
          have wj : wrap64 ((j : Int) + 1) = (j : Int) + 1 := IntWalk.wrap64_in _ (by have := HLQ.out; omega)
          have HP := Lib.hid hp
          have HPM := Lib.hid hpm
          have HJ := Lib.hid hj
          have HSP := Lib.hid hspl
          have KC := Lib.hid (fun (w' : World) (o' : Only (fun _ => False) wr w') => (show w'.cell? ⟨g, o + j, none⟩ = some (.string sp) from (World.cell?_of_block (w := wr) (a := ⟨g, o + j, none⟩) (o'.block g hgl id)).trans hc'))
          clear hgl
          cases hi : isT p
          · have HF := Lib.hid (show M = [] from by
              rw [DT.out, if_neg (fun q => by
                have := q.1 p (srt_mem.1 (by rw [HQ.out]; exact hpm))
                rw [hi] at this
                cases this)])
            clear hB hc hp hsp hpm hj hspl ssp hpl
            rw [hi] at IS
            go_wp2_with fail
            (with_reducible refine IS.out.mono ?_)
            rintro e w' ⟨rfl, o'⟩
            have O2 := Lib.hid (O0.out.trans (BR.out.only.trans o'))
            clear o' IS
            go_wp2_with fail
            go_ret
            exact ⟨O2.out, by rw [HF.out]; rfl⟩
          · have HI := Lib.hid hi
            have A1 := fun W => run_string_add_sum (P := Try.prog) W X ⟨#[44]⟩ (by have : (⟨#[44]⟩ : ByteArray).size = 1 := rfl; omega)
            have A2 := fun W => run_string_add_sum (P := Try.prog) W X sp (by omega)
            have A3 := fun W => run_string_add_sum (P := Try.prog) W (X ++ ⟨#[44]⟩) sp (by have : (⟨#[44]⟩ : ByteArray).size = 1 := rfl; rw [ByteArray.size_append]; omega)
            rw [hi] at IS
            clear hB hc hp hsp hpm hj hspl ssp hpl hi xs
            by_cases h0 : j = 0
            · have HJ0 := Lib.hid h0
              have j0 : ¬ 0 < j := by omega
              clear h0
              go_wp2_with fail
              (with_reducible refine IS.out.mono ?_)
              rintro e w' ⟨rfl, o'⟩
              have O2 := Lib.hid o'
              have hc2 := KC.out w' o'
              clear o' IS
              go_wp2_with fail
              have NX := Lib.hid (BR.out.next (Y := X ++ sp) HJ.out (by rw [← HP.out]; exact HI.out) (by rw [ByteArray.data_append, Array.toList_append, HSP.out, HP.out, if_pos HJ0.out, List.append_nil]) O2.out)
              have HMS := Lib.hid HJ.out
              go_roundw
              case rel => exact ⟨j + 1, X ++ sp, by first | (rw [wj]; rfl) | rfl | go_num, rfl, NX.out⟩
              case measure =>
                try rw [wj]
                have := HMS.out
                simp only [Lib.intOf]
                omega
            · have j0 : 0 < j := by omega
              have HJ0 := Lib.hid h0
              clear h0
              go_wp2_with fail
              (with_reducible refine IS.out.mono ?_)
              rintro e w' ⟨rfl, o'⟩
              have O2 := Lib.hid o'
              have hc2 := KC.out w' o'
              clear o' IS
              go_wp2_with fail
              have NX := Lib.hid (BR.out.next (Y := (X ++ ⟨#[44]⟩) ++ sp) HJ.out (by rw [← HP.out]; exact HI.out) (by rw [ByteArray.data_append, Array.toList_append, ByteArray.data_append, Array.toList_append, HSP.out, HP.out, if_neg HJ0.out]) O2.out)
              go_roundw
              case rel => exact ⟨j + 1, (X ++ ⟨#[44]⟩) ++ sp, by first | (rw [wj]; rfl) | rfl | go_num, rfl, NX.out⟩
              case measure =>
                try rw [wj]
                have := HJ.out
                simp only [Lib.intOf]
                omega
        · obtain rfl : j = ps.length := by have := hB.le; omega
          have j1 : ¬ ((ps.length : Int) < (ps.length : Int)) := by omega
          have htx := hB.tx
          rw [List.take_length] at htx
          have hall := hB.all
          rw [List.take_length] at hall
          have A1 := fun W => run_string_add_sum (P := Try.prog) W X ⟨#[41]⟩ (by have : (⟨#[41]⟩ : ByteArray).size = 1 := rfl; omega)
          have hY : (X ++ ⟨#[41]⟩ : ByteArray).data.toList = hd ++ (join ps ++ [41]) := by
            rw [ByteArray.data_append, Array.toList_append, htx, List.append_assoc]
          have hfin : M = if isT (hd ++ (join ps ++ [41])) = true then hd ++ (join ps ++ [41]) else [] := by
            rw [DT.out, HQ.out]
            by_cases hi : isT (hd ++ (join ps ++ [41])) = true
            · rw [if_pos hi, if_pos ⟨fun p hp => hall p (by rw [← HQ.out]; exact srt_mem.2 hp), hi⟩]
            · rw [if_neg hi, if_neg (fun q => hi q.2)]
          obtain ⟨Y, hYe⟩ : ∃ Y : ByteArray, Y = X ++ ⟨#[41]⟩ := ⟨_, rfl⟩
          rw [← hYe] at A1 hY
          have ys : Y.size ≤ 60000031 := by
            rw [hYe, ByteArray.size_append]
            have : (⟨#[41]⟩ : ByteArray).size = 1 := rfl
            omega
          have IS := Lib.hid (refIs Y wr (by omega))
          rw [hY] at IS
          have HY := Lib.hid (ext_of hY)
          cases hi : isT (hd ++ (join ps ++ [41]))
          · have HF := Lib.hid (show M = [] from by rw [hfin, hi]; rfl)
            rw [hi] at IS
            clear hB htx hall hY hfin hYe ys hi xs hj
            go_wp2_with fail
            (with_reducible refine IS.out.mono ?_)
            rintro e w' ⟨rfl, o'⟩
            have O2 := Lib.hid (O0.out.trans (BR.out.only.trans o'))
            clear o' IS
            go_wp2_with fail
            go_ret
            exact ⟨O2.out, by rw [HF.out]; rfl⟩
          · have HF := Lib.hid (show M = hd ++ (join ps ++ [41]) from by rw [hfin, hi]; rfl)
            rw [hi] at IS
            clear hB htx hall hY hfin hYe ys hi xs hj
            go_wp2_with fail
            (with_reducible refine IS.out.mono ?_)
            rintro e w' ⟨rfl, o'⟩
            have O2 := Lib.hid (O0.out.trans (BR.out.only.trans o'))
            clear o' IS
            go_wp2_with fail
            go_ret
            exact ⟨O2.out, by rw [HF.out, HY.out]; rfl⟩
  · have e2 : (((ps.length : Nat) : Int) == 2) = false := by rw [beq_eq_false_iff_ne]; omega
    have HQ := Lib.hid (show srt 6 ps = ps from by
      rw [srt, if_neg (fun q => l2 q.2.1)])
    have HTQ := HT
    have HLQ := HLEN
    clear l2
    go_enter Try.func32, Try.ntmps32
    go_wp2_with fail
    rw [HX.out]
    go_quiet (fail)
    have O0 := Lib.hid (show Only (fun _ => False) w (w.drewN nq) from (Only.refl _ w).drewN _)
    have HSQ := Lib.hid (HSL.out.keep O0.out fun _ _ h => h)
    go_wp2_with fail
    have HD0 := Lib.hid (show X0.data.toList = hd from HX0.out)
    generalize w.drewN nq = W0 at O0 HSQ ⊢
    go_loopw [9, 10] (fun s i wr => ∃ (j : Nat) (X : ByteArray), i = .int .i64 j ∧ s = .string X ∧ MR W0 hd ps j X wr) (fun _ i _ => ps.length - (Lib.intOf i).toNat)
    case atStart => exact ⟨0, X0, rfl, rfl, Nat.zero_le _, by rw [HD0.out]; simp [join], by simp, Only.refl _ _⟩
    case round =>
      obtain ⟨j, X, rfl, rfl, hB⟩ := hrel
      have BR := Lib.hid hB
      have xs : X.size ≤ 60000030 := by
        rw [sz_of hB.tx, List.length_append]
        have := join_take_le ps j
        have := HDL.out
        have := HTQ.out
        have := HLQ.out
        omega
      by_cases hj : j < ps.length
      · obtain ⟨g, o, hae, -, hgl, hc⟩ := sl_get (HSQ.out.keep hB.only fun _ _ h => h) j hj
        rw [hae]
        have HAE := Lib.hid hae
        clear hae
        obtain ⟨p, hp⟩ : ∃ p, p = ps.getD j [] := ⟨_, rfl⟩
        rw [← hp] at hc
        obtain ⟨sp, hsp⟩ : ∃ sp : ByteArray, sp = ⟨p.toArray⟩ := ⟨_, rfl⟩
        have hc' : wr.cell? ⟨g, o + j, none⟩ = some (.string sp) := by rw [hsp]; exact hc
        have hpm : p ∈ ps := by
          rw [hp, show ps.getD j [] = ps[j] by simp [hj]]
          exact List.getElem_mem _
        have hpl : p.length ≤ 50000000 := by have := len_total hpm; have := HTQ.out; omega
        have ssp : sp.size = p.length := by rw [hsp]; simp [ByteArray.size]
        have hspl : sp.data.toList = p := by rw [hsp]
        have IS := Lib.hid (refIs sp wr (by omega))
        rw [hspl] at IS
        have k0 : (0 : Int) ≤ (j : Int) := by omega
        have k1 : (j : Int) < (ps.length : Int) := by omega
        have wj : wrap64 ((j : Int) + 1) = (j : Int) + 1 := IntWalk.wrap64_in _ (by have := HLQ.out; omega)
        have HP := Lib.hid hp
        have HPM := Lib.hid hpm
        have HJ := Lib.hid hj
        have HSP := Lib.hid hspl
        have KC := Lib.hid (fun (w' : World) (o' : Only (fun _ => False) wr w') => (show w'.cell? ⟨g, o + j, none⟩ = some (.string sp) from (World.cell?_of_block (w := wr) (a := ⟨g, o + j, none⟩) (o'.block g hgl id)).trans hc'))
        clear hgl
        cases hi : isT p
        · have HF := Lib.hid (show M = [] from by
            rw [DT.out, if_neg (fun q => by
              have := q.1 p (srt_mem.1 (by rw [HQ.out]; exact hpm))
              rw [hi] at this
              cases this)])
          clear hB hc hp hsp hpm hj hspl ssp hpl
          rw [hi] at IS
          go_wp2_with fail
          (with_reducible refine IS.out.mono ?_)
          rintro e w' ⟨rfl, o'⟩
          have O2 := Lib.hid (O0.out.trans (BR.out.only.trans o'))
          clear o' IS
          go_wp2_with fail
          go_ret
          exact ⟨O2.out, by rw [HF.out]; rfl⟩
        · have HI := Lib.hid hi
          have A1 := fun W => run_string_add_sum (P := Try.prog) W X ⟨#[44]⟩ (by have : (⟨#[44]⟩ : ByteArray).size = 1 := rfl; omega)
          have A2 := fun W => run_string_add_sum (P := Try.prog) W X sp (by omega)
          have A3 := fun W => run_string_add_sum (P := Try.prog) W (X ++ ⟨#[44]⟩) sp (by have : (⟨#[44]⟩ : ByteArray).size = 1 := rfl; rw [ByteArray.size_append]; omega)
          rw [hi] at IS
          clear hB hc hp hsp hpm hj hspl ssp hpl hi xs
          by_cases h0 : j = 0
          · have HJ0 := Lib.hid h0
            have j0 : ¬ 0 < j := by omega
            clear h0
            go_wp2_with fail
            (with_reducible refine IS.out.mono ?_)
            rintro e w' ⟨rfl, o'⟩
            have O2 := Lib.hid o'
            have hc2 := KC.out w' o'
            clear o' IS
            go_wp2_with fail
            have NX := Lib.hid (BR.out.next (Y := X ++ sp) HJ.out (by rw [← HP.out]; exact HI.out) (by rw [ByteArray.data_append, Array.toList_append, HSP.out, HP.out, if_pos HJ0.out, List.append_nil]) O2.out)
            have HMS := Lib.hid HJ.out
            go_roundw
            case rel => exact ⟨j + 1, X ++ sp, by first | (rw [wj]; rfl) | rfl | go_num, rfl, NX.out⟩
            case measure =>
              try rw [wj]
              have := HMS.out
              simp only [Lib.intOf]
              omega
          · have j0 : 0 < j := by omega
            have HJ0 := Lib.hid h0
            clear h0
            go_wp2_with fail
            (with_reducible refine IS.out.mono ?_)
            rintro e w' ⟨rfl, o'⟩
            have O2 := Lib.hid o'
            have hc2 := KC.out w' o'
            clear o' IS
            go_wp2_with fail
            have NX := Lib.hid (BR.out.next (Y := (X ++ ⟨#[44]⟩) ++ sp) HJ.out (by rw [← HP.out]; exact HI.out) (by rw [ByteArray.data_append, Array.toList_append, ByteArray.data_append, Array.toList_append, HSP.out, HP.out, if_neg HJ0.out]) O2.out)
            go_roundw
            case rel => exact ⟨j + 1, (X ++ ⟨#[44]⟩) ++ sp, by first | (rw [wj]; rfl) | rfl | go_num, rfl, NX.out⟩
            case measure =>
              try rw [wj]
              have := HJ.out
              simp only [Lib.intOf]
              omega
      · obtain rfl : j = ps.length := by have := hB.le; omega
        have j1 : ¬ ((ps.length : Int) < (ps.length : Int)) := by omega
        have htx := hB.tx
        rw [List.take_length] at htx
        have hall := hB.all
        rw [List.take_length] at hall
        have A1 := fun W => run_string_add_sum (P := Try.prog) W X ⟨#[41]⟩ (by have : (⟨#[41]⟩ : ByteArray).size = 1 := rfl; omega)
        have hY : (X ++ ⟨#[41]⟩ : ByteArray).data.toList = hd ++ (join ps ++ [41]) := by
          rw [ByteArray.data_append, Array.toList_append, htx, List.append_assoc]
        have hfin : M = if isT (hd ++ (join ps ++ [41])) = true then hd ++ (join ps ++ [41]) else [] := by
          rw [DT.out, HQ.out]
          by_cases hi : isT (hd ++ (join ps ++ [41])) = true
          · rw [if_pos hi, if_pos ⟨fun p hp => hall p (by rw [← HQ.out]; exact srt_mem.2 hp), hi⟩]
          · rw [if_neg hi, if_neg (fun q => hi q.2)]
        obtain ⟨Y, hYe⟩ : ∃ Y : ByteArray, Y = X ++ ⟨#[41]⟩ := ⟨_, rfl⟩
        rw [← hYe] at A1 hY
        have ys : Y.size ≤ 60000031 := by
          rw [hYe, ByteArray.size_append]
          have : (⟨#[41]⟩ : ByteArray).size = 1 := rfl
          omega
        have IS := Lib.hid (refIs Y wr (by omega))
        rw [hY] at IS
        have HY := Lib.hid (ext_of hY)
        cases hi : isT (hd ++ (join ps ++ [41]))
        · have HF := Lib.hid (show M = [] from by rw [hfin, hi]; rfl)
          rw [hi] at IS
          clear hB htx hall hY hfin hYe ys hi xs hj
          go_wp2_with fail
          (with_reducible refine IS.out.mono ?_)
          rintro e w' ⟨rfl, o'⟩
          have O2 := Lib.hid (O0.out.trans (BR.out.only.trans o'))
          clear o' IS
          go_wp2_with fail
          go_ret
          exact ⟨O2.out, by rw [HF.out]; rfl⟩
        · have HF := Lib.hid (show M = hd ++ (join ps ++ [41]) from by rw [hfin, hi]; rfl)
          rw [hi] at IS
          clear hB htx hall hY hfin hYe ys hi xs hj
          go_wp2_with fail
          (with_reducible refine IS.out.mono ?_)
          rintro e w' ⟨rfl, o'⟩
          have O2 := Lib.hid (O0.out.trans (BR.out.only.trans o'))
          clear o' IS
          go_wp2_with fail
          go_ret
          exact ⟨O2.out, by rw [HF.out, HY.out]; rfl⟩
end Go.Proofs.Ytbjnejnjlidiaaa.tsB
