/- Term: the program's build. -/
import Derived.Test.YtbjnejnjlidiaaaPrS
import Derived.Test.YtbjnejnjlidiaaaTmA
import Derived.Test.YtbjnejnjlidiaaaSrcA
import Derived.StillTailTactics
import Derived.Deep.AppendLies
namespace Go.Proofs.Ytbjnejnjlidiaaa.prS
open Go.RowKit Go.Proofs.Ytbjnejnjlidiaaa.kit Go.Proofs.Ytbjnejnjlidiaaa.numA Go.Proofs.Ytbjnejnjlidiaaa.numB Go.Proofs.Ytbjnejnjlidiaaa.numC Go.Proofs.Ytbjnejnjlidiaaa.numD Go.Proofs.Ytbjnejnjlidiaaa.numE Go.Proofs.Ytbjnejnjlidiaaa.numF Go.Proofs.Ytbjnejnjlidiaaa.tmA Go.Proofs.Ytbjnejnjlidiaaa.tmB Go.Proofs.Ytbjnejnjlidiaaa.tmC Go.Proofs.Ytbjnejnjlidiaaa.tmD Go.Proofs.Ytbjnejnjlidiaaa.tmE Go.Proofs.Ytbjnejnjlidiaaa.srcA Go.Proofs.Ytbjnejnjlidiaaa.trA Go.Proofs.Ytbjnejnjlidiaaa.trB Go.Proofs.Ytbjnejnjlidiaaa.prA Go.Proofs.Ytbjnejnjlidiaaa.prC Go.Proofs.Ytbjnejnjlidiaaa.prR Go.Proofs.Ytbjnejnjlidiaaa.shJ
set_option linter.unusedVariables false
set_option linter.unusedSimpArgs false

set_option maxRecDepth 100000 in
set_option maxHeartbeats 3200000 in
theorem build_n (k n : Nat) (ps : List Txt) (S : Nat → Prop) (lv : Value) (w : World) (h5 : k = 8 ∨ k = 10) (hn : n ≤ most) (hsl : Sl w S lv (ps.map sv)) (hpl : ∀ p ∈ ps, p.length ≤ 100000000) (hlen : ps.length ≤ 1000000) : Calls Try.prog 108 #[shv k, .string ⟨#[letter k]⟩, .int .u64 n, lv] w (Made w (mkT k n [] ps)) := by
  have k5 : 5 ≤ k ∧ k ≤ 11 := by omega
  obtain ⟨a, m, cap, rfl⟩ : ∃ a m cap, lv = .slice a m cap := by
    obtain ⟨_, a, cap, h, _⟩ := hsl
    exact ⟨a, _, cap, h⟩
  obtain rfl := sl_len hsl
  obtain ⟨W1, hW1⟩ : ∃ W, W = w.alloc (.cells #[.int .i64 (least k : Nat), .int .i64 (mostk k : Nat), .bool (numbered k), .int .u64 (lowk k : Nat), .int .u64 (highk k : Nat), .bool (k == 6)] 134) := ⟨_, rfl⟩
  have o1 : Only (fun _ => False) w W1 := by rw [hW1]; exact (Only.refl _ w).alloc _
  have HB := Lib.hid (show Box6 W1 w.heap.size k from by rw [hW1]; exact heap_alloc_new w _)
  have HSL := Lib.hid (hsl.keep o1 fun _ _ h => h)
  have O1 := Lib.hid o1
  have KN := Lib.hid (show numbered k = true from by rcases h5 with rfl | rfl <;> decide)
  have K6 := Lib.hid (show (k == 6) = false from by rcases h5 with rfl | rfl <;> decide)
  have HMK := Lib.hid (mkT_br (n := n) (b := []) (ps := ps) k5.1 k5.2)
  have HN := Lib.hid hn
  have HPL := Lib.hid hpl
  have HLEN := Lib.hid hlen
  have HW := Lib.hid hW1
  have H5 := Lib.hid h5
  obtain ⟨c0, c1, c2, c3, c4, c5⟩ := HB.out.cells
  rw [KN.out] at c2
  rw [K6.out] at c5
  rw [hW1] at c0 c1 c2 c3 c4 c5
  clear hsl o1 h5 hn hpl hlen hW1 k5
  unfold shv
  obtain ⟨LT, hLT⟩ : ∃ LT, LT = (⟨#[letter k]⟩ : ByteArray) := ⟨_, rfl⟩
  rw [← hLT]
  have HLT := Lib.hid hLT
  clear hLT
  by_cases h1 : ps.length < least k
  · have HF := Lib.hid (show mkT k n [] ps = [] from by rw [HMK.out, if_neg (fun q => by have := q.1; omega)])
    have g1 : ((ps.length : Int) < (least k : Int)) = True := eq_true (by omega)
    clear h1
    go_enter Try.func108, Try.ntmps108
    go_wp2_with fail
    go_ret
    exact ⟨(Only.refl _ w).alloc _, by rw [HF.out]; rfl⟩
  have g1 : ((ps.length : Int) < (least k : Int)) = False := eq_false (by omega)
  have H1 := Lib.hid h1
  clear h1
  by_cases h2 : mostk k < ps.length
  · have HF := Lib.hid (show mkT k n [] ps = [] from by rw [HMK.out, if_neg (fun q => by have := q.2.1; omega)])
    have g2 : ((mostk k : Int) < (ps.length : Int)) = True := eq_true (by omega)
    clear h2
    go_enter Try.func108, Try.ntmps108
    go_wp2_with fail
    go_ret
    exact ⟨(Only.refl _ w).alloc _, by rw [HF.out]; rfl⟩
  have g2 : ((mostk k : Int) < (ps.length : Int)) = False := eq_false (by omega)
  have H2 := Lib.hid h2
  clear h2
  by_cases h3 : n < lowk k
  · have HF := Lib.hid (show mkT k n [] ps = [] from by rw [HMK.out, if_neg (fun q => by have := (q.2.2.1 KN.out).1; omega)])
    have g3 : ((n : Int) < (lowk k : Int)) = True := eq_true (by omega)
    clear h3
    go_enter Try.func108, Try.ntmps108
    go_wp2_with fail
    go_ret
    exact ⟨(Only.refl _ w).alloc _, by rw [HF.out]; rfl⟩
  have g3 : ((n : Int) < (lowk k : Int)) = False := eq_false (by omega)
  have H3 := Lib.hid h3
  clear h3
  by_cases h4 : highk k < n
  · have HF := Lib.hid (show mkT k n [] ps = [] from by rw [HMK.out, if_neg (fun q => by have := (q.2.2.1 KN.out).2; omega)])
    have g4 : ((highk k : Int) < (n : Int)) = True := eq_true (by omega)
    clear h4
    go_enter Try.func108, Try.ntmps108
    go_wp2_with fail
    go_ret
    exact ⟨(Only.refl _ w).alloc _, by rw [HF.out]; rfl⟩
  have g4 : ((highk k : Int) < (n : Int)) = False := eq_false (by omega)
  have HNR := Lib.hid (show lowk k ≤ n ∧ n ≤ highk k from by have := H3.out; omega)
  clear h4
  go_enter Try.func108, Try.ntmps108
  go_wp2_with fail
  rw [← HW.out]
  clear c0 c1 c2 c3 c4 c5
  generalize w.heap.size = B at HB ⊢
  go_loopw [9, 11, 44] (fun sz _ i wr => ∃ j : Nat, i = .int .i64 j ∧ sz = .int .i64 (total (ps.take j) : Nat) ∧ BR W1 ps j wr) (fun _ _ i _ => ps.length - (Lib.intOf i).toNat)
  case atStart => exact ⟨0, rfl, rfl, Nat.zero_le _, Nat.zero_le _, by simp, Only.refl _ W1⟩
  case round =>
    obtain ⟨j, rfl, rfl, hB⟩ := hrel
    have BRH := Lib.hid hB
    by_cases hj : j < ps.length
    · obtain ⟨g, o, rfl, hS, hgl, hc⟩ := sl_get (HSL.out.keep hB.only fun _ _ h => h) j hj
      obtain ⟨p, hp⟩ : ∃ p, p = ps.getD j [] := ⟨_, rfl⟩
      rw [← hp] at hc
      obtain ⟨tt, htt⟩ : ∃ tt, tt = total (ps.take j) := ⟨_, rfl⟩
      rw [← htt]
      have hc' : wr.cell? ⟨g, o + j, none⟩ = some (.string ⟨p.toArray⟩) := hc
      have k0 : (0 : Int) ≤ (j : Int) := by omega
      have k1 : (j : Int) < (ps.length : Int) := by omega
      have hsz : ((⟨p.toArray⟩ : ByteArray).size : Int) = (p.length : Int) := by simp [ByteArray.size]
      have hpm : p ∈ ps := by
        rw [hp, show ps.getD j [] = ps[j] by simp [hj]]
        exact List.getElem_mem _
      have KA := Lib.hid (kind_any ⟨p.toArray⟩ wr (by have := HPL.out p hpm; simp [ByteArray.size]; omega))
      rw [show (⟨p.toArray⟩ : ByteArray).data.toList = p from rfl] at KA
      have wa : wrap64 ((tt : Int) + (p.length : Int)) = (tt : Int) + (p.length : Int) := IntWalk.wrap64_in _ (by have := HPL.out p hpm; have := hB.sm; omega)
      have wj : wrap64 ((j : Int) + 1) = (j : Int) + 1 := IntWalk.wrap64_in _ (by have := HLEN.out; omega)
      have HP := Lib.hid hp
      have HT := Lib.hid htt
      have HJ := Lib.hid hj
      have HPM := Lib.hid hpm
      clear hB hc hp htt hj hS hgl hpm
      by_cases hq : 65536 < tt + p.length
      · have q1 : ((65536 : Int) < (tt : Int) + (p.length : Int)) = True := eq_true (by omega)
        have HF := Lib.hid (show mkT k n [] ps = [] from by
          rw [HMK.out, if_neg (fun q => by
            have h1 := q.2.2.2.2.1
            have h2 := total_take ps (j + 1)
            rw [total_succ HJ.out, ← HT.out, ← HP.out] at h2
            omega)])
        clear hq
        go_wp2_with fail
        go_ret
        exact ⟨O1.out.trans BRH.out.only, by rw [HF.out]; rfl⟩
      have q1 : ((65536 : Int) < (tt : Int) + (p.length : Int)) = False := eq_false (by omega)
      have HQ := Lib.hid hq
      clear hq
      go_wp2_with fail
      refine KA.out.mono ?_
      rintro e w' ⟨rfl, o'⟩
      have O2 := Lib.hid o'
      clear o' KA
      by_cases hz : (trJ.ndOf p).k = 0
      · have z1 : (((trJ.ndOf p).k : Int) == 0) = true := by rw [beq_iff_eq]; omega
        have HF := Lib.hid (show mkT k n [] ps = [] from by
          rw [HMK.out, if_neg (fun q => absurd hz ((isT_kind p).1 (q.2.2.2.1 p HPM.out)))])
        clear hz
        go_wp2_with fail
        go_ret
        exact ⟨(O1.out.trans BRH.out.only).trans O2.out, by rw [HF.out]; rfl⟩
      have z1 : (((trJ.ndOf p).k : Int) == 0) = false := by rw [beq_eq_false_iff_ne]; omega
      have HZ := Lib.hid hz
      clear hz
      go_wp2_with fail
      go_roundw
      case rel =>
        refine ⟨j + 1, by rw [wj]; rfl, ?_, BRH.out.next HJ.out (by rw [← HT.out, ← HP.out]; have := HQ.out; omega) ((isT_kind _).2 (by rw [← HP.out]; exact HZ.out)) O2.out⟩
        rw [total_succ HJ.out, ← HT.out, ← HP.out]
        rfl
      case measure =>
        rw [wj]
        have := HJ.out
        simp only [Lib.intOf]
        omega
    · obtain rfl : j = ps.length := by have := BRH.out.le; omega
      have j1 : ((ps.length : Int) < (ps.length : Int)) = False := eq_false (by omega)
      have AT := Lib.hid (show (∀ p ∈ ps, isT p = true) ∧ total ps ≤ 65536 from by
        have h1 := BRH.out.all
        have h2 := BRH.out.sm
        rw [List.take_length] at h1 h2
        exact ⟨h1, h2⟩)
      obtain ⟨J, hJ⟩ : ∃ J, J = join (qsOf k n ps) := ⟨_, rfl⟩
      have HJ := Lib.hid hJ
      have hjl : J.length ≤ 100000000 := by
        have h1 := join_le (qsOf k n ps)
        have h2 := AT.out.2
        have h3 := HLEN.out
        have h4 : total (qsOf k n ps) + (qsOf k n ps).length ≤ total ps + ps.length + 22 := by
          unfold qsOf
          rw [total_app, List.length_append, srt_len, total_srt]
          split
          · have := dec_len 19 n (by have := HN.out; unfold most at this; omega)
            simp [total]
            omega
          · simp [total]
        rw [← hJ] at h1
        omega
      clear hJ
      obtain ⟨X, hX⟩ : ∃ X, X = (⟨J.toArray⟩ : ByteArray) := ⟨_, rfl⟩
      obtain ⟨Y1, hY1⟩ : ∃ Y, Y = LT ++ ⟨#[40]⟩ := ⟨_, rfl⟩
      obtain ⟨Y2, hY2⟩ : ∃ Y, Y = Y1 ++ X := ⟨_, rfl⟩
      obtain ⟨Y3, hY3⟩ : ∃ Y, Y = Y2 ++ ⟨#[41]⟩ := ⟨_, rfl⟩
      have HTX := Lib.hid (show Y3 = (⟨(letter k :: 40 :: (J ++ [41])).toArray⟩ : ByteArray) from by
        rw [hY3, hY2, hY1, hX, HLT.out]
        exact ByteArray.ext (by simp))
      have zX : X.size = J.length := by rw [hX]; simp [ByteArray.size]
      have zL : LT.size = 1 := by rw [HLT.out]; rfl
      have z40 : (⟨#[40]⟩ : ByteArray).size = 1 := rfl
      have z41 : (⟨#[41]⟩ : ByteArray).size = 1 := rfl
      have z1 : Y1.size = 2 := by rw [hY1, ByteArray.size_append, zL, z40]
      have z2 : Y2.size = J.length + 2 := by rw [hY2, ByteArray.size_append, z1, zX]; omega
      have z3 : Y3.size = J.length + 3 := by rw [hY3, ByteArray.size_append, z2, z41]
      have A1 := fun W => run_string_add_sum (P := Try.prog) W LT ⟨#[40]⟩ (by rw [zL, z40]; omega)
      have A2 := fun W => run_string_add_sum (P := Try.prog) W Y1 X (by rw [z1, zX]; omega)
      have A3 := fun W => run_string_add_sum (P := Try.prog) W Y2 ⟨#[41]⟩ (by rw [z2, z41]; omega)
      rw [← hY1] at A1
      rw [← hY2] at A2
      rw [← hY3] at A3
      have HXX := Lib.hid hX
      have HZ3 := Lib.hid z3
      clear hX hY1 hY2 hY3 zX zL z40 z41 z1 z2 z3 hjl
      have wl : wrap64 ((ps.length : Int) + 1) = (ps.length : Int) + 1 := IntWalk.wrap64_in _ (by have := HLEN.out; omega)
      obtain ⟨i0, hi0, hz0, hz1, hz2⟩ := trC.info_parts trC.info9
      obtain ⟨W2, hmk, hown0, hg0⟩ := run_make_own (P := Try.prog) wr wr.heap.size 25 9 i0 _ 1 Try.underlying25 hi0 hz0 hz1 .i64 .i64 (ps.length + 1) (by rw [hz2]; have := HLEN.out; omega) (by have := HLEN.out; unfold maxLen; omega) (Nat.le_refl _)
      rw [show ((ps.length + 1 : Nat) : Int) = (ps.length : Int) + 1 from Int.natCast_add _ _] at hmk
      have OW := Lib.hid (BRH.out.only.grown hg0 fun k h => by cases h)
      have HB2 := HB.out.keepS OW.out id
      have SL2 := Lib.hid (HSL.out.keep OW.out fun _ _ h => h)
      obtain ⟨c0, c1, c2, c3, c4, c5⟩ := HB2.cells
      rw [KN.out] at c2
      rw [K6.out] at c5
      have OWN := Lib.hid (show W2.ownsRow w.heap.size 9 1 (.slice (some ⟨wr.heap.size, 0, none⟩) 0 (ps.length + 1)) 0 ([].map sv) from owns_base hown0 (by have := (O1.out.trans BRH.out.only).size; omega))
      have OWR := Lib.hid (show W2.ownsRow wr.heap.size 9 1 (.slice (some ⟨wr.heap.size, 0, none⟩) 0 (ps.length + 1)) 0 ([].map sv) from hown0)
      have WRB := Lib.hid (show wr.heap.size ≤ W2.heap.size from hg0.size)
      have WRS := Lib.hid (show w.heap.size ≤ W2.heap.size from ((O1.out.trans OW.out)).size)
      clear hB hj HB2 hown0 hg0 hi0 hz0 hz1 hz2
      go_wp2_with fail
      (with_reducible refine (print_any n _ HN.out).mono ?_)
      rintro e w3 ⟨rfl, o3⟩
      have OA := Lib.hid (o3.alloc (.cells #[.string ⟨(dec n).toArray⟩] 9))
      have OX := Lib.hid (show Only (fun _ => False) w (w3.alloc (.cells #[.string ⟨(dec n).toArray⟩] 9)) from (O1.out.trans OW.out).trans OA.out)
      clear o3
      obtain ⟨g1, cp1, W4, hap1, own4, on4⟩ := add_all (trC.owns_keep OWR.out OA.out) (sl_one w3 (dec n)) (by have := WRB.out; have := OA.out.size; omega) (by omega) (by simp)
      simp only [Nat.zero_add, List.map_nil, List.nil_append] at hap1 own4
      go_wp2_with (at_builtin; refine Lib.wpList_append_run _ rfl (.tmp 66) (.tmp 69) 25 25 rfl _ _ rfl rfl _ _ hap1 ?_)
      have O4 := Lib.hid (on4 w OX.out (O1.out.trans BRH.out.only).size)
      have OWN4 := Lib.hid own4
      have O14 := Lib.hid (show Only (fun _ => False) W1 W4 from on4 W1 (OW.out.trans OA.out) BRH.out.only.size)
      have HB4 := HB.out.keepS O14.out id
      have SL4 := Lib.hid (HSL.out.keep O14.out fun _ _ h => h)
      clear c0 c1 c2 c3 c4 c5
      obtain ⟨c0, c1, c2, c3, c4, c5⟩ := HB4.cells
      rw [KN.out] at c2
      rw [K6.out] at c5
      have OWS4 := Lib.hid (show wr.heap.size ≤ W4.heap.size from by have := (own4.lt g1 rfl).2; have := (own4.lt g1 rfl).1; omega)
      clear own4 on4 HB4 hap1
      go_wp2_with fail
      go_quiet (fail)
      have OD := Lib.hid ((Only.refl (fun _ => False) W4).drewN nq)
      obtain ⟨g', cp, W3, hap, own3, on3⟩ := add_all (trC.owns_keep OWN4.out OD.out) (SL4.out.keep OD.out fun _ _ h => h) OWS4.out (by omega) (by have := HLEN.out; omega)
      go_wp2_with (at_builtin; refine Lib.wpList_append_run _ rfl (.tmp 91) (.tmp 92) 25 25 rfl _ _ rfl rfl _ _ hap ?_)
      have hqs : qsOf k n ps = dec n :: ps := by
        rw [qsOf, if_pos KN.out, srt, if_neg (fun q => by have := K6.out; rw [q.1] at this; cases this)]
        rfl
      have OWQ := Lib.hid (show W3.ownsRow wr.heap.size 9 1 (.slice (some ⟨g', 0, none⟩) (1 + ps.length) cp) (1 + ps.length) ((qsOf k n ps).map sv) from by
        rw [hqs]
        simpa using own3)
      have JO := Lib.hid (join_own OWQ.out (by rw [hqs]; have := AT.out.2; have := HLEN.out; (have := dec_short HN.out; simp only [total, List.map_cons, List.sum_cons, List.length_cons] at *; omega)))
      have O3 := Lib.hid (show Only (fun _ => False) w W3 from on3 w (O4.out.trans OD.out) (O1.out.trans BRH.out.only).size)
      have FT := Lib.hid (fin_text (n := n) (b := []) (ps := ps) (by have := H5.out; omega : 5 ≤ k) (by have := H5.out; omega) H1.out H2.out (fun _ => HNR.out) AT.out.1 AT.out.2)
      rw [← HJ.out] at JO FT
      rw [← HXX.out] at JO
      clear hqs own3 on3
      (with_reducible refine JO.out.mono ?_)
      rintro e w4 ⟨rfl, o4⟩
      have O4 := Lib.hid (O3.out.trans o4)
      clear o4 JO
      by_cases hg : 65536 < J.length + 3
      · have y1 : ((65536 : Int) < (Y3.size : Int)) = True := eq_true (by rw [HZ3.out]; omega)
        have HF := Lib.hid (show mkT k n [] ps = [] from by
          rw [FT.out, if_neg (by simp only [List.length_cons, List.length_append, List.length_nil]; omega)])
        clear hg
        go_wp2_with fail
        go_ret
        exact ⟨O4.out, by rw [HF.out]; rfl⟩
      · have y1 : ((65536 : Int) < (Y3.size : Int)) = False := eq_false (by rw [HZ3.out]; omega)
        have HF := Lib.hid (show mkT k n [] ps = letter k :: 40 :: (J ++ [41]) from by
          rw [FT.out, if_pos (by simp only [List.length_cons, List.length_append, List.length_nil]; omega)])
        clear hg
        go_wp2_with fail
        go_ret
        exact ⟨O4.out, by rw [HF.out, ← HTX.out]; rfl⟩
end Go.Proofs.Ytbjnejnjlidiaaa.prS
