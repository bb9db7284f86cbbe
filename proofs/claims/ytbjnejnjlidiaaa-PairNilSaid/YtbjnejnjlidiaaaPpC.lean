/- Pair: Seal. -/
import Derived.Test.YtbjnejnjlidiaaaPpB
import Derived.Test.YtbjnejnjlidiaaaNoF
namespace Go.Proofs.Ytbjnejnjlidiaaa.ppC
open Go.RowKit kit numA numB numC numD numE tmA tmB tmC tmD tmE trA trB prR prS prW prX tsA tsB tsF tsI wrA wrB wrC wrD wrE wrF wrG wrH wrI wrJ mkA maA maB maC noA noB noC noD noE tsG noF numF prRb winA winB winC winD winH ppA ppB
set_option linter.unusedVariables false
set_option linter.unusedSimpArgs false

/-- The message that Seal makes. -/
def transM (re : Int) (sent : Nat) (d : ByteArray) : Msg := ⟨4, 0, re, (sent : Nat), fun i => if i = 10 then d else ⟨#[]⟩⟩
/-- What Seal tells. -/
structure SealP (w : World) (B : Nat) (ks kr : ByteArray) (lo re : Int) (bg : Bool) (made : Int) (sent G : Nat) (v : Value) (n : Nat) (e : Ending) (w' : World) : Prop where
  val : e = .returned v
  pair : PB w' B (pairV ks kr lo re bg made n G)
  only : Only (fun k => k = B) w w'
set_option maxRecDepth 100000 in
set_option maxHeartbeats 1600000 in
theorem seal_nil (now : Int) (w : World) : Calls Try.prog 95 #[.pointer none, .int .i64 now, .slice none 0 0] w (numA.Told w (.tuple #[.agg (zeroM 0).row, .int .i64 1])) := by
  obtain ⟨Y, hY⟩ : ∃ Y, Y = w.alloc (.cells #[.int .i64 0, .int .u32 0, .int .u32 0, .int .u64 0, .string ⟨#[]⟩, .string ⟨#[]⟩, .string ⟨#[]⟩, .string ⟨#[]⟩, .string ⟨#[]⟩, .string ⟨#[]⟩, .string ⟨#[]⟩, .string ⟨#[]⟩, .string ⟨#[]⟩] 61) := ⟨_, rfl⟩
  obtain ⟨A, hA⟩ : ∃ A, A = w.heap.size := ⟨_, rfl⟩
  have O := Lib.hid (show Only (fun _ => False) w Y from by rw [hY]; exact (Only.refl _ w).alloc _)
  have HR := Lib.hid (show Blk Y A 61 (zeroM 0).row from by rw [hY, hA]; exact Blk.new w 61 _)
  have HY := Lib.hid hY
  have HAE := Lib.hid hA
  clear hY hA
  go_enter Try.func95, Try.ntmps95
  go_wp2_with fail
  rw [← HY.out, ← HAE.out]
  go_wp2_with (refine wpList_store_row rfl 61 (.tmp 6) (.tmp 13) rfl A (zeroM 0).row rfl rfl 61 _ HR.out (info61 (zeroM 0)) (size61 (zeroM 0) (zeroM 0)) (one61 (zeroM 0)) ?_)
  exact bodyPost_ret (trB.res2 Try.results95 _ _ A 61 (zeroM 0).row (0, 0) _ rfl HR.out Try.underlying61 rfl (info61 _)) rfl ⟨rfl, O.out⟩

set_option maxRecDepth 100000 in
set_option maxHeartbeats 1600000 in
theorem seal_old (B : Nat) (ks kr : ByteArray) (lo re : Int) (bg : Bool) (made : Int) (sent G : Nat) (now : Int) (bv : Value) (w : World) (h : PB w B (pairV ks kr lo re bg made sent G)) (hn : isTm now = true) (hm : isTm made = true) (hf : freshP made sent now = false) : Calls Try.prog 95 #[.pointer (some ⟨B, 0, none⟩), .int .i64 now, bv] w (numA.Told w (.tuple #[.agg (zeroM 0).row, .int .i64 10])) := by
  obtain ⟨Y, hY⟩ : ∃ Y, Y = w.alloc (.cells #[.int .i64 0, .int .u32 0, .int .u32 0, .int .u64 0, .string ⟨#[]⟩, .string ⟨#[]⟩, .string ⟨#[]⟩, .string ⟨#[]⟩, .string ⟨#[]⟩, .string ⟨#[]⟩, .string ⟨#[]⟩, .string ⟨#[]⟩, .string ⟨#[]⟩] 61) := ⟨_, rfl⟩
  obtain ⟨A, hA⟩ : ∃ A, A = w.heap.size := ⟨_, rfl⟩
  have O := Lib.hid (show Only (fun _ => False) w Y from by rw [hY]; exact (Only.refl _ w).alloc _)
  have HR := Lib.hid (show Blk Y A 61 (zeroM 0).row from by rw [hY, hA]; exact Blk.new w 61 _)
  have HY := Lib.hid hY
  have HAE := Lib.hid hA
  clear hY hA
  have HP := Lib.hid (h.keep O.out id)
  have HBA := Lib.hid (show B ≠ A from by rw [HAE.out]; have := h.lt; omega)
  have C1 := Lib.hid (fun W => time_any now W)
  rw [hn] at C1
  have C2 := Lib.hid (fun W (hW : PB W B (pairV ks kr lo re bg made sent G)) => fresh_any B ks kr lo re bg made sent G now W hW hm)
  rw [hf] at C2
  clear h hn hm hf
  go_enter Try.func95, Try.ntmps95
  go_wp2_with fail
  rw [← HY.out, ← HAE.out]
  (with_reducible refine (C1.out _).mono ?_)
  rintro e w2 ⟨rfl, o⟩
  replace O := Lib.hid (O.out.trans o)
  replace HP := Lib.hid (PB.keep HP.out o id)
  replace HR := Lib.hid (Blk.keep HR.out o id)
  clear o
  go_wp2_with fail
  (with_reducible refine (C2.out _ HP.out).mono ?_)
  rintro e w3 ⟨rfl, o⟩
  replace O := Lib.hid (O.out.trans o)
  replace HP := Lib.hid (PB.keep HP.out o id)
  replace HR := Lib.hid (Blk.keep HR.out o id)
  clear o
  go_wp2_with (refine wpList_store_row rfl 61 (.tmp 6) (.tmp 24) rfl A (zeroM 0).row rfl rfl 61 _ HR.out (info61 (zeroM 0)) (size61 (zeroM 0) (zeroM 0)) (one61 (zeroM 0)) ?_)
  exact bodyPost_ret (trB.res2 Try.results95 _ _ A 61 (zeroM 0).row (0, 0) _ rfl (Blk.row HR.out _) Try.underlying61 rfl (info61 _)) rfl ⟨rfl, Only.old (only_row (O.out.mono fun _ h => h.elim) _ (by rw [HAE.out]; exact Nat.le_refl _))⟩

def CutM (V : World) (row : Array Value) (a : Value) (wx : World) : Prop := ∃ G, a = .pointer (some ⟨G, 0, none⟩) ∧ Blk wx G 61 row ∧ V.heap.size ≤ G ∧ Only (fun _ => False) V wx
theorem only_old {T : Nat → Prop} {w w' : World} (h : Only (fun k => T k ∨ w.heap.size ≤ k) w w') : Only T w w' := ⟨h.os, h.tape, h.output, h.size, fun k hk hT => h.block k hk (fun x => x.elim hT (Nat.not_le.2 hk))⟩
theorem mkI_len {n : Nat} {b : Txt} {l : List Txt} (hn : n ≤ most) : (mkI 4 n b l).length ≤ 10000000 := by
  unfold mkI
  split
  · exact Nat.le_trans (mk_most hn) (by decide)
  · exact Nat.zero_le _
set_option maxRecDepth 100000 in
set_option maxHeartbeats 8000000 in
theorem seal_ok (B : Nat) (ks kr : ByteArray) (lo re : Int) (bg : Bool) (made : Int) (sent G : Nat) (now : Int) (a : Option Addr) (cap : Nat) (bs : Txt) (da sl : ByteArray) (w : World) (h : PB w B (pairV ks kr lo re bg made sent G)) (hn : isTm now = true) (hm : isTm made = true) (hf : freshP made sent now = true) (hq : sent < 18446744073709543423) (zk : ks.size ≤ 10000000) (hl : bs.length ≤ 2000) (hb : Sl w (fun k => k < w.heap.size) (.slice a bs.length cap) (U8 bs)) (hda : da.data.toList = mkI 4 0 bs []) (hsl : sl.data.toList = mkT 10 sent [] [ks.data.toList, da.data.toList, [48]]) (hr : rightM (transM re sent sl) = true) : Calls Try.prog 95 #[.pointer (some ⟨B, 0, none⟩), .int .i64 now, .slice a bs.length cap] w (SealP w B ks kr lo re bg made sent G (.tuple #[.agg (transM re sent sl).row, .int .i64 0]) (sent + 1)) := by
  obtain ⟨Y, hY⟩ : ∃ Y, Y = w.alloc (.cells #[.int .i64 0, .int .u32 0, .int .u32 0, .int .u64 0, .string ⟨#[]⟩, .string ⟨#[]⟩, .string ⟨#[]⟩, .string ⟨#[]⟩, .string ⟨#[]⟩, .string ⟨#[]⟩, .string ⟨#[]⟩, .string ⟨#[]⟩, .string ⟨#[]⟩] 61) := ⟨_, rfl⟩
  obtain ⟨A, hA⟩ : ∃ A, A = w.heap.size := ⟨_, rfl⟩
  have O := Lib.hid (show Only (fun _ => False) w Y from by rw [hY]; exact (Only.refl _ w).alloc _)
  have HR := Lib.hid (show Blk Y A 61 (zeroM 0).row from by rw [hY, hA]; exact Blk.new w 61 _)
  have HY := Lib.hid hY
  have HAE := Lib.hid hA
  clear hY hA
  have HP := Lib.hid (h.keep O.out id)
  have HBA := Lib.hid (show B ≠ A from by rw [HAE.out]; have := h.lt; omega)
  have zda : da.size ≤ 10000000 := u_le hda (mkI_len (by decide))
  have C1 := Lib.hid (fun W => time_any now W)
  rw [hn] at C1
  have C2 := Lib.hid (fun W (hW : PB W B (pairV ks kr lo re bg made sent G)) => fresh_any B ks kr lo re bg made sent G now W hW hm)
  rw [hf] at C2
  have C3 := Lib.hid (fun W (hS : Sl W (fun k => k < w.heap.size) (.slice a bs.length cap) (U8 bs)) => (show Calls Try.prog 30 #[.int .i64 4, .int .u64 0, .slice a bs.length cap, .slice none 0 0] W (numA.Told W (.string da)) from told_str (b := da) hda (prW.make_any 4 0 bs [] (fun _ => False) (fun k => k < w.heap.size) (.slice a bs.length cap) (.slice none 0 0) W (by decide) hS (by omega) (sl_nil _ _) (by simp) (by simp))))
  have C4 := Lib.hid (fun W G (h : W.heap[G]? = some (.cells #[.string ks, .string da, .string ⟨#[48]⟩] 9 (0, 0))) => (show Calls Try.prog 30 #[.int .i64 10, .int .u64 (sent : Nat), .slice none 0 0, .slice (some ⟨G, 0, none⟩) 3 3] W (numA.Told W (.string sl)) from told_str (b := sl) hsl (prW.make_br 10 sent [] [ks.data.toList, da.data.toList, [48]] (fun k => k = G) (.slice none 0 0) (.slice (some ⟨G, 0, none⟩) 3 3) W (by decide) (by decide) (by unfold most; omega) (sl_blk [ks, da, ⟨#[48]⟩] (by simp) h) (by
    intro p hp
    simp at hp
    rcases hp with rfl | rfl | rfl
    · rw [tl_size]; omega
    · rw [tl_size]; omega
    · simp) (by simp))))
  obtain ⟨m, hm0⟩ : ∃ m, m = transM re sent sl := ⟨_, rfl⟩
  have C5 := Lib.hid (fun W => (show Calls Try.prog 57 #[.agg m.row] W (Lists W (termsOf m)) from terms_any m W (by
    intro i
    rw [hm0]
    show (if i = 10 then sl else (⟨#[]⟩ : ByteArray)).size ≤ 100000000
    by_cases h10 : i = 10
    · rw [if_pos h10]; exact u_le hsl (Nat.le_trans (mk_most (by unfold most; omega)) (by decide))
    · rw [if_neg h10]; exact Nat.zero_le _)))
  have gl : (((termsOf m).length : Int) == 0) = false := by
    have := (termsOf_pos (m := m)).2 (by rw [hm0]; exact hr)
    rw [beq_eq_false_iff_ne]; omega
  have HS := Lib.hid (hb.keep O.out (fun _ _ h => h))
  have gb : ((2000 : Int) < (bs.length : Int)) = False := eq_false (by omega)
  have HM0 := Lib.hid (show transM re sent sl = m from hm0.symm)
  have HQ := Lib.hid hq
  clear h hn hm hf hda hsl zda hr hb hl hm0 zk hq
  go_enter Try.func95, Try.ntmps95
  go_wp2_with fail
  rw [← HY.out, ← HAE.out]
  (with_reducible refine (C1.out _).mono ?_)
  rintro e w2 ⟨rfl, o⟩
  replace O := Lib.hid (O.out.trans o)
  replace HP := Lib.hid (PB.keep HP.out o id)
  replace HR := Lib.hid (Blk.keep HR.out o id)
  replace HS := Lib.hid (HS.out.keep o (fun _ _ h => h))
  clear o
  go_wp2_with fail
  (with_reducible refine (C2.out _ HP.out).mono ?_)
  rintro e w3 ⟨rfl, o⟩
  replace O := Lib.hid (O.out.trans o)
  replace HP := Lib.hid (PB.keep HP.out o id)
  replace HR := Lib.hid (Blk.keep HR.out o id)
  replace HS := Lib.hid (HS.out.keep o (fun _ _ h => h))
  clear o
  go_wp2_with fail
  (with_reducible refine (C3.out _ HS.out).mono ?_)
  rintro e w4 ⟨rfl, o⟩
  replace O := Lib.hid (O.out.trans o)
  replace HP := Lib.hid (PB.keep HP.out o id)
  replace HR := Lib.hid (Blk.keep HR.out o id)
  clear o
  clear HS gb
  go_upto_region 10 with fail
  have HBL := Lib.hid (show A < w4.heap.size ∧ B < w4.heap.size from ⟨Blk.lt HR.out, PB.lt HP.out⟩)
  go_cut [9] (fun a wx => CutM w4 m.row a wx)
  case first =>
    have HLT := Lib.hid (show B < w4.heap.size from PB.lt HP.out)
    have O := Lib.hid (Only.refl (fun _ => False) w4)
    have R := Lib.hid ((Only.refl (fun _ => False) w4).drew)
    refine wp_region_held_drew (S := (fun w' => w'.cell? ⟨B, 0, none⟩ = some (.string ks) ∧ w'.cell? ⟨B, 3, none⟩ = some (.int .u32 re) ∧ w'.cell? ⟨B, 6, none⟩ = some (.int .u64 (sent : Nat)))) (by kernel_rfl) ?_ (fun hHeld => ?_)
    · exact ⟨PB.cell (PB.keep HP.out R.out id) 0, PB.cell (PB.keep HP.out R.out id) 3, PB.cell (PB.keep HP.out R.out id) 6⟩
    refine rgA.tk 0 hHeld ?_
    refine rgA.tk 1 hHeld ?_
    refine rgA.tk 2 hHeld ?_
    refine rgA.tk 3 hHeld ?_
    refine rgA.tk 4 hHeld ?_
    refine rgA.tk 5 hHeld ?_
    refine rgA.tk 6 hHeld ?_
    refine rgA.tk 7 hHeld ?_
    refine rgA.tk 8 hHeld ?_
    refine rgA.tk 9 hHeld ?_
    refine rgA.tk 10 hHeld ?_
    refine rgA.tk 11 hHeld ?_
    refine rgA.tk 12 hHeld ?_
    refine rgA.tk 13 hHeld ?_
    refine rgA.tk 14 hHeld ?_
    refine rgA.tk 15 hHeld ?_
    refine rgA.tk 16 hHeld ?_
    refine rgA.tk 17 hHeld ?_
    refine wpAnyH_ready (rs := [18, 21]) (by kernel_rfl) (by simp) ?_
    refine AllReadyH.cons rfl (fun K hK => ?br1) (AllReadyH.cons rfl (fun K hK => ?br2) (AllReadyH.nil))
    case' br1 =>
      go_simp
      obtain ⟨BS, hBS⟩ : ∃ g, g = w4.heap.size := ⟨_, rfl⟩
      obtain ⟨w9, hw9⟩ : ∃ z, z = (w4.alloc (.cells #[.string ks, .string da, .string ⟨#[48]⟩] 9)).drew := ⟨_, rfl⟩
      rw [← hw9, ← hBS]
      have HS4 := Lib.hid (show w9.heap[BS]? = some (.cells #[.string ks, .string da, .string ⟨#[48]⟩] 9 (0, 0)) from by rw [hw9, hBS]; exact heap_alloc_new w4 _)
      have oN : Only (fun _ => False) w4.drew w9 := by rw [hw9]; exact (Only.refl _ w4.drew).alloc _
      replace HP := Lib.hid (Only.keep (R.out.trans oN) HP.out id)
      replace O := Lib.hid (O.out.trans (R.out.trans oN))
      have R := Lib.hid (Only.refl (fun _ => False) w9)
      clear oN hw9 hBS
      obtain ⟨w2, hw2⟩ : ∃ z, z = w9 := ⟨_, rfl⟩
      rw [← hw2] at R O HP HS4 ⊢
      clear hw2
      refine hK.out _ _ ?_ (fun hHeld => ?_)
      · first | exact ⟨PB.cell (PB.keep HP.out R.out id) 0, PB.cell (PB.keep HP.out R.out id) 3, PB.cell (PB.keep HP.out R.out id) 6⟩ | exact ⟨Blk.cell (Blk.off (t := 183) (PB.keep HP.out R.out id) _ NX.out) 0, Blk.cell (Blk.off (t := 183) (PB.keep HP.out R.out id) _ NX.out) 3, Blk.cell (Blk.off (t := 183) (PB.keep HP.out R.out id) _ NX.out) 6⟩
      clear hK K
      try simp only [List.getElem_toArray, List.getElem_cons_succ, List.getElem_cons_zero, Act.put, List.setIfInBounds_toArray, List.set_cons_zero, List.set_cons_succ]
      refine wpAnyH_ready (rs := [19, 21]) (by kernel_rfl) (by simp) ?_
      refine AllReadyH.cons rfl (fun K hK => ?br3) (AllReadyH.cons rfl (fun K hK => ?br4) (AllReadyH.nil))
      case' br3 =>
        go_simp
        (with_reducible refine (C4.out _ _ ?_).mono ?_)
        · exact Only.keep R.out HS4.out id
        rintro e w2 ⟨rfl, o⟩
        replace R := Lib.hid (R.out.trans o)
        clear o
        go_wp2_with fail
        refine hK.out _ _ ?_ (fun hHeld => ?_)
        · first | exact ⟨PB.cell (PB.keep HP.out R.out id) 0, PB.cell (PB.keep HP.out R.out id) 3, PB.cell (PB.keep HP.out R.out id) 6⟩ | exact ⟨Blk.cell (Blk.off (t := 183) (PB.keep HP.out R.out id) _ NX.out) 0, Blk.cell (Blk.off (t := 183) (PB.keep HP.out R.out id) _ NX.out) 3, Blk.cell (Blk.off (t := 183) (PB.keep HP.out R.out id) _ NX.out) 6⟩
        clear hK K
        try simp only [List.getElem_toArray, List.getElem_cons_succ, List.getElem_cons_zero, Act.put, List.setIfInBounds_toArray, List.set_cons_zero, List.set_cons_succ]
        refine rgA.tk 20 hHeld ?_
        refine rgA.rd 21 (fun K hK => ?_)
        go_simp
        obtain ⟨GN, hGN⟩ : ∃ g, g = w2.heap.size := ⟨_, rfl⟩
        obtain ⟨w9, hw9⟩ : ∃ z, z = w2.alloc (.cells #[.int .i64 0, .int .u32 0, .int .u32 0, .int .u64 0, .string ⟨#[]⟩, .string ⟨#[]⟩, .string ⟨#[]⟩, .string ⟨#[]⟩, .string ⟨#[]⟩, .string ⟨#[]⟩, .string ⟨#[]⟩, .string ⟨#[]⟩, .string ⟨#[]⟩] 61) := ⟨_, rfl⟩
        rw [← hw9, ← hGN]
        have HNW := Lib.hid (show w9.heap[GN]? = some (.cells #[.int .i64 0, .int .u32 0, .int .u32 0, .int .u64 0, .string ⟨#[]⟩, .string ⟨#[]⟩, .string ⟨#[]⟩, .string ⟨#[]⟩, .string ⟨#[]⟩, .string ⟨#[]⟩, .string ⟨#[]⟩, .string ⟨#[]⟩, .string ⟨#[]⟩] 61 (0, 0)) from by rw [hw9, hGN]; exact heap_alloc_new w2 _)
        have oN : Only (fun _ => False) w2 w9 := by rw [hw9]; exact (Only.refl _ w2).alloc _
        have NG := Lib.hid (show w4.heap.size ≤ GN from by rw [hGN]; exact (show w4.heap.size ≤ (w2).heap.size from (O.out.trans R.out).size))
        have NX := Lib.hid (show B ≠ GN from by have h := NG.out; have h2 := HLT.out; omega)
        replace HP := Lib.hid (Only.keep (R.out.trans oN) HP.out id)
        replace HS4 := Lib.hid (Only.keep (R.out.trans oN) HS4.out id)
        replace O := Lib.hid (O.out.trans (R.out.trans oN))
        have R := Lib.hid (Only.refl (fun _ => False) w9)
        clear oN hw9 hGN
        obtain ⟨w2, hw2⟩ : ∃ z, z = w9 := ⟨_, rfl⟩
        rw [← hw2] at R O HP HS4 HNW ⊢
        clear hw2
        refine hK.out _ _ ?_ (fun hHeld => ?_)
        · first | exact ⟨PB.cell (PB.keep HP.out R.out id) 0, PB.cell (PB.keep HP.out R.out id) 3, PB.cell (PB.keep HP.out R.out id) 6⟩ | exact ⟨Blk.cell (Blk.off (t := 183) (PB.keep HP.out R.out id) _ NX.out) 0, Blk.cell (Blk.off (t := 183) (PB.keep HP.out R.out id) _ NX.out) 3, Blk.cell (Blk.off (t := 183) (PB.keep HP.out R.out id) _ NX.out) 6⟩
        clear hK K
        try simp only [List.getElem_toArray, List.getElem_cons_succ, List.getElem_cons_zero, Act.put, List.setIfInBounds_toArray, List.set_cons_zero, List.set_cons_succ]
        refine rgA.rd 22 (fun K hK => ?_)
        rw [if_pos (by rfl)]
        refine wp_store_row 61 (.tmp 9) (.tmp 52) rfl GN (transM re sent sl).row rfl rfl 61 _ (Only.keep R.out HNW.out id) (info61 _) (size61 (zeroM 0) _) (one61 _) ?_
        refine hK.out _ _ ?_ (fun hHeld => ?_)
        · first | exact ⟨PB.cell (PB.keep HP.out R.out id) 0, PB.cell (PB.keep HP.out R.out id) 3, PB.cell (PB.keep HP.out R.out id) 6⟩ | exact ⟨Blk.cell (Blk.off (t := 183) (PB.keep HP.out R.out id) _ NX.out) 0, Blk.cell (Blk.off (t := 183) (PB.keep HP.out R.out id) _ NX.out) 3, Blk.cell (Blk.off (t := 183) (PB.keep HP.out R.out id) _ NX.out) 6⟩
        clear hK K
        try simp only [List.getElem_toArray, List.getElem_cons_succ, List.getElem_cons_zero, Act.put, List.setIfInBounds_toArray, List.set_cons_zero, List.set_cons_succ]
        refine wpAnyH_done (by kernel_rfl) ?_ _
        clear hHeld
      case' br4 =>
        go_simp
        obtain ⟨GN, hGN⟩ : ∃ g, g = w2.heap.size := ⟨_, rfl⟩
        obtain ⟨w9, hw9⟩ : ∃ z, z = w2.alloc (.cells #[.int .i64 0, .int .u32 0, .int .u32 0, .int .u64 0, .string ⟨#[]⟩, .string ⟨#[]⟩, .string ⟨#[]⟩, .string ⟨#[]⟩, .string ⟨#[]⟩, .string ⟨#[]⟩, .string ⟨#[]⟩, .string ⟨#[]⟩, .string ⟨#[]⟩] 61) := ⟨_, rfl⟩
        rw [← hw9, ← hGN]
        have HNW := Lib.hid (show w9.heap[GN]? = some (.cells #[.int .i64 0, .int .u32 0, .int .u32 0, .int .u64 0, .string ⟨#[]⟩, .string ⟨#[]⟩, .string ⟨#[]⟩, .string ⟨#[]⟩, .string ⟨#[]⟩, .string ⟨#[]⟩, .string ⟨#[]⟩, .string ⟨#[]⟩, .string ⟨#[]⟩] 61 (0, 0)) from by rw [hw9, hGN]; exact heap_alloc_new w2 _)
        have oN : Only (fun _ => False) w2 w9 := by rw [hw9]; exact (Only.refl _ w2).alloc _
        have NG := Lib.hid (show w4.heap.size ≤ GN from by rw [hGN]; exact (show w4.heap.size ≤ (w2).heap.size from (O.out.trans R.out).size))
        have NX := Lib.hid (show B ≠ GN from by have h := NG.out; have h2 := HLT.out; omega)
        replace HP := Lib.hid (Only.keep (R.out.trans oN) HP.out id)
        replace HS4 := Lib.hid (Only.keep (R.out.trans oN) HS4.out id)
        replace O := Lib.hid (O.out.trans (R.out.trans oN))
        have R := Lib.hid (Only.refl (fun _ => False) w9)
        clear oN hw9 hGN
        obtain ⟨w2, hw2⟩ : ∃ z, z = w9 := ⟨_, rfl⟩
        rw [← hw2] at R O HP HS4 HNW ⊢
        clear hw2
        refine hK.out _ _ ?_ (fun hHeld => ?_)
        · first | exact ⟨PB.cell (PB.keep HP.out R.out id) 0, PB.cell (PB.keep HP.out R.out id) 3, PB.cell (PB.keep HP.out R.out id) 6⟩ | exact ⟨Blk.cell (Blk.off (t := 183) (PB.keep HP.out R.out id) _ NX.out) 0, Blk.cell (Blk.off (t := 183) (PB.keep HP.out R.out id) _ NX.out) 3, Blk.cell (Blk.off (t := 183) (PB.keep HP.out R.out id) _ NX.out) 6⟩
        clear hK K
        try simp only [List.getElem_toArray, List.getElem_cons_succ, List.getElem_cons_zero, Act.put, List.setIfInBounds_toArray, List.set_cons_zero, List.set_cons_succ]
        refine rgA.rd 19 (fun K hK => ?_)
        go_simp
        (with_reducible refine (C4.out _ _ ?_).mono ?_)
        · exact Only.keep R.out HS4.out id
        rintro e w2 ⟨rfl, o⟩
        replace R := Lib.hid (R.out.trans o)
        clear o
        go_wp2_with fail
        refine hK.out _ _ ?_ (fun hHeld => ?_)
        · first | exact ⟨PB.cell (PB.keep HP.out R.out id) 0, PB.cell (PB.keep HP.out R.out id) 3, PB.cell (PB.keep HP.out R.out id) 6⟩ | exact ⟨Blk.cell (Blk.off (t := 183) (PB.keep HP.out R.out id) _ NX.out) 0, Blk.cell (Blk.off (t := 183) (PB.keep HP.out R.out id) _ NX.out) 3, Blk.cell (Blk.off (t := 183) (PB.keep HP.out R.out id) _ NX.out) 6⟩
        clear hK K
        try simp only [List.getElem_toArray, List.getElem_cons_succ, List.getElem_cons_zero, Act.put, List.setIfInBounds_toArray, List.set_cons_zero, List.set_cons_succ]
        refine rgA.tk 20 hHeld ?_
        refine rgA.rd 22 (fun K hK => ?_)
        rw [if_pos (by rfl)]
        refine wp_store_row 61 (.tmp 9) (.tmp 52) rfl GN (transM re sent sl).row rfl rfl 61 _ (Only.keep R.out HNW.out id) (info61 _) (size61 (zeroM 0) _) (one61 _) ?_
        refine hK.out _ _ ?_ (fun hHeld => ?_)
        · first | exact ⟨PB.cell (PB.keep HP.out R.out id) 0, PB.cell (PB.keep HP.out R.out id) 3, PB.cell (PB.keep HP.out R.out id) 6⟩ | exact ⟨Blk.cell (Blk.off (t := 183) (PB.keep HP.out R.out id) _ NX.out) 0, Blk.cell (Blk.off (t := 183) (PB.keep HP.out R.out id) _ NX.out) 3, Blk.cell (Blk.off (t := 183) (PB.keep HP.out R.out id) _ NX.out) 6⟩
        clear hK K
        try simp only [List.getElem_toArray, List.getElem_cons_succ, List.getElem_cons_zero, Act.put, List.setIfInBounds_toArray, List.set_cons_zero, List.set_cons_succ]
        refine wpAnyH_done (by kernel_rfl) ?_ _
        clear hHeld
    case' br2 =>
      go_simp
      obtain ⟨GN, hGN⟩ : ∃ g, g = w4.heap.size := ⟨_, rfl⟩
      obtain ⟨w9, hw9⟩ : ∃ z, z = (w4.alloc (.cells #[.int .i64 0, .int .u32 0, .int .u32 0, .int .u64 0, .string ⟨#[]⟩, .string ⟨#[]⟩, .string ⟨#[]⟩, .string ⟨#[]⟩, .string ⟨#[]⟩, .string ⟨#[]⟩, .string ⟨#[]⟩, .string ⟨#[]⟩, .string ⟨#[]⟩] 61)).drew := ⟨_, rfl⟩
      rw [← hw9, ← hGN]
      have HNW := Lib.hid (show w9.heap[GN]? = some (.cells #[.int .i64 0, .int .u32 0, .int .u32 0, .int .u64 0, .string ⟨#[]⟩, .string ⟨#[]⟩, .string ⟨#[]⟩, .string ⟨#[]⟩, .string ⟨#[]⟩, .string ⟨#[]⟩, .string ⟨#[]⟩, .string ⟨#[]⟩, .string ⟨#[]⟩] 61 (0, 0)) from by rw [hw9, hGN]; exact heap_alloc_new w4 _)
      have oN : Only (fun _ => False) w4.drew w9 := by rw [hw9]; exact (Only.refl _ w4.drew).alloc _
      have NG := Lib.hid (show w4.heap.size ≤ GN from by rw [hGN]; exact (show w4.heap.size ≤ (w4.drew).heap.size from (O.out.trans R.out).size))
      have NX := Lib.hid (show B ≠ GN from by have h := NG.out; have h2 := HLT.out; omega)
      replace HP := Lib.hid (Only.keep (R.out.trans oN) HP.out id)
      replace O := Lib.hid (O.out.trans (R.out.trans oN))
      have R := Lib.hid (Only.refl (fun _ => False) w9)
      clear oN hw9 hGN
      obtain ⟨w2, hw2⟩ : ∃ z, z = w9 := ⟨_, rfl⟩
      rw [← hw2] at R O HP HNW ⊢
      clear hw2
      refine hK.out _ _ ?_ (fun hHeld => ?_)
      · first | exact ⟨PB.cell (PB.keep HP.out R.out id) 0, PB.cell (PB.keep HP.out R.out id) 3, PB.cell (PB.keep HP.out R.out id) 6⟩ | exact ⟨Blk.cell (Blk.off (t := 183) (PB.keep HP.out R.out id) _ NX.out) 0, Blk.cell (Blk.off (t := 183) (PB.keep HP.out R.out id) _ NX.out) 3, Blk.cell (Blk.off (t := 183) (PB.keep HP.out R.out id) _ NX.out) 6⟩
      clear hK K
      try simp only [List.getElem_toArray, List.getElem_cons_succ, List.getElem_cons_zero, Act.put, List.setIfInBounds_toArray, List.set_cons_zero, List.set_cons_succ]
      refine rgA.rd 18 (fun K hK => ?_)
      go_simp
      obtain ⟨BS, hBS⟩ : ∃ g, g = w2.heap.size := ⟨_, rfl⟩
      obtain ⟨w9, hw9⟩ : ∃ z, z = w2.alloc (.cells #[.string ks, .string da, .string ⟨#[48]⟩] 9) := ⟨_, rfl⟩
      rw [← hw9, ← hBS]
      have HS4 := Lib.hid (show w9.heap[BS]? = some (.cells #[.string ks, .string da, .string ⟨#[48]⟩] 9 (0, 0)) from by rw [hw9, hBS]; exact heap_alloc_new w2 _)
      have oN : Only (fun _ => False) w2 w9 := by rw [hw9]; exact (Only.refl _ w2).alloc _
      replace HP := Lib.hid (Only.keep (R.out.trans oN) HP.out id)
      replace HNW := Lib.hid (Only.keep (R.out.trans oN) HNW.out id)
      replace O := Lib.hid (O.out.trans (R.out.trans oN))
      have R := Lib.hid (Only.refl (fun _ => False) w9)
      clear oN hw9 hBS
      obtain ⟨w2, hw2⟩ : ∃ z, z = w9 := ⟨_, rfl⟩
      rw [← hw2] at R O HP HNW HS4 ⊢
      clear hw2
      refine hK.out _ _ ?_ (fun hHeld => ?_)
      · first | exact ⟨PB.cell (PB.keep HP.out R.out id) 0, PB.cell (PB.keep HP.out R.out id) 3, PB.cell (PB.keep HP.out R.out id) 6⟩ | exact ⟨Blk.cell (Blk.off (t := 183) (PB.keep HP.out R.out id) _ NX.out) 0, Blk.cell (Blk.off (t := 183) (PB.keep HP.out R.out id) _ NX.out) 3, Blk.cell (Blk.off (t := 183) (PB.keep HP.out R.out id) _ NX.out) 6⟩
      clear hK K
      try simp only [List.getElem_toArray, List.getElem_cons_succ, List.getElem_cons_zero, Act.put, List.setIfInBounds_toArray, List.set_cons_zero, List.set_cons_succ]
      refine rgA.rd 19 (fun K hK => ?_)
      go_simp
      (with_reducible refine (C4.out _ _ ?_).mono ?_)
      · exact Only.keep R.out HS4.out id
      rintro e w2 ⟨rfl, o⟩
      replace R := Lib.hid (R.out.trans o)
      clear o
      go_wp2_with fail
      refine hK.out _ _ ?_ (fun hHeld => ?_)
      · first | exact ⟨PB.cell (PB.keep HP.out R.out id) 0, PB.cell (PB.keep HP.out R.out id) 3, PB.cell (PB.keep HP.out R.out id) 6⟩ | exact ⟨Blk.cell (Blk.off (t := 183) (PB.keep HP.out R.out id) _ NX.out) 0, Blk.cell (Blk.off (t := 183) (PB.keep HP.out R.out id) _ NX.out) 3, Blk.cell (Blk.off (t := 183) (PB.keep HP.out R.out id) _ NX.out) 6⟩
      clear hK K
      try simp only [List.getElem_toArray, List.getElem_cons_succ, List.getElem_cons_zero, Act.put, List.setIfInBounds_toArray, List.set_cons_zero, List.set_cons_succ]
      refine rgA.tk 20 hHeld ?_
      refine rgA.rd 22 (fun K hK => ?_)
      rw [if_pos (by rfl)]
      refine wp_store_row 61 (.tmp 9) (.tmp 52) rfl GN (transM re sent sl).row rfl rfl 61 _ (Only.keep R.out HNW.out id) (info61 _) (size61 (zeroM 0) _) (one61 _) ?_
      refine hK.out _ _ ?_ (fun hHeld => ?_)
      · first | exact ⟨PB.cell (PB.keep HP.out R.out id) 0, PB.cell (PB.keep HP.out R.out id) 3, PB.cell (PB.keep HP.out R.out id) 6⟩ | exact ⟨Blk.cell (Blk.off (t := 183) (PB.keep HP.out R.out id) _ NX.out) 0, Blk.cell (Blk.off (t := 183) (PB.keep HP.out R.out id) _ NX.out) 3, Blk.cell (Blk.off (t := 183) (PB.keep HP.out R.out id) _ NX.out) 6⟩
      clear hK K
      try simp only [List.getElem_toArray, List.getElem_cons_succ, List.getElem_cons_zero, Act.put, List.setIfInBounds_toArray, List.set_cons_zero, List.set_cons_succ]
      refine wpAnyH_done (by kernel_rfl) ?_ _
      clear hHeld
    all_goals
      go_wp2_with fail
      go_meet
      rw [← HM0.out]
      exact ⟨GN, rfl, setRow_heap _ _ _ _ _ _ (Only.keep R.out HNW.out id), NG.out, Only.old (only_row ((O.out.trans R.out).mono fun _ h => h.elim) _ NG.out)⟩
  case rest =>
    obtain ⟨GN, rfl, hbm, hge, oc⟩ := hcut
    replace HP := Lib.hid (PB.keep HP.out oc id)
    have NA := Lib.hid (show A ≠ GN ∧ B ≠ GN from by have h2 := HBL.out; omega)
    replace HR := Lib.hid (Blk.keep HR.out oc id)
    replace O := Lib.hid (O.out.trans oc)
    have HM := Lib.hid (show Blk wc GN 61 m.row from hbm)
    clear oc hbm hge
    go_wp2_with (refine wpList_load_row rfl 61 (.tmp 9) rfl GN rfl 61 m.row (0, 0) _ HM.out Try.underlying61 rfl (info61 m) ?_)
    (with_reducible refine (C5.out _).mono ?_)
    rintro e w6 ⟨o, la, lc, rfl, -, -, -⟩
    replace O := Lib.hid (O.out.trans o)
    replace HP := Lib.hid (PB.keep HP.out o id)
    replace HR := Lib.hid (Blk.keep HR.out o id)
    replace HM := Lib.hid (Blk.keep HM.out o id)
    clear o
    have c6 : w6.cell? ⟨B, 6, none⟩ = some (.int .u64 (sent : Nat)) := PB.cell HP.out 6
    have f6 : w6.frozen? ⟨B, 6, none⟩ = false := PB.free HP.out 6
    have e6 : IntKind.u64.wrap ((sent : Int) + 1) = ((sent + 1 : Nat) : Int) := by rw [IntWalk.u64_in _ (by have := HQ.out; omega)]; omega
    go_upto_region 14 with fail
    obtain ⟨V, hV⟩ : ∃ V, V = w6.setCell ⟨B, 6, none⟩ (.int .u64 ((sent : Int) + 1)) := ⟨_, rfl⟩
    have oV : Only (fun k => k = B) w6 V := by rw [hV]; exact (Only.refl _ _).set rfl
    replace HP := Lib.hid (show PB V B (pairV ks kr lo re bg made (sent + 1) G) from by
      have h := pair_set HP.out (sent + 1)
      rw [show ((sent + 1 : Nat) : Int) = (sent : Int) + 1 from rfl, ← hV] at h
      exact h)
    replace HR := Lib.hid (Blk.keep HR.out oV (fun e => HBA.out e.symm))
    replace HM := Lib.hid (Blk.keep HM.out oV (fun e => NA.out.2 e.symm))
    have OV := Lib.hid ((O.out.mono (T := fun k => k = B) fun _ h => h.elim).trans oV)
    rw [← hV]
    clear hV oV c6 f6 e6
    go_wp2_with (first
      | (refine wpList_store_row rfl 61 (.tmp 6) (.tmp 65) rfl A m.row rfl rfl 61 _ HR.out (info61 m) (size61 (zeroM 0) m) (one61 m) ?_)
      | (refine wpList_load_row rfl 61 (.tmp 9) rfl GN rfl 61 m.row (0, 0) _ HM.out Try.underlying61 rfl (info61 m) ?_))
    exact bodyPost_ret (trB.res2 Try.results95 _ _ A 61 m.row (0, 0) _ rfl (Blk.row HR.out _) Try.underlying61 rfl (info61 _)) rfl ⟨by rw [HM0.out]; rfl, Blk.off (t := 183) HP.out _ HBA.out, only_old (only_row (OV.out.mono fun _ h => .inl h) _ (.inr (by rw [HAE.out]; exact Nat.le_refl _)))⟩


end Go.Proofs.Ytbjnejnjlidiaaa.ppC
