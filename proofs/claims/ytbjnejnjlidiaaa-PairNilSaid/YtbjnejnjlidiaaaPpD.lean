/- Pair: Open. -/
import Derived.Test.YtbjnejnjlidiaaaPpC
import Derived.BigQuiet
namespace Go.Proofs.Ytbjnejnjlidiaaa.ppD
open Go.RowKit kit numA numB numC numD numE tmA tmB tmC tmD tmE trA trB prR prS prW prX tsA tsB tsF tsI wrA wrB wrC wrD wrE wrF wrG wrH wrI wrJ mkA maA maB maC noA noB noC noD noE tsG noF numF prRb winA winB winC winD winH ppA ppB ppC
set_option linter.unusedVariables false
set_option linter.unusedSimpArgs false

set_option maxRecDepth 100000 in
set_option maxHeartbeats 4000000 in
theorem open_old (B : Nat) (ks kr : ByteArray) (lo re : Int) (bg : Bool) (made : Int) (sent G : Nat) (now : Int) (m : Msg) (w : World) (h : PB w B (pairV ks kr lo re bg made sent G)) (hk : m.k = 4) (hr : rightM m = true) (hrec : m.r = lo) (ht : ∀ i, (m.t i).size ≤ 10000000) (hn : isTm now = true) (hm : isTm made = true) (ho : 180000 ≤ ageOf now made) : Calls Try.prog 98 #[.pointer (some ⟨B, 0, none⟩), .int .i64 now, mval m] w (numA.Told w (.tuple #[.slice none 0 0, .int .i64 10])) := by
  have HM := Lib.hid (show Blk (w.alloc (.cells m.row 61)) w.heap.size 61 m.row from Blk.new w 61 m.row)
  have O := Lib.hid (show Only (fun _ => False) w (w.alloc (.cells m.row 61)) from (Only.refl _ w).alloc _)
  obtain ⟨X, hX⟩ : ∃ X, X = w.alloc (.cells m.row 61) := ⟨_, rfl⟩
  rw [← hX] at HM O
  obtain ⟨A, hA⟩ : ∃ A, A = w.heap.size := ⟨_, rfl⟩
  rw [← hA] at HM
  have HX := Lib.hid hX
  have HAE := Lib.hid hA
  simp only [Msg.row] at HX
  clear hX hA
  have HP := Lib.hid (h.keep O.out id)
  have CT := Lib.hid (fun W => (show Calls Try.prog 57 #[.agg m.row] W (Lists W (termsOf m)) from terms_any m W (fun i => Nat.le_trans (ht i) (by decide))))
  simp only [Msg.row] at CT
  have gl : (((termsOf m).length : Int) == 0) = false := by
    have := (termsOf_pos (m := m)).2 hr
    rw [beq_eq_false_iff_ne]; omega
  have CN := Lib.hid (fun W => time_any now W)
  rw [hn] at CN
  have CO := Lib.hid (fun W (hW : PB W B (pairV ks kr lo re bg made sent G)) => old_any B ks kr lo re bg made sent G now W hW hn hm)
  have HK := Lib.hid hk
  have HRE := Lib.hid hrec
  rw [decide_eq_true ho] at CO
  clear h hk hr hrec ht hn hm ho
  unfold mval
  go_enter Try.func98, Try.ntmps98
  go_upto_region 1 with fail
  rw [← HX.out, ← HAE.out]
  obtain ⟨d0, d1, d2, d3, d4, d5, d6, d7, d8, d9, d10, d11, d12⟩ := MsgAt.cells (show MsgAt X A m from HM.out)
  have k4 : (m.k != 4) = false := by rw [bne_eq_false_iff_eq]; exact HK.out
  go_wp2_with fail
  (with_reducible refine (CT.out _).mono ?_)
  rintro e w2 ⟨o, la, lc, rfl, -, -, -⟩
  replace O := Lib.hid (O.out.trans o)
  replace HM := Lib.hid (Blk.keep HM.out o id)
  replace HP := Lib.hid (PB.keep HP.out o id)
  clear o d0 d1 d2 d3 d4 d5 d6 d7 d8 d9 d10 d11 d12 k4
  go_upto_region 5 with fail
  have d2 := (MsgAt.nums (show MsgAt w2 A m from HM.out)).2.2.1
  have c2 : w2.cell? ⟨B, 2, none⟩ = some (.int .u32 lo) := PB.cell HP.out 2
  rw [HRE.out] at d2
  go_quiet (fail)
  obtain ⟨V1, hV⟩ : ∃ V, V = w2.drewN nq := ⟨_, rfl⟩
  have oD : Only (fun _ => False) w2 V1 := by rw [hV]; exact (Only.refl _ _).drewN _
  rw [← hV]
  replace O := Lib.hid (O.out.trans oD)
  replace HM := Lib.hid (Blk.keep HM.out oD id)
  replace HP := Lib.hid (PB.keep HP.out oD id)
  clear hV oD d2 c2
  go_wp2_with fail
  (with_reducible refine (CN.out _).mono ?_)
  rintro e w3 ⟨rfl, o⟩
  replace O := Lib.hid (O.out.trans o)
  replace HM := Lib.hid (Blk.keep HM.out o id)
  replace HP := Lib.hid (PB.keep HP.out o id)
  clear o
  go_wp2_with fail
  (with_reducible refine (CO.out _ HP.out).mono ?_)
  rintro e w4 ⟨rfl, o⟩
  replace O := Lib.hid (O.out.trans o)
  replace HM := Lib.hid (Blk.keep HM.out o id)
  replace HP := Lib.hid (PB.keep HP.out o id)
  clear o
  go_wp2_with fail
  go_ret2
  exact ⟨rfl, O.out⟩

set_option maxRecDepth 100000 in
theorem open_nil (now : Int) (m : Msg) (w : World) : Calls Try.prog 98 #[.pointer none, .int .i64 now, mval m] w (numA.Told w (.tuple #[.slice none 0 0, .int .i64 1])) := by
  unfold mval
  go_enter Try.func98, Try.ntmps98
  go_wp2_with fail
  go_ret2
  exact ⟨rfl, (Only.refl _ _).alloc _⟩

set_option maxRecDepth 100000 in
set_option maxHeartbeats 4000000 in
theorem open_stale (B : Nat) (ks kr : ByteArray) (lo re : Int) (bg : Bool) (made : Int) (sent G : Nat) (now : Int) (m : Msg) (l : List Nat) (c : Nat) (w : World) (h : PB w B (pairV ks kr lo re bg made sent G)) (hk : m.k = 4) (hr : rightM m = true) (hrec : m.r = lo) (ht : ∀ i, (m.t i).size ≤ 10000000) (hn : isTm now = true) (hm : isTm made = true) (hat : At w G l) (hc : m.c = (c : Nat)) (hlt : c < 18446744073709551616) (ho : ¬ 180000 ≤ ageOf now made) (hrw : rwd l c ≠ 0) : Calls Try.prog 98 #[.pointer (some ⟨B, 0, none⟩), .int .i64 now, mval m] w (numA.Told w (.tuple #[.slice none 0 0, .int .i64 (rwd l c)])) := by
  have HM := Lib.hid (show Blk (w.alloc (.cells m.row 61)) w.heap.size 61 m.row from Blk.new w 61 m.row)
  have O := Lib.hid (show Only (fun _ => False) w (w.alloc (.cells m.row 61)) from (Only.refl _ w).alloc _)
  obtain ⟨X, hX⟩ : ∃ X, X = w.alloc (.cells m.row 61) := ⟨_, rfl⟩
  rw [← hX] at HM O
  obtain ⟨A, hA⟩ : ∃ A, A = w.heap.size := ⟨_, rfl⟩
  rw [← hA] at HM
  have HX := Lib.hid hX
  have HAE := Lib.hid hA
  simp only [Msg.row] at HX
  clear hX hA
  have HP := Lib.hid (h.keep O.out id)
  have CT := Lib.hid (fun W => (show Calls Try.prog 57 #[.agg m.row] W (Lists W (termsOf m)) from terms_any m W (fun i => Nat.le_trans (ht i) (by decide))))
  simp only [Msg.row] at CT
  have gl : (((termsOf m).length : Int) == 0) = false := by
    have := (termsOf_pos (m := m)).2 hr
    rw [beq_eq_false_iff_ne]; omega
  have CN := Lib.hid (fun W => time_any now W)
  rw [hn] at CN
  have CO := Lib.hid (fun W (hW : PB W B (pairV ks kr lo re bg made sent G)) => old_any B ks kr lo re bg made sent G now W hW hn hm)
  have HK := Lib.hid hk
  have HRE := Lib.hid hrec
  rw [decide_eq_false ho] at CO
  have HW := Lib.hid (hat.keep O.out id)
  have CW := Lib.hid (fun W (hW : At W G l) => would_at G c l W hlt hW)
  have HC := Lib.hid hc
  have hr2 : (rwd l c != 0) = true := by rw [bne_iff_ne]; exact hrw
  clear h hk hr hrec ht hn hm ho hat hc hlt hrw
  unfold mval
  go_enter Try.func98, Try.ntmps98
  go_upto_region 1 with fail
  rw [← HX.out, ← HAE.out]
  obtain ⟨d0, d1, d2, d3, d4, d5, d6, d7, d8, d9, d10, d11, d12⟩ := MsgAt.cells (show MsgAt X A m from HM.out)
  have k4 : (m.k != 4) = false := by rw [bne_eq_false_iff_eq]; exact HK.out
  go_wp2_with fail
  (with_reducible refine (CT.out _).mono ?_)
  rintro e w2 ⟨o, la, lc, rfl, -, -, -⟩
  replace O := Lib.hid (O.out.trans o)
  replace HM := Lib.hid (Blk.keep HM.out o id)
  replace HP := Lib.hid (PB.keep HP.out o id)
  replace HW := Lib.hid (At.keep HW.out o id)
  clear o d0 d1 d2 d3 d4 d5 d6 d7 d8 d9 d10 d11 d12 k4
  go_upto_region 5 with fail
  have d2 := (MsgAt.nums (show MsgAt w2 A m from HM.out)).2.2.1
  have c2 : w2.cell? ⟨B, 2, none⟩ = some (.int .u32 lo) := PB.cell HP.out 2
  rw [HRE.out] at d2
  go_quiet (fail)
  obtain ⟨V1, hV⟩ : ∃ V, V = w2.drewN nq := ⟨_, rfl⟩
  have oD : Only (fun _ => False) w2 V1 := by rw [hV]; exact (Only.refl _ _).drewN _
  rw [← hV]
  replace O := Lib.hid (O.out.trans oD)
  replace HM := Lib.hid (Blk.keep HM.out oD id)
  replace HP := Lib.hid (PB.keep HP.out oD id)
  replace HW := Lib.hid (At.keep HW.out oD id)
  clear hV oD d2 c2
  go_wp2_with fail
  (with_reducible refine (CN.out _).mono ?_)
  rintro e w3 ⟨rfl, o⟩
  replace O := Lib.hid (O.out.trans o)
  replace HM := Lib.hid (Blk.keep HM.out o id)
  replace HP := Lib.hid (PB.keep HP.out o id)
  replace HW := Lib.hid (At.keep HW.out o id)
  clear o
  go_wp2_with fail
  (with_reducible refine (CO.out _ HP.out).mono ?_)
  rintro e w4 ⟨rfl, o⟩
  replace O := Lib.hid (O.out.trans o)
  replace HM := Lib.hid (Blk.keep HM.out o id)
  replace HP := Lib.hid (PB.keep HP.out o id)
  replace HW := Lib.hid (At.keep HW.out o id)
  clear o
  go_upto_region 11 with fail
  obtain ⟨V2, hV⟩ : ∃ V, V = w4 := ⟨_, rfl⟩
  rw [← hV] at HM HP HW O ⊢
  clear hV
  have R := Lib.hid ((Only.refl (fun _ => False) V2).drew)
  refine wp_region_held_drew (S := (fun w' => w'.cell? ⟨B, 7, none⟩ = some (.pointer (some ⟨G, 0, none⟩)) ∧ w'.cell? ⟨A, 3, none⟩ = some (.int .u64 (c : Nat)))) (by kernel_rfl) ?_ (fun hHeld => ?_)
  · exact ⟨PB.cell (PB.keep HP.out R.out id) 7, by have h := (MsgAt.nums (show MsgAt _ A m from Blk.keep HM.out R.out id)).2.2.2; rw [HC.out] at h; exact h⟩
  refine rgA.tk 0 hHeld ?_
  refine rgA.tk 1 hHeld ?_
  refine rgA.tk 2 hHeld ?_
  refine rgA.tk 3 hHeld ?_
  refine rgA.tk 4 hHeld ?_
  refine rgA.tk 5 hHeld ?_
  refine rgA.rd 6 (fun K hK => ?_)
  go_simp
  (with_reducible refine (CW.out _ (At.keep HW.out R.out id)).mono ?_)
  rintro e w2 ⟨rfl, hw2⟩
  replace R := Lib.hid (show Only (fun _ => False) V2 w2 from by rw [hw2]; exact R.out)
  clear hw2
  go_wp2_with fail
  refine hK.out _ _ ?_ (fun hHeld => ?_)
  · exact ⟨PB.cell (PB.keep HP.out R.out id) 7, by have h := (MsgAt.nums (show MsgAt _ A m from Blk.keep HM.out R.out id)).2.2.2; rw [HC.out] at h; exact h⟩
  clear hK K
  try simp only [List.getElem_toArray, List.getElem_cons_succ, List.getElem_cons_zero, Act.put, List.setIfInBounds_toArray, List.set_cons_zero, List.set_cons_succ]
  refine rgA.tk 7 hHeld ?_
  refine wpAnyH_done (by kernel_rfl) ?_ _
  replace O := Lib.hid (O.out.trans R.out)
  replace HM := Lib.hid (Blk.keep HM.out R.out id)
  replace HP := Lib.hid (PB.keep HP.out R.out id)
  replace HW := Lib.hid (At.keep HW.out R.out id)
  clear R
  go_wp2_with fail
  go_ret2
  exact ⟨rfl, O.out⟩


end Go.Proofs.Ytbjnejnjlidiaaa.ppD
