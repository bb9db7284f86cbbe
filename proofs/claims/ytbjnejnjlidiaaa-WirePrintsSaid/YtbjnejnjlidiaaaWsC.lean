/- Wire: the law on what is printed, a right message. -/
import Derived.Test.YtbjnejnjlidiaaaWsB
namespace Go.Proofs.Ytbjnejnjlidiaaa.wsC
open Go.RowKit kit numA numB numC numD numE numF numG numH numI tmA tmD trA trB prR prS prW prX tsA wrA wrB wrC wrD wrE wrF wrG wrH wrI wrJ wrK wrL wrM wrN wrO wrQ wrR wrS wrT wrU wrV wrW wrY wrZ wsA wsB
set_option linter.unusedVariables false
set_option linter.unusedSimpArgs false

def tup0 : Nat := 0
set_option maxRecDepth 100000 in
set_option maxHeartbeats 6400000 in
theorem wp_ok (m : Msg) (w : World) (ht : ∀ i, (m.t i).size ≤ 60000) (hs : 0 ≤ m.s ∧ m.s ≤ 4294967295) (hr : 0 ≤ m.r ∧ m.r ≤ 4294967295) (hc : 0 ≤ m.c ∧ m.c ≤ (most : Nat)) (hv : decide ((2000 : Int) < bytesM m) = false) (hq : rightM m = true) : Calls Try.prog 10 #[mval m] w (numA.Told w (.bool true)) := by
  have AW := Lib.hid (fun W => awake_any W)
  have HV := Lib.hid (fun W => (show Calls Try.prog 54 #[.agg #[.int .i64 m.k, .int .u32 m.s, .int .u32 m.r, .int .u64 m.c, .string (m.t 4), .string (m.t 5), .string (m.t 6), .string (m.t 7), .string (m.t 8), .string (m.t 9), .string (m.t 10), .string (m.t 11), .string (m.t 12)], .int .i64 2000] W (numA.Told W (.bool false)) from by have h := heavy_any m 2000 W (fun i => Nat.le_trans (ht i) (by decide)); rw [hv] at h; exact h))
  have RT := Lib.hid (fun W => (show Calls Try.prog 56 #[.agg #[.int .i64 m.k, .int .u32 m.s, .int .u32 m.r, .int .u64 m.c, .string (m.t 4), .string (m.t 5), .string (m.t 6), .string (m.t 7), .string (m.t 8), .string (m.t 9), .string (m.t 10), .string (m.t 11), .string (m.t 12)]] W (numA.Told W (.bool true)) from by have h := refright_any m W (fun i => Nat.le_trans (ht i) (by decide)); rw [hq] at h; exact h))
  have hk := rightM_k hq
  have hg : goodF m ≠ [] := by
    rw [goodF_eq, hq]
    have e : m.k = 1 ∨ m.k = 2 ∨ m.k = 3 ∨ m.k = 4 := by omega
    rcases e with e | e | e | e <;> simp [rowOf, e]
  have htm : termsOf m = rterms m := by rw [termsOf_eq, hq]; rfl
  obtain ⟨rp1, rp2⟩ := read_print hq hs hr hc
  have hpe := print_eq hq
  obtain ⟨bl, hbl⟩ : ∃ l, l = outB m (goodF m) := ⟨_, rfl⟩
  rw [← hbl] at rp1 rp2 hpe
  obtain ⟨TB, hTB⟩ : ∃ b : ByteArray, b = ⟨bl.toArray⟩ := ⟨_, rfl⟩
  obtain ⟨BB, hBB⟩ : ∃ b : ByteArray, b = ⟨(bodyM m).toArray⟩ := ⟨_, rfl⟩
  obtain ⟨SB, hSB⟩ : ∃ b : ByteArray, b = ⟨(signedM m).toArray⟩ := ⟨_, rfl⟩
  obtain ⟨tl, htl⟩ : ∃ l, l = rterms m := ⟨_, rfl⟩
  have HTL := Lib.hid (show tl.length ≤ 1000000 from by
    rw [htl]
    unfold rterms rtexts
    split <;> (try split) <;> (try split) <;> (try split) <;> simp)
  have CP := Lib.hid (fun W => (show Calls Try.prog 55 #[.agg #[.int .i64 m.k, .int .u32 m.s, .int .u32 m.r, .int .u64 m.c, .string (m.t 4), .string (m.t 5), .string (m.t 6), .string (m.t 7), .string (m.t 8), .string (m.t 9), .string (m.t 10), .string (m.t 11), .string (m.t 12)]] W (fun e w' => Only (fun _ => False) W w' ∧ ∃ a c, e = .returned (.tuple #[.slice a bl.length c, .int .i64 0]) ∧ w'.ownsRow W.heap.size 5 1 (.slice a bl.length c) bl.length (U8 bl)) from by
    refine Calls.mono (print_any m W ht hs hr hc) ?_
    rintro e w' ⟨o, ⟨h, -⟩ | ⟨-, h⟩⟩
    · exact absurd h hg
    · rw [hbl]
      exact ⟨o, h⟩))
  have CR := Lib.hid (fun W b a c (own : W.ownsRow b 5 1 (.slice a bl.length c) bl.length (U8 bl)) => (show Calls Try.prog 60 #[.slice a bl.length c] W (numA.Told W (.tuple #[.agg #[.int .i64 m.k, .int .u32 m.s, .int .u32 m.r, .int .u64 m.c, .string (m.t 4), .string (m.t 5), .string (m.t 6), .string (m.t 7), .string (m.t 8), .string (m.t 9), .string (m.t 10), .string (m.t 11), .string (m.t 12)], .int .i64 0])) from by
    obtain ⟨a', c', e, h1, h2⟩ := own_cap5 own
    injection e with e1 e2 e3
    subst e1 e3
    have h := read_any a c bl W (own_slt own) h1 h2
    rw [rp1, rp2] at h
    exact h))
  have CQ := Lib.hid (fun W => (show Calls Try.prog 61 #[.agg #[.int .i64 m.k, .int .u32 m.s, .int .u32 m.r, .int .u64 m.c, .string (m.t 4), .string (m.t 5), .string (m.t 6), .string (m.t 7), .string (m.t 8), .string (m.t 9), .string (m.t 10), .string (m.t 11), .string (m.t 12)]] W (fun e w' => Only (fun _ => False) W w' ∧ ∃ a c, e = .returned (.slice a bl.length c) ∧ (convert 24 9 (.slice a bl.length c)).run Try.prog w' = .ok (.string TB) w') from by
    refine Calls.mono (refprint_any m W hk ht hs hr hc) ?_
    rw [hpe]
    rintro e w' ⟨o, a, c, rfl, own⟩
    refine ⟨o, a, c, rfl, ?_⟩
    rw [hTB]
    exact conv_lst (own_slt own)))
  have CT := Lib.hid (fun W => (show Calls Try.prog 57 #[.agg #[.int .i64 m.k, .int .u32 m.s, .int .u32 m.r, .int .u64 m.c, .string (m.t 4), .string (m.t 5), .string (m.t 6), .string (m.t 7), .string (m.t 8), .string (m.t 9), .string (m.t 10), .string (m.t 11), .string (m.t 12)]] W (fun e w' => ∃ a c, e = .returned (.slice a tl.length c) ∧ Only (fun _ => False) W w' ∧ Sl w' (fun k => W.heap.size ≤ k) (.slice a tl.length c) (tl.map sv)) from by
    refine Calls.mono (terms_any m W (fun i => Nat.le_trans (ht i) (by decide))) ?_
    rintro e w' ⟨o, a, c, rfl, -, -, h⟩
    rw [htl, ← htm]
    exact ⟨a, c, rfl, o, h⟩))
  have CU := Lib.hid (fun W => (show Calls Try.prog 62 #[.agg #[.int .i64 m.k, .int .u32 m.s, .int .u32 m.r, .int .u64 m.c, .string (m.t 4), .string (m.t 5), .string (m.t 6), .string (m.t 7), .string (m.t 8), .string (m.t 9), .string (m.t 10), .string (m.t 11), .string (m.t 12)]] W (fun e w' => ∃ a c, e = .returned (.slice a tl.length c) ∧ Only (fun _ => False) W w' ∧ Sl w' (fun k => W.heap.size ≤ k) (.slice a tl.length c) (tl.map sv)) from by
    refine Calls.mono (refterms_any m W) ?_
    rintro e w' ⟨o, a, c, rfl, -, -, h⟩
    rw [htl]
    exact ⟨a, c, rfl, o, h⟩))
  have CM := Lib.hid (fun W S T a b (ha : Sl W S a (tl.map sv)) (hb : Sl W T b (tl.map sv)) => (show Calls Try.prog 28 #[a, b] W (numA.Told W (.bool true)) from by
    have h := same_any tl tl S T a b W ha hb HTL.out
    rw [beq_self_eq_true] at h
    exact h))
  have CB := Lib.hid (fun W => (show Calls Try.prog 58 #[.agg #[.int .i64 m.k, .int .u32 m.s, .int .u32 m.r, .int .u64 m.c, .string (m.t 4), .string (m.t 5), .string (m.t 6), .string (m.t 7), .string (m.t 8), .string (m.t 9), .string (m.t 10), .string (m.t 11), .string (m.t 12)]] W (numA.Told W (.string BB)) from by
    refine Calls.mono (wrF.body_any m W (fun i => Nat.le_trans (ht i) (by decide)) hs hr) ?_
    rintro e w' ⟨o, rfl⟩
    rw [hBB]
    exact ⟨rfl, o⟩))
  have CS := Lib.hid (fun W => (show Calls Try.prog 59 #[.agg #[.int .i64 m.k, .int .u32 m.s, .int .u32 m.r, .int .u64 m.c, .string (m.t 4), .string (m.t 5), .string (m.t 6), .string (m.t 7), .string (m.t 8), .string (m.t 9), .string (m.t 10), .string (m.t 11), .string (m.t 12)]] W (numA.Told W (.string SB)) from by
    refine Calls.mono (wrF.signed_any m W (fun i => Nat.le_trans (ht i) (by decide)) hs hr) ?_
    rintro e w' ⟨o, rfl⟩
    rw [hSB]
    exact ⟨rfl, o⟩))
  have CC := Lib.hid (fun W => (show Calls Try.prog 63 #[.agg #[.int .i64 m.k, .int .u32 m.s, .int .u32 m.r, .int .u64 m.c, .string (m.t 4), .string (m.t 5), .string (m.t 6), .string (m.t 7), .string (m.t 8), .string (m.t 9), .string (m.t 10), .string (m.t 11), .string (m.t 12)]] W (numA.Told W (.string BB)) from by
    refine Calls.mono (rbody_any m W (fun i => Nat.le_trans (ht i) (by decide)) hs hr) ?_
    rintro e w' ⟨o, rfl⟩
    rw [hBB]
    exact ⟨rfl, o⟩))
  have CD := Lib.hid (fun W => (show Calls Try.prog 64 #[.agg #[.int .i64 m.k, .int .u32 m.s, .int .u32 m.r, .int .u64 m.c, .string (m.t 4), .string (m.t 5), .string (m.t 6), .string (m.t 7), .string (m.t 8), .string (m.t 9), .string (m.t 10), .string (m.t 11), .string (m.t 12)]] W (numA.Told W (.string SB)) from by
    refine Calls.mono (rsigned_any m W (fun i => Nat.le_trans (ht i) (by decide)) hs hr) ?_
    rintro e w' ⟨o, rfl⟩
    rw [hSB]
    exact ⟨rfl, o⟩))
  have HTB := Lib.hid hTB
  have EQ := Lib.hid (fun W => (show (binOp .eql 61 (.agg #[.int .i64 m.k, .int .u32 m.s, .int .u32 m.r, .int .u64 m.c, .string (m.t 4), .string (m.t 5), .string (m.t 6), .string (m.t 7), .string (m.t 8), .string (m.t 9), .string (m.t 10), .string (m.t 11), .string (m.t 12)]) (.agg #[.int .i64 m.k, .int .u32 m.s, .int .u32 m.r, .int .u64 m.c, .string (m.t 4), .string (m.t 5), .string (m.t 6), .string (m.t 7), .string (m.t 8), .string (m.t 9), .string (m.t 10), .string (m.t 11), .string (m.t 12)])).run Try.prog W = .ok (.bool true) W from by have h := run_eqlM m m W; rw [eqM_self] at h; exact h))
  clear hg htm hBB hSB hTB rp1 rp2 hpe hbl htl hk
  have HM := Lib.hid (show MsgAt (w.alloc (.cells m.row 61)) w.heap.size m from heap_alloc_new w _)
  have O := Lib.hid (show Only (fun _ => False) w (w.alloc (.cells m.row 61)) from (Only.refl _ w).alloc _)
  obtain ⟨X, hX⟩ : ∃ X, X = w.alloc (.cells m.row 61) := ⟨_, rfl⟩
  rw [← hX] at HM O
  obtain ⟨A, hA⟩ : ∃ A, A = w.heap.size := ⟨_, rfl⟩
  rw [← hA] at HM
  have HX := Lib.hid hX
  have HAE := Lib.hid hA
  simp only [Msg.row] at HX
  clear hX hA
  unfold mval
  clear hv ht hs hr hc hq
  go_enter Try.func10, Try.ntmps10
  go_wp2_with fail
  rw [← HX.out, ← HAE.out]
  (with_reducible refine (AW.out _).mono ?_)
  rintro e w2 ⟨rfl, o⟩
  replace O := Lib.hid (O.out.trans o)
  replace HM := Lib.hid (MsgAt.keep HM.out o id)
  clear o
  obtain ⟨d0, d1, d2, d3, d4, d5, d6, d7, d8, d9, d10, d11, d12⟩ := MsgAt.cells HM.out
  go_wp2_with fail
  (with_reducible refine (HV.out _).mono ?_)
  rintro e w3 ⟨rfl, o⟩
  replace O := Lib.hid (O.out.trans o)
  replace HM := Lib.hid (MsgAt.keep HM.out o id)
  clear o
  clear d0 d1 d2 d3 d4 d5 d6 d7 d8 d9 d10 d11 d12
  obtain ⟨d0, d1, d2, d3, d4, d5, d6, d7, d8, d9, d10, d11, d12⟩ := MsgAt.cells HM.out
  go_wp2_with fail
  (with_reducible refine (CP.out _).mono ?_)
  rintro e w4 ⟨o, a, c, rfl, own⟩
  replace O := Lib.hid (O.out.trans o)
  replace HM := Lib.hid (MsgAt.keep HM.out o id)
  have OWN := Lib.hid own
  clear own
  clear o
  clear d0 d1 d2 d3 d4 d5 d6 d7 d8 d9 d10 d11 d12
  obtain ⟨d0, d1, d2, d3, d4, d5, d6, d7, d8, d9, d10, d11, d12⟩ := MsgAt.cells HM.out
  go_wp2_with fail
  (with_reducible refine (RT.out _).mono ?_)
  rintro e w5 ⟨rfl, o⟩
  replace O := Lib.hid (O.out.trans o)
  replace HM := Lib.hid (MsgAt.keep HM.out o id)
  replace OWN := Lib.hid (trC.owns_keep OWN.out o)
  clear o
  go_wp2_with fail
  (with_reducible refine ((CR.out _ _ _ _ OWN.out)).mono ?_)
  rintro e w6 ⟨rfl, o⟩
  replace O := Lib.hid (O.out.trans o)
  replace HM := Lib.hid (MsgAt.keep HM.out o id)
  replace OWN := Lib.hid (trC.owns_keep OWN.out o)
  clear o
  clear d0 d1 d2 d3 d4 d5 d6 d7 d8 d9 d10 d11 d12
  go_upto_region 9 with fail
  obtain ⟨Z, hZ⟩ : ∃ Z, Z = w6.alloc (.cells #[.int .i64 m.k, .int .u32 m.s, .int .u32 m.r, .int .u64 m.c, .string (m.t 4), .string (m.t 5), .string (m.t 6), .string (m.t 7), .string (m.t 8), .string (m.t 9), .string (m.t 10), .string (m.t 11), .string (m.t 12)] 61) := ⟨_, rfl⟩
  obtain ⟨G, hG⟩ : ∃ G, G = w6.heap.size := ⟨_, rfl⟩
  have oS : Only (fun _ => False) w6 Z := by rw [hZ]; exact (Only.refl _ _).alloc _
  have HG := Lib.hid (show MsgAt Z G m from by rw [hZ, hG]; exact heap_alloc_new w6 _)
  rw [← hZ, ← hG]
  replace O := Lib.hid (O.out.trans oS)
  replace HM := Lib.hid (MsgAt.keep HM.out oS id)
  replace OWN := Lib.hid (trC.owns_keep OWN.out oS)
  clear oS hZ hG
  have SLB := Lib.hid (own_slt OWN.out)
  clear OWN
  have R := Lib.hid ((Only.refl (fun _ => False) Z).drew)
  have E := EQ.out
  refine wp_region_held_drew (S := (fun w' => (w'.cell? ⟨A, 0, none⟩ = some (.int .i64 m.k) ∧ w'.cell? ⟨A, 1, none⟩ = some (.int .u32 m.s) ∧ w'.cell? ⟨A, 2, none⟩ = some (.int .u32 m.r) ∧ w'.cell? ⟨A, 3, none⟩ = some (.int .u64 m.c) ∧ w'.cell? ⟨A, 4, none⟩ = some (.string (m.t 4)) ∧ w'.cell? ⟨A, 5, none⟩ = some (.string (m.t 5)) ∧ w'.cell? ⟨A, 6, none⟩ = some (.string (m.t 6)) ∧ w'.cell? ⟨A, 7, none⟩ = some (.string (m.t 7)) ∧ w'.cell? ⟨A, 8, none⟩ = some (.string (m.t 8)) ∧ w'.cell? ⟨A, 9, none⟩ = some (.string (m.t 9)) ∧ w'.cell? ⟨A, 10, none⟩ = some (.string (m.t 10)) ∧ w'.cell? ⟨A, 11, none⟩ = some (.string (m.t 11)) ∧ w'.cell? ⟨A, 12, none⟩ = some (.string (m.t 12))) ∧ (w'.cell? ⟨G, 0, none⟩ = some (.int .i64 m.k) ∧ w'.cell? ⟨G, 1, none⟩ = some (.int .u32 m.s) ∧ w'.cell? ⟨G, 2, none⟩ = some (.int .u32 m.r) ∧ w'.cell? ⟨G, 3, none⟩ = some (.int .u64 m.c) ∧ w'.cell? ⟨G, 4, none⟩ = some (.string (m.t 4)) ∧ w'.cell? ⟨G, 5, none⟩ = some (.string (m.t 5)) ∧ w'.cell? ⟨G, 6, none⟩ = some (.string (m.t 6)) ∧ w'.cell? ⟨G, 7, none⟩ = some (.string (m.t 7)) ∧ w'.cell? ⟨G, 8, none⟩ = some (.string (m.t 8)) ∧ w'.cell? ⟨G, 9, none⟩ = some (.string (m.t 9)) ∧ w'.cell? ⟨G, 10, none⟩ = some (.string (m.t 10)) ∧ w'.cell? ⟨G, 11, none⟩ = some (.string (m.t 11)) ∧ w'.cell? ⟨G, 12, none⟩ = some (.string (m.t 12))) ∧ (convert 24 9 (.slice a bl.length c)).run Try.prog w' = .ok (.string TB) w')) (by kernel_rfl) ?_ (fun hHeld => ?_)
  · exact ⟨MsgAt.cells (MsgAt.keep HM.out R.out id), MsgAt.cells (MsgAt.keep HG.out R.out id), by rw [HTB.out]; exact conv_lst (Sl.keep SLB.out R.out (fun _ _ h => h))⟩
  refine rgA.tk 0 hHeld ?_
  refine rgA.tk 1 hHeld ?_
  refine rgA.tk 2 hHeld ?_
  refine rgA.tk 3 hHeld ?_
  refine rgA.tk 4 hHeld ?_
  refine rgA.tk 5 hHeld ?_
  refine rgA.rd 6 (fun K hK => ?_)
  go_simp
  (with_reducible refine (CQ.out _).mono ?_)
  rintro e w2 ⟨o, a2, c2, rfl, cv2⟩
  replace R := Lib.hid (R.out.trans o)
  clear o
  go_wp2_with fail
  refine hK.out _ _ ?_ (fun hHeld => ?_)
  · exact ⟨MsgAt.cells (MsgAt.keep HM.out R.out id), MsgAt.cells (MsgAt.keep HG.out R.out id), by rw [HTB.out]; exact conv_lst (Sl.keep SLB.out R.out (fun _ _ h => h))⟩
  clear hK K
  try simp only [List.getElem_toArray, List.getElem_cons_succ, List.getElem_cons_zero, Act.put, List.setIfInBounds_toArray, List.set_cons_zero, List.set_cons_succ]
  refine rgA.rd 7 (fun K hK => ?_)
  go_simp
  clear cv2
  refine hK.out _ _ ?_ (fun hHeld => ?_)
  · exact ⟨MsgAt.cells (MsgAt.keep HM.out R.out id), MsgAt.cells (MsgAt.keep HG.out R.out id), by rw [HTB.out]; exact conv_lst (Sl.keep SLB.out R.out (fun _ _ h => h))⟩
  clear hK K
  try simp only [List.getElem_toArray, List.getElem_cons_succ, List.getElem_cons_zero, Act.put, List.setIfInBounds_toArray, List.set_cons_zero, List.set_cons_succ]
  refine rgA.tk 8 hHeld ?_
  refine rgA.tk 9 hHeld ?_
  refine rgA.tk 10 hHeld ?_
  refine rgA.tk 11 hHeld ?_
  refine rgA.tk 12 hHeld ?_
  refine rgA.tk 13 hHeld ?_
  refine rgA.tk 14 hHeld ?_
  refine rgA.tk 15 hHeld ?_
  refine rgA.tk 16 hHeld ?_
  refine rgA.tk 17 hHeld ?_
  refine rgA.tk 18 hHeld ?_
  refine rgA.tk 19 hHeld ?_
  refine rgA.tk 20 hHeld ?_
  refine rgA.tk 22 hHeld ?_
  refine rgA.rd 21 (fun K hK => ?_)
  go_simp
  (with_reducible refine (CT.out _).mono ?_)
  rintro e w2 ⟨a3, c3, rfl, o, sl3⟩
  replace R := Lib.hid (R.out.trans o)
  have S3 := Lib.hid sl3
  clear sl3
  clear o
  go_wp2_with fail
  refine hK.out _ _ ?_ (fun hHeld => ?_)
  · exact ⟨MsgAt.cells (MsgAt.keep HM.out R.out id), MsgAt.cells (MsgAt.keep HG.out R.out id), by rw [HTB.out]; exact conv_lst (Sl.keep SLB.out R.out (fun _ _ h => h))⟩
  clear hK K
  try simp only [List.getElem_toArray, List.getElem_cons_succ, List.getElem_cons_zero, Act.put, List.setIfInBounds_toArray, List.set_cons_zero, List.set_cons_succ]
  refine rgA.rd 23 (fun K hK => ?_)
  go_simp
  (with_reducible refine (CU.out _).mono ?_)
  rintro e w2 ⟨a4, c4, rfl, o, sl4⟩
  replace R := Lib.hid (R.out.trans o)
  have S4 := Lib.hid sl4
  clear sl4
  replace S3 := Lib.hid (Sl.keep S3.out o (fun _ _ h => h))
  clear o
  go_wp2_with fail
  refine hK.out _ _ ?_ (fun hHeld => ?_)
  · exact ⟨MsgAt.cells (MsgAt.keep HM.out R.out id), MsgAt.cells (MsgAt.keep HG.out R.out id), by rw [HTB.out]; exact conv_lst (Sl.keep SLB.out R.out (fun _ _ h => h))⟩
  clear hK K
  try simp only [List.getElem_toArray, List.getElem_cons_succ, List.getElem_cons_zero, Act.put, List.setIfInBounds_toArray, List.set_cons_zero, List.set_cons_succ]
  refine rgA.rd 24 (fun K hK => ?_)
  go_simp
  (with_reducible refine ((CM.out _ _ _ _ _ S3.out S4.out)).mono ?_)
  rintro e w2 ⟨rfl, o⟩
  replace R := Lib.hid (R.out.trans o)
  clear o
  go_wp2_with fail
  refine hK.out _ _ ?_ (fun hHeld => ?_)
  · exact ⟨MsgAt.cells (MsgAt.keep HM.out R.out id), MsgAt.cells (MsgAt.keep HG.out R.out id), by rw [HTB.out]; exact conv_lst (Sl.keep SLB.out R.out (fun _ _ h => h))⟩
  clear hK K
  try simp only [List.getElem_toArray, List.getElem_cons_succ, List.getElem_cons_zero, Act.put, List.setIfInBounds_toArray, List.set_cons_zero, List.set_cons_succ]
  refine rgA.tk 25 hHeld ?_
  refine rgA.tk 26 hHeld ?_
  refine rgA.tk 27 hHeld ?_
  refine rgA.tk 29 hHeld ?_
  refine rgA.rd 28 (fun K hK => ?_)
  go_simp
  (with_reducible refine (CB.out _).mono ?_)
  rintro e w2 ⟨rfl, o⟩
  replace R := Lib.hid (R.out.trans o)
  clear o
  go_wp2_with fail
  refine hK.out _ _ ?_ (fun hHeld => ?_)
  · exact ⟨MsgAt.cells (MsgAt.keep HM.out R.out id), MsgAt.cells (MsgAt.keep HG.out R.out id), by rw [HTB.out]; exact conv_lst (Sl.keep SLB.out R.out (fun _ _ h => h))⟩
  clear hK K
  try simp only [List.getElem_toArray, List.getElem_cons_succ, List.getElem_cons_zero, Act.put, List.setIfInBounds_toArray, List.set_cons_zero, List.set_cons_succ]
  refine rgA.rd 30 (fun K hK => ?_)
  go_simp
  (with_reducible refine (CC.out _).mono ?_)
  rintro e w2 ⟨rfl, o⟩
  replace R := Lib.hid (R.out.trans o)
  clear o
  go_wp2_with fail
  refine hK.out _ _ ?_ (fun hHeld => ?_)
  · exact ⟨MsgAt.cells (MsgAt.keep HM.out R.out id), MsgAt.cells (MsgAt.keep HG.out R.out id), by rw [HTB.out]; exact conv_lst (Sl.keep SLB.out R.out (fun _ _ h => h))⟩
  clear hK K
  try simp only [List.getElem_toArray, List.getElem_cons_succ, List.getElem_cons_zero, Act.put, List.setIfInBounds_toArray, List.set_cons_zero, List.set_cons_succ]
  refine rgA.tk 31 hHeld ?_
  refine rgA.tk 32 hHeld ?_
  refine rgA.tk 33 hHeld ?_
  refine rgA.tk 34 hHeld ?_
  refine rgA.tk 36 hHeld ?_
  refine rgA.rd 35 (fun K hK => ?_)
  go_simp
  (with_reducible refine (CS.out _).mono ?_)
  rintro e w2 ⟨rfl, o⟩
  replace R := Lib.hid (R.out.trans o)
  clear o
  go_wp2_with fail
  refine hK.out _ _ ?_ (fun hHeld => ?_)
  · exact ⟨MsgAt.cells (MsgAt.keep HM.out R.out id), MsgAt.cells (MsgAt.keep HG.out R.out id), by rw [HTB.out]; exact conv_lst (Sl.keep SLB.out R.out (fun _ _ h => h))⟩
  clear hK K
  try simp only [List.getElem_toArray, List.getElem_cons_succ, List.getElem_cons_zero, Act.put, List.setIfInBounds_toArray, List.set_cons_zero, List.set_cons_succ]
  refine rgA.rd 37 (fun K hK => ?_)
  go_simp
  (with_reducible refine (CD.out _).mono ?_)
  rintro e w2 ⟨rfl, o⟩
  replace R := Lib.hid (R.out.trans o)
  clear o
  go_wp2_with fail
  refine hK.out _ _ ?_ (fun hHeld => ?_)
  · exact ⟨MsgAt.cells (MsgAt.keep HM.out R.out id), MsgAt.cells (MsgAt.keep HG.out R.out id), by rw [HTB.out]; exact conv_lst (Sl.keep SLB.out R.out (fun _ _ h => h))⟩
  clear hK K
  try simp only [List.getElem_toArray, List.getElem_cons_succ, List.getElem_cons_zero, Act.put, List.setIfInBounds_toArray, List.set_cons_zero, List.set_cons_succ]
  refine rgA.tk 38 hHeld ?_
  refine rgA.tk 39 hHeld ?_
  refine rgA.tk 40 hHeld ?_
  refine wpAnyH_done (by kernel_rfl) ?_ _
  replace O := Lib.hid (O.out.trans R.out)
  clear R
  go_wp2_with fail
  go_ret
  exact ⟨rfl, O.out⟩


end Go.Proofs.Ytbjnejnjlidiaaa.wsC
