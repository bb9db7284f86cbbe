/- Wire: the document's Read. -/
import Derived.Test.YtbjnejnjlidiaaaWsJ
import Derived.Test.YtbjnejnjlidiaaaRgA
namespace Go.Proofs.Ytbjnejnjlidiaaa.wsG
open Go.RowKit kit numA numB numC numD numE numF numG numH numI tmA tmD trA trB prR prS prW prX wrA wrB wrC wrD wrE wrF wrG wrH wrI wrJ wrK wrM wrN wrO wrQ wrR wrS wrT wrU wrV wrW wrZ wsE wsF wsH wsJ
set_option linter.unusedVariables false
set_option linter.unusedSimpArgs false

set_option maxRecDepth 100000 in
set_option maxHeartbeats 6400000 in
theorem refread_any (a : Option Addr) (cap : Nat) (bs : Txt) (w : World) (hs : Sl w (fun k => k < w.heap.size) (.slice a bs.length cap) (U8 bs)) (hc : bs.length ≤ cap) (hm : cap ≤ maxLen) (hl : bs.length ≤ 100000) : Calls Try.prog 65 #[.slice a bs.length cap] w (numA.Told w (.tuple #[.agg (readM bs).2.row, .int .i64 ((readM bs).1 : Nat)])) := by
  obtain ⟨P, hP⟩ : ∃ P, P = w.heap.size := ⟨_, rfl⟩
  obtain ⟨S, hSd⟩ : ∃ S : Nat → Prop, S = fun k => k < P := ⟨_, rfl⟩
  rw [← hP, ← hSd] at hs
  obtain ⟨Y, hY⟩ : ∃ Y, Y = (w.alloc (.cells #[.int .i64 0, .int .u32 0, .int .u32 0, .int .u64 0, .string ⟨#[]⟩, .string ⟨#[]⟩, .string ⟨#[]⟩, .string ⟨#[]⟩, .string ⟨#[]⟩, .string ⟨#[]⟩, .string ⟨#[]⟩, .string ⟨#[]⟩, .string ⟨#[]⟩] 61)).alloc (.cells #[.int .i64 0, .int .u32 0, .int .u32 0, .int .u64 0, .string ⟨#[]⟩, .string ⟨#[]⟩, .string ⟨#[]⟩, .string ⟨#[]⟩, .string ⟨#[]⟩, .string ⟨#[]⟩, .string ⟨#[]⟩, .string ⟨#[]⟩, .string ⟨#[]⟩] 61) := ⟨_, rfl⟩
  have O := Lib.hid (show Only (fun _ => False) w Y from by rw [hY]; exact ((Only.refl _ w).alloc _).alloc _)
  have HRS := Lib.hid (show MsgAt Y P (zeroM 0) from by rw [hY, hP]; exact Only.keep ((Only.refl (fun _ => False) _).alloc _) (heap_alloc_new w (.cells #[.int .i64 0, .int .u32 0, .int .u32 0, .int .u64 0, .string ⟨#[]⟩, .string ⟨#[]⟩, .string ⟨#[]⟩, .string ⟨#[]⟩, .string ⟨#[]⟩, .string ⟨#[]⟩, .string ⟨#[]⟩, .string ⟨#[]⟩, .string ⟨#[]⟩] 61)) id)
  have HNO := Lib.hid (show MsgAt Y (P + 1) (zeroM 0) from by
    have h := heap_alloc_new (w.alloc (.cells #[.int .i64 0, .int .u32 0, .int .u32 0, .int .u64 0, .string ⟨#[]⟩, .string ⟨#[]⟩, .string ⟨#[]⟩, .string ⟨#[]⟩, .string ⟨#[]⟩, .string ⟨#[]⟩, .string ⟨#[]⟩, .string ⟨#[]⟩, .string ⟨#[]⟩] 61)) (.cells #[.int .i64 0, .int .u32 0, .int .u32 0, .int .u64 0, .string ⟨#[]⟩, .string ⟨#[]⟩, .string ⟨#[]⟩, .string ⟨#[]⟩, .string ⟨#[]⟩, .string ⟨#[]⟩, .string ⟨#[]⟩, .string ⟨#[]⟩, .string ⟨#[]⟩] 61)
    rw [World.size_alloc, ← hP] at h
    rw [hY]
    exact h)
  have HSL := Lib.hid (hs.keep O.out (fun _ _ h => h))
  have HSP := Lib.hid (show ∀ q, S q → q < P from by rw [hSd]; exact fun q h => h)
  have HY := Lib.hid hY
  have HPE := Lib.hid hP
  have HCP := Lib.hid hc
  have HMX := Lib.hid hm
  have HLN := Lib.hid hl
  clear hs hY hP hSd hc hm hl
  cases bs with
  | nil =>
    have HV := Lib.hid read_nil
    go_enter Try.func65, Try.ntmps65
    go_upto_region 2 with fail
    rw [← HY.out, ← HPE.out]
    go_wp2_with (first
      | (refine wpList_store_row rfl 61 (.tmp 2) (.tmp 21) rfl P (zeroM 0).row rfl rfl 61 _ HRS.out (info61w (zeroM 0)) (size61w (zeroM 0) (zeroM 0)) (one61w (zeroM 0)) ?_)
      | (refine wpList_load_row rfl 61 (.tmp 4) rfl (P + 1) rfl 61 (zeroM 0).row (0, 0) _ HNO.out Try.underlying61 rfl (info61w (zeroM 0)) ?_))
    exact bodyPost_ret (trB.res2 Try.results65 _ _ P 61 (zeroM 0).row (0, 0) _ rfl (setRow_heap _ _ _ _ _ _ HRS.out) Try.underlying61 rfl (info61w (zeroM 0))) rfl ⟨by rw [HV.out]; rfl, Only.old (only_roww (O.out.mono fun _ h => h.elim) _ (by rw [HPE.out]; exact Nat.le_refl _))⟩
  | cons k t =>
    obtain ⟨N, hN⟩ : ∃ N, N = (k :: t).length := ⟨_, rfl⟩
    rw [← hN] at HSL HCP HLN ⊢
    have HNE := Lib.hid hN
    have n1 : 1 ≤ N := by rw [hN]; simp
    have n0 : ((N : Int) == 0) = false := by rw [beq_eq_false_iff_ne]; omega
    have n0' : (0 : Int) < (N : Int) := by omega
    obtain ⟨g, q, rfl, x0⟩ := sl_u8 HSL.out (show 0 < (k :: t).length from by simp)
    have x0' : Y.cell? ⟨g, q, none⟩ = some (.int .u8 (k.toNat : Int)) := x0
    obtain ⟨K, hK⟩ : ∃ K : Nat, K = k.toNat := ⟨_, rfl⟩
    rw [← hK] at x0'
    have wk : wrap64 (K : Int) = (K : Int) := IntWalk.wrap64_in _ (by have := UInt8.toNat_lt k; omega)
    have HKE := Lib.hid hK
    clear hN x0 hK
    go_enter Try.func65, Try.ntmps65
    go_upto_region 2 with fail
    rw [← HY.out, ← HPE.out]
    by_cases h1 : K < 1
    · have c1 : ((K : Int) < 1) = True := eq_true (by omega)
      have HV := Lib.hid (read_kind k t (.inl (by rw [← HKE.out]; exact h1)))
      clear h1
      go_wp2_with (first
        | (refine wpList_store_row rfl 61 (.tmp 2) (.tmp 32) rfl P (zeroM 0).row rfl rfl 61 _ HRS.out (info61w (zeroM 0)) (size61w (zeroM 0) (zeroM 0)) (one61w (zeroM 0)) ?_)
        | (refine wpList_load_row rfl 61 (.tmp 4) rfl (P + 1) rfl 61 (zeroM 0).row (0, 0) _ HNO.out Try.underlying61 rfl (info61w (zeroM 0)) ?_))
      exact bodyPost_ret (trB.res2 Try.results65 _ _ P 61 (zeroM 0).row (0, 0) _ rfl (setRow_heap _ _ _ _ _ _ HRS.out) Try.underlying61 rfl (info61w (zeroM 0))) rfl ⟨by rw [HV.out]; rfl, Only.old (only_roww (O.out.mono fun _ h => h.elim) _ (by rw [HPE.out]; exact Nat.le_refl _))⟩
    by_cases h4 : 4 < K
    · have c1 : ((K : Int) < 1) = False := eq_false (by omega)
      have c4 : ((4 : Int) < (K : Int)) = True := eq_true (by omega)
      have HV := Lib.hid (read_kind k t (.inr (by rw [← HKE.out]; exact h4)))
      clear h1 h4
      go_wp2_with (first
        | (refine wpList_store_row rfl 61 (.tmp 2) (.tmp 32) rfl P (zeroM 0).row rfl rfl 61 _ HRS.out (info61w (zeroM 0)) (size61w (zeroM 0) (zeroM 0)) (one61w (zeroM 0)) ?_)
        | (refine wpList_load_row rfl 61 (.tmp 4) rfl (P + 1) rfl 61 (zeroM 0).row (0, 0) _ HNO.out Try.underlying61 rfl (info61w (zeroM 0)) ?_))
      exact bodyPost_ret (trB.res2 Try.results65 _ _ P 61 (zeroM 0).row (0, 0) _ rfl (setRow_heap _ _ _ _ _ _ HRS.out) Try.underlying61 rfl (info61w (zeroM 0))) rfl ⟨by rw [HV.out]; rfl, Only.old (only_roww (O.out.mono fun _ h => h.elim) _ (by rw [HPE.out]; exact Nat.le_refl _))⟩
    have c1 : ((K : Int) < 1) = False := eq_false (by omega)
    have c4 : ((4 : Int) < (K : Int)) = False := eq_false (by omega)
    have HK := Lib.hid (show 1 ≤ k.toNat ∧ k.toNat ≤ 4 from by rw [← HKE.out]; omega)
    clear h1 h4
    go_wp2_with fail
    go_loopw [6] (fun i wr => ∃ (j : Nat) (r : Txt), i = .int .i64 ((j : Int) + 1) ∧ j ≤ 3 ∧ t = List.replicate j 0 ++ r ∧ wr = Y) (fun i _ => 4 - (Lib.intOf i).toNat)
    case atStart => exact ⟨0, t, rfl, Nat.zero_le _, rfl, rfl⟩
    case round =>
      obtain ⟨j, r, rfl, hj, ht, rfl⟩ := hrel
      by_cases hj3 : j < 3
      · have k1 : ((j : Int) + 1 < 4) = True := eq_true (by omega)
        have wj : wrap64 ((j : Int) + 1 + 1) = (j : Int) + 1 + 1 := IntWalk.wrap64_in _ (by omega)
        have wj2 : wrap64 ((j : Int) + 2) = (j : Int) + 2 := IntWalk.wrap64_in _ (by omega)
        have HJ := Lib.hid hj3
        cases r with
        | nil =>
          have hNj : N = j + 1 := by rw [HNE.out, ht]; simp
          have HV := Lib.hid (show readM (k :: t) = (4, zeroM 0) from by rw [ht, List.append_nil]; exact read_short k j HK.out hj3)
          have k2 : ((N : Int) ≤ (j : Int) + 1) = True := eq_true (by omega)
          clear hj3 hj ht hNj
          go_wp2_with (first
            | (refine wpList_store_row rfl 61 (.tmp 2) (.tmp 41) rfl P (zeroM 0).row rfl rfl 61 _ HRS.out (info61w (zeroM 0)) (size61w (zeroM 0) (zeroM 0)) (one61w (zeroM 0)) ?_)
            | (refine wpList_load_row rfl 61 (.tmp 4) rfl (P + 1) rfl 61 (zeroM 0).row (0, 0) _ HNO.out Try.underlying61 rfl (info61w (zeroM 0)) ?_))
          exact bodyPost_ret (trB.res2 Try.results65 _ _ P 61 (zeroM 0).row (0, 0) _ rfl (setRow_heap _ _ _ _ _ _ HRS.out) Try.underlying61 rfl (info61w (zeroM 0))) rfl ⟨by rw [HV.out]; rfl, Only.old (only_roww (O.out.mono fun _ h => h.elim) _ (by rw [HPE.out]; exact Nat.le_refl _))⟩
        | cons x r =>
          have hNj : j + 2 ≤ N := by rw [HNE.out, ht]; simp
          have k2 : ((N : Int) ≤ (j : Int) + 1) = False := eq_false (by omega)
          have k3 : (j : Int) + 1 < (N : Int) := by omega
          have k4 : (0 : Int) ≤ (j : Int) + 1 := by omega
          have k5 : ((j : Int) + 1).toNat = j + 1 := by omega
          have hx0 : (k :: t).getD (j + 1) 0 = x := by rw [ht]; simp
          have cx := sl_at HSL.out (j := j + 1) (by rw [← HNE.out]; omega)
          rw [hx0] at cx
          obtain ⟨X, hX⟩ : ∃ X : Nat, X = x.toNat := ⟨_, rfl⟩
          rw [← hX] at cx
          by_cases hx : x = 0
          · have q0 : ((X : Int) != 0) = false := by rw [bne_eq_false_iff_eq, hX, hx]; rfl
            have HT := Lib.hid (show t = List.replicate (j + 1) 0 ++ r from by rw [ht, hx, List.replicate_succ']; simp)
            clear hj3 hj ht hNj hx0 hX hx
            go_wp2_with fail
            go_roundw
            case rel => exact ⟨j + 1, r, by first | rfl | (rw [wj]; rfl) | (rw [wj2]; congr 1; omega) | (rw [wj]; congr 1; omega), HJ.out, HT.out, by trivial⟩
            case measure =>
              have := HJ.out
              first | rw [wj] | rw [wj2] | skip
              simp only [Lib.intOf]
              omega
          · have q0 : ((X : Int) != 0) = true := by
              rw [bne_iff_ne, hX]
              intro e
              exact hx (UInt8.toNat_inj.1 (by simpa using e))
            have HV := Lib.hid (show readM (k :: t) = (3, zeroM 0) from by rw [ht]; exact read_byte k x r j HK.out hj3 hx)
            clear hj3 hj ht hNj hx0 hX hx
            go_wp2_with (first
              | (refine wpList_store_row rfl 61 (.tmp 2) (.tmp 47) rfl P (zeroM 0).row rfl rfl 61 _ HRS.out (info61w (zeroM 0)) (size61w (zeroM 0) (zeroM 0)) (one61w (zeroM 0)) ?_)
              | (refine wpList_load_row rfl 61 (.tmp 4) rfl (P + 1) rfl 61 (zeroM 0).row (0, 0) _ HNO.out Try.underlying61 rfl (info61w (zeroM 0)) ?_))
            exact bodyPost_ret (trB.res2 Try.results65 _ _ P 61 (zeroM 0).row (0, 0) _ rfl (setRow_heap _ _ _ _ _ _ HRS.out) Try.underlying61 rfl (info61w (zeroM 0))) rfl ⟨by rw [HV.out]; rfl, Only.old (only_roww (O.out.mono fun _ h => h.elim) _ (by rw [HPE.out]; exact Nat.le_refl _))⟩
      · obtain rfl : j = 3 := by omega
        have HT := Lib.hid (show t = 0 :: 0 :: 0 :: r from by rw [ht]; rfl)
        clear hj3 hj ht
        have HRH := Lib.hid (show readM (k :: t) = fin (rowR (rowOf (K : Int)) (r, 0, zeroM (K : Int))) from by rw [HT.out, read_head k r HK.out, HKE.out])
        have HDR := Lib.hid (show (k :: t).drop 4 = r from by rw [HT.out]; rfl)
        have HN4 := Lib.hid (show 4 ≤ N from by rw [HNE.out, HT.out]; simp)
        simp only [show ((3 : Nat) : Int) + 1 = 4 from rfl]
        go_upto_region 19 with fail
        obtain ⟨E, hE⟩ : ∃ E, E = wr.heap.size := ⟨_, rfl⟩
        obtain ⟨Z, hZ⟩ : ∃ Z, Z = ((((((((wr.alloc (.cells #[] 3)).alloc (.cells #[.int .i64 4] 3)).alloc (.cells #[.int .i64 4, .int .i64 4] 3)).alloc (.cells #[.int .i64 4] 3)).alloc (.cells #[.int .i64 4, .int .i64 8] 3)).alloc (.cells #[.slice (some ⟨wr.heap.size, 0, none⟩) 0 0, .slice (some ⟨wr.heap.size + 1, 0, none⟩) 1 1, .slice (some ⟨wr.heap.size + 1 + 1, 0, none⟩) 2 2, .slice (some ⟨wr.heap.size + 1 + 1 + 1, 0, none⟩) 1 1, .slice (some ⟨wr.heap.size + 1 + 1 + 1 + 1, 0, none⟩) 2 2] 168)).alloc (.cells #[.int .i64 0, .int .i64 5, .int .i64 4, .int .i64 2, .int .i64 1] 3)).alloc (.cells #[] 23)) := ⟨_, rfl⟩
        obtain ⟨oZ, tb, own, ez⟩ := tabs wr E hE Z hZ
        have HPE2 := Lib.hid (show P + 1 < E from by rw [hE]; exact MsgAt.lt HNO.out)
        rw [← hZ, ← hE]
        replace O := Lib.hid (O.out.trans oZ)
        replace HRS := Lib.hid (MsgAt.keep HRS.out oZ id)
        replace HNO := Lib.hid (MsgAt.keep HNO.out oZ id)
        replace HSL := Lib.hid (Sl.keep HSL.out oZ (fun _ _ h => h))
        have HTB := Lib.hid tb
        have HOW := Lib.hid own
        have HEZ := Lib.hid ez
        have hK4 : K = 1 ∨ K = 2 ∨ K = 3 ∨ K = 4 := by have := HK.out; rw [← HKE.out] at this; omega
        clear oZ tb own ez hZ hE x0' c1 c4
        rcases hK4 with rfl | rfl | rfl | rfl
        · have HR0 := Lib.hid (show readM (k :: t) = fin (rowR ([.n 1] ++ [.t 4, .t 5, .t 6, .t 11, .t 12]) ((k :: t).drop 4, 0, zeroM 1)) from by rw [HDR.out]; exact HRH.out)
          have w1 : wrap64 1 = 1 := IntWalk.wrap64_in _ (by omega)
          simp only [show ((1 : Nat) : Int) = 1 from rfl, w1]
          go_loopw [9, 10, 11, 12] (fun a u i _ wr => ∃ (j at' G cp : Nat) (us : List Nat), a = .int .i64 (at' : Nat) ∧ u = .slice (some ⟨G, 0, none⟩) us.length cp ∧ i = .int .i64 (j : Nat) ∧ us.length = j ∧ j ≤ 1 ∧ at' ≤ N ∧ readM (k :: t) = fin (rowR (([.n 1] : List Fl).drop j ++ [.t 4, .t 5, .t 6, .t 11, .t 12]) ((k :: t).drop at', 0, mN [.n 1] us (zeroM 1))) ∧ wr.ownsRow (E + 1 + 1 + 1 + 1 + 1 + 1 + 1) 23 1 (.slice (some ⟨G, 0, none⟩) us.length cp) us.length (U64 us) ∧ Only (fun q => E + 7 ≤ q) Z wr ∧ ∀ i, us.getD i 0 < 256 ^ (([4] : List Nat).getD i 0)) (fun _ _ i _ _ => 1 - (Lib.intOf i).toNat)
          case atStart => exact ⟨0, 4, _, _, [], rfl, rfl, rfl, rfl, Nat.zero_le _, HN4.out, HR0.out, HOW.out, Only.refl _ _, fun i => by rw [List.getD_nil]; exact Nat.pow_pos (by decide)⟩
          case round =>
            obtain ⟨j, at', G, cp, us, rfl, rfl, rfl, hus, hj, hat, hrd, how, ho, hbd⟩ := hrel
            have BD := Lib.hid hbd
            have AT := Lib.hid hat
            have RD := Lib.hid hrd
            have OW := Lib.hid how
            have HO := Lib.hid ho
            have RS := Lib.hid (MsgAt.keep HRS.out ho (by have := HPE2.out; omega))
            have NO := Lib.hid (MsgAt.keep HNO.out ho (by have := HPE2.out; omega))
            have SL := Lib.hid (Sl.keep HSL.out ho (fun q h h' => by have := HPE2.out; have := HSP.out q h; omega))
            have TBr := Lib.hid (Tabs.keep HTB.out ho (fun q h h' => by omega))
            have OO := Lib.hid (show Only (fun q => w.heap.size ≤ q) w wr from (O.out.mono fun _ h => h.elim).trans (ho.mono fun q h => by have := HPE2.out; rw [← HPE.out]; omega))
            have c5 : wr.cell? ⟨E + 1 + 1 + 1 + 1 + 1, 1, none⟩ = some (.slice (some ⟨E + 1, 0, none⟩) 1 1) := cell_of TBr.out.b5
            have LN := HLN.out
            clear hat hrd how ho hbd
            by_cases hj0 : j = 0
            · subst hj0
              obtain rfl := (List.length_eq_zero_iff.1 hus)
              clear hus hj
              have ck : wr.cell? ⟨E + 1, 0, none⟩ = some (.int .i64 4) := cell_of TBr.out.b1
              have wa : wrap64 ((at' : Int) + 4) = (at' : Int) + 4 := wrapA (Nat.le_trans AT.out LN) 4 (by decide) (by decide)
              by_cases hs : N < at' + 4
              · have k1 : ((N : Int) < (at' : Int) + 4) = True := eq_true (by omega)
                have HV := Lib.hid (show readM (k :: t) = (4, zeroM 0) from by
                  rw [RD.out]
                  exact num_short (.inl ⟨_, rfl, rfl⟩) _ _ _ (by rw [List.length_drop, ← HNE.out]; omega))
                clear hs
                go_wp2_with (first
                  | (refine wpList_store_row rfl 61 (.tmp 2) (.tmp 78) rfl P (zeroM 0).row rfl rfl 61 _ RS.out (info61w (zeroM 0)) (size61w (zeroM 0) (zeroM 0)) (one61w (zeroM 0)) ?_)
                  | (refine wpList_load_row rfl 61 (.tmp 4) rfl (P + 1) rfl 61 (zeroM 0).row (0, 0) _ NO.out Try.underlying61 rfl (info61w (zeroM 0)) ?_))
                exact bodyPost_ret (trB.res2 Try.results65 _ _ P 61 (zeroM 0).row (0, 0) _ rfl (setRow_heap _ _ _ _ _ _ RS.out) Try.underlying61 rfl (info61w (zeroM 0))) rfl ⟨by rw [HV.out]; rfl, Only.old (only_roww OO.out _ (by rw [HPE.out]; exact Nat.le_refl _))⟩
              · have k1 : ((N : Int) < (at' : Int) + 4) = False := eq_false (by omega)
                have HS := Lib.hid hs
                have b1 : (0 : Int) ≤ (at' : Int) + 4 := by omega
                have b2 : (at' : Int) + 4 ≤ (cap : Int) := by have := HCP.out; omega
                have b3 : (cap = at') = False := eq_false (by have := HCP.out; omega)
                have b4 : (at' : Int) ≤ (at' : Int) + 4 := by omega
                have hlen : (((k :: t).drop at').take 4).length = 4 := by rw [List.length_take, List.length_drop, ← HNE.out]; omega
                obtain ⟨bs, hbs⟩ : ∃ bs, bs = ((k :: t).drop at').take 4 := ⟨_, rfl⟩
                have CV := Lib.hid (show Calls Try.prog 127 #[.slice (some ⟨g, q + at', none⟩) 4 (cap - at')] wr (numA.Told wr (.int .u64 (vb bs : Nat))) from by
                  have h := value_any (some ⟨g, q + at', none⟩) (cap - at') bs S wr (by rw [hbs, hlen]; exact sl_sub SL.out (by rw [← HNE.out]; omega) _) (by rw [hbs, hlen]; decide)
                  rw [hbs, hlen] at h
                  rw [hbs]
                  exact h)
                have RN := Lib.hid (show readM (k :: t) = fin (rowR (([.n 1] : List Fl).drop 1 ++ [.t 4, .t 5, .t 6, .t 11, .t 12]) ((k :: t).drop (at' + 4), 0, mN [.n 1] ([] ++ [vb bs]) (zeroM 1))) from by
                  rw [RD.out, hbs]
                  show fin (rowR (.n 1 :: _) _) = _
                  rw [num_ok (.inl ⟨_, rfl, rfl⟩) _ _ _ (by rw [List.length_drop, ← HNE.out]; omega), List.drop_drop]
                  rfl)
                obtain ⟨u, hu⟩ : ∃ u, u = vb bs := ⟨_, rfl⟩
                have hub : u < 256 ^ 4 := by rw [hu]; have h := vb_lt bs; rw [hbs] at h ⊢; rw [hlen] at h; exact h
                have BN := Lib.hid (show ∀ i, ([] ++ [u] : List Nat).getD i 0 < 256 ^ (([4] : List Nat).getD i 0) from by
                  intro i
                  rcases i with _ | _ | i
                  · first | exact hub | exact BD.out 0
                  · first | exact hub | exact Nat.pow_pos (by decide)
                  · exact Nat.pow_pos (by decide))
                rw [← hu] at CV RN
                clear hs hlen hbs hu hub
                go_wp2_with fail
                (with_reducible refine CV.out.mono ?_)
                rintro e W2 ⟨rfl, o⟩
                have HO2 := Lib.hid (HO.out.trans (o.mono fun _ h => h.elim))
                obtain ⟨G2, cp2, W3, hap, own2, on2⟩ := putn (trC.owns_keep OW.out o) (by have := HEZ.out; have := HO2.out.size; omega) (by simp) u
                have HAP := Lib.hid hap
                have OW2 := Lib.hid own2
                have HO3 := Lib.hid (show Only (fun q => E + 7 ≤ q) Z W3 from on2 Z HO2.out)
                clear o hap own2 on2 b1 b2 b3 b4 c5 ck
                go_wp2_with (at_builtin; refine Lib.wpList_append_run _ rfl (.tmp 79) (.tmp 87) 170 170 rfl _ _ rfl rfl _ _ HAP.out ?_)
                go_roundw
                case rel => exact ⟨1, at' + 4, G2, cp2, [] ++ [u], by first | rfl | (rw [wa]; rfl), rfl, rfl, rfl, by decide, by have := HS.out; omega, RN.out, OW2.out, HO3.out, BN.out⟩
                case measure => first | (simp only [Lib.intOf]; omega) | (simp only [Lib.intOf]; decide) | simp [Lib.intOf]
            obtain rfl : j = 1 := by omega
            obtain ⟨u0, rfl⟩ := List.length_eq_one_iff.1 hus
            clear hj hus
            simp only [show ([u0] : List Nat).length = 1 from rfl, show ((1 : Nat) : Int) = 1 from rfl]
            obtain ⟨M0, hM0⟩ : ∃ m, m = mN [.n 1] [u0] (zeroM 1) := ⟨_, rfl⟩
            have RD0 := Lib.hid (show readM (k :: t) = fin (rowR ((([4, 5, 6, 11, 12] : List Nat).drop 0).map Fl.t) ((k :: t).drop at', 0, mT [4, 5, 6, 11, 12] [] M0)) from by rw [RD.out, ← hM0]; rfl)
            have HM0 := Lib.hid hM0
            clear hM0
            go_upto_region 28 with fail
            clear c5
            obtain ⟨E2, hE2⟩ : ∃ E, E = wr.heap.size := ⟨_, rfl⟩
            obtain ⟨Z2, hZ2⟩ : ∃ Z, Z = wr.alloc (.cells #[] 9) := ⟨_, rfl⟩
            have o2 : Only (fun _ => False) wr Z2 := by rw [hZ2]; exact (Only.refl _ _).alloc _
            have OW3 := Lib.hid (show Z2.ownsRow E2 9 1 (.slice (some ⟨E2, 0, none⟩) 0 0) 0 (([] : List Txt).map sv) from by rw [hZ2, hE2]; exact own_txt0 wr)
            have HE2 := Lib.hid (show E2 < Z2.heap.size ∧ E + 7 ≤ E2 from by
              refine ⟨by rw [hZ2, World.size_alloc, hE2]; omega, ?_⟩
              rw [hE2]
              have := HO.out.size
              have := HEZ.out
              omega)
            rw [← hZ2, ← hE2]
            have NR := Lib.hid (trC.owns_keep OW.out o2)
            have NRL := Lib.hid (show ∀ q, (Value.slice (some ⟨G, 0, none⟩) 1 cp).ownBlock = some q → q < E2 from by
              intro q hq
              rw [hE2]
              exact (OW.out.lt q hq).2)
            replace RS := Lib.hid (MsgAt.keep RS.out o2 id)
            replace NO := Lib.hid (MsgAt.keep NO.out o2 id)
            replace SL := Lib.hid (Sl.keep SL.out o2 (fun _ _ h => h))
            replace TBr := Lib.hid (Tabs.keep TBr.out o2 (fun _ _ h => h))
            replace OO := Lib.hid (OO.out.trans (o2.mono fun _ h => h.elim))
            clear o2 hE2 hZ2
            go_loopw [9, 13, 14, 15, 16] (fun a u i _ _ wr => ∃ (j a2 G3 cp3 : Nat) (ts : List Txt), a = .int .i64 (a2 : Nat) ∧ u = .slice (some ⟨G3, 0, none⟩) ts.length cp3 ∧ i = .int .i64 (j : Nat) ∧ ts.length = j ∧ j ≤ 5 ∧ a2 ≤ N ∧ readM (k :: t) = fin (rowR ((([4, 5, 6, 11, 12] : List Nat).drop j).map Fl.t) ((k :: t).drop a2, 0, mT [4, 5, 6, 11, 12] ts M0)) ∧ wr.ownsRow E2 9 1 (.slice (some ⟨G3, 0, none⟩) ts.length cp3) ts.length (ts.map sv) ∧ Only (fun q => E2 ≤ q) Z2 wr) (fun _ _ i _ _ _ => 5 - (Lib.intOf i).toNat)
            case atStart => exact ⟨0, at', E2, 0, [], rfl, rfl, rfl, rfl, Nat.zero_le _, AT.out, RD0.out, OW3.out, Only.refl _ _⟩
            case round =>
              obtain ⟨j, a2, G3, cp3, ts, rfl, rfl, rfl, hts, hj, hat, hrd, how, ho⟩ := hrel
              have A2 := Lib.hid hat
              have R2 := Lib.hid hrd
              have W2 := Lib.hid how
              have H2 := Lib.hid ho
              have HTS := Lib.hid hts
              replace RS := Lib.hid (MsgAt.keep RS.out ho (by have := HPE2.out; have := HE2.out; omega))
              replace NO := Lib.hid (MsgAt.keep NO.out ho (by have := HPE2.out; have := HE2.out; omega))
              replace SL := Lib.hid (Sl.keep SL.out ho (fun q h h' => by have := HPE2.out; have := HE2.out; have := HSP.out q h; omega))
              replace TBr := Lib.hid (Tabs.keep TBr.out ho (fun q h h' => by have := HE2.out; omega))
              replace OO := Lib.hid (OO.out.trans (ho.mono fun q h => by have := HPE2.out; have := HE2.out; have := HPE.out; omega))
              have c6 : wr.cell? ⟨E + 1 + 1 + 1 + 1 + 1 + 1, 1, none⟩ = some (.int .i64 5) := cell_of TBr.out.b6
              clear hat hrd how ho
              by_cases hj3 : j < 5
              · have k0 : ((j : Int) < 5) = True := eq_true (by omega)
                have wj : wrap64 ((j : Int) + 1) = (j : Int) + 1 := IntWalk.wrap64_in _ (by omega)
                have wa : wrap64 ((a2 : Int) + 2) = (a2 : Int) + 2 := wrapA (Nat.le_trans A2.out LN) 2 (by decide) (by decide)
                have HJ := Lib.hid hj3
                rw [drop_map [4, 5, 6, 11, 12] j hj3] at R2
                clear hj hj3 hts
                by_cases hs : N < a2 + 2
                · have k1 : ((N : Int) < (a2 : Int) + 2) = True := eq_true (by omega)
                  have HV := Lib.hid (show readM (k :: t) = (4, zeroM 0) from by
                    rw [R2.out]
                    exact txt_short _ _ _ _ (.inl (by rw [List.length_drop, ← HNE.out]; omega)))
                  clear hs
                  go_wp2_with (first
                    | (refine wpList_store_row rfl 61 (.tmp 2) (.tmp 106) rfl P (zeroM 0).row rfl rfl 61 _ RS.out (info61w (zeroM 0)) (size61w (zeroM 0) (zeroM 0)) (one61w (zeroM 0)) ?_)
                    | (refine wpList_load_row rfl 61 (.tmp 4) rfl (P + 1) rfl 61 (zeroM 0).row (0, 0) _ NO.out Try.underlying61 rfl (info61w (zeroM 0)) ?_))
                  exact bodyPost_ret (trB.res2 Try.results65 _ _ P 61 (zeroM 0).row (0, 0) _ rfl (setRow_heap _ _ _ _ _ _ RS.out) Try.underlying61 rfl (info61w (zeroM 0))) rfl ⟨by rw [HV.out]; rfl, Only.old (only_roww OO.out _ (by rw [HPE.out]; exact Nat.le_refl _))⟩
                · have k1 : ((N : Int) < (a2 : Int) + 2) = False := eq_false (by omega)
                  have HS := Lib.hid hs
                  have b1 : (0 : Int) ≤ (a2 : Int) + 2 := by omega
                  have b2 : (a2 : Int) + 2 ≤ (cap : Int) := by have := HCP.out; omega
                  have b3 : (cap = a2) = False := eq_false (by have := HCP.out; omega)
                  have b4 : (a2 : Int) ≤ (a2 : Int) + 2 := by omega
                  have hlen : (((k :: t).drop a2).take 2).length = 2 := by rw [List.length_take, List.length_drop, ← HNE.out]; omega
                  obtain ⟨u, hu⟩ : ∃ u, u = vb (((k :: t).drop a2).take 2) := ⟨_, rfl⟩
                  have hu2 : u ≤ 65535 := by rw [hu]; exact vb_two _
                  have CV := Lib.hid (show Calls Try.prog 127 #[.slice (some ⟨g, q + a2, none⟩) 2 (cap - a2)] wr (numA.Told wr (.int .u64 (u : Nat))) from by
                    have h := value_any (some ⟨g, q + a2, none⟩) (cap - a2) (((k :: t).drop a2).take 2) S wr (by rw [hlen]; exact sl_sub SL.out (by rw [← HNE.out]; omega) _) (by rw [hlen]; decide)
                    rw [hlen, ← hu] at h
                    exact h)
                  have HU := Lib.hid hu
                  have HU2 := Lib.hid hu2
                  have wu : wrap64 (u : Int) = (u : Int) := wrapU hu2
                  have wb : wrap64 ((a2 : Int) + 2 + (u : Int)) = (a2 : Int) + 2 + (u : Int) := wrapB (Nat.le_trans A2.out LN) hu2
                  clear hs hlen hu hu2
                  go_wp2_with fail
                  (with_reducible refine CV.out.mono ?_)
                  rintro e V1 ⟨rfl, o⟩
                  clear b1 b2 b3 b4 c6
                  replace RS := Lib.hid (MsgAt.keep RS.out o id)
                  replace NO := Lib.hid (MsgAt.keep NO.out o id)
                  replace SL := Lib.hid (Sl.keep SL.out o (fun _ _ h => h))
                  replace OO := Lib.hid (OO.out.trans (o.mono fun _ h => h.elim))
                  replace W2 := Lib.hid (trC.owns_keep W2.out o)
                  replace H2 := Lib.hid (H2.out.trans (o.mono fun _ h => h.elim))
                  clear o
                  by_cases hs : N < a2 + 2 + u
                  · have k2 : ((N : Int) < (a2 : Int) + 2 + (u : Int)) = True := eq_true (by omega)
                    have HV := Lib.hid (show readM (k :: t) = (4, zeroM 0) from by
                      rw [R2.out]
                      exact txt_short _ _ _ _ (.inr (by rw [← HU.out, List.length_drop, ← HNE.out]; omega)))
                    clear hs
                    go_wp2_with (first
                      | (refine wpList_store_row rfl 61 (.tmp 2) (.tmp 122) rfl P (zeroM 0).row rfl rfl 61 _ RS.out (info61w (zeroM 0)) (size61w (zeroM 0) (zeroM 0)) (one61w (zeroM 0)) ?_)
                      | (refine wpList_load_row rfl 61 (.tmp 4) rfl (P + 1) rfl 61 (zeroM 0).row (0, 0) _ NO.out Try.underlying61 rfl (info61w (zeroM 0)) ?_))
                    exact bodyPost_ret (trB.res2 Try.results65 _ _ P 61 (zeroM 0).row (0, 0) _ rfl (setRow_heap _ _ _ _ _ _ RS.out) Try.underlying61 rfl (info61w (zeroM 0))) rfl ⟨by rw [HV.out]; rfl, Only.old (only_roww OO.out _ (by rw [HPE.out]; exact Nat.le_refl _))⟩
                  · have k2 : ((N : Int) < (a2 : Int) + 2 + (u : Int)) = False := eq_false (by omega)
                    have HS2 := Lib.hid hs
                    have b1 : (0 : Int) ≤ (a2 : Int) + 2 + (u : Int) := by omega
                    have b2 : (a2 : Int) + 2 + (u : Int) ≤ (cap : Int) := by have := HCP.out; omega
                    have b4 : (a2 : Int) + 2 ≤ (a2 : Int) + 2 + (u : Int) := by omega
                    have b5 : (0 : Int) ≤ (a2 : Int) + 2 := by omega
                    obtain ⟨x, hx⟩ : ∃ x : ByteArray, x = ⟨(((k :: t).drop (a2 + 2)).take u).toArray⟩ := ⟨_, rfl⟩
                    have hxd : x.data.toList = (((k :: t).drop a2).drop 2).take u := by rw [hx, List.drop_drop]
                    have hxl : x.data.toList.length = u := by rw [hxd, List.length_take, List.length_drop, List.length_drop, ← HNE.out]; omega
                    have hxs : x.size ≤ 65535 := by rw [← tl_size, hxl]; exact HU2.out
                    have CI := Lib.hid (fun W => (show Calls Try.prog 39 #[.string x] W (numA.Told W (.bool (isT x.data.toList))) from trJ.is_any x W (Nat.le_trans hxs (by decide))))
                    obtain ⟨b, hb⟩ : ∃ b, b = isT x.data.toList := ⟨_, rfl⟩
                    rw [← hb] at CI
                    have HXD := Lib.hid hxd
                    have HXB := Lib.hid hb
                    have cv1 : (convert 24 9 (.slice (some ⟨g, q + (a2 + 2), none⟩) u (cap - (a2 + 2)))).run Try.prog V1 = .ok (.string x) V1 := by
                      have h := conv_lst (sl_sub SL.out (a := a2 + 2) (m := u) (by rw [← HNE.out]; omega) (cap - (a2 + 2)))
                      rw [hx]
                      exact h
                    have cv2 : u = 0 → ∀ (a : Option Addr) (c : Nat), (convert 24 9 (.slice a u c)).run Try.prog V1 = .ok (.string x) V1 := by
                      intro h0 a c
                      have h := conv_lst (w := V1) (S := fun _ => True) (v := .slice a 0 c) (xs := []) ⟨Nat.zero_le _, a, c, rfl, .inl rfl⟩
                      rw [hx]
                      simp only [h0]
                      exact h
                    have ct : ((a2 : Int) + 2).toNat = a2 + 2 := by omega
                    clear hs hx hxd hxl hxs hb
                    by_cases hc : cap = a2 + 2
                    · have hu0 : u = 0 := by have := HCP.out; have := HS2.out; omega
                      have ce : (cap = a2 + 2) = True := eq_true hc
                      replace cv2 := cv2 hu0
                      clear hc hu0
                      go_wp2_with fail
                      (with_reducible refine (CI.out _).mono ?_)
                      rintro e V2 ⟨rfl, o⟩
                      clear cv1 b1 b2 b4 b5
                      replace RS := Lib.hid (MsgAt.keep RS.out o id)
                      replace NO := Lib.hid (MsgAt.keep NO.out o id)
                      replace OO := Lib.hid (OO.out.trans (o.mono fun _ h => h.elim))
                      replace W2 := Lib.hid (trC.owns_keep W2.out o)
                      replace H2 := Lib.hid (H2.out.trans (o.mono fun _ h => h.elim))
                      clear o
                      cases b
                      · have HV := Lib.hid (show readM (k :: t) = (3, zeroM 0) from by
                          rw [R2.out]
                          exact txt_bad _ _ _ _ (by rw [List.length_drop, ← HNE.out]; have := HS.out; omega) (by rw [← HU.out, List.length_drop, ← HNE.out]; have := HS2.out; omega) (by rw [← HU.out, ← HXD.out]; exact HXB.out.symm))
                        go_wp2_with (first
                          | (refine wpList_store_row rfl 61 (.tmp 2) (.tmp 133) rfl P (zeroM 0).row rfl rfl 61 _ RS.out (info61w (zeroM 0)) (size61w (zeroM 0) (zeroM 0)) (one61w (zeroM 0)) ?_)
                          | (refine wpList_load_row rfl 61 (.tmp 4) rfl (P + 1) rfl 61 (zeroM 0).row (0, 0) _ NO.out Try.underlying61 rfl (info61w (zeroM 0)) ?_))
                        exact bodyPost_ret (trB.res2 Try.results65 _ _ P 61 (zeroM 0).row (0, 0) _ rfl (setRow_heap _ _ _ _ _ _ RS.out) Try.underlying61 rfl (info61w (zeroM 0))) rfl ⟨by rw [HV.out]; rfl, Only.old (only_roww OO.out _ (by rw [HPE.out]; exact Nat.le_refl _))⟩
                      · have RN := Lib.hid (show readM (k :: t) = fin (rowR ((([4, 5, 6, 11, 12] : List Nat).drop (j + 1)).map Fl.t) ((k :: t).drop (a2 + 2 + u), 0, mT [4, 5, 6, 11, 12] (ts ++ [x.data.toList]) M0)) from by
                          have h := txt_ok (([4, 5, 6, 11, 12] : List Nat).getD j 0) ((([4, 5, 6, 11, 12] : List Nat).drop (j + 1)).map Fl.t) ((k :: t).drop a2) (mT [4, 5, 6, 11, 12] ts M0) (by rw [List.length_drop, ← HNE.out]; have := HS.out; omega) (by rw [← HU.out, List.length_drop, ← HNE.out]; have := HS2.out; omega) (by rw [← HU.out, ← HXD.out]; exact HXB.out.symm)
                          rw [R2.out, h, ← HU.out, ← HXD.out, List.drop_drop, mT_snoc _ _ _ _ (by rw [HTS.out]; exact HJ.out), HTS.out, Nat.add_assoc])
                        obtain ⟨G4, cp4, V3, hap, own4, on4⟩ := put1 W2.out (by have := HE2.out; have := H2.out.size; omega) (by rw [HTS.out]; have := HJ.out; omega) x
                        have HAP := Lib.hid hap
                        have OW4 := Lib.hid own4
                        have H4 := Lib.hid (on4 Z2 H2.out)
                        have HLE := Lib.hid (show a2 + 2 + u ≤ N from by have := HS2.out; omega)
                        clear hap own4 on4
                        go_wp2_with (at_builtin; refine Lib.wpList_append_run _ rfl (.tmp 134) (.tmp 136) 25 25 rfl _ _ rfl rfl _ _ HAP.out ?_)
                        go_roundw
                        case rel => exact ⟨j + 1, a2 + 2 + u, G4, cp4, ts ++ [x.data.toList], by first | rfl | (rw [wb]; rfl), by rw [List.length_append]; rfl, by first | rfl | (rw [wj]; rfl), by rw [List.length_append, HTS.out]; rfl, HJ.out, HLE.out, RN.out, by rw [List.length_append]; exact OW4.out, H4.out⟩
                        case measure =>
                          have := HJ.out
                          try rw [wj]
                          simp only [Lib.intOf]
                          omega
                    · have ce : (cap = a2 + 2) = False := eq_false hc
                      clear cv2
                      go_wp2_with fail
                      (with_reducible refine (CI.out _).mono ?_)
                      rintro e V2 ⟨rfl, o⟩
                      clear cv1 b1 b2 b4 b5
                      replace RS := Lib.hid (MsgAt.keep RS.out o id)
                      replace NO := Lib.hid (MsgAt.keep NO.out o id)
                      replace OO := Lib.hid (OO.out.trans (o.mono fun _ h => h.elim))
                      replace W2 := Lib.hid (trC.owns_keep W2.out o)
                      replace H2 := Lib.hid (H2.out.trans (o.mono fun _ h => h.elim))
                      clear o
                      cases b
                      · have HV := Lib.hid (show readM (k :: t) = (3, zeroM 0) from by
                          rw [R2.out]
                          exact txt_bad _ _ _ _ (by rw [List.length_drop, ← HNE.out]; have := HS.out; omega) (by rw [← HU.out, List.length_drop, ← HNE.out]; have := HS2.out; omega) (by rw [← HU.out, ← HXD.out]; exact HXB.out.symm))
                        go_wp2_with (first
                          | (refine wpList_store_row rfl 61 (.tmp 2) (.tmp 133) rfl P (zeroM 0).row rfl rfl 61 _ RS.out (info61w (zeroM 0)) (size61w (zeroM 0) (zeroM 0)) (one61w (zeroM 0)) ?_)
                          | (refine wpList_load_row rfl 61 (.tmp 4) rfl (P + 1) rfl 61 (zeroM 0).row (0, 0) _ NO.out Try.underlying61 rfl (info61w (zeroM 0)) ?_))
                        exact bodyPost_ret (trB.res2 Try.results65 _ _ P 61 (zeroM 0).row (0, 0) _ rfl (setRow_heap _ _ _ _ _ _ RS.out) Try.underlying61 rfl (info61w (zeroM 0))) rfl ⟨by rw [HV.out]; rfl, Only.old (only_roww OO.out _ (by rw [HPE.out]; exact Nat.le_refl _))⟩
                      · have RN := Lib.hid (show readM (k :: t) = fin (rowR ((([4, 5, 6, 11, 12] : List Nat).drop (j + 1)).map Fl.t) ((k :: t).drop (a2 + 2 + u), 0, mT [4, 5, 6, 11, 12] (ts ++ [x.data.toList]) M0)) from by
                          have h := txt_ok (([4, 5, 6, 11, 12] : List Nat).getD j 0) ((([4, 5, 6, 11, 12] : List Nat).drop (j + 1)).map Fl.t) ((k :: t).drop a2) (mT [4, 5, 6, 11, 12] ts M0) (by rw [List.length_drop, ← HNE.out]; have := HS.out; omega) (by rw [← HU.out, List.length_drop, ← HNE.out]; have := HS2.out; omega) (by rw [← HU.out, ← HXD.out]; exact HXB.out.symm)
                          rw [R2.out, h, ← HU.out, ← HXD.out, List.drop_drop, mT_snoc _ _ _ _ (by rw [HTS.out]; exact HJ.out), HTS.out, Nat.add_assoc])
                        obtain ⟨G4, cp4, V3, hap, own4, on4⟩ := put1 W2.out (by have := HE2.out; have := H2.out.size; omega) (by rw [HTS.out]; have := HJ.out; omega) x
                        have HAP := Lib.hid hap
                        have OW4 := Lib.hid own4
                        have H4 := Lib.hid (on4 Z2 H2.out)
                        have HLE := Lib.hid (show a2 + 2 + u ≤ N from by have := HS2.out; omega)
                        clear hap own4 on4
                        go_wp2_with (at_builtin; refine Lib.wpList_append_run _ rfl (.tmp 134) (.tmp 136) 25 25 rfl _ _ rfl rfl _ _ HAP.out ?_)
                        go_roundw
                        case rel => exact ⟨j + 1, a2 + 2 + u, G4, cp4, ts ++ [x.data.toList], by first | rfl | (rw [wb]; rfl), by rw [List.length_append]; rfl, by first | rfl | (rw [wj]; rfl), by rw [List.length_append, HTS.out]; rfl, HJ.out, HLE.out, RN.out, by rw [List.length_append]; exact OW4.out, H4.out⟩
                        case measure =>
                          have := HJ.out
                          try rw [wj]
                          simp only [Lib.intOf]
                          omega
              · obtain rfl : j = 5 := by omega
                clear hj3 hj
                have RE := Lib.hid (show readM (k :: t) = fin ((k :: t).drop a2, 0, mT [4, 5, 6, 11, 12] ts M0) from R2.out)
                by_cases hs : a2 = N
                · have k1 : ((a2 : Int) != (N : Int)) = false := by rw [bne_eq_false_iff_eq]; omega
                  have HV := Lib.hid (show readM (k :: t) = (0, mT [4, 5, 6, 11, 12] ts M0) from by
                    rw [RE.out]
                    exact fin_ok rfl (List.drop_of_length_le (by rw [← HNE.out]; omega)))
                  clear hs
                  have NK := Lib.hid (own_keepT NR.out H2.out (fun q h h' => by have := NRL.out q h; omega))
                  obtain ⟨G5, cp5, V5, hap, own5, on5, on6⟩ := putn2x NK.out (by have := HE2.out; have := H2.out.size; omega) (by simp) 0
                  simp only [show ((0 : Nat) : Int) = 0 from rfl] at hap
                  have HAP := Lib.hid hap
                  have OW5 := Lib.hid own5
                  have O5 := Lib.hid (on6 (fun q => q = G) wr (Only.refl _ _) (fun q hq => by simp [Value.ownBlock] at hq; exact hq.symm))
                  clear hap own5 on5 on6
                  go_upto_region 44 with (at_builtin; refine Lib.wpList_append_run _ rfl (.tmp 146) (.tmp 147) 170 170 rfl _ _ rfl rfl _ _ HAP.out ?_)
                  have hGl := (OW.out.lt G rfl).1
                  have hG5 := (OW5.out.lt G5 rfl).1
                  have hG3 := (W2.out.lt G3 rfl).1
                  have hG2 := NRL.out G rfl
                  have hp1 := HPE2.out
                  have hp2 := HPE.out
                  have hp3 := HE2.out
                  have T5 := own_keepT W2.out O5.out (fun q h h' => by have := (W2.out.lt q h).1; omega)
                  have hTS := HTS.out
                  have CW := Lib.hid (fun W (o : Only (fun _ => False) V5 W) => fin_1 u0 ts hTS W G3 cp3 (trC.owns_keep T5 o))
                  have hM := HM0.out
                  have NC := Lib.hid (fun W (o : Only (fun q => q = P) V5 W) => cells_1 u0 (own_keepT OW5.out o (fun q h h' => by have := (OW5.out.lt q h).1; omega)))
                  replace RS := Lib.hid (MsgAt.keep RS.out O5.out (by omega))
                  replace NO := Lib.hid (MsgAt.keep NO.out O5.out (by omega))
                  replace OO := Lib.hid (OO.out.trans (O5.out.mono fun q h => by omega))
                  obtain ⟨M, hMM⟩ : ∃ M, M = mT [4, 5, 6, 11, 12] ts M0 := ⟨_, rfl⟩
                  rw [← hM, ← hMM] at CW
                  rw [← hMM] at HV
                  have wu0 : IntKind.u32.wrap ((u0 : Nat) : Int) = (u0 : Int) := wrap32 (BD.out 0)
                  clear hGl hG5 hG3 hG2 hp1 hp2 hp3 T5 hTS hM hMM
                  have c0 := NC.out V5 (Only.refl _ _)
                  go_wp2_with fail
                  (with_reducible refine (CW.out _ (Only.refl _ _)).mono ?_)
                  rintro e V6 ⟨rfl, o⟩
                  have R := Lib.hid o
                  clear o c0
                  go_wp2_with (refine wpList_store_row rfl 61 (.tmp 2) (.tmp 157) rfl P M.row rfl rfl 61 _ (MsgAt.keep RS.out R.out id) (info61w _) (size61w (zeroM 0) _) (one61w _) ?_)
                  exact bodyPost_ret (trB.res2 Try.results65 _ _ P 61 M.row (0, 0) _ rfl (setRow_heap _ _ _ _ _ _ (MsgAt.keep RS.out R.out id)) Try.underlying61 rfl (info61w _)) rfl ⟨by rw [HV.out]; rfl, Only.old (only_roww (OO.out.trans (R.out.mono fun _ h => h.elim)) _ (by rw [HPE.out]; exact Nat.le_refl _))⟩
                · have k1 : ((a2 : Int) != (N : Int)) = true := by rw [bne_iff_ne]; omega
                  have HV := Lib.hid (show readM (k :: t) = (5, zeroM 0) from by
                    rw [RE.out]
                    refine fin_left rfl ?_
                    intro h
                    have h2 := congrArg List.length h
                    rw [List.length_drop, ← HNE.out] at h2
                    have := A2.out
                    simp at h2
                    omega)
                  clear hs
                  go_wp2_with (first
                    | (refine wpList_store_row rfl 61 (.tmp 2) (.tmp 145) rfl P (zeroM 0).row rfl rfl 61 _ RS.out (info61w (zeroM 0)) (size61w (zeroM 0) (zeroM 0)) (one61w (zeroM 0)) ?_)
                    | (refine wpList_load_row rfl 61 (.tmp 4) rfl (P + 1) rfl 61 (zeroM 0).row (0, 0) _ NO.out Try.underlying61 rfl (info61w (zeroM 0)) ?_))
                  exact bodyPost_ret (trB.res2 Try.results65 _ _ P 61 (zeroM 0).row (0, 0) _ rfl (setRow_heap _ _ _ _ _ _ RS.out) Try.underlying61 rfl (info61w (zeroM 0))) rfl ⟨by rw [HV.out]; rfl, Only.old (only_roww OO.out _ (by rw [HPE.out]; exact Nat.le_refl _))⟩
        · have HR0 := Lib.hid (show readM (k :: t) = fin (rowR ([.n 1, .n 2] ++ [.t 4, .t 7, .t 11, .t 12]) ((k :: t).drop 4, 0, zeroM 2)) from by rw [HDR.out]; exact HRH.out)
          have w1 : wrap64 2 = 2 := IntWalk.wrap64_in _ (by omega)
          simp only [show ((2 : Nat) : Int) = 2 from rfl, w1]
          go_loopw [9, 10, 11, 12] (fun a u i _ wr => ∃ (j at' G cp : Nat) (us : List Nat), a = .int .i64 (at' : Nat) ∧ u = .slice (some ⟨G, 0, none⟩) us.length cp ∧ i = .int .i64 (j : Nat) ∧ us.length = j ∧ j ≤ 2 ∧ at' ≤ N ∧ readM (k :: t) = fin (rowR (([.n 1, .n 2] : List Fl).drop j ++ [.t 4, .t 7, .t 11, .t 12]) ((k :: t).drop at', 0, mN [.n 1, .n 2] us (zeroM 2))) ∧ wr.ownsRow (E + 1 + 1 + 1 + 1 + 1 + 1 + 1) 23 1 (.slice (some ⟨G, 0, none⟩) us.length cp) us.length (U64 us) ∧ Only (fun q => E + 7 ≤ q) Z wr ∧ ∀ i, us.getD i 0 < 256 ^ (([4, 4] : List Nat).getD i 0)) (fun _ _ i _ _ => 2 - (Lib.intOf i).toNat)
          case atStart => exact ⟨0, 4, _, _, [], rfl, rfl, rfl, rfl, Nat.zero_le _, HN4.out, HR0.out, HOW.out, Only.refl _ _, fun i => by rw [List.getD_nil]; exact Nat.pow_pos (by decide)⟩
          case round =>
            obtain ⟨j, at', G, cp, us, rfl, rfl, rfl, hus, hj, hat, hrd, how, ho, hbd⟩ := hrel
            have BD := Lib.hid hbd
            have AT := Lib.hid hat
            have RD := Lib.hid hrd
            have OW := Lib.hid how
            have HO := Lib.hid ho
            have RS := Lib.hid (MsgAt.keep HRS.out ho (by have := HPE2.out; omega))
            have NO := Lib.hid (MsgAt.keep HNO.out ho (by have := HPE2.out; omega))
            have SL := Lib.hid (Sl.keep HSL.out ho (fun q h h' => by have := HPE2.out; have := HSP.out q h; omega))
            have TBr := Lib.hid (Tabs.keep HTB.out ho (fun q h h' => by omega))
            have OO := Lib.hid (show Only (fun q => w.heap.size ≤ q) w wr from (O.out.mono fun _ h => h.elim).trans (ho.mono fun q h => by have := HPE2.out; rw [← HPE.out]; omega))
            have c5 : wr.cell? ⟨E + 1 + 1 + 1 + 1 + 1, 2, none⟩ = some (.slice (some ⟨E + 1 + 1, 0, none⟩) 2 2) := cell_of TBr.out.b5
            have LN := HLN.out
            clear hat hrd how ho hbd
            by_cases hj0 : j = 0
            · subst hj0
              obtain rfl := (List.length_eq_zero_iff.1 hus)
              clear hus hj
              have ck : wr.cell? ⟨E + 1 + 1, 0, none⟩ = some (.int .i64 4) := cell_of TBr.out.b2
              have wa : wrap64 ((at' : Int) + 4) = (at' : Int) + 4 := wrapA (Nat.le_trans AT.out LN) 4 (by decide) (by decide)
              by_cases hs : N < at' + 4
              · have k1 : ((N : Int) < (at' : Int) + 4) = True := eq_true (by omega)
                have HV := Lib.hid (show readM (k :: t) = (4, zeroM 0) from by
                  rw [RD.out]
                  exact num_short (.inl ⟨_, rfl, rfl⟩) _ _ _ (by rw [List.length_drop, ← HNE.out]; omega))
                clear hs
                go_wp2_with (first
                  | (refine wpList_store_row rfl 61 (.tmp 2) (.tmp 78) rfl P (zeroM 0).row rfl rfl 61 _ RS.out (info61w (zeroM 0)) (size61w (zeroM 0) (zeroM 0)) (one61w (zeroM 0)) ?_)
                  | (refine wpList_load_row rfl 61 (.tmp 4) rfl (P + 1) rfl 61 (zeroM 0).row (0, 0) _ NO.out Try.underlying61 rfl (info61w (zeroM 0)) ?_))
                exact bodyPost_ret (trB.res2 Try.results65 _ _ P 61 (zeroM 0).row (0, 0) _ rfl (setRow_heap _ _ _ _ _ _ RS.out) Try.underlying61 rfl (info61w (zeroM 0))) rfl ⟨by rw [HV.out]; rfl, Only.old (only_roww OO.out _ (by rw [HPE.out]; exact Nat.le_refl _))⟩
              · have k1 : ((N : Int) < (at' : Int) + 4) = False := eq_false (by omega)
                have HS := Lib.hid hs
                have b1 : (0 : Int) ≤ (at' : Int) + 4 := by omega
                have b2 : (at' : Int) + 4 ≤ (cap : Int) := by have := HCP.out; omega
                have b3 : (cap = at') = False := eq_false (by have := HCP.out; omega)
                have b4 : (at' : Int) ≤ (at' : Int) + 4 := by omega
                have hlen : (((k :: t).drop at').take 4).length = 4 := by rw [List.length_take, List.length_drop, ← HNE.out]; omega
                obtain ⟨bs, hbs⟩ : ∃ bs, bs = ((k :: t).drop at').take 4 := ⟨_, rfl⟩
                have CV := Lib.hid (show Calls Try.prog 127 #[.slice (some ⟨g, q + at', none⟩) 4 (cap - at')] wr (numA.Told wr (.int .u64 (vb bs : Nat))) from by
                  have h := value_any (some ⟨g, q + at', none⟩) (cap - at') bs S wr (by rw [hbs, hlen]; exact sl_sub SL.out (by rw [← HNE.out]; omega) _) (by rw [hbs, hlen]; decide)
                  rw [hbs, hlen] at h
                  rw [hbs]
                  exact h)
                have RN := Lib.hid (show readM (k :: t) = fin (rowR (([.n 1, .n 2] : List Fl).drop 1 ++ [.t 4, .t 7, .t 11, .t 12]) ((k :: t).drop (at' + 4), 0, mN [.n 1, .n 2] ([] ++ [vb bs]) (zeroM 2))) from by
                  rw [RD.out, hbs]
                  show fin (rowR (.n 1 :: _) _) = _
                  rw [num_ok (.inl ⟨_, rfl, rfl⟩) _ _ _ (by rw [List.length_drop, ← HNE.out]; omega), List.drop_drop]
                  rfl)
                obtain ⟨u, hu⟩ : ∃ u, u = vb bs := ⟨_, rfl⟩
                have hub : u < 256 ^ 4 := by rw [hu]; have h := vb_lt bs; rw [hbs] at h ⊢; rw [hlen] at h; exact h
                have BN := Lib.hid (show ∀ i, ([] ++ [u] : List Nat).getD i 0 < 256 ^ (([4, 4] : List Nat).getD i 0) from by
                  intro i
                  rcases i with _ | _ | i
                  · first | exact hub | exact BD.out 0
                  · first | exact hub | exact Nat.pow_pos (by decide)
                  · exact Nat.pow_pos (by decide))
                rw [← hu] at CV RN
                clear hs hlen hbs hu hub
                go_wp2_with fail
                (with_reducible refine CV.out.mono ?_)
                rintro e W2 ⟨rfl, o⟩
                have HO2 := Lib.hid (HO.out.trans (o.mono fun _ h => h.elim))
                obtain ⟨G2, cp2, W3, hap, own2, on2⟩ := putn (trC.owns_keep OW.out o) (by have := HEZ.out; have := HO2.out.size; omega) (by simp) u
                have HAP := Lib.hid hap
                have OW2 := Lib.hid own2
                have HO3 := Lib.hid (show Only (fun q => E + 7 ≤ q) Z W3 from on2 Z HO2.out)
                clear o hap own2 on2 b1 b2 b3 b4 c5 ck
                go_wp2_with (at_builtin; refine Lib.wpList_append_run _ rfl (.tmp 79) (.tmp 87) 170 170 rfl _ _ rfl rfl _ _ HAP.out ?_)
                go_roundw
                case rel => exact ⟨1, at' + 4, G2, cp2, [] ++ [u], by first | rfl | (rw [wa]; rfl), rfl, rfl, rfl, by decide, by have := HS.out; omega, RN.out, OW2.out, HO3.out, BN.out⟩
                case measure => first | (simp only [Lib.intOf]; omega) | (simp only [Lib.intOf]; decide) | simp [Lib.intOf]
            by_cases hj1 : j = 1
            · subst hj1
              obtain ⟨u0, rfl⟩ := (List.length_eq_one_iff.1 hus)
              clear hus hj
              have ck : wr.cell? ⟨E + 1 + 1, 1, none⟩ = some (.int .i64 4) := cell_of TBr.out.b2
              have wa : wrap64 ((at' : Int) + 4) = (at' : Int) + 4 := wrapA (Nat.le_trans AT.out LN) 4 (by decide) (by decide)
              by_cases hs : N < at' + 4
              · have k1 : ((N : Int) < (at' : Int) + 4) = True := eq_true (by omega)
                have HV := Lib.hid (show readM (k :: t) = (4, zeroM 0) from by
                  rw [RD.out]
                  exact num_short (.inl ⟨_, rfl, rfl⟩) _ _ _ (by rw [List.length_drop, ← HNE.out]; omega))
                clear hs
                go_wp2_with (first
                  | (refine wpList_store_row rfl 61 (.tmp 2) (.tmp 78) rfl P (zeroM 0).row rfl rfl 61 _ RS.out (info61w (zeroM 0)) (size61w (zeroM 0) (zeroM 0)) (one61w (zeroM 0)) ?_)
                  | (refine wpList_load_row rfl 61 (.tmp 4) rfl (P + 1) rfl 61 (zeroM 0).row (0, 0) _ NO.out Try.underlying61 rfl (info61w (zeroM 0)) ?_))
                exact bodyPost_ret (trB.res2 Try.results65 _ _ P 61 (zeroM 0).row (0, 0) _ rfl (setRow_heap _ _ _ _ _ _ RS.out) Try.underlying61 rfl (info61w (zeroM 0))) rfl ⟨by rw [HV.out]; rfl, Only.old (only_roww OO.out _ (by rw [HPE.out]; exact Nat.le_refl _))⟩
              · have k1 : ((N : Int) < (at' : Int) + 4) = False := eq_false (by omega)
                have HS := Lib.hid hs
                have b1 : (0 : Int) ≤ (at' : Int) + 4 := by omega
                have b2 : (at' : Int) + 4 ≤ (cap : Int) := by have := HCP.out; omega
                have b3 : (cap = at') = False := eq_false (by have := HCP.out; omega)
                have b4 : (at' : Int) ≤ (at' : Int) + 4 := by omega
                have hlen : (((k :: t).drop at').take 4).length = 4 := by rw [List.length_take, List.length_drop, ← HNE.out]; omega
                obtain ⟨bs, hbs⟩ : ∃ bs, bs = ((k :: t).drop at').take 4 := ⟨_, rfl⟩
                have CV := Lib.hid (show Calls Try.prog 127 #[.slice (some ⟨g, q + at', none⟩) 4 (cap - at')] wr (numA.Told wr (.int .u64 (vb bs : Nat))) from by
                  have h := value_any (some ⟨g, q + at', none⟩) (cap - at') bs S wr (by rw [hbs, hlen]; exact sl_sub SL.out (by rw [← HNE.out]; omega) _) (by rw [hbs, hlen]; decide)
                  rw [hbs, hlen] at h
                  rw [hbs]
                  exact h)
                have RN := Lib.hid (show readM (k :: t) = fin (rowR (([.n 1, .n 2] : List Fl).drop 2 ++ [.t 4, .t 7, .t 11, .t 12]) ((k :: t).drop (at' + 4), 0, mN [.n 1, .n 2] ([u0] ++ [vb bs]) (zeroM 2))) from by
                  rw [RD.out, hbs]
                  show fin (rowR (.n 2 :: _) _) = _
                  rw [num_ok (.inl ⟨_, rfl, rfl⟩) _ _ _ (by rw [List.length_drop, ← HNE.out]; omega), List.drop_drop]
                  rfl)
                obtain ⟨u, hu⟩ : ∃ u, u = vb bs := ⟨_, rfl⟩
                have hub : u < 256 ^ 4 := by rw [hu]; have h := vb_lt bs; rw [hbs] at h ⊢; rw [hlen] at h; exact h
                have BN := Lib.hid (show ∀ i, ([u0] ++ [u] : List Nat).getD i 0 < 256 ^ (([4, 4] : List Nat).getD i 0) from by
                  intro i
                  rcases i with _ | _ | i
                  · first | exact hub | exact BD.out 0
                  · first | exact hub | exact Nat.pow_pos (by decide)
                  · exact Nat.pow_pos (by decide))
                rw [← hu] at CV RN
                clear hs hlen hbs hu hub
                go_wp2_with fail
                (with_reducible refine CV.out.mono ?_)
                rintro e W2 ⟨rfl, o⟩
                have HO2 := Lib.hid (HO.out.trans (o.mono fun _ h => h.elim))
                obtain ⟨G2, cp2, W3, hap, own2, on2⟩ := putn (trC.owns_keep OW.out o) (by have := HEZ.out; have := HO2.out.size; omega) (by simp) u
                have HAP := Lib.hid hap
                have OW2 := Lib.hid own2
                have HO3 := Lib.hid (show Only (fun q => E + 7 ≤ q) Z W3 from on2 Z HO2.out)
                clear o hap own2 on2 b1 b2 b3 b4 c5 ck
                go_wp2_with (at_builtin; refine Lib.wpList_append_run _ rfl (.tmp 79) (.tmp 87) 170 170 rfl _ _ rfl rfl _ _ HAP.out ?_)
                go_roundw
                case rel => exact ⟨2, at' + 4, G2, cp2, [u0] ++ [u], by first | rfl | (rw [wa]; rfl), rfl, rfl, rfl, by decide, by have := HS.out; omega, RN.out, OW2.out, HO3.out, BN.out⟩
                case measure => first | (simp only [Lib.intOf]; omega) | (simp only [Lib.intOf]; decide) | simp [Lib.intOf]
            obtain rfl : j = 2 := by omega
            obtain ⟨u0, u1, rfl⟩ := len2 hus
            clear hj hus
            simp only [show ([u0, u1] : List Nat).length = 2 from rfl, show ((2 : Nat) : Int) = 2 from rfl]
            obtain ⟨M0, hM0⟩ : ∃ m, m = mN [.n 1, .n 2] [u0, u1] (zeroM 2) := ⟨_, rfl⟩
            have RD0 := Lib.hid (show readM (k :: t) = fin (rowR ((([4, 7, 11, 12] : List Nat).drop 0).map Fl.t) ((k :: t).drop at', 0, mT [4, 7, 11, 12] [] M0)) from by rw [RD.out, ← hM0]; rfl)
            have HM0 := Lib.hid hM0
            clear hM0
            go_upto_region 28 with fail
            clear c5
            obtain ⟨E2, hE2⟩ : ∃ E, E = wr.heap.size := ⟨_, rfl⟩
            obtain ⟨Z2, hZ2⟩ : ∃ Z, Z = wr.alloc (.cells #[] 9) := ⟨_, rfl⟩
            have o2 : Only (fun _ => False) wr Z2 := by rw [hZ2]; exact (Only.refl _ _).alloc _
            have OW3 := Lib.hid (show Z2.ownsRow E2 9 1 (.slice (some ⟨E2, 0, none⟩) 0 0) 0 (([] : List Txt).map sv) from by rw [hZ2, hE2]; exact own_txt0 wr)
            have HE2 := Lib.hid (show E2 < Z2.heap.size ∧ E + 7 ≤ E2 from by
              refine ⟨by rw [hZ2, World.size_alloc, hE2]; omega, ?_⟩
              rw [hE2]
              have := HO.out.size
              have := HEZ.out
              omega)
            rw [← hZ2, ← hE2]
            have NR := Lib.hid (trC.owns_keep OW.out o2)
            have NRL := Lib.hid (show ∀ q, (Value.slice (some ⟨G, 0, none⟩) 2 cp).ownBlock = some q → q < E2 from by
              intro q hq
              rw [hE2]
              exact (OW.out.lt q hq).2)
            replace RS := Lib.hid (MsgAt.keep RS.out o2 id)
            replace NO := Lib.hid (MsgAt.keep NO.out o2 id)
            replace SL := Lib.hid (Sl.keep SL.out o2 (fun _ _ h => h))
            replace TBr := Lib.hid (Tabs.keep TBr.out o2 (fun _ _ h => h))
            replace OO := Lib.hid (OO.out.trans (o2.mono fun _ h => h.elim))
            clear o2 hE2 hZ2
            go_loopw [9, 13, 14, 15, 16] (fun a u i _ _ wr => ∃ (j a2 G3 cp3 : Nat) (ts : List Txt), a = .int .i64 (a2 : Nat) ∧ u = .slice (some ⟨G3, 0, none⟩) ts.length cp3 ∧ i = .int .i64 (j : Nat) ∧ ts.length = j ∧ j ≤ 4 ∧ a2 ≤ N ∧ readM (k :: t) = fin (rowR ((([4, 7, 11, 12] : List Nat).drop j).map Fl.t) ((k :: t).drop a2, 0, mT [4, 7, 11, 12] ts M0)) ∧ wr.ownsRow E2 9 1 (.slice (some ⟨G3, 0, none⟩) ts.length cp3) ts.length (ts.map sv) ∧ Only (fun q => E2 ≤ q) Z2 wr) (fun _ _ i _ _ _ => 4 - (Lib.intOf i).toNat)
            case atStart => exact ⟨0, at', E2, 0, [], rfl, rfl, rfl, rfl, Nat.zero_le _, AT.out, RD0.out, OW3.out, Only.refl _ _⟩
            case round =>
              obtain ⟨j, a2, G3, cp3, ts, rfl, rfl, rfl, hts, hj, hat, hrd, how, ho⟩ := hrel
              have A2 := Lib.hid hat
              have R2 := Lib.hid hrd
              have W2 := Lib.hid how
              have H2 := Lib.hid ho
              have HTS := Lib.hid hts
              replace RS := Lib.hid (MsgAt.keep RS.out ho (by have := HPE2.out; have := HE2.out; omega))
              replace NO := Lib.hid (MsgAt.keep NO.out ho (by have := HPE2.out; have := HE2.out; omega))
              replace SL := Lib.hid (Sl.keep SL.out ho (fun q h h' => by have := HPE2.out; have := HE2.out; have := HSP.out q h; omega))
              replace TBr := Lib.hid (Tabs.keep TBr.out ho (fun q h h' => by have := HE2.out; omega))
              replace OO := Lib.hid (OO.out.trans (ho.mono fun q h => by have := HPE2.out; have := HE2.out; have := HPE.out; omega))
              have c6 : wr.cell? ⟨E + 1 + 1 + 1 + 1 + 1 + 1, 2, none⟩ = some (.int .i64 4) := cell_of TBr.out.b6
              clear hat hrd how ho
              by_cases hj3 : j < 4
              · have k0 : ((j : Int) < 4) = True := eq_true (by omega)
                have wj : wrap64 ((j : Int) + 1) = (j : Int) + 1 := IntWalk.wrap64_in _ (by omega)
                have wa : wrap64 ((a2 : Int) + 2) = (a2 : Int) + 2 := wrapA (Nat.le_trans A2.out LN) 2 (by decide) (by decide)
                have HJ := Lib.hid hj3
                rw [drop_map [4, 7, 11, 12] j hj3] at R2
                clear hj hj3 hts
                by_cases hs : N < a2 + 2
                · have k1 : ((N : Int) < (a2 : Int) + 2) = True := eq_true (by omega)
                  have HV := Lib.hid (show readM (k :: t) = (4, zeroM 0) from by
                    rw [R2.out]
                    exact txt_short _ _ _ _ (.inl (by rw [List.length_drop, ← HNE.out]; omega)))
                  clear hs
                  go_wp2_with (first
                    | (refine wpList_store_row rfl 61 (.tmp 2) (.tmp 106) rfl P (zeroM 0).row rfl rfl 61 _ RS.out (info61w (zeroM 0)) (size61w (zeroM 0) (zeroM 0)) (one61w (zeroM 0)) ?_)
                    | (refine wpList_load_row rfl 61 (.tmp 4) rfl (P + 1) rfl 61 (zeroM 0).row (0, 0) _ NO.out Try.underlying61 rfl (info61w (zeroM 0)) ?_))
                  exact bodyPost_ret (trB.res2 Try.results65 _ _ P 61 (zeroM 0).row (0, 0) _ rfl (setRow_heap _ _ _ _ _ _ RS.out) Try.underlying61 rfl (info61w (zeroM 0))) rfl ⟨by rw [HV.out]; rfl, Only.old (only_roww OO.out _ (by rw [HPE.out]; exact Nat.le_refl _))⟩
                · have k1 : ((N : Int) < (a2 : Int) + 2) = False := eq_false (by omega)
                  have HS := Lib.hid hs
                  have b1 : (0 : Int) ≤ (a2 : Int) + 2 := by omega
                  have b2 : (a2 : Int) + 2 ≤ (cap : Int) := by have := HCP.out; omega
                  have b3 : (cap = a2) = False := eq_false (by have := HCP.out; omega)
                  have b4 : (a2 : Int) ≤ (a2 : Int) + 2 := by omega
                  have hlen : (((k :: t).drop a2).take 2).length = 2 := by rw [List.length_take, List.length_drop, ← HNE.out]; omega
                  obtain ⟨u, hu⟩ : ∃ u, u = vb (((k :: t).drop a2).take 2) := ⟨_, rfl⟩
                  have hu2 : u ≤ 65535 := by rw [hu]; exact vb_two _
                  have CV := Lib.hid (show Calls Try.prog 127 #[.slice (some ⟨g, q + a2, none⟩) 2 (cap - a2)] wr (numA.Told wr (.int .u64 (u : Nat))) from by
                    have h := value_any (some ⟨g, q + a2, none⟩) (cap - a2) (((k :: t).drop a2).take 2) S wr (by rw [hlen]; exact sl_sub SL.out (by rw [← HNE.out]; omega) _) (by rw [hlen]; decide)
                    rw [hlen, ← hu] at h
                    exact h)
                  have HU := Lib.hid hu
                  have HU2 := Lib.hid hu2
                  have wu : wrap64 (u : Int) = (u : Int) := wrapU hu2
                  have wb : wrap64 ((a2 : Int) + 2 + (u : Int)) = (a2 : Int) + 2 + (u : Int) := wrapB (Nat.le_trans A2.out LN) hu2
                  clear hs hlen hu hu2
                  go_wp2_with fail
                  (with_reducible refine CV.out.mono ?_)
                  rintro e V1 ⟨rfl, o⟩
                  clear b1 b2 b3 b4 c6
                  replace RS := Lib.hid (MsgAt.keep RS.out o id)
                  replace NO := Lib.hid (MsgAt.keep NO.out o id)
                  replace SL := Lib.hid (Sl.keep SL.out o (fun _ _ h => h))
                  replace OO := Lib.hid (OO.out.trans (o.mono fun _ h => h.elim))
                  replace W2 := Lib.hid (trC.owns_keep W2.out o)
                  replace H2 := Lib.hid (H2.out.trans (o.mono fun _ h => h.elim))
                  clear o
                  by_cases hs : N < a2 + 2 + u
                  · have k2 : ((N : Int) < (a2 : Int) + 2 + (u : Int)) = True := eq_true (by omega)
                    have HV := Lib.hid (show readM (k :: t) = (4, zeroM 0) from by
                      rw [R2.out]
                      exact txt_short _ _ _ _ (.inr (by rw [← HU.out, List.length_drop, ← HNE.out]; omega)))
                    clear hs
                    go_wp2_with (first
                      | (refine wpList_store_row rfl 61 (.tmp 2) (.tmp 122) rfl P (zeroM 0).row rfl rfl 61 _ RS.out (info61w (zeroM 0)) (size61w (zeroM 0) (zeroM 0)) (one61w (zeroM 0)) ?_)
                      | (refine wpList_load_row rfl 61 (.tmp 4) rfl (P + 1) rfl 61 (zeroM 0).row (0, 0) _ NO.out Try.underlying61 rfl (info61w (zeroM 0)) ?_))
                    exact bodyPost_ret (trB.res2 Try.results65 _ _ P 61 (zeroM 0).row (0, 0) _ rfl (setRow_heap _ _ _ _ _ _ RS.out) Try.underlying61 rfl (info61w (zeroM 0))) rfl ⟨by rw [HV.out]; rfl, Only.old (only_roww OO.out _ (by rw [HPE.out]; exact Nat.le_refl _))⟩
                  · have k2 : ((N : Int) < (a2 : Int) + 2 + (u : Int)) = False := eq_false (by omega)
                    have HS2 := Lib.hid hs
                    have b1 : (0 : Int) ≤ (a2 : Int) + 2 + (u : Int) := by omega
                    have b2 : (a2 : Int) + 2 + (u : Int) ≤ (cap : Int) := by have := HCP.out; omega
                    have b4 : (a2 : Int) + 2 ≤ (a2 : Int) + 2 + (u : Int) := by omega
                    have b5 : (0 : Int) ≤ (a2 : Int) + 2 := by omega
                    obtain ⟨x, hx⟩ : ∃ x : ByteArray, x = ⟨(((k :: t).drop (a2 + 2)).take u).toArray⟩ := ⟨_, rfl⟩
                    have hxd : x.data.toList = (((k :: t).drop a2).drop 2).take u := by rw [hx, List.drop_drop]
                    have hxl : x.data.toList.length = u := by rw [hxd, List.length_take, List.length_drop, List.length_drop, ← HNE.out]; omega
                    have hxs : x.size ≤ 65535 := by rw [← tl_size, hxl]; exact HU2.out
                    have CI := Lib.hid (fun W => (show Calls Try.prog 39 #[.string x] W (numA.Told W (.bool (isT x.data.toList))) from trJ.is_any x W (Nat.le_trans hxs (by decide))))
                    obtain ⟨b, hb⟩ : ∃ b, b = isT x.data.toList := ⟨_, rfl⟩
                    rw [← hb] at CI
                    have HXD := Lib.hid hxd
                    have HXB := Lib.hid hb
                    have cv1 : (convert 24 9 (.slice (some ⟨g, q + (a2 + 2), none⟩) u (cap - (a2 + 2)))).run Try.prog V1 = .ok (.string x) V1 := by
                      have h := conv_lst (sl_sub SL.out (a := a2 + 2) (m := u) (by rw [← HNE.out]; omega) (cap - (a2 + 2)))
                      rw [hx]
                      exact h
                    have cv2 : u = 0 → ∀ (a : Option Addr) (c : Nat), (convert 24 9 (.slice a u c)).run Try.prog V1 = .ok (.string x) V1 := by
                      intro h0 a c
                      have h := conv_lst (w := V1) (S := fun _ => True) (v := .slice a 0 c) (xs := []) ⟨Nat.zero_le _, a, c, rfl, .inl rfl⟩
                      rw [hx]
                      simp only [h0]
                      exact h
                    have ct : ((a2 : Int) + 2).toNat = a2 + 2 := by omega
                    clear hs hx hxd hxl hxs hb
                    by_cases hc : cap = a2 + 2
                    · have hu0 : u = 0 := by have := HCP.out; have := HS2.out; omega
                      have ce : (cap = a2 + 2) = True := eq_true hc
                      replace cv2 := cv2 hu0
                      clear hc hu0
                      go_wp2_with fail
                      (with_reducible refine (CI.out _).mono ?_)
                      rintro e V2 ⟨rfl, o⟩
                      clear cv1 b1 b2 b4 b5
                      replace RS := Lib.hid (MsgAt.keep RS.out o id)
                      replace NO := Lib.hid (MsgAt.keep NO.out o id)
                      replace OO := Lib.hid (OO.out.trans (o.mono fun _ h => h.elim))
                      replace W2 := Lib.hid (trC.owns_keep W2.out o)
                      replace H2 := Lib.hid (H2.out.trans (o.mono fun _ h => h.elim))
                      clear o
                      cases b
                      · have HV := Lib.hid (show readM (k :: t) = (3, zeroM 0) from by
                          rw [R2.out]
                          exact txt_bad _ _ _ _ (by rw [List.length_drop, ← HNE.out]; have := HS.out; omega) (by rw [← HU.out, List.length_drop, ← HNE.out]; have := HS2.out; omega) (by rw [← HU.out, ← HXD.out]; exact HXB.out.symm))
                        go_wp2_with (first
                          | (refine wpList_store_row rfl 61 (.tmp 2) (.tmp 133) rfl P (zeroM 0).row rfl rfl 61 _ RS.out (info61w (zeroM 0)) (size61w (zeroM 0) (zeroM 0)) (one61w (zeroM 0)) ?_)
                          | (refine wpList_load_row rfl 61 (.tmp 4) rfl (P + 1) rfl 61 (zeroM 0).row (0, 0) _ NO.out Try.underlying61 rfl (info61w (zeroM 0)) ?_))
                        exact bodyPost_ret (trB.res2 Try.results65 _ _ P 61 (zeroM 0).row (0, 0) _ rfl (setRow_heap _ _ _ _ _ _ RS.out) Try.underlying61 rfl (info61w (zeroM 0))) rfl ⟨by rw [HV.out]; rfl, Only.old (only_roww OO.out _ (by rw [HPE.out]; exact Nat.le_refl _))⟩
                      · have RN := Lib.hid (show readM (k :: t) = fin (rowR ((([4, 7, 11, 12] : List Nat).drop (j + 1)).map Fl.t) ((k :: t).drop (a2 + 2 + u), 0, mT [4, 7, 11, 12] (ts ++ [x.data.toList]) M0)) from by
                          have h := txt_ok (([4, 7, 11, 12] : List Nat).getD j 0) ((([4, 7, 11, 12] : List Nat).drop (j + 1)).map Fl.t) ((k :: t).drop a2) (mT [4, 7, 11, 12] ts M0) (by rw [List.length_drop, ← HNE.out]; have := HS.out; omega) (by rw [← HU.out, List.length_drop, ← HNE.out]; have := HS2.out; omega) (by rw [← HU.out, ← HXD.out]; exact HXB.out.symm)
                          rw [R2.out, h, ← HU.out, ← HXD.out, List.drop_drop, mT_snoc _ _ _ _ (by rw [HTS.out]; exact HJ.out), HTS.out, Nat.add_assoc])
                        obtain ⟨G4, cp4, V3, hap, own4, on4⟩ := put1 W2.out (by have := HE2.out; have := H2.out.size; omega) (by rw [HTS.out]; have := HJ.out; omega) x
                        have HAP := Lib.hid hap
                        have OW4 := Lib.hid own4
                        have H4 := Lib.hid (on4 Z2 H2.out)
                        have HLE := Lib.hid (show a2 + 2 + u ≤ N from by have := HS2.out; omega)
                        clear hap own4 on4
                        go_wp2_with (at_builtin; refine Lib.wpList_append_run _ rfl (.tmp 134) (.tmp 136) 25 25 rfl _ _ rfl rfl _ _ HAP.out ?_)
                        go_roundw
                        case rel => exact ⟨j + 1, a2 + 2 + u, G4, cp4, ts ++ [x.data.toList], by first | rfl | (rw [wb]; rfl), by rw [List.length_append]; rfl, by first | rfl | (rw [wj]; rfl), by rw [List.length_append, HTS.out]; rfl, HJ.out, HLE.out, RN.out, by rw [List.length_append]; exact OW4.out, H4.out⟩
                        case measure =>
                          have := HJ.out
                          try rw [wj]
                          simp only [Lib.intOf]
                          omega
                    · have ce : (cap = a2 + 2) = False := eq_false hc
                      clear cv2
                      go_wp2_with fail
                      (with_reducible refine (CI.out _).mono ?_)
                      rintro e V2 ⟨rfl, o⟩
                      clear cv1 b1 b2 b4 b5
                      replace RS := Lib.hid (MsgAt.keep RS.out o id)
                      replace NO := Lib.hid (MsgAt.keep NO.out o id)
                      replace OO := Lib.hid (OO.out.trans (o.mono fun _ h => h.elim))
                      replace W2 := Lib.hid (trC.owns_keep W2.out o)
                      replace H2 := Lib.hid (H2.out.trans (o.mono fun _ h => h.elim))
                      clear o
                      cases b
                      · have HV := Lib.hid (show readM (k :: t) = (3, zeroM 0) from by
                          rw [R2.out]
                          exact txt_bad _ _ _ _ (by rw [List.length_drop, ← HNE.out]; have := HS.out; omega) (by rw [← HU.out, List.length_drop, ← HNE.out]; have := HS2.out; omega) (by rw [← HU.out, ← HXD.out]; exact HXB.out.symm))
                        go_wp2_with (first
                          | (refine wpList_store_row rfl 61 (.tmp 2) (.tmp 133) rfl P (zeroM 0).row rfl rfl 61 _ RS.out (info61w (zeroM 0)) (size61w (zeroM 0) (zeroM 0)) (one61w (zeroM 0)) ?_)
                          | (refine wpList_load_row rfl 61 (.tmp 4) rfl (P + 1) rfl 61 (zeroM 0).row (0, 0) _ NO.out Try.underlying61 rfl (info61w (zeroM 0)) ?_))
                        exact bodyPost_ret (trB.res2 Try.results65 _ _ P 61 (zeroM 0).row (0, 0) _ rfl (setRow_heap _ _ _ _ _ _ RS.out) Try.underlying61 rfl (info61w (zeroM 0))) rfl ⟨by rw [HV.out]; rfl, Only.old (only_roww OO.out _ (by rw [HPE.out]; exact Nat.le_refl _))⟩
                      · have RN := Lib.hid (show readM (k :: t) = fin (rowR ((([4, 7, 11, 12] : List Nat).drop (j + 1)).map Fl.t) ((k :: t).drop (a2 + 2 + u), 0, mT [4, 7, 11, 12] (ts ++ [x.data.toList]) M0)) from by
                          have h := txt_ok (([4, 7, 11, 12] : List Nat).getD j 0) ((([4, 7, 11, 12] : List Nat).drop (j + 1)).map Fl.t) ((k :: t).drop a2) (mT [4, 7, 11, 12] ts M0) (by rw [List.length_drop, ← HNE.out]; have := HS.out; omega) (by rw [← HU.out, List.length_drop, ← HNE.out]; have := HS2.out; omega) (by rw [← HU.out, ← HXD.out]; exact HXB.out.symm)
                          rw [R2.out, h, ← HU.out, ← HXD.out, List.drop_drop, mT_snoc _ _ _ _ (by rw [HTS.out]; exact HJ.out), HTS.out, Nat.add_assoc])
                        obtain ⟨G4, cp4, V3, hap, own4, on4⟩ := put1 W2.out (by have := HE2.out; have := H2.out.size; omega) (by rw [HTS.out]; have := HJ.out; omega) x
                        have HAP := Lib.hid hap
                        have OW4 := Lib.hid own4
                        have H4 := Lib.hid (on4 Z2 H2.out)
                        have HLE := Lib.hid (show a2 + 2 + u ≤ N from by have := HS2.out; omega)
                        clear hap own4 on4
                        go_wp2_with (at_builtin; refine Lib.wpList_append_run _ rfl (.tmp 134) (.tmp 136) 25 25 rfl _ _ rfl rfl _ _ HAP.out ?_)
                        go_roundw
                        case rel => exact ⟨j + 1, a2 + 2 + u, G4, cp4, ts ++ [x.data.toList], by first | rfl | (rw [wb]; rfl), by rw [List.length_append]; rfl, by first | rfl | (rw [wj]; rfl), by rw [List.length_append, HTS.out]; rfl, HJ.out, HLE.out, RN.out, by rw [List.length_append]; exact OW4.out, H4.out⟩
                        case measure =>
                          have := HJ.out
                          try rw [wj]
                          simp only [Lib.intOf]
                          omega
              · obtain rfl : j = 4 := by omega
                clear hj3 hj
                have RE := Lib.hid (show readM (k :: t) = fin ((k :: t).drop a2, 0, mT [4, 7, 11, 12] ts M0) from R2.out)
                by_cases hs : a2 = N
                · have k1 : ((a2 : Int) != (N : Int)) = false := by rw [bne_eq_false_iff_eq]; omega
                  have HV := Lib.hid (show readM (k :: t) = (0, mT [4, 7, 11, 12] ts M0) from by
                    rw [RE.out]
                    exact fin_ok rfl (List.drop_of_length_le (by rw [← HNE.out]; omega)))
                  clear hs
                  have NK := Lib.hid (own_keepT NR.out H2.out (fun q h h' => by have := NRL.out q h; omega))
                  obtain ⟨G5, cp5, V5, hap, own5, on5, on6⟩ := putn2x NK.out (by have := HE2.out; have := H2.out.size; omega) (by simp) 0
                  simp only [show ((0 : Nat) : Int) = 0 from rfl] at hap
                  have HAP := Lib.hid hap
                  have OW5 := Lib.hid own5
                  have O5 := Lib.hid (on6 (fun q => q = G) wr (Only.refl _ _) (fun q hq => by simp [Value.ownBlock] at hq; exact hq.symm))
                  clear hap own5 on5 on6
                  go_upto_region 44 with (at_builtin; refine Lib.wpList_append_run _ rfl (.tmp 146) (.tmp 147) 170 170 rfl _ _ rfl rfl _ _ HAP.out ?_)
                  have hGl := (OW.out.lt G rfl).1
                  have hG5 := (OW5.out.lt G5 rfl).1
                  have hG3 := (W2.out.lt G3 rfl).1
                  have hG2 := NRL.out G rfl
                  have hp1 := HPE2.out
                  have hp2 := HPE.out
                  have hp3 := HE2.out
                  have T5 := own_keepT W2.out O5.out (fun q h h' => by have := (W2.out.lt q h).1; omega)
                  have hTS := HTS.out
                  have CW := Lib.hid (fun W (o : Only (fun _ => False) V5 W) => fin_2 u0 u1 ts hTS W G3 cp3 (trC.owns_keep T5 o))
                  have hM := HM0.out
                  have NC := Lib.hid (fun W (o : Only (fun q => q = P) V5 W) => cells_2 u0 u1 (own_keepT OW5.out o (fun q h h' => by have := (OW5.out.lt q h).1; omega)))
                  replace RS := Lib.hid (MsgAt.keep RS.out O5.out (by omega))
                  replace NO := Lib.hid (MsgAt.keep NO.out O5.out (by omega))
                  replace OO := Lib.hid (OO.out.trans (O5.out.mono fun q h => by omega))
                  obtain ⟨M, hMM⟩ : ∃ M, M = mT [4, 7, 11, 12] ts M0 := ⟨_, rfl⟩
                  rw [← hM, ← hMM] at CW
                  rw [← hMM] at HV
                  have wu0 : IntKind.u32.wrap ((u0 : Nat) : Int) = (u0 : Int) := wrap32 (BD.out 0)
                  have wu1 : IntKind.u32.wrap ((u1 : Nat) : Int) = (u1 : Int) := wrap32 (BD.out 1)
                  clear hGl hG5 hG3 hG2 hp1 hp2 hp3 T5 hTS hM hMM
                  go_upto_region 48 with fail
                  have R := Lib.hid ((Only.refl (fun _ => False) V5).drew)
                  refine wp_region_held_drew (S := (fun w' => w'.cell? ⟨G5, 0, none⟩ = some (.int .u64 ((u0 : Nat) : Int)) ∧ w'.cell? ⟨G5, 1, none⟩ = some (.int .u64 ((u1 : Nat) : Int)))) (by kernel_rfl) ?_ (fun hHeld => ?_)
                  · first | exact NC.out _ (R.out.mono fun _ h => h.elim) | exact NC.out _ (only_roww (R.out.mono fun _ h => h.elim) _ rfl)
                  refine rgA.tk 0 hHeld ?_
                  refine rgA.tk 1 hHeld ?_
                  refine rgA.tk 2 hHeld ?_
                  refine rgA.tk 3 hHeld ?_
                  refine rgA.tk 4 hHeld ?_
                  refine rgA.tk 5 hHeld ?_
                  refine rgA.tk 6 hHeld ?_
                  refine rgA.tk 7 hHeld ?_
                  refine rgA.tk 8 hHeld ?_
                  refine rgA.rd 9 (fun K hK => ?_)
                  go_simp
                  (with_reducible refine (CW.out _ R.out).mono ?_)
                  rintro e w2 ⟨rfl, o⟩
                  replace R := Lib.hid (R.out.trans o)
                  clear o
                  go_wp2_with fail
                  refine hK.out _ _ ?_ (fun hHeld => ?_)
                  · first | exact NC.out _ (R.out.mono fun _ h => h.elim) | exact NC.out _ (only_roww (R.out.mono fun _ h => h.elim) _ rfl)
                  clear hK K
                  try simp only [List.getElem_toArray, List.getElem_cons_succ, List.getElem_cons_zero, Act.put, List.setIfInBounds_toArray, List.set_cons_zero, List.set_cons_succ]
                  refine rgA.rd 10 (fun K hK => ?_)
                  rw [if_pos (by rfl)]
                  refine wp_store_row 61 (.tmp 2) (.tmp 169) rfl P M.row rfl rfl 61 _ (MsgAt.keep RS.out R.out id) (info61w _) (size61w (zeroM 0) _) (one61w _) ?_
                  refine hK.out _ _ ?_ (fun hHeld => ?_)
                  · first | exact NC.out _ (R.out.mono fun _ h => h.elim) | exact NC.out _ (only_roww (R.out.mono fun _ h => h.elim) _ rfl)
                  clear hK K
                  try simp only [List.getElem_toArray, List.getElem_cons_succ, List.getElem_cons_zero, Act.put, List.setIfInBounds_toArray, List.set_cons_zero, List.set_cons_succ]
                  refine rgA.tk 11 hHeld ?_
                  refine wpAnyH_done (by kernel_rfl) ?_ _
                  go_wp2_with fail
                  exact bodyPost_ret (trB.res2 Try.results65 _ _ P 61 M.row (0, 0) _ rfl (setRow_heap _ _ _ _ _ _ (MsgAt.keep RS.out R.out id)) Try.underlying61 rfl (info61w _)) rfl ⟨by rw [HV.out]; rfl, Only.old (only_roww (OO.out.trans (R.out.mono fun _ h => h.elim)) _ (by rw [HPE.out]; exact Nat.le_refl _))⟩
                · have k1 : ((a2 : Int) != (N : Int)) = true := by rw [bne_iff_ne]; omega
                  have HV := Lib.hid (show readM (k :: t) = (5, zeroM 0) from by
                    rw [RE.out]
                    refine fin_left rfl ?_
                    intro h
                    have h2 := congrArg List.length h
                    rw [List.length_drop, ← HNE.out] at h2
                    have := A2.out
                    simp at h2
                    omega)
                  clear hs
                  go_wp2_with (first
                    | (refine wpList_store_row rfl 61 (.tmp 2) (.tmp 145) rfl P (zeroM 0).row rfl rfl 61 _ RS.out (info61w (zeroM 0)) (size61w (zeroM 0) (zeroM 0)) (one61w (zeroM 0)) ?_)
                    | (refine wpList_load_row rfl 61 (.tmp 4) rfl (P + 1) rfl 61 (zeroM 0).row (0, 0) _ NO.out Try.underlying61 rfl (info61w (zeroM 0)) ?_))
                  exact bodyPost_ret (trB.res2 Try.results65 _ _ P 61 (zeroM 0).row (0, 0) _ rfl (setRow_heap _ _ _ _ _ _ RS.out) Try.underlying61 rfl (info61w (zeroM 0))) rfl ⟨by rw [HV.out]; rfl, Only.old (only_roww OO.out _ (by rw [HPE.out]; exact Nat.le_refl _))⟩
        · have HR0 := Lib.hid (show readM (k :: t) = fin (rowR ([.n 2] ++ [.t 8, .t 9]) ((k :: t).drop 4, 0, zeroM 3)) from by rw [HDR.out]; exact HRH.out)
          have w1 : wrap64 3 = 3 := IntWalk.wrap64_in _ (by omega)
          simp only [show ((3 : Nat) : Int) = 3 from rfl, w1]
          go_loopw [9, 10, 11, 12] (fun a u i _ wr => ∃ (j at' G cp : Nat) (us : List Nat), a = .int .i64 (at' : Nat) ∧ u = .slice (some ⟨G, 0, none⟩) us.length cp ∧ i = .int .i64 (j : Nat) ∧ us.length = j ∧ j ≤ 1 ∧ at' ≤ N ∧ readM (k :: t) = fin (rowR (([.n 2] : List Fl).drop j ++ [.t 8, .t 9]) ((k :: t).drop at', 0, mN [.n 2] us (zeroM 3))) ∧ wr.ownsRow (E + 1 + 1 + 1 + 1 + 1 + 1 + 1) 23 1 (.slice (some ⟨G, 0, none⟩) us.length cp) us.length (U64 us) ∧ Only (fun q => E + 7 ≤ q) Z wr ∧ ∀ i, us.getD i 0 < 256 ^ (([4] : List Nat).getD i 0)) (fun _ _ i _ _ => 1 - (Lib.intOf i).toNat)
          case atStart => exact ⟨0, 4, _, _, [], rfl, rfl, rfl, rfl, Nat.zero_le _, HN4.out, HR0.out, HOW.out, Only.refl _ _, fun i => by rw [List.getD_nil]; exact Nat.pow_pos (by decide)⟩
          case round =>
            obtain ⟨j, at', G, cp, us, rfl, rfl, rfl, hus, hj, hat, hrd, how, ho, hbd⟩ := hrel
            have BD := Lib.hid hbd
            have AT := Lib.hid hat
            have RD := Lib.hid hrd
            have OW := Lib.hid how
            have HO := Lib.hid ho
            have RS := Lib.hid (MsgAt.keep HRS.out ho (by have := HPE2.out; omega))
            have NO := Lib.hid (MsgAt.keep HNO.out ho (by have := HPE2.out; omega))
            have SL := Lib.hid (Sl.keep HSL.out ho (fun q h h' => by have := HPE2.out; have := HSP.out q h; omega))
            have TBr := Lib.hid (Tabs.keep HTB.out ho (fun q h h' => by omega))
            have OO := Lib.hid (show Only (fun q => w.heap.size ≤ q) w wr from (O.out.mono fun _ h => h.elim).trans (ho.mono fun q h => by have := HPE2.out; rw [← HPE.out]; omega))
            have c5 : wr.cell? ⟨E + 1 + 1 + 1 + 1 + 1, 3, none⟩ = some (.slice (some ⟨E + 1 + 1 + 1, 0, none⟩) 1 1) := cell_of TBr.out.b5
            have LN := HLN.out
            clear hat hrd how ho hbd
            by_cases hj0 : j = 0
            · subst hj0
              obtain rfl := (List.length_eq_zero_iff.1 hus)
              clear hus hj
              have ck : wr.cell? ⟨E + 1 + 1 + 1, 0, none⟩ = some (.int .i64 4) := cell_of TBr.out.b3
              have wa : wrap64 ((at' : Int) + 4) = (at' : Int) + 4 := wrapA (Nat.le_trans AT.out LN) 4 (by decide) (by decide)
              by_cases hs : N < at' + 4
              · have k1 : ((N : Int) < (at' : Int) + 4) = True := eq_true (by omega)
                have HV := Lib.hid (show readM (k :: t) = (4, zeroM 0) from by
                  rw [RD.out]
                  exact num_short (.inl ⟨_, rfl, rfl⟩) _ _ _ (by rw [List.length_drop, ← HNE.out]; omega))
                clear hs
                go_wp2_with (first
                  | (refine wpList_store_row rfl 61 (.tmp 2) (.tmp 78) rfl P (zeroM 0).row rfl rfl 61 _ RS.out (info61w (zeroM 0)) (size61w (zeroM 0) (zeroM 0)) (one61w (zeroM 0)) ?_)
                  | (refine wpList_load_row rfl 61 (.tmp 4) rfl (P + 1) rfl 61 (zeroM 0).row (0, 0) _ NO.out Try.underlying61 rfl (info61w (zeroM 0)) ?_))
                exact bodyPost_ret (trB.res2 Try.results65 _ _ P 61 (zeroM 0).row (0, 0) _ rfl (setRow_heap _ _ _ _ _ _ RS.out) Try.underlying61 rfl (info61w (zeroM 0))) rfl ⟨by rw [HV.out]; rfl, Only.old (only_roww OO.out _ (by rw [HPE.out]; exact Nat.le_refl _))⟩
              · have k1 : ((N : Int) < (at' : Int) + 4) = False := eq_false (by omega)
                have HS := Lib.hid hs
                have b1 : (0 : Int) ≤ (at' : Int) + 4 := by omega
                have b2 : (at' : Int) + 4 ≤ (cap : Int) := by have := HCP.out; omega
                have b3 : (cap = at') = False := eq_false (by have := HCP.out; omega)
                have b4 : (at' : Int) ≤ (at' : Int) + 4 := by omega
                have hlen : (((k :: t).drop at').take 4).length = 4 := by rw [List.length_take, List.length_drop, ← HNE.out]; omega
                obtain ⟨bs, hbs⟩ : ∃ bs, bs = ((k :: t).drop at').take 4 := ⟨_, rfl⟩
                have CV := Lib.hid (show Calls Try.prog 127 #[.slice (some ⟨g, q + at', none⟩) 4 (cap - at')] wr (numA.Told wr (.int .u64 (vb bs : Nat))) from by
                  have h := value_any (some ⟨g, q + at', none⟩) (cap - at') bs S wr (by rw [hbs, hlen]; exact sl_sub SL.out (by rw [← HNE.out]; omega) _) (by rw [hbs, hlen]; decide)
                  rw [hbs, hlen] at h
                  rw [hbs]
                  exact h)
                have RN := Lib.hid (show readM (k :: t) = fin (rowR (([.n 2] : List Fl).drop 1 ++ [.t 8, .t 9]) ((k :: t).drop (at' + 4), 0, mN [.n 2] ([] ++ [vb bs]) (zeroM 3))) from by
                  rw [RD.out, hbs]
                  show fin (rowR (.n 2 :: _) _) = _
                  rw [num_ok (.inl ⟨_, rfl, rfl⟩) _ _ _ (by rw [List.length_drop, ← HNE.out]; omega), List.drop_drop]
                  rfl)
                obtain ⟨u, hu⟩ : ∃ u, u = vb bs := ⟨_, rfl⟩
                have hub : u < 256 ^ 4 := by rw [hu]; have h := vb_lt bs; rw [hbs] at h ⊢; rw [hlen] at h; exact h
                have BN := Lib.hid (show ∀ i, ([] ++ [u] : List Nat).getD i 0 < 256 ^ (([4] : List Nat).getD i 0) from by
                  intro i
                  rcases i with _ | _ | i
                  · first | exact hub | exact BD.out 0
                  · first | exact hub | exact Nat.pow_pos (by decide)
                  · exact Nat.pow_pos (by decide))
                rw [← hu] at CV RN
                clear hs hlen hbs hu hub
                go_wp2_with fail
                (with_reducible refine CV.out.mono ?_)
                rintro e W2 ⟨rfl, o⟩
                have HO2 := Lib.hid (HO.out.trans (o.mono fun _ h => h.elim))
                obtain ⟨G2, cp2, W3, hap, own2, on2⟩ := putn (trC.owns_keep OW.out o) (by have := HEZ.out; have := HO2.out.size; omega) (by simp) u
                have HAP := Lib.hid hap
                have OW2 := Lib.hid own2
                have HO3 := Lib.hid (show Only (fun q => E + 7 ≤ q) Z W3 from on2 Z HO2.out)
                clear o hap own2 on2 b1 b2 b3 b4 c5 ck
                go_wp2_with (at_builtin; refine Lib.wpList_append_run _ rfl (.tmp 79) (.tmp 87) 170 170 rfl _ _ rfl rfl _ _ HAP.out ?_)
                go_roundw
                case rel => exact ⟨1, at' + 4, G2, cp2, [] ++ [u], by first | rfl | (rw [wa]; rfl), rfl, rfl, rfl, by decide, by have := HS.out; omega, RN.out, OW2.out, HO3.out, BN.out⟩
                case measure => first | (simp only [Lib.intOf]; omega) | (simp only [Lib.intOf]; decide) | simp [Lib.intOf]
            obtain rfl : j = 1 := by omega
            obtain ⟨u0, rfl⟩ := List.length_eq_one_iff.1 hus
            clear hj hus
            simp only [show ([u0] : List Nat).length = 1 from rfl, show ((1 : Nat) : Int) = 1 from rfl]
            obtain ⟨M0, hM0⟩ : ∃ m, m = mN [.n 2] [u0] (zeroM 3) := ⟨_, rfl⟩
            have RD0 := Lib.hid (show readM (k :: t) = fin (rowR ((([8, 9] : List Nat).drop 0).map Fl.t) ((k :: t).drop at', 0, mT [8, 9] [] M0)) from by rw [RD.out, ← hM0]; rfl)
            have HM0 := Lib.hid hM0
            clear hM0
            go_upto_region 28 with fail
            clear c5
            obtain ⟨E2, hE2⟩ : ∃ E, E = wr.heap.size := ⟨_, rfl⟩
            obtain ⟨Z2, hZ2⟩ : ∃ Z, Z = wr.alloc (.cells #[] 9) := ⟨_, rfl⟩
            have o2 : Only (fun _ => False) wr Z2 := by rw [hZ2]; exact (Only.refl _ _).alloc _
            have OW3 := Lib.hid (show Z2.ownsRow E2 9 1 (.slice (some ⟨E2, 0, none⟩) 0 0) 0 (([] : List Txt).map sv) from by rw [hZ2, hE2]; exact own_txt0 wr)
            have HE2 := Lib.hid (show E2 < Z2.heap.size ∧ E + 7 ≤ E2 from by
              refine ⟨by rw [hZ2, World.size_alloc, hE2]; omega, ?_⟩
              rw [hE2]
              have := HO.out.size
              have := HEZ.out
              omega)
            rw [← hZ2, ← hE2]
            have NR := Lib.hid (trC.owns_keep OW.out o2)
            have NRL := Lib.hid (show ∀ q, (Value.slice (some ⟨G, 0, none⟩) 1 cp).ownBlock = some q → q < E2 from by
              intro q hq
              rw [hE2]
              exact (OW.out.lt q hq).2)
            replace RS := Lib.hid (MsgAt.keep RS.out o2 id)
            replace NO := Lib.hid (MsgAt.keep NO.out o2 id)
            replace SL := Lib.hid (Sl.keep SL.out o2 (fun _ _ h => h))
            replace TBr := Lib.hid (Tabs.keep TBr.out o2 (fun _ _ h => h))
            replace OO := Lib.hid (OO.out.trans (o2.mono fun _ h => h.elim))
            clear o2 hE2 hZ2
            go_loopw [9, 13, 14, 15, 16] (fun a u i _ _ wr => ∃ (j a2 G3 cp3 : Nat) (ts : List Txt), a = .int .i64 (a2 : Nat) ∧ u = .slice (some ⟨G3, 0, none⟩) ts.length cp3 ∧ i = .int .i64 (j : Nat) ∧ ts.length = j ∧ j ≤ 2 ∧ a2 ≤ N ∧ readM (k :: t) = fin (rowR ((([8, 9] : List Nat).drop j).map Fl.t) ((k :: t).drop a2, 0, mT [8, 9] ts M0)) ∧ wr.ownsRow E2 9 1 (.slice (some ⟨G3, 0, none⟩) ts.length cp3) ts.length (ts.map sv) ∧ Only (fun q => E2 ≤ q) Z2 wr) (fun _ _ i _ _ _ => 2 - (Lib.intOf i).toNat)
            case atStart => exact ⟨0, at', E2, 0, [], rfl, rfl, rfl, rfl, Nat.zero_le _, AT.out, RD0.out, OW3.out, Only.refl _ _⟩
            case round =>
              obtain ⟨j, a2, G3, cp3, ts, rfl, rfl, rfl, hts, hj, hat, hrd, how, ho⟩ := hrel
              have A2 := Lib.hid hat
              have R2 := Lib.hid hrd
              have W2 := Lib.hid how
              have H2 := Lib.hid ho
              have HTS := Lib.hid hts
              replace RS := Lib.hid (MsgAt.keep RS.out ho (by have := HPE2.out; have := HE2.out; omega))
              replace NO := Lib.hid (MsgAt.keep NO.out ho (by have := HPE2.out; have := HE2.out; omega))
              replace SL := Lib.hid (Sl.keep SL.out ho (fun q h h' => by have := HPE2.out; have := HE2.out; have := HSP.out q h; omega))
              replace TBr := Lib.hid (Tabs.keep TBr.out ho (fun q h h' => by have := HE2.out; omega))
              replace OO := Lib.hid (OO.out.trans (ho.mono fun q h => by have := HPE2.out; have := HE2.out; have := HPE.out; omega))
              have c6 : wr.cell? ⟨E + 1 + 1 + 1 + 1 + 1 + 1, 3, none⟩ = some (.int .i64 2) := cell_of TBr.out.b6
              clear hat hrd how ho
              by_cases hj3 : j < 2
              · have k0 : ((j : Int) < 2) = True := eq_true (by omega)
                have wj : wrap64 ((j : Int) + 1) = (j : Int) + 1 := IntWalk.wrap64_in _ (by omega)
                have wa : wrap64 ((a2 : Int) + 2) = (a2 : Int) + 2 := wrapA (Nat.le_trans A2.out LN) 2 (by decide) (by decide)
                have HJ := Lib.hid hj3
                rw [drop_map [8, 9] j hj3] at R2
                clear hj hj3 hts
                by_cases hs : N < a2 + 2
                · have k1 : ((N : Int) < (a2 : Int) + 2) = True := eq_true (by omega)
                  have HV := Lib.hid (show readM (k :: t) = (4, zeroM 0) from by
                    rw [R2.out]
                    exact txt_short _ _ _ _ (.inl (by rw [List.length_drop, ← HNE.out]; omega)))
                  clear hs
                  go_wp2_with (first
                    | (refine wpList_store_row rfl 61 (.tmp 2) (.tmp 106) rfl P (zeroM 0).row rfl rfl 61 _ RS.out (info61w (zeroM 0)) (size61w (zeroM 0) (zeroM 0)) (one61w (zeroM 0)) ?_)
                    | (refine wpList_load_row rfl 61 (.tmp 4) rfl (P + 1) rfl 61 (zeroM 0).row (0, 0) _ NO.out Try.underlying61 rfl (info61w (zeroM 0)) ?_))
                  exact bodyPost_ret (trB.res2 Try.results65 _ _ P 61 (zeroM 0).row (0, 0) _ rfl (setRow_heap _ _ _ _ _ _ RS.out) Try.underlying61 rfl (info61w (zeroM 0))) rfl ⟨by rw [HV.out]; rfl, Only.old (only_roww OO.out _ (by rw [HPE.out]; exact Nat.le_refl _))⟩
                · have k1 : ((N : Int) < (a2 : Int) + 2) = False := eq_false (by omega)
                  have HS := Lib.hid hs
                  have b1 : (0 : Int) ≤ (a2 : Int) + 2 := by omega
                  have b2 : (a2 : Int) + 2 ≤ (cap : Int) := by have := HCP.out; omega
                  have b3 : (cap = a2) = False := eq_false (by have := HCP.out; omega)
                  have b4 : (a2 : Int) ≤ (a2 : Int) + 2 := by omega
                  have hlen : (((k :: t).drop a2).take 2).length = 2 := by rw [List.length_take, List.length_drop, ← HNE.out]; omega
                  obtain ⟨u, hu⟩ : ∃ u, u = vb (((k :: t).drop a2).take 2) := ⟨_, rfl⟩
                  have hu2 : u ≤ 65535 := by rw [hu]; exact vb_two _
                  have CV := Lib.hid (show Calls Try.prog 127 #[.slice (some ⟨g, q + a2, none⟩) 2 (cap - a2)] wr (numA.Told wr (.int .u64 (u : Nat))) from by
                    have h := value_any (some ⟨g, q + a2, none⟩) (cap - a2) (((k :: t).drop a2).take 2) S wr (by rw [hlen]; exact sl_sub SL.out (by rw [← HNE.out]; omega) _) (by rw [hlen]; decide)
                    rw [hlen, ← hu] at h
                    exact h)
                  have HU := Lib.hid hu
                  have HU2 := Lib.hid hu2
                  have wu : wrap64 (u : Int) = (u : Int) := wrapU hu2
                  have wb : wrap64 ((a2 : Int) + 2 + (u : Int)) = (a2 : Int) + 2 + (u : Int) := wrapB (Nat.le_trans A2.out LN) hu2
                  clear hs hlen hu hu2
                  go_wp2_with fail
                  (with_reducible refine CV.out.mono ?_)
                  rintro e V1 ⟨rfl, o⟩
                  clear b1 b2 b3 b4 c6
                  replace RS := Lib.hid (MsgAt.keep RS.out o id)
                  replace NO := Lib.hid (MsgAt.keep NO.out o id)
                  replace SL := Lib.hid (Sl.keep SL.out o (fun _ _ h => h))
                  replace OO := Lib.hid (OO.out.trans (o.mono fun _ h => h.elim))
                  replace W2 := Lib.hid (trC.owns_keep W2.out o)
                  replace H2 := Lib.hid (H2.out.trans (o.mono fun _ h => h.elim))
                  clear o
                  by_cases hs : N < a2 + 2 + u
                  · have k2 : ((N : Int) < (a2 : Int) + 2 + (u : Int)) = True := eq_true (by omega)
                    have HV := Lib.hid (show readM (k :: t) = (4, zeroM 0) from by
                      rw [R2.out]
                      exact txt_short _ _ _ _ (.inr (by rw [← HU.out, List.length_drop, ← HNE.out]; omega)))
                    clear hs
                    go_wp2_with (first
                      | (refine wpList_store_row rfl 61 (.tmp 2) (.tmp 122) rfl P (zeroM 0).row rfl rfl 61 _ RS.out (info61w (zeroM 0)) (size61w (zeroM 0) (zeroM 0)) (one61w (zeroM 0)) ?_)
                      | (refine wpList_load_row rfl 61 (.tmp 4) rfl (P + 1) rfl 61 (zeroM 0).row (0, 0) _ NO.out Try.underlying61 rfl (info61w (zeroM 0)) ?_))
                    exact bodyPost_ret (trB.res2 Try.results65 _ _ P 61 (zeroM 0).row (0, 0) _ rfl (setRow_heap _ _ _ _ _ _ RS.out) Try.underlying61 rfl (info61w (zeroM 0))) rfl ⟨by rw [HV.out]; rfl, Only.old (only_roww OO.out _ (by rw [HPE.out]; exact Nat.le_refl _))⟩
                  · have k2 : ((N : Int) < (a2 : Int) + 2 + (u : Int)) = False := eq_false (by omega)
                    have HS2 := Lib.hid hs
                    have b1 : (0 : Int) ≤ (a2 : Int) + 2 + (u : Int) := by omega
                    have b2 : (a2 : Int) + 2 + (u : Int) ≤ (cap : Int) := by have := HCP.out; omega
                    have b4 : (a2 : Int) + 2 ≤ (a2 : Int) + 2 + (u : Int) := by omega
                    have b5 : (0 : Int) ≤ (a2 : Int) + 2 := by omega
                    obtain ⟨x, hx⟩ : ∃ x : ByteArray, x = ⟨(((k :: t).drop (a2 + 2)).take u).toArray⟩ := ⟨_, rfl⟩
                    have hxd : x.data.toList = (((k :: t).drop a2).drop 2).take u := by rw [hx, List.drop_drop]
                    have hxl : x.data.toList.length = u := by rw [hxd, List.length_take, List.length_drop, List.length_drop, ← HNE.out]; omega
                    have hxs : x.size ≤ 65535 := by rw [← tl_size, hxl]; exact HU2.out
                    have CI := Lib.hid (fun W => (show Calls Try.prog 39 #[.string x] W (numA.Told W (.bool (isT x.data.toList))) from trJ.is_any x W (Nat.le_trans hxs (by decide))))
                    obtain ⟨b, hb⟩ : ∃ b, b = isT x.data.toList := ⟨_, rfl⟩
                    rw [← hb] at CI
                    have HXD := Lib.hid hxd
                    have HXB := Lib.hid hb
                    have cv1 : (convert 24 9 (.slice (some ⟨g, q + (a2 + 2), none⟩) u (cap - (a2 + 2)))).run Try.prog V1 = .ok (.string x) V1 := by
                      have h := conv_lst (sl_sub SL.out (a := a2 + 2) (m := u) (by rw [← HNE.out]; omega) (cap - (a2 + 2)))
                      rw [hx]
                      exact h
                    have cv2 : u = 0 → ∀ (a : Option Addr) (c : Nat), (convert 24 9 (.slice a u c)).run Try.prog V1 = .ok (.string x) V1 := by
                      intro h0 a c
                      have h := conv_lst (w := V1) (S := fun _ => True) (v := .slice a 0 c) (xs := []) ⟨Nat.zero_le _, a, c, rfl, .inl rfl⟩
                      rw [hx]
                      simp only [h0]
                      exact h
                    have ct : ((a2 : Int) + 2).toNat = a2 + 2 := by omega
                    clear hs hx hxd hxl hxs hb
                    by_cases hc : cap = a2 + 2
                    · have hu0 : u = 0 := by have := HCP.out; have := HS2.out; omega
                      have ce : (cap = a2 + 2) = True := eq_true hc
                      replace cv2 := cv2 hu0
                      clear hc hu0
                      go_wp2_with fail
                      (with_reducible refine (CI.out _).mono ?_)
                      rintro e V2 ⟨rfl, o⟩
                      clear cv1 b1 b2 b4 b5
                      replace RS := Lib.hid (MsgAt.keep RS.out o id)
                      replace NO := Lib.hid (MsgAt.keep NO.out o id)
                      replace OO := Lib.hid (OO.out.trans (o.mono fun _ h => h.elim))
                      replace W2 := Lib.hid (trC.owns_keep W2.out o)
                      replace H2 := Lib.hid (H2.out.trans (o.mono fun _ h => h.elim))
                      clear o
                      cases b
                      · have HV := Lib.hid (show readM (k :: t) = (3, zeroM 0) from by
                          rw [R2.out]
                          exact txt_bad _ _ _ _ (by rw [List.length_drop, ← HNE.out]; have := HS.out; omega) (by rw [← HU.out, List.length_drop, ← HNE.out]; have := HS2.out; omega) (by rw [← HU.out, ← HXD.out]; exact HXB.out.symm))
                        go_wp2_with (first
                          | (refine wpList_store_row rfl 61 (.tmp 2) (.tmp 133) rfl P (zeroM 0).row rfl rfl 61 _ RS.out (info61w (zeroM 0)) (size61w (zeroM 0) (zeroM 0)) (one61w (zeroM 0)) ?_)
                          | (refine wpList_load_row rfl 61 (.tmp 4) rfl (P + 1) rfl 61 (zeroM 0).row (0, 0) _ NO.out Try.underlying61 rfl (info61w (zeroM 0)) ?_))
                        exact bodyPost_ret (trB.res2 Try.results65 _ _ P 61 (zeroM 0).row (0, 0) _ rfl (setRow_heap _ _ _ _ _ _ RS.out) Try.underlying61 rfl (info61w (zeroM 0))) rfl ⟨by rw [HV.out]; rfl, Only.old (only_roww OO.out _ (by rw [HPE.out]; exact Nat.le_refl _))⟩
                      · have RN := Lib.hid (show readM (k :: t) = fin (rowR ((([8, 9] : List Nat).drop (j + 1)).map Fl.t) ((k :: t).drop (a2 + 2 + u), 0, mT [8, 9] (ts ++ [x.data.toList]) M0)) from by
                          have h := txt_ok (([8, 9] : List Nat).getD j 0) ((([8, 9] : List Nat).drop (j + 1)).map Fl.t) ((k :: t).drop a2) (mT [8, 9] ts M0) (by rw [List.length_drop, ← HNE.out]; have := HS.out; omega) (by rw [← HU.out, List.length_drop, ← HNE.out]; have := HS2.out; omega) (by rw [← HU.out, ← HXD.out]; exact HXB.out.symm)
                          rw [R2.out, h, ← HU.out, ← HXD.out, List.drop_drop, mT_snoc _ _ _ _ (by rw [HTS.out]; exact HJ.out), HTS.out, Nat.add_assoc])
                        obtain ⟨G4, cp4, V3, hap, own4, on4⟩ := put1 W2.out (by have := HE2.out; have := H2.out.size; omega) (by rw [HTS.out]; have := HJ.out; omega) x
                        have HAP := Lib.hid hap
                        have OW4 := Lib.hid own4
                        have H4 := Lib.hid (on4 Z2 H2.out)
                        have HLE := Lib.hid (show a2 + 2 + u ≤ N from by have := HS2.out; omega)
                        clear hap own4 on4
                        go_wp2_with (at_builtin; refine Lib.wpList_append_run _ rfl (.tmp 134) (.tmp 136) 25 25 rfl _ _ rfl rfl _ _ HAP.out ?_)
                        go_roundw
                        case rel => exact ⟨j + 1, a2 + 2 + u, G4, cp4, ts ++ [x.data.toList], by first | rfl | (rw [wb]; rfl), by rw [List.length_append]; rfl, by first | rfl | (rw [wj]; rfl), by rw [List.length_append, HTS.out]; rfl, HJ.out, HLE.out, RN.out, by rw [List.length_append]; exact OW4.out, H4.out⟩
                        case measure =>
                          have := HJ.out
                          try rw [wj]
                          simp only [Lib.intOf]
                          omega
                    · have ce : (cap = a2 + 2) = False := eq_false hc
                      clear cv2
                      go_wp2_with fail
                      (with_reducible refine (CI.out _).mono ?_)
                      rintro e V2 ⟨rfl, o⟩
                      clear cv1 b1 b2 b4 b5
                      replace RS := Lib.hid (MsgAt.keep RS.out o id)
                      replace NO := Lib.hid (MsgAt.keep NO.out o id)
                      replace OO := Lib.hid (OO.out.trans (o.mono fun _ h => h.elim))
                      replace W2 := Lib.hid (trC.owns_keep W2.out o)
                      replace H2 := Lib.hid (H2.out.trans (o.mono fun _ h => h.elim))
                      clear o
                      cases b
                      · have HV := Lib.hid (show readM (k :: t) = (3, zeroM 0) from by
                          rw [R2.out]
                          exact txt_bad _ _ _ _ (by rw [List.length_drop, ← HNE.out]; have := HS.out; omega) (by rw [← HU.out, List.length_drop, ← HNE.out]; have := HS2.out; omega) (by rw [← HU.out, ← HXD.out]; exact HXB.out.symm))
                        go_wp2_with (first
                          | (refine wpList_store_row rfl 61 (.tmp 2) (.tmp 133) rfl P (zeroM 0).row rfl rfl 61 _ RS.out (info61w (zeroM 0)) (size61w (zeroM 0) (zeroM 0)) (one61w (zeroM 0)) ?_)
                          | (refine wpList_load_row rfl 61 (.tmp 4) rfl (P + 1) rfl 61 (zeroM 0).row (0, 0) _ NO.out Try.underlying61 rfl (info61w (zeroM 0)) ?_))
                        exact bodyPost_ret (trB.res2 Try.results65 _ _ P 61 (zeroM 0).row (0, 0) _ rfl (setRow_heap _ _ _ _ _ _ RS.out) Try.underlying61 rfl (info61w (zeroM 0))) rfl ⟨by rw [HV.out]; rfl, Only.old (only_roww OO.out _ (by rw [HPE.out]; exact Nat.le_refl _))⟩
                      · have RN := Lib.hid (show readM (k :: t) = fin (rowR ((([8, 9] : List Nat).drop (j + 1)).map Fl.t) ((k :: t).drop (a2 + 2 + u), 0, mT [8, 9] (ts ++ [x.data.toList]) M0)) from by
                          have h := txt_ok (([8, 9] : List Nat).getD j 0) ((([8, 9] : List Nat).drop (j + 1)).map Fl.t) ((k :: t).drop a2) (mT [8, 9] ts M0) (by rw [List.length_drop, ← HNE.out]; have := HS.out; omega) (by rw [← HU.out, List.length_drop, ← HNE.out]; have := HS2.out; omega) (by rw [← HU.out, ← HXD.out]; exact HXB.out.symm)
                          rw [R2.out, h, ← HU.out, ← HXD.out, List.drop_drop, mT_snoc _ _ _ _ (by rw [HTS.out]; exact HJ.out), HTS.out, Nat.add_assoc])
                        obtain ⟨G4, cp4, V3, hap, own4, on4⟩ := put1 W2.out (by have := HE2.out; have := H2.out.size; omega) (by rw [HTS.out]; have := HJ.out; omega) x
                        have HAP := Lib.hid hap
                        have OW4 := Lib.hid own4
                        have H4 := Lib.hid (on4 Z2 H2.out)
                        have HLE := Lib.hid (show a2 + 2 + u ≤ N from by have := HS2.out; omega)
                        clear hap own4 on4
                        go_wp2_with (at_builtin; refine Lib.wpList_append_run _ rfl (.tmp 134) (.tmp 136) 25 25 rfl _ _ rfl rfl _ _ HAP.out ?_)
                        go_roundw
                        case rel => exact ⟨j + 1, a2 + 2 + u, G4, cp4, ts ++ [x.data.toList], by first | rfl | (rw [wb]; rfl), by rw [List.length_append]; rfl, by first | rfl | (rw [wj]; rfl), by rw [List.length_append, HTS.out]; rfl, HJ.out, HLE.out, RN.out, by rw [List.length_append]; exact OW4.out, H4.out⟩
                        case measure =>
                          have := HJ.out
                          try rw [wj]
                          simp only [Lib.intOf]
                          omega
              · obtain rfl : j = 2 := by omega
                clear hj3 hj
                have RE := Lib.hid (show readM (k :: t) = fin ((k :: t).drop a2, 0, mT [8, 9] ts M0) from R2.out)
                by_cases hs : a2 = N
                · have k1 : ((a2 : Int) != (N : Int)) = false := by rw [bne_eq_false_iff_eq]; omega
                  have HV := Lib.hid (show readM (k :: t) = (0, mT [8, 9] ts M0) from by
                    rw [RE.out]
                    exact fin_ok rfl (List.drop_of_length_le (by rw [← HNE.out]; omega)))
                  clear hs
                  have NK := Lib.hid (own_keepT NR.out H2.out (fun q h h' => by have := NRL.out q h; omega))
                  obtain ⟨G5, cp5, V5, hap, own5, on5, on6⟩ := putn2x NK.out (by have := HE2.out; have := H2.out.size; omega) (by simp) 0
                  simp only [show ((0 : Nat) : Int) = 0 from rfl] at hap
                  have HAP := Lib.hid hap
                  have OW5 := Lib.hid own5
                  have O5 := Lib.hid (on6 (fun q => q = G) wr (Only.refl _ _) (fun q hq => by simp [Value.ownBlock] at hq; exact hq.symm))
                  clear hap own5 on5 on6
                  go_upto_region 44 with (at_builtin; refine Lib.wpList_append_run _ rfl (.tmp 146) (.tmp 147) 170 170 rfl _ _ rfl rfl _ _ HAP.out ?_)
                  have hGl := (OW.out.lt G rfl).1
                  have hG5 := (OW5.out.lt G5 rfl).1
                  have hG3 := (W2.out.lt G3 rfl).1
                  have hG2 := NRL.out G rfl
                  have hp1 := HPE2.out
                  have hp2 := HPE.out
                  have hp3 := HE2.out
                  have T5 := own_keepT W2.out O5.out (fun q h h' => by have := (W2.out.lt q h).1; omega)
                  have hTS := HTS.out
                  have CW := Lib.hid (fun W (o : Only (fun _ => False) V5 W) => fin_3 u0 ts hTS W G3 cp3 (trC.owns_keep T5 o))
                  have hM := HM0.out
                  have NC := Lib.hid (fun W (o : Only (fun q => q = P) V5 W) => cells_1 u0 (own_keepT OW5.out o (fun q h h' => by have := (OW5.out.lt q h).1; omega)))
                  replace RS := Lib.hid (MsgAt.keep RS.out O5.out (by omega))
                  replace NO := Lib.hid (MsgAt.keep NO.out O5.out (by omega))
                  replace OO := Lib.hid (OO.out.trans (O5.out.mono fun q h => by omega))
                  obtain ⟨M, hMM⟩ : ∃ M, M = mT [8, 9] ts M0 := ⟨_, rfl⟩
                  rw [← hM, ← hMM] at CW
                  rw [← hMM] at HV
                  have wu0 : IntKind.u32.wrap ((u0 : Nat) : Int) = (u0 : Int) := wrap32 (BD.out 0)
                  clear hGl hG5 hG3 hG2 hp1 hp2 hp3 T5 hTS hM hMM
                  have c0 := NC.out V5 (Only.refl _ _)
                  go_wp2_with fail
                  (with_reducible refine (CW.out _ (Only.refl _ _)).mono ?_)
                  rintro e V6 ⟨rfl, o⟩
                  have R := Lib.hid o
                  clear o c0
                  go_wp2_with (refine wpList_store_row rfl 61 (.tmp 2) (.tmp 177) rfl P M.row rfl rfl 61 _ (MsgAt.keep RS.out R.out id) (info61w _) (size61w (zeroM 0) _) (one61w _) ?_)
                  exact bodyPost_ret (trB.res2 Try.results65 _ _ P 61 M.row (0, 0) _ rfl (setRow_heap _ _ _ _ _ _ (MsgAt.keep RS.out R.out id)) Try.underlying61 rfl (info61w _)) rfl ⟨by rw [HV.out]; rfl, Only.old (only_roww (OO.out.trans (R.out.mono fun _ h => h.elim)) _ (by rw [HPE.out]; exact Nat.le_refl _))⟩
                · have k1 : ((a2 : Int) != (N : Int)) = true := by rw [bne_iff_ne]; omega
                  have HV := Lib.hid (show readM (k :: t) = (5, zeroM 0) from by
                    rw [RE.out]
                    refine fin_left rfl ?_
                    intro h
                    have h2 := congrArg List.length h
                    rw [List.length_drop, ← HNE.out] at h2
                    have := A2.out
                    simp at h2
                    omega)
                  clear hs
                  go_wp2_with (first
                    | (refine wpList_store_row rfl 61 (.tmp 2) (.tmp 145) rfl P (zeroM 0).row rfl rfl 61 _ RS.out (info61w (zeroM 0)) (size61w (zeroM 0) (zeroM 0)) (one61w (zeroM 0)) ?_)
                    | (refine wpList_load_row rfl 61 (.tmp 4) rfl (P + 1) rfl 61 (zeroM 0).row (0, 0) _ NO.out Try.underlying61 rfl (info61w (zeroM 0)) ?_))
                  exact bodyPost_ret (trB.res2 Try.results65 _ _ P 61 (zeroM 0).row (0, 0) _ rfl (setRow_heap _ _ _ _ _ _ RS.out) Try.underlying61 rfl (info61w (zeroM 0))) rfl ⟨by rw [HV.out]; rfl, Only.old (only_roww OO.out _ (by rw [HPE.out]; exact Nat.le_refl _))⟩
        · have HR0 := Lib.hid (show readM (k :: t) = fin (rowR ([.n 2, .c] ++ [.t 10]) ((k :: t).drop 4, 0, zeroM 4)) from by rw [HDR.out]; exact HRH.out)
          have w1 : wrap64 4 = 4 := IntWalk.wrap64_in _ (by omega)
          simp only [show ((4 : Nat) : Int) = 4 from rfl, w1]
          go_loopw [9, 10, 11, 12] (fun a u i _ wr => ∃ (j at' G cp : Nat) (us : List Nat), a = .int .i64 (at' : Nat) ∧ u = .slice (some ⟨G, 0, none⟩) us.length cp ∧ i = .int .i64 (j : Nat) ∧ us.length = j ∧ j ≤ 2 ∧ at' ≤ N ∧ readM (k :: t) = fin (rowR (([.n 2, .c] : List Fl).drop j ++ [.t 10]) ((k :: t).drop at', 0, mN [.n 2, .c] us (zeroM 4))) ∧ wr.ownsRow (E + 1 + 1 + 1 + 1 + 1 + 1 + 1) 23 1 (.slice (some ⟨G, 0, none⟩) us.length cp) us.length (U64 us) ∧ Only (fun q => E + 7 ≤ q) Z wr ∧ ∀ i, us.getD i 0 < 256 ^ (([4, 8] : List Nat).getD i 0)) (fun _ _ i _ _ => 2 - (Lib.intOf i).toNat)
          case atStart => exact ⟨0, 4, _, _, [], rfl, rfl, rfl, rfl, Nat.zero_le _, HN4.out, HR0.out, HOW.out, Only.refl _ _, fun i => by rw [List.getD_nil]; exact Nat.pow_pos (by decide)⟩
          case round =>
            obtain ⟨j, at', G, cp, us, rfl, rfl, rfl, hus, hj, hat, hrd, how, ho, hbd⟩ := hrel
            have BD := Lib.hid hbd
            have AT := Lib.hid hat
            have RD := Lib.hid hrd
            have OW := Lib.hid how
            have HO := Lib.hid ho
            have RS := Lib.hid (MsgAt.keep HRS.out ho (by have := HPE2.out; omega))
            have NO := Lib.hid (MsgAt.keep HNO.out ho (by have := HPE2.out; omega))
            have SL := Lib.hid (Sl.keep HSL.out ho (fun q h h' => by have := HPE2.out; have := HSP.out q h; omega))
            have TBr := Lib.hid (Tabs.keep HTB.out ho (fun q h h' => by omega))
            have OO := Lib.hid (show Only (fun q => w.heap.size ≤ q) w wr from (O.out.mono fun _ h => h.elim).trans (ho.mono fun q h => by have := HPE2.out; rw [← HPE.out]; omega))
            have c5 : wr.cell? ⟨E + 1 + 1 + 1 + 1 + 1, 4, none⟩ = some (.slice (some ⟨E + 1 + 1 + 1 + 1, 0, none⟩) 2 2) := cell_of TBr.out.b5
            have LN := HLN.out
            clear hat hrd how ho hbd
            by_cases hj0 : j = 0
            · subst hj0
              obtain rfl := (List.length_eq_zero_iff.1 hus)
              clear hus hj
              have ck : wr.cell? ⟨E + 1 + 1 + 1 + 1, 0, none⟩ = some (.int .i64 4) := cell_of TBr.out.b4
              have wa : wrap64 ((at' : Int) + 4) = (at' : Int) + 4 := wrapA (Nat.le_trans AT.out LN) 4 (by decide) (by decide)
              by_cases hs : N < at' + 4
              · have k1 : ((N : Int) < (at' : Int) + 4) = True := eq_true (by omega)
                have HV := Lib.hid (show readM (k :: t) = (4, zeroM 0) from by
                  rw [RD.out]
                  exact num_short (.inl ⟨_, rfl, rfl⟩) _ _ _ (by rw [List.length_drop, ← HNE.out]; omega))
                clear hs
                go_wp2_with (first
                  | (refine wpList_store_row rfl 61 (.tmp 2) (.tmp 78) rfl P (zeroM 0).row rfl rfl 61 _ RS.out (info61w (zeroM 0)) (size61w (zeroM 0) (zeroM 0)) (one61w (zeroM 0)) ?_)
                  | (refine wpList_load_row rfl 61 (.tmp 4) rfl (P + 1) rfl 61 (zeroM 0).row (0, 0) _ NO.out Try.underlying61 rfl (info61w (zeroM 0)) ?_))
                exact bodyPost_ret (trB.res2 Try.results65 _ _ P 61 (zeroM 0).row (0, 0) _ rfl (setRow_heap _ _ _ _ _ _ RS.out) Try.underlying61 rfl (info61w (zeroM 0))) rfl ⟨by rw [HV.out]; rfl, Only.old (only_roww OO.out _ (by rw [HPE.out]; exact Nat.le_refl _))⟩
              · have k1 : ((N : Int) < (at' : Int) + 4) = False := eq_false (by omega)
                have HS := Lib.hid hs
                have b1 : (0 : Int) ≤ (at' : Int) + 4 := by omega
                have b2 : (at' : Int) + 4 ≤ (cap : Int) := by have := HCP.out; omega
                have b3 : (cap = at') = False := eq_false (by have := HCP.out; omega)
                have b4 : (at' : Int) ≤ (at' : Int) + 4 := by omega
                have hlen : (((k :: t).drop at').take 4).length = 4 := by rw [List.length_take, List.length_drop, ← HNE.out]; omega
                obtain ⟨bs, hbs⟩ : ∃ bs, bs = ((k :: t).drop at').take 4 := ⟨_, rfl⟩
                have CV := Lib.hid (show Calls Try.prog 127 #[.slice (some ⟨g, q + at', none⟩) 4 (cap - at')] wr (numA.Told wr (.int .u64 (vb bs : Nat))) from by
                  have h := value_any (some ⟨g, q + at', none⟩) (cap - at') bs S wr (by rw [hbs, hlen]; exact sl_sub SL.out (by rw [← HNE.out]; omega) _) (by rw [hbs, hlen]; decide)
                  rw [hbs, hlen] at h
                  rw [hbs]
                  exact h)
                have RN := Lib.hid (show readM (k :: t) = fin (rowR (([.n 2, .c] : List Fl).drop 1 ++ [.t 10]) ((k :: t).drop (at' + 4), 0, mN [.n 2, .c] ([] ++ [vb bs]) (zeroM 4))) from by
                  rw [RD.out, hbs]
                  show fin (rowR (.n 2 :: _) _) = _
                  rw [num_ok (.inl ⟨_, rfl, rfl⟩) _ _ _ (by rw [List.length_drop, ← HNE.out]; omega), List.drop_drop]
                  rfl)
                obtain ⟨u, hu⟩ : ∃ u, u = vb bs := ⟨_, rfl⟩
                have hub : u < 256 ^ 4 := by rw [hu]; have h := vb_lt bs; rw [hbs] at h ⊢; rw [hlen] at h; exact h
                have BN := Lib.hid (show ∀ i, ([] ++ [u] : List Nat).getD i 0 < 256 ^ (([4, 8] : List Nat).getD i 0) from by
                  intro i
                  rcases i with _ | _ | i
                  · first | exact hub | exact BD.out 0
                  · first | exact hub | exact Nat.pow_pos (by decide)
                  · exact Nat.pow_pos (by decide))
                rw [← hu] at CV RN
                clear hs hlen hbs hu hub
                go_wp2_with fail
                (with_reducible refine CV.out.mono ?_)
                rintro e W2 ⟨rfl, o⟩
                have HO2 := Lib.hid (HO.out.trans (o.mono fun _ h => h.elim))
                obtain ⟨G2, cp2, W3, hap, own2, on2⟩ := putn (trC.owns_keep OW.out o) (by have := HEZ.out; have := HO2.out.size; omega) (by simp) u
                have HAP := Lib.hid hap
                have OW2 := Lib.hid own2
                have HO3 := Lib.hid (show Only (fun q => E + 7 ≤ q) Z W3 from on2 Z HO2.out)
                clear o hap own2 on2 b1 b2 b3 b4 c5 ck
                go_wp2_with (at_builtin; refine Lib.wpList_append_run _ rfl (.tmp 79) (.tmp 87) 170 170 rfl _ _ rfl rfl _ _ HAP.out ?_)
                go_roundw
                case rel => exact ⟨1, at' + 4, G2, cp2, [] ++ [u], by first | rfl | (rw [wa]; rfl), rfl, rfl, rfl, by decide, by have := HS.out; omega, RN.out, OW2.out, HO3.out, BN.out⟩
                case measure => first | (simp only [Lib.intOf]; omega) | (simp only [Lib.intOf]; decide) | simp [Lib.intOf]
            by_cases hj1 : j = 1
            · subst hj1
              obtain ⟨u0, rfl⟩ := (List.length_eq_one_iff.1 hus)
              clear hus hj
              have ck : wr.cell? ⟨E + 1 + 1 + 1 + 1, 1, none⟩ = some (.int .i64 8) := cell_of TBr.out.b4
              have wa : wrap64 ((at' : Int) + 8) = (at' : Int) + 8 := wrapA (Nat.le_trans AT.out LN) 8 (by decide) (by decide)
              by_cases hs : N < at' + 8
              · have k1 : ((N : Int) < (at' : Int) + 8) = True := eq_true (by omega)
                have HV := Lib.hid (show readM (k :: t) = (4, zeroM 0) from by
                  rw [RD.out]
                  exact num_short (.inr ⟨rfl, rfl⟩) _ _ _ (by rw [List.length_drop, ← HNE.out]; omega))
                clear hs
                go_wp2_with (first
                  | (refine wpList_store_row rfl 61 (.tmp 2) (.tmp 78) rfl P (zeroM 0).row rfl rfl 61 _ RS.out (info61w (zeroM 0)) (size61w (zeroM 0) (zeroM 0)) (one61w (zeroM 0)) ?_)
                  | (refine wpList_load_row rfl 61 (.tmp 4) rfl (P + 1) rfl 61 (zeroM 0).row (0, 0) _ NO.out Try.underlying61 rfl (info61w (zeroM 0)) ?_))
                exact bodyPost_ret (trB.res2 Try.results65 _ _ P 61 (zeroM 0).row (0, 0) _ rfl (setRow_heap _ _ _ _ _ _ RS.out) Try.underlying61 rfl (info61w (zeroM 0))) rfl ⟨by rw [HV.out]; rfl, Only.old (only_roww OO.out _ (by rw [HPE.out]; exact Nat.le_refl _))⟩
              · have k1 : ((N : Int) < (at' : Int) + 8) = False := eq_false (by omega)
                have HS := Lib.hid hs
                have b1 : (0 : Int) ≤ (at' : Int) + 8 := by omega
                have b2 : (at' : Int) + 8 ≤ (cap : Int) := by have := HCP.out; omega
                have b3 : (cap = at') = False := eq_false (by have := HCP.out; omega)
                have b4 : (at' : Int) ≤ (at' : Int) + 8 := by omega
                have hlen : (((k :: t).drop at').take 8).length = 8 := by rw [List.length_take, List.length_drop, ← HNE.out]; omega
                obtain ⟨bs, hbs⟩ : ∃ bs, bs = ((k :: t).drop at').take 8 := ⟨_, rfl⟩
                have CV := Lib.hid (show Calls Try.prog 127 #[.slice (some ⟨g, q + at', none⟩) 8 (cap - at')] wr (numA.Told wr (.int .u64 (vb bs : Nat))) from by
                  have h := value_any (some ⟨g, q + at', none⟩) (cap - at') bs S wr (by rw [hbs, hlen]; exact sl_sub SL.out (by rw [← HNE.out]; omega) _) (by rw [hbs, hlen]; decide)
                  rw [hbs, hlen] at h
                  rw [hbs]
                  exact h)
                have RN := Lib.hid (show readM (k :: t) = fin (rowR (([.n 2, .c] : List Fl).drop 2 ++ [.t 10]) ((k :: t).drop (at' + 8), 0, mN [.n 2, .c] ([u0] ++ [vb bs]) (zeroM 4))) from by
                  rw [RD.out, hbs]
                  show fin (rowR (.c :: _) _) = _
                  rw [num_ok (.inr ⟨rfl, rfl⟩) _ _ _ (by rw [List.length_drop, ← HNE.out]; omega), List.drop_drop]
                  rfl)
                obtain ⟨u, hu⟩ : ∃ u, u = vb bs := ⟨_, rfl⟩
                have hub : u < 256 ^ 8 := by rw [hu]; have h := vb_lt bs; rw [hbs] at h ⊢; rw [hlen] at h; exact h
                have BN := Lib.hid (show ∀ i, ([u0] ++ [u] : List Nat).getD i 0 < 256 ^ (([4, 8] : List Nat).getD i 0) from by
                  intro i
                  rcases i with _ | _ | i
                  · first | exact hub | exact BD.out 0
                  · first | exact hub | exact Nat.pow_pos (by decide)
                  · exact Nat.pow_pos (by decide))
                rw [← hu] at CV RN
                clear hs hlen hbs hu hub
                go_wp2_with fail
                (with_reducible refine CV.out.mono ?_)
                rintro e W2 ⟨rfl, o⟩
                have HO2 := Lib.hid (HO.out.trans (o.mono fun _ h => h.elim))
                obtain ⟨G2, cp2, W3, hap, own2, on2⟩ := putn (trC.owns_keep OW.out o) (by have := HEZ.out; have := HO2.out.size; omega) (by simp) u
                have HAP := Lib.hid hap
                have OW2 := Lib.hid own2
                have HO3 := Lib.hid (show Only (fun q => E + 7 ≤ q) Z W3 from on2 Z HO2.out)
                clear o hap own2 on2 b1 b2 b3 b4 c5 ck
                go_wp2_with (at_builtin; refine Lib.wpList_append_run _ rfl (.tmp 79) (.tmp 87) 170 170 rfl _ _ rfl rfl _ _ HAP.out ?_)
                go_roundw
                case rel => exact ⟨2, at' + 8, G2, cp2, [u0] ++ [u], by first | rfl | (rw [wa]; rfl), rfl, rfl, rfl, by decide, by have := HS.out; omega, RN.out, OW2.out, HO3.out, BN.out⟩
                case measure => first | (simp only [Lib.intOf]; omega) | (simp only [Lib.intOf]; decide) | simp [Lib.intOf]
            obtain rfl : j = 2 := by omega
            obtain ⟨u0, u1, rfl⟩ := len2 hus
            clear hj hus
            simp only [show ([u0, u1] : List Nat).length = 2 from rfl, show ((2 : Nat) : Int) = 2 from rfl]
            obtain ⟨M0, hM0⟩ : ∃ m, m = mN [.n 2, .c] [u0, u1] (zeroM 4) := ⟨_, rfl⟩
            have RD0 := Lib.hid (show readM (k :: t) = fin (rowR ((([10] : List Nat).drop 0).map Fl.t) ((k :: t).drop at', 0, mT [10] [] M0)) from by rw [RD.out, ← hM0]; rfl)
            have HM0 := Lib.hid hM0
            clear hM0
            go_upto_region 28 with fail
            clear c5
            obtain ⟨E2, hE2⟩ : ∃ E, E = wr.heap.size := ⟨_, rfl⟩
            obtain ⟨Z2, hZ2⟩ : ∃ Z, Z = wr.alloc (.cells #[] 9) := ⟨_, rfl⟩
            have o2 : Only (fun _ => False) wr Z2 := by rw [hZ2]; exact (Only.refl _ _).alloc _
            have OW3 := Lib.hid (show Z2.ownsRow E2 9 1 (.slice (some ⟨E2, 0, none⟩) 0 0) 0 (([] : List Txt).map sv) from by rw [hZ2, hE2]; exact own_txt0 wr)
            have HE2 := Lib.hid (show E2 < Z2.heap.size ∧ E + 7 ≤ E2 from by
              refine ⟨by rw [hZ2, World.size_alloc, hE2]; omega, ?_⟩
              rw [hE2]
              have := HO.out.size
              have := HEZ.out
              omega)
            rw [← hZ2, ← hE2]
            have NR := Lib.hid (trC.owns_keep OW.out o2)
            have NRL := Lib.hid (show ∀ q, (Value.slice (some ⟨G, 0, none⟩) 2 cp).ownBlock = some q → q < E2 from by
              intro q hq
              rw [hE2]
              exact (OW.out.lt q hq).2)
            replace RS := Lib.hid (MsgAt.keep RS.out o2 id)
            replace NO := Lib.hid (MsgAt.keep NO.out o2 id)
            replace SL := Lib.hid (Sl.keep SL.out o2 (fun _ _ h => h))
            replace TBr := Lib.hid (Tabs.keep TBr.out o2 (fun _ _ h => h))
            replace OO := Lib.hid (OO.out.trans (o2.mono fun _ h => h.elim))
            clear o2 hE2 hZ2
            go_loopw [9, 13, 14, 15, 16] (fun a u i _ _ wr => ∃ (j a2 G3 cp3 : Nat) (ts : List Txt), a = .int .i64 (a2 : Nat) ∧ u = .slice (some ⟨G3, 0, none⟩) ts.length cp3 ∧ i = .int .i64 (j : Nat) ∧ ts.length = j ∧ j ≤ 1 ∧ a2 ≤ N ∧ readM (k :: t) = fin (rowR ((([10] : List Nat).drop j).map Fl.t) ((k :: t).drop a2, 0, mT [10] ts M0)) ∧ wr.ownsRow E2 9 1 (.slice (some ⟨G3, 0, none⟩) ts.length cp3) ts.length (ts.map sv) ∧ Only (fun q => E2 ≤ q) Z2 wr) (fun _ _ i _ _ _ => 1 - (Lib.intOf i).toNat)
            case atStart => exact ⟨0, at', E2, 0, [], rfl, rfl, rfl, rfl, Nat.zero_le _, AT.out, RD0.out, OW3.out, Only.refl _ _⟩
            case round =>
              obtain ⟨j, a2, G3, cp3, ts, rfl, rfl, rfl, hts, hj, hat, hrd, how, ho⟩ := hrel
              have A2 := Lib.hid hat
              have R2 := Lib.hid hrd
              have W2 := Lib.hid how
              have H2 := Lib.hid ho
              have HTS := Lib.hid hts
              replace RS := Lib.hid (MsgAt.keep RS.out ho (by have := HPE2.out; have := HE2.out; omega))
              replace NO := Lib.hid (MsgAt.keep NO.out ho (by have := HPE2.out; have := HE2.out; omega))
              replace SL := Lib.hid (Sl.keep SL.out ho (fun q h h' => by have := HPE2.out; have := HE2.out; have := HSP.out q h; omega))
              replace TBr := Lib.hid (Tabs.keep TBr.out ho (fun q h h' => by have := HE2.out; omega))
              replace OO := Lib.hid (OO.out.trans (ho.mono fun q h => by have := HPE2.out; have := HE2.out; have := HPE.out; omega))
              have c6 : wr.cell? ⟨E + 1 + 1 + 1 + 1 + 1 + 1, 4, none⟩ = some (.int .i64 1) := cell_of TBr.out.b6
              clear hat hrd how ho
              by_cases hj3 : j < 1
              · have k0 : ((j : Int) < 1) = True := eq_true (by omega)
                have wj : wrap64 ((j : Int) + 1) = (j : Int) + 1 := IntWalk.wrap64_in _ (by omega)
                have wa : wrap64 ((a2 : Int) + 2) = (a2 : Int) + 2 := wrapA (Nat.le_trans A2.out LN) 2 (by decide) (by decide)
                have HJ := Lib.hid hj3
                rw [drop_map [10] j hj3] at R2
                clear hj hj3 hts
                by_cases hs : N < a2 + 2
                · have k1 : ((N : Int) < (a2 : Int) + 2) = True := eq_true (by omega)
                  have HV := Lib.hid (show readM (k :: t) = (4, zeroM 0) from by
                    rw [R2.out]
                    exact txt_short _ _ _ _ (.inl (by rw [List.length_drop, ← HNE.out]; omega)))
                  clear hs
                  go_wp2_with (first
                    | (refine wpList_store_row rfl 61 (.tmp 2) (.tmp 106) rfl P (zeroM 0).row rfl rfl 61 _ RS.out (info61w (zeroM 0)) (size61w (zeroM 0) (zeroM 0)) (one61w (zeroM 0)) ?_)
                    | (refine wpList_load_row rfl 61 (.tmp 4) rfl (P + 1) rfl 61 (zeroM 0).row (0, 0) _ NO.out Try.underlying61 rfl (info61w (zeroM 0)) ?_))
                  exact bodyPost_ret (trB.res2 Try.results65 _ _ P 61 (zeroM 0).row (0, 0) _ rfl (setRow_heap _ _ _ _ _ _ RS.out) Try.underlying61 rfl (info61w (zeroM 0))) rfl ⟨by rw [HV.out]; rfl, Only.old (only_roww OO.out _ (by rw [HPE.out]; exact Nat.le_refl _))⟩
                · have k1 : ((N : Int) < (a2 : Int) + 2) = False := eq_false (by omega)
                  have HS := Lib.hid hs
                  have b1 : (0 : Int) ≤ (a2 : Int) + 2 := by omega
                  have b2 : (a2 : Int) + 2 ≤ (cap : Int) := by have := HCP.out; omega
                  have b3 : (cap = a2) = False := eq_false (by have := HCP.out; omega)
                  have b4 : (a2 : Int) ≤ (a2 : Int) + 2 := by omega
                  have hlen : (((k :: t).drop a2).take 2).length = 2 := by rw [List.length_take, List.length_drop, ← HNE.out]; omega
                  obtain ⟨u, hu⟩ : ∃ u, u = vb (((k :: t).drop a2).take 2) := ⟨_, rfl⟩
                  have hu2 : u ≤ 65535 := by rw [hu]; exact vb_two _
                  have CV := Lib.hid (show Calls Try.prog 127 #[.slice (some ⟨g, q + a2, none⟩) 2 (cap - a2)] wr (numA.Told wr (.int .u64 (u : Nat))) from by
                    have h := value_any (some ⟨g, q + a2, none⟩) (cap - a2) (((k :: t).drop a2).take 2) S wr (by rw [hlen]; exact sl_sub SL.out (by rw [← HNE.out]; omega) _) (by rw [hlen]; decide)
                    rw [hlen, ← hu] at h
                    exact h)
                  have HU := Lib.hid hu
                  have HU2 := Lib.hid hu2
                  have wu : wrap64 (u : Int) = (u : Int) := wrapU hu2
                  have wb : wrap64 ((a2 : Int) + 2 + (u : Int)) = (a2 : Int) + 2 + (u : Int) := wrapB (Nat.le_trans A2.out LN) hu2
                  clear hs hlen hu hu2
                  go_wp2_with fail
                  (with_reducible refine CV.out.mono ?_)
                  rintro e V1 ⟨rfl, o⟩
                  clear b1 b2 b3 b4 c6
                  replace RS := Lib.hid (MsgAt.keep RS.out o id)
                  replace NO := Lib.hid (MsgAt.keep NO.out o id)
                  replace SL := Lib.hid (Sl.keep SL.out o (fun _ _ h => h))
                  replace OO := Lib.hid (OO.out.trans (o.mono fun _ h => h.elim))
                  replace W2 := Lib.hid (trC.owns_keep W2.out o)
                  replace H2 := Lib.hid (H2.out.trans (o.mono fun _ h => h.elim))
                  clear o
                  by_cases hs : N < a2 + 2 + u
                  · have k2 : ((N : Int) < (a2 : Int) + 2 + (u : Int)) = True := eq_true (by omega)
                    have HV := Lib.hid (show readM (k :: t) = (4, zeroM 0) from by
                      rw [R2.out]
                      exact txt_short _ _ _ _ (.inr (by rw [← HU.out, List.length_drop, ← HNE.out]; omega)))
                    clear hs
                    go_wp2_with (first
                      | (refine wpList_store_row rfl 61 (.tmp 2) (.tmp 122) rfl P (zeroM 0).row rfl rfl 61 _ RS.out (info61w (zeroM 0)) (size61w (zeroM 0) (zeroM 0)) (one61w (zeroM 0)) ?_)
                      | (refine wpList_load_row rfl 61 (.tmp 4) rfl (P + 1) rfl 61 (zeroM 0).row (0, 0) _ NO.out Try.underlying61 rfl (info61w (zeroM 0)) ?_))
                    exact bodyPost_ret (trB.res2 Try.results65 _ _ P 61 (zeroM 0).row (0, 0) _ rfl (setRow_heap _ _ _ _ _ _ RS.out) Try.underlying61 rfl (info61w (zeroM 0))) rfl ⟨by rw [HV.out]; rfl, Only.old (only_roww OO.out _ (by rw [HPE.out]; exact Nat.le_refl _))⟩
                  · have k2 : ((N : Int) < (a2 : Int) + 2 + (u : Int)) = False := eq_false (by omega)
                    have HS2 := Lib.hid hs
                    have b1 : (0 : Int) ≤ (a2 : Int) + 2 + (u : Int) := by omega
                    have b2 : (a2 : Int) + 2 + (u : Int) ≤ (cap : Int) := by have := HCP.out; omega
                    have b4 : (a2 : Int) + 2 ≤ (a2 : Int) + 2 + (u : Int) := by omega
                    have b5 : (0 : Int) ≤ (a2 : Int) + 2 := by omega
                    obtain ⟨x, hx⟩ : ∃ x : ByteArray, x = ⟨(((k :: t).drop (a2 + 2)).take u).toArray⟩ := ⟨_, rfl⟩
                    have hxd : x.data.toList = (((k :: t).drop a2).drop 2).take u := by rw [hx, List.drop_drop]
                    have hxl : x.data.toList.length = u := by rw [hxd, List.length_take, List.length_drop, List.length_drop, ← HNE.out]; omega
                    have hxs : x.size ≤ 65535 := by rw [← tl_size, hxl]; exact HU2.out
                    have CI := Lib.hid (fun W => (show Calls Try.prog 39 #[.string x] W (numA.Told W (.bool (isT x.data.toList))) from trJ.is_any x W (Nat.le_trans hxs (by decide))))
                    obtain ⟨b, hb⟩ : ∃ b, b = isT x.data.toList := ⟨_, rfl⟩
                    rw [← hb] at CI
                    have HXD := Lib.hid hxd
                    have HXB := Lib.hid hb
                    have cv1 : (convert 24 9 (.slice (some ⟨g, q + (a2 + 2), none⟩) u (cap - (a2 + 2)))).run Try.prog V1 = .ok (.string x) V1 := by
                      have h := conv_lst (sl_sub SL.out (a := a2 + 2) (m := u) (by rw [← HNE.out]; omega) (cap - (a2 + 2)))
                      rw [hx]
                      exact h
                    have cv2 : u = 0 → ∀ (a : Option Addr) (c : Nat), (convert 24 9 (.slice a u c)).run Try.prog V1 = .ok (.string x) V1 := by
                      intro h0 a c
                      have h := conv_lst (w := V1) (S := fun _ => True) (v := .slice a 0 c) (xs := []) ⟨Nat.zero_le _, a, c, rfl, .inl rfl⟩
                      rw [hx]
                      simp only [h0]
                      exact h
                    have ct : ((a2 : Int) + 2).toNat = a2 + 2 := by omega
                    clear hs hx hxd hxl hxs hb
                    by_cases hc : cap = a2 + 2
                    · have hu0 : u = 0 := by have := HCP.out; have := HS2.out; omega
                      have ce : (cap = a2 + 2) = True := eq_true hc
                      replace cv2 := cv2 hu0
                      clear hc hu0
                      go_wp2_with fail
                      (with_reducible refine (CI.out _).mono ?_)
                      rintro e V2 ⟨rfl, o⟩
                      clear cv1 b1 b2 b4 b5
                      replace RS := Lib.hid (MsgAt.keep RS.out o id)
                      replace NO := Lib.hid (MsgAt.keep NO.out o id)
                      replace OO := Lib.hid (OO.out.trans (o.mono fun _ h => h.elim))
                      replace W2 := Lib.hid (trC.owns_keep W2.out o)
                      replace H2 := Lib.hid (H2.out.trans (o.mono fun _ h => h.elim))
                      clear o
                      cases b
                      · have HV := Lib.hid (show readM (k :: t) = (3, zeroM 0) from by
                          rw [R2.out]
                          exact txt_bad _ _ _ _ (by rw [List.length_drop, ← HNE.out]; have := HS.out; omega) (by rw [← HU.out, List.length_drop, ← HNE.out]; have := HS2.out; omega) (by rw [← HU.out, ← HXD.out]; exact HXB.out.symm))
                        go_wp2_with (first
                          | (refine wpList_store_row rfl 61 (.tmp 2) (.tmp 133) rfl P (zeroM 0).row rfl rfl 61 _ RS.out (info61w (zeroM 0)) (size61w (zeroM 0) (zeroM 0)) (one61w (zeroM 0)) ?_)
                          | (refine wpList_load_row rfl 61 (.tmp 4) rfl (P + 1) rfl 61 (zeroM 0).row (0, 0) _ NO.out Try.underlying61 rfl (info61w (zeroM 0)) ?_))
                        exact bodyPost_ret (trB.res2 Try.results65 _ _ P 61 (zeroM 0).row (0, 0) _ rfl (setRow_heap _ _ _ _ _ _ RS.out) Try.underlying61 rfl (info61w (zeroM 0))) rfl ⟨by rw [HV.out]; rfl, Only.old (only_roww OO.out _ (by rw [HPE.out]; exact Nat.le_refl _))⟩
                      · have RN := Lib.hid (show readM (k :: t) = fin (rowR ((([10] : List Nat).drop (j + 1)).map Fl.t) ((k :: t).drop (a2 + 2 + u), 0, mT [10] (ts ++ [x.data.toList]) M0)) from by
                          have h := txt_ok (([10] : List Nat).getD j 0) ((([10] : List Nat).drop (j + 1)).map Fl.t) ((k :: t).drop a2) (mT [10] ts M0) (by rw [List.length_drop, ← HNE.out]; have := HS.out; omega) (by rw [← HU.out, List.length_drop, ← HNE.out]; have := HS2.out; omega) (by rw [← HU.out, ← HXD.out]; exact HXB.out.symm)
                          rw [R2.out, h, ← HU.out, ← HXD.out, List.drop_drop, mT_snoc _ _ _ _ (by rw [HTS.out]; exact HJ.out), HTS.out, Nat.add_assoc])
                        obtain ⟨G4, cp4, V3, hap, own4, on4⟩ := put1 W2.out (by have := HE2.out; have := H2.out.size; omega) (by rw [HTS.out]; have := HJ.out; omega) x
                        have HAP := Lib.hid hap
                        have OW4 := Lib.hid own4
                        have H4 := Lib.hid (on4 Z2 H2.out)
                        have HLE := Lib.hid (show a2 + 2 + u ≤ N from by have := HS2.out; omega)
                        clear hap own4 on4
                        go_wp2_with (at_builtin; refine Lib.wpList_append_run _ rfl (.tmp 134) (.tmp 136) 25 25 rfl _ _ rfl rfl _ _ HAP.out ?_)
                        go_roundw
                        case rel => exact ⟨j + 1, a2 + 2 + u, G4, cp4, ts ++ [x.data.toList], by first | rfl | (rw [wb]; rfl), by rw [List.length_append]; rfl, by first | rfl | (rw [wj]; rfl), by rw [List.length_append, HTS.out]; rfl, HJ.out, HLE.out, RN.out, by rw [List.length_append]; exact OW4.out, H4.out⟩
                        case measure =>
                          have := HJ.out
                          try rw [wj]
                          simp only [Lib.intOf]
                          omega
                    · have ce : (cap = a2 + 2) = False := eq_false hc
                      clear cv2
                      go_wp2_with fail
                      (with_reducible refine (CI.out _).mono ?_)
                      rintro e V2 ⟨rfl, o⟩
                      clear cv1 b1 b2 b4 b5
                      replace RS := Lib.hid (MsgAt.keep RS.out o id)
                      replace NO := Lib.hid (MsgAt.keep NO.out o id)
                      replace OO := Lib.hid (OO.out.trans (o.mono fun _ h => h.elim))
                      replace W2 := Lib.hid (trC.owns_keep W2.out o)
                      replace H2 := Lib.hid (H2.out.trans (o.mono fun _ h => h.elim))
                      clear o
                      cases b
                      · have HV := Lib.hid (show readM (k :: t) = (3, zeroM 0) from by
                          rw [R2.out]
                          exact txt_bad _ _ _ _ (by rw [List.length_drop, ← HNE.out]; have := HS.out; omega) (by rw [← HU.out, List.length_drop, ← HNE.out]; have := HS2.out; omega) (by rw [← HU.out, ← HXD.out]; exact HXB.out.symm))
                        go_wp2_with (first
                          | (refine wpList_store_row rfl 61 (.tmp 2) (.tmp 133) rfl P (zeroM 0).row rfl rfl 61 _ RS.out (info61w (zeroM 0)) (size61w (zeroM 0) (zeroM 0)) (one61w (zeroM 0)) ?_)
                          | (refine wpList_load_row rfl 61 (.tmp 4) rfl (P + 1) rfl 61 (zeroM 0).row (0, 0) _ NO.out Try.underlying61 rfl (info61w (zeroM 0)) ?_))
                        exact bodyPost_ret (trB.res2 Try.results65 _ _ P 61 (zeroM 0).row (0, 0) _ rfl (setRow_heap _ _ _ _ _ _ RS.out) Try.underlying61 rfl (info61w (zeroM 0))) rfl ⟨by rw [HV.out]; rfl, Only.old (only_roww OO.out _ (by rw [HPE.out]; exact Nat.le_refl _))⟩
                      · have RN := Lib.hid (show readM (k :: t) = fin (rowR ((([10] : List Nat).drop (j + 1)).map Fl.t) ((k :: t).drop (a2 + 2 + u), 0, mT [10] (ts ++ [x.data.toList]) M0)) from by
                          have h := txt_ok (([10] : List Nat).getD j 0) ((([10] : List Nat).drop (j + 1)).map Fl.t) ((k :: t).drop a2) (mT [10] ts M0) (by rw [List.length_drop, ← HNE.out]; have := HS.out; omega) (by rw [← HU.out, List.length_drop, ← HNE.out]; have := HS2.out; omega) (by rw [← HU.out, ← HXD.out]; exact HXB.out.symm)
                          rw [R2.out, h, ← HU.out, ← HXD.out, List.drop_drop, mT_snoc _ _ _ _ (by rw [HTS.out]; exact HJ.out), HTS.out, Nat.add_assoc])
                        obtain ⟨G4, cp4, V3, hap, own4, on4⟩ := put1 W2.out (by have := HE2.out; have := H2.out.size; omega) (by rw [HTS.out]; have := HJ.out; omega) x
                        have HAP := Lib.hid hap
                        have OW4 := Lib.hid own4
                        have H4 := Lib.hid (on4 Z2 H2.out)
                        have HLE := Lib.hid (show a2 + 2 + u ≤ N from by have := HS2.out; omega)
                        clear hap own4 on4
                        go_wp2_with (at_builtin; refine Lib.wpList_append_run _ rfl (.tmp 134) (.tmp 136) 25 25 rfl _ _ rfl rfl _ _ HAP.out ?_)
                        go_roundw
                        case rel => exact ⟨j + 1, a2 + 2 + u, G4, cp4, ts ++ [x.data.toList], by first | rfl | (rw [wb]; rfl), by rw [List.length_append]; rfl, by first | rfl | (rw [wj]; rfl), by rw [List.length_append, HTS.out]; rfl, HJ.out, HLE.out, RN.out, by rw [List.length_append]; exact OW4.out, H4.out⟩
                        case measure =>
                          have := HJ.out
                          try rw [wj]
                          simp only [Lib.intOf]
                          omega
              · obtain rfl : j = 1 := by omega
                clear hj3 hj
                have RE := Lib.hid (show readM (k :: t) = fin ((k :: t).drop a2, 0, mT [10] ts M0) from R2.out)
                by_cases hs : a2 = N
                · have k1 : ((a2 : Int) != (N : Int)) = false := by rw [bne_eq_false_iff_eq]; omega
                  have HV := Lib.hid (show readM (k :: t) = (0, mT [10] ts M0) from by
                    rw [RE.out]
                    exact fin_ok rfl (List.drop_of_length_le (by rw [← HNE.out]; omega)))
                  clear hs
                  have NK := Lib.hid (own_keepT NR.out H2.out (fun q h h' => by have := NRL.out q h; omega))
                  obtain ⟨G5, cp5, V5, hap, own5, on5, on6⟩ := putn2x NK.out (by have := HE2.out; have := H2.out.size; omega) (by simp) 0
                  simp only [show ((0 : Nat) : Int) = 0 from rfl] at hap
                  have HAP := Lib.hid hap
                  have OW5 := Lib.hid own5
                  have O5 := Lib.hid (on6 (fun q => q = G) wr (Only.refl _ _) (fun q hq => by simp [Value.ownBlock] at hq; exact hq.symm))
                  clear hap own5 on5 on6
                  go_upto_region 44 with (at_builtin; refine Lib.wpList_append_run _ rfl (.tmp 146) (.tmp 147) 170 170 rfl _ _ rfl rfl _ _ HAP.out ?_)
                  have hGl := (OW.out.lt G rfl).1
                  have hG5 := (OW5.out.lt G5 rfl).1
                  have hG3 := (W2.out.lt G3 rfl).1
                  have hG2 := NRL.out G rfl
                  have hp1 := HPE2.out
                  have hp2 := HPE.out
                  have hp3 := HE2.out
                  have T5 := own_keepT W2.out O5.out (fun q h h' => by have := (W2.out.lt q h).1; omega)
                  have hTS := HTS.out
                  have CW := Lib.hid (fun W (o : Only (fun _ => False) V5 W) => fin_4 u0 u1 ts hTS W G3 cp3 (trC.owns_keep T5 o))
                  have hM := HM0.out
                  have NC := Lib.hid (fun W (o : Only (fun q => q = P) V5 W) => cells_2 u0 u1 (own_keepT OW5.out o (fun q h h' => by have := (OW5.out.lt q h).1; omega)))
                  replace RS := Lib.hid (MsgAt.keep RS.out O5.out (by omega))
                  replace NO := Lib.hid (MsgAt.keep NO.out O5.out (by omega))
                  replace OO := Lib.hid (OO.out.trans (O5.out.mono fun q h => by omega))
                  obtain ⟨M, hMM⟩ : ∃ M, M = mT [10] ts M0 := ⟨_, rfl⟩
                  rw [← hM, ← hMM] at CW
                  rw [← hMM] at HV
                  have wu0 : IntKind.u32.wrap ((u0 : Nat) : Int) = (u0 : Int) := wrap32 (BD.out 0)
                  clear hGl hG5 hG3 hG2 hp1 hp2 hp3 T5 hTS hM hMM
                  go_upto_region 51 with fail
                  have R := Lib.hid ((Only.refl (fun _ => False) V5).drew)
                  refine wp_region_held_drew (S := (fun w' => w'.cell? ⟨G5, 0, none⟩ = some (.int .u64 ((u0 : Nat) : Int)) ∧ w'.cell? ⟨G5, 1, none⟩ = some (.int .u64 ((u1 : Nat) : Int)))) (by kernel_rfl) ?_ (fun hHeld => ?_)
                  · first | exact NC.out _ (R.out.mono fun _ h => h.elim) | exact NC.out _ (only_roww (R.out.mono fun _ h => h.elim) _ rfl)
                  refine rgA.tk 0 hHeld ?_
                  refine rgA.tk 1 hHeld ?_
                  refine rgA.tk 2 hHeld ?_
                  refine rgA.tk 3 hHeld ?_
                  refine rgA.tk 4 hHeld ?_
                  refine rgA.tk 5 hHeld ?_
                  refine rgA.tk 6 hHeld ?_
                  refine rgA.tk 7 hHeld ?_
                  refine rgA.rd 8 (fun K hK => ?_)
                  go_simp
                  (with_reducible refine (CW.out _ R.out).mono ?_)
                  rintro e w2 ⟨rfl, o⟩
                  replace R := Lib.hid (R.out.trans o)
                  clear o
                  go_wp2_with fail
                  refine hK.out _ _ ?_ (fun hHeld => ?_)
                  · first | exact NC.out _ (R.out.mono fun _ h => h.elim) | exact NC.out _ (only_roww (R.out.mono fun _ h => h.elim) _ rfl)
                  clear hK K
                  try simp only [List.getElem_toArray, List.getElem_cons_succ, List.getElem_cons_zero, Act.put, List.setIfInBounds_toArray, List.set_cons_zero, List.set_cons_succ]
                  refine rgA.rd 9 (fun K hK => ?_)
                  rw [if_pos (by rfl)]
                  refine wp_store_row 61 (.tmp 2) (.tmp 186) rfl P M.row rfl rfl 61 _ (MsgAt.keep RS.out R.out id) (info61w _) (size61w (zeroM 0) _) (one61w _) ?_
                  refine hK.out _ _ ?_ (fun hHeld => ?_)
                  · first | exact NC.out _ (R.out.mono fun _ h => h.elim) | exact NC.out _ (only_roww (R.out.mono fun _ h => h.elim) _ rfl)
                  clear hK K
                  try simp only [List.getElem_toArray, List.getElem_cons_succ, List.getElem_cons_zero, Act.put, List.setIfInBounds_toArray, List.set_cons_zero, List.set_cons_succ]
                  refine rgA.tk 10 hHeld ?_
                  refine wpAnyH_done (by kernel_rfl) ?_ _
                  go_wp2_with fail
                  exact bodyPost_ret (trB.res2 Try.results65 _ _ P 61 M.row (0, 0) _ rfl (setRow_heap _ _ _ _ _ _ (MsgAt.keep RS.out R.out id)) Try.underlying61 rfl (info61w _)) rfl ⟨by rw [HV.out]; rfl, Only.old (only_roww (OO.out.trans (R.out.mono fun _ h => h.elim)) _ (by rw [HPE.out]; exact Nat.le_refl _))⟩
                · have k1 : ((a2 : Int) != (N : Int)) = true := by rw [bne_iff_ne]; omega
                  have HV := Lib.hid (show readM (k :: t) = (5, zeroM 0) from by
                    rw [RE.out]
                    refine fin_left rfl ?_
                    intro h
                    have h2 := congrArg List.length h
                    rw [List.length_drop, ← HNE.out] at h2
                    have := A2.out
                    simp at h2
                    omega)
                  clear hs
                  go_wp2_with (first
                    | (refine wpList_store_row rfl 61 (.tmp 2) (.tmp 145) rfl P (zeroM 0).row rfl rfl 61 _ RS.out (info61w (zeroM 0)) (size61w (zeroM 0) (zeroM 0)) (one61w (zeroM 0)) ?_)
                    | (refine wpList_load_row rfl 61 (.tmp 4) rfl (P + 1) rfl 61 (zeroM 0).row (0, 0) _ NO.out Try.underlying61 rfl (info61w (zeroM 0)) ?_))
                  exact bodyPost_ret (trB.res2 Try.results65 _ _ P 61 (zeroM 0).row (0, 0) _ rfl (setRow_heap _ _ _ _ _ _ RS.out) Try.underlying61 rfl (info61w (zeroM 0))) rfl ⟨by rw [HV.out]; rfl, Only.old (only_roww OO.out _ (by rw [HPE.out]; exact Nat.le_refl _))⟩


end Go.Proofs.Ytbjnejnjlidiaaa.wsG
