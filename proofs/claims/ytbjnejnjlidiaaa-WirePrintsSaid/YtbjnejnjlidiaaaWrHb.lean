/- (more) Wire: the document's With. -/
import Derived.Deep.Cut
import Derived.Deep.RegionHeld3
import Derived.Test.YtbjnejnjlidiaaaWrH
import Derived.Test.YtbjnejnjlidiaaaWrEb
namespace Go.Proofs.Ytbjnejnjlidiaaa.wrH
open Go.RowKit kit numA numC numD tmA tmD trA trB prR prS prW prX wrA wrB wrC wrD wrE wrF wrG
set_option linter.unusedVariables false
set_option linter.unusedSimpArgs false

end Go.Proofs.Ytbjnejnjlidiaaa.wrH
namespace Go.Proofs.Ytbjnejnjlidiaaa.wrI
open Go.RowKit kit numA numC numD tmA tmD trA trB prR prS prW prX wrA wrB wrC wrD wrE wrF wrG wrH
set_option linter.unusedVariables false
set_option linter.unusedSimpArgs false

end Go.Proofs.Ytbjnejnjlidiaaa.wrI
namespace Go.Proofs.Ytbjnejnjlidiaaa.wrJ
open Go.RowKit kit numA numC numD tmA tmD trA trB prR prS prW prX wrA wrB wrC wrD wrE wrF wrG wrH wrI
set_option linter.unusedVariables false
set_option linter.unusedSimpArgs false

theorem bodyM_eq (m : Msg) : bodyM m = if rightM m = true ∧ m.k ≤ 2 then mkI 11 0 [] ([numT m.k, numT m.s, numT m.r] ++ (rterms m).take ((rterms m).length - 2)) else [] := by
  unfold bodyM
  rw [termsOf_eq]
  by_cases hr : rightM m = true
  · have hk := rightM_k hr
    rw [if_pos hr]
    by_cases h2 : m.k ≤ 2
    · have hne : rterms m ≠ [] := by
        have e : m.k = 1 ∨ m.k = 2 := by omega
        unfold rterms rtexts
        rcases e with e | e <;> rw [e] <;> simp
      rw [if_pos ⟨by omega, hne⟩, if_pos ⟨hr, h2⟩]
    · rw [if_neg (fun q => by have := q.1; omega), if_neg (fun q => h2 q.2)]
  · rw [if_neg hr, if_neg (fun q => q.2 rfl), if_neg (fun q => hr q.1)]
end Go.Proofs.Ytbjnejnjlidiaaa.wrJ
namespace Go.Proofs.Ytbjnejnjlidiaaa.wrK
open Go.RowKit kit numA numC numD tmA tmD trA trB prR prS prW prX wrA wrB wrC wrD wrE wrF wrG wrH wrI wrJ
set_option linter.unusedVariables false
set_option linter.unusedSimpArgs false

theorem right_len {m : Msg} (hr : rightM m = true) : ∀ p ∈ rterms m, p.length ≤ 65535 := by
  intro p hp
  unfold rightM at hr
  rw [Bool.and_eq_true, Bool.and_eq_true] at hr
  have := List.all_eq_true.1 hr.2.1 p hp
  unfold fitB at this
  rw [Bool.and_eq_true] at this
  exact of_decide_eq_true this.1
theorem rterms_len {m : Msg} (hk : m.k = 1 ∨ m.k = 2) : ∃ n, (rterms m).length = n + 2 ∧ n ≤ 10 := by
  unfold rterms rtexts
  rcases hk with hk | hk <;> rw [hk]
  · exact ⟨3, rfl, by decide⟩
  · exact ⟨2, rfl, by decide⟩
theorem numT_65 {n : Int} (h0 : 0 ≤ n) (h1 : n ≤ (most : Nat)) : (numT n).length ≤ 65536 := by
  have := tsJ.mkI_len (k := 3) (n := n.toNat) (b := []) (ps := []) (by omega)
  exact this
theorem total_small (ps : List Txt) (h : ∀ p ∈ ps, p.length ≤ 65536) : total ps ≤ ps.length * 65537 := by
  induction ps with
  | nil => exact Nat.zero_le _
  | cons p ps ih =>
    have h1 := h p (List.mem_cons_self)
    have h2 := ih fun q hq => h q (List.mem_cons_of_mem _ hq)
    simp only [total, List.map_cons, List.sum_cons, List.length_cons] at h2 ⊢
    omega

set_option maxRecDepth 100000 in
set_option maxHeartbeats 3200000 in
theorem rbody_1 (m : Msg) (w : World) (hk : m.k = 1) (hr1 : rightM m = true) (ht : ∀ i, (m.t i).size ≤ 100000000) (hs : 0 ≤ m.s ∧ m.s ≤ 4294967295) (hr : 0 ≤ m.r ∧ m.r ≤ 4294967295) : Calls Try.prog 63 #[mval m] w (Made w (bodyM m)) := by
  have HA := Lib.hid (show MsgAt (w.alloc (.cells m.row 61)) w.heap.size m from heap_alloc_new w _)
  have oW := Lib.hid (show Only (fun _ => False) w (w.alloc (.cells m.row 61)) from (Only.refl _ w).alloc _)
  have RG := Lib.hid (refright_any m (w.alloc (.cells m.row 61)) ht)
  have CR := Lib.hid (fun W => refterms_any m W)
  rw [hr1] at RG
  have KK := Lib.hid hk
  have HS := Lib.hid hs
  have HR := Lib.hid hr
  have RL := Lib.hid (right_len hr1)
  have HB0 := Lib.hid (show bodyM m = mkI 11 0 [] ([numT 1, numT m.s, numT m.r] ++ (rterms m).take ((rterms m).length - 2)) from by rw [bodyM_eq, if_pos ⟨hr1, by rw [hk]; decide⟩, hk])
  obtain ⟨d0, d1, d2, d3, d4, d5, d6, d7, d8, d9, d10, d11, d12⟩ := MsgAt.cells HA.out
  simp only [mval, Msg.row] at CR RG d0 d1 d2 d3 d4 d5 d6 d7 d8 d9 d10 d11 d12
  rw [hk] at RG d0
  have CR2 := Lib.hid (fun W => (show Calls Try.prog 62 #[.agg #[.int .i64 1, .int .u32 m.s, .int .u32 m.r, .int .u64 m.c, .string (m.t 4), .string (m.t 5), .string (m.t 6), .string (m.t 7), .string (m.t 8), .string (m.t 9), .string (m.t 10), .string (m.t 11), .string (m.t 12)]] W (Lists W (rterms m)) from by rw [← hk]; exact CR.out W))
  unfold mval
  rw [hk]
  clear ht hs hr hk hr1 CR
  go_enter Try.func63, Try.ntmps63
  go_wp2_with fail
  (with_reducible refine RG.out.mono ?_)
  rintro e W1 ⟨rfl, o⟩
  have O1 := Lib.hid (show Only (fun _ => False) (w.alloc (.cells m.row 61)) W1 from by rw [show m.row = #[.int .i64 1, .int .u32 m.s, .int .u32 m.r, .int .u64 m.c, .string (m.t 4), .string (m.t 5), .string (m.t 6), .string (m.t 7), .string (m.t 8), .string (m.t 9), .string (m.t 10), .string (m.t 11), .string (m.t 12)] from by rw [Msg.row, KK.out]]; exact o)
  clear o RG d0 d1 d2 d3 d4 d5 d6 d7 d8 d9 d10 d11 d12
  have HA1 := Lib.hid (MsgAt.keep HA.out O1.out id)
  obtain ⟨d0, d1, d2, d3, d4, d5, d6, d7, d8, d9, d10, d11, d12⟩ := c13 HA1.out KK.out
  go_wp2_with fail
  (with_reducible refine (CR2.out _).mono ?_)
  rintro e W2 ⟨o, a, c, rfl, hc1, hc2, hsl⟩
  have O2 := Lib.hid o
  clear o d0 d1 d2 d3 d4 d5 d6 d7 d8 d9 d10 d11 d12
  obtain ⟨L, hL⟩ : ∃ L, L = (rterms m).length := ⟨_, rfl⟩
  rw [← hL] at hc1 hsl HB0 ⊢
  obtain ⟨n, hn, hn10⟩ := rterms_len (m := m) (by rw [KK.out]; decide)
  obtain ⟨g, o, c', hv, hS, hg, -⟩ := sl_lits hsl (by omega)
  have HSL := Lib.hid (sl_take hsl (n := n) (by omega))
  obtain rfl : a = some ⟨g, o, none⟩ := by injection hv
  have nc : n ≤ c := by omega
  have HN := Lib.hid hn
  have HN10 := Lib.hid hn10
  have HB := Lib.hid (show bodyM m = mkI 11 0 [] ([numT 1, numT m.s, numT m.r] ++ (rterms m).take n) from by rw [HB0.out, hL, hn]; rfl)
  have wl : wrap64 ((L : Int) - 2) = (n : Int) := by rw [IntWalk.wrap64_in _ (by omega)]; omega
  have l1 : (0 : Int) ≤ (n : Int) := by omega
  clear hsl hn hL hn10 hv hc1 hc2 HB0
  have HA2 := Lib.hid (MsgAt.keep HA1.out O2.out id)
  obtain ⟨e0, e1, e2⟩ := nums3 HA2.out KK.out
  go_wp2_with fail
  obtain ⟨A, hA⟩ : ∃ A, A = w.heap.size := ⟨_, rfl⟩
  rw [← hA] at HA2 e0 e1 e2 ⊢
  have N1 := Lib.hid (fun W => refnumber_any 1 W (by decide) (by decide))
  have N2 := Lib.hid (fun W => refnumber_any m.s W HS.out.1 (Int.le_trans HS.out.2 (by decide)))
  have N3 := Lib.hid (fun W => refnumber_any m.r W HR.out.1 (Int.le_trans HR.out.2 (by decide)))
  have u0 : IntKind.u64.wrap m.s = m.s := IntWalk.u64_in _ (by have := HS.out; omega)
  have u1 : IntKind.u64.wrap m.r = m.r := IntWalk.u64_in _ (by have := HR.out; omega)
  have R := Lib.hid ((Only.refl (fun _ => False) W2).drew)
  have HAE := Lib.hid hA
  clear hA hg hS
  go_region_held3 (fun w' => w'.cell? ⟨A, 0, none⟩ = some (.int .i64 1) ∧ w'.cell? ⟨A, 1, none⟩ = some (.int .u32 m.s) ∧ w'.cell? ⟨A, 2, none⟩ = some (.int .u32 m.r)) (first | exact nums3 (MsgAt.keep HA2.out R.out id) KK.out | exact nums3 (MsgAt.keep HA2.out (R.out.alloc _) id) KK.out)
    (first
      | (go_at_call_of 125 m.s; (with_reducible refine Calls.mono (N2.out _) ?_); rintro e w7 ⟨o', rfl⟩; have R := Lib.hid (R.out.trans o'); clear o')
      | (go_at_call_of 125 m.r; (with_reducible refine Calls.mono (N3.out _) ?_); rintro e w7 ⟨o', rfl⟩; have R := Lib.hid (R.out.trans o'); clear o')
      | (go_at_call 125; refine Calls.mono (N1.out _) ?_; rintro e w7 ⟨o', rfl⟩; have R := Lib.hid (R.out.trans o'); clear o'))
  have SZ := Lib.hid (show A < W2.heap.size from MsgAt.lt HA2.out)
  obtain ⟨X, hX⟩ : ∃ X, X = w7.alloc (.cells #[.string ⟨(numT 1).toArray⟩, .string ⟨(numT m.s).toArray⟩, .string ⟨(numT m.r).toArray⟩] 9) := ⟨_, rfl⟩
  have ox : Only (fun _ => False) W2 X := by rw [hX]; exact R.out.alloc _
  have own3 : X.ownsRow w7.heap.size 9 1 (.slice (some ⟨w7.heap.size, 0, none⟩) 3 3) 3 ([numT 1, numT m.s, numT m.r].map sv) := by rw [hX]; exact own_lit3 w7 _ _ _
  have hx7 : w7.heap.size ≤ X.heap.size := by rw [hX, World.size_alloc]; omega
  have hln : ((rterms m).take n).length = n := by rw [List.length_take, HN.out]; omega
  obtain ⟨g', cp, W10, hap, own10, on10⟩ := add_all own3 (HSL.out.keep ox fun _ _ h => h) hx7 (by omega) (by rw [hln]; have := HN10.out; omega)
  have O10 := Lib.hid (on10 W2 ox R.out.size)
  have HAP := Lib.hid hap
  have SLL := Lib.hid (show Sl W10 (fun k => A < k) (.slice (some ⟨g', 0, none⟩) (3 + n) cp) (([numT 1, numT m.s, numT m.r] ++ (rterms m).take n).map sv) from by
    have e : ([numT 1, numT m.s, numT m.r] ++ (rterms m).take n).length = 3 + n := by rw [List.length_append, hln]; rfl
    refine trE.own_sl (NB := A) ?_
    rw [e, List.map_append]
    exact prS.owns_base own10 (Nat.le_trans SZ.out R.out.size))
  have CM := Lib.hid (reflist_any ([numT 1, numT m.s, numT m.r] ++ (rterms m).take n) (fun k => A < k) (some ⟨g', 0, none⟩) (3 + n) cp W10 SLL.out (by
    refine Nat.le_trans (total_small _ fun p hp => ?_) (by rw [List.length_append, hln]; have := HN10.out; simp; omega)
    rcases List.mem_append.1 hp with hp | hp
    · have h1 := numT_65 (n := 1) (by decide) (by decide)
      have h2 := numT_65 HS.out.1 (Int.le_trans HS.out.2 (by decide))
      have h3 := numT_65 HR.out.1 (Int.le_trans HR.out.2 (by decide))
      simp at hp
      rcases hp with rfl | rfl | rfl
      · exact h1
      · exact h2
      · exact h3
    · exact Nat.le_succ_of_le (RL.out p (List.mem_of_mem_take hp))) (by rw [List.length_append, hln]; have := HN10.out; simp; omega))
  rw [← hX]
  clear hX ox own3 hx7 hap own10 on10 u0 u1 e0 e1 e2
  go_wp2_with (at_builtin; refine Lib.wpList_append_run _ rfl (.tmp 28) (.tmp 33) 25 25 rfl _ _ rfl rfl _ _ HAP.out ?_)
  (with_reducible refine CM.out.mono ?_)
  rintro e w11 ⟨o', rfl⟩
  have O11 := Lib.hid o'
  clear o'
  go_wp2_with fail
  go_ret
  exact ⟨(((oW.out.trans O1.out).trans O2.out).trans O10.out).trans O11.out, by rw [HB.out]; rfl⟩

set_option maxRecDepth 100000 in
set_option maxHeartbeats 3200000 in
theorem rbody_2 (m : Msg) (w : World) (hk : m.k = 2) (hr1 : rightM m = true) (ht : ∀ i, (m.t i).size ≤ 100000000) (hs : 0 ≤ m.s ∧ m.s ≤ 4294967295) (hr : 0 ≤ m.r ∧ m.r ≤ 4294967295) : Calls Try.prog 63 #[mval m] w (Made w (bodyM m)) := by
  have HA := Lib.hid (show MsgAt (w.alloc (.cells m.row 61)) w.heap.size m from heap_alloc_new w _)
  have oW := Lib.hid (show Only (fun _ => False) w (w.alloc (.cells m.row 61)) from (Only.refl _ w).alloc _)
  have RG := Lib.hid (refright_any m (w.alloc (.cells m.row 61)) ht)
  have CR := Lib.hid (fun W => refterms_any m W)
  rw [hr1] at RG
  have KK := Lib.hid hk
  have HS := Lib.hid hs
  have HR := Lib.hid hr
  have RL := Lib.hid (right_len hr1)
  have HB0 := Lib.hid (show bodyM m = mkI 11 0 [] ([numT 2, numT m.s, numT m.r] ++ (rterms m).take ((rterms m).length - 2)) from by rw [bodyM_eq, if_pos ⟨hr1, by rw [hk]; decide⟩, hk])
  obtain ⟨d0, d1, d2, d3, d4, d5, d6, d7, d8, d9, d10, d11, d12⟩ := MsgAt.cells HA.out
  simp only [mval, Msg.row] at CR RG d0 d1 d2 d3 d4 d5 d6 d7 d8 d9 d10 d11 d12
  rw [hk] at RG d0
  have CR2 := Lib.hid (fun W => (show Calls Try.prog 62 #[.agg #[.int .i64 2, .int .u32 m.s, .int .u32 m.r, .int .u64 m.c, .string (m.t 4), .string (m.t 5), .string (m.t 6), .string (m.t 7), .string (m.t 8), .string (m.t 9), .string (m.t 10), .string (m.t 11), .string (m.t 12)]] W (Lists W (rterms m)) from by rw [← hk]; exact CR.out W))
  unfold mval
  rw [hk]
  clear ht hs hr hk hr1 CR
  go_enter Try.func63, Try.ntmps63
  go_wp2_with fail
  (with_reducible refine RG.out.mono ?_)
  rintro e W1 ⟨rfl, o⟩
  have O1 := Lib.hid (show Only (fun _ => False) (w.alloc (.cells m.row 61)) W1 from by rw [show m.row = #[.int .i64 2, .int .u32 m.s, .int .u32 m.r, .int .u64 m.c, .string (m.t 4), .string (m.t 5), .string (m.t 6), .string (m.t 7), .string (m.t 8), .string (m.t 9), .string (m.t 10), .string (m.t 11), .string (m.t 12)] from by rw [Msg.row, KK.out]]; exact o)
  clear o RG d0 d1 d2 d3 d4 d5 d6 d7 d8 d9 d10 d11 d12
  have HA1 := Lib.hid (MsgAt.keep HA.out O1.out id)
  obtain ⟨d0, d1, d2, d3, d4, d5, d6, d7, d8, d9, d10, d11, d12⟩ := c13 HA1.out KK.out
  go_wp2_with fail
  (with_reducible refine (CR2.out _).mono ?_)
  rintro e W2 ⟨o, a, c, rfl, hc1, hc2, hsl⟩
  have O2 := Lib.hid o
  clear o d0 d1 d2 d3 d4 d5 d6 d7 d8 d9 d10 d11 d12
  obtain ⟨L, hL⟩ : ∃ L, L = (rterms m).length := ⟨_, rfl⟩
  rw [← hL] at hc1 hsl HB0 ⊢
  obtain ⟨n, hn, hn10⟩ := rterms_len (m := m) (by rw [KK.out]; decide)
  obtain ⟨g, o, c', hv, hS, hg, -⟩ := sl_lits hsl (by omega)
  have HSL := Lib.hid (sl_take hsl (n := n) (by omega))
  obtain rfl : a = some ⟨g, o, none⟩ := by injection hv
  have nc : n ≤ c := by omega
  have HN := Lib.hid hn
  have HN10 := Lib.hid hn10
  have HB := Lib.hid (show bodyM m = mkI 11 0 [] ([numT 2, numT m.s, numT m.r] ++ (rterms m).take n) from by rw [HB0.out, hL, hn]; rfl)
  have wl : wrap64 ((L : Int) - 2) = (n : Int) := by rw [IntWalk.wrap64_in _ (by omega)]; omega
  have l1 : (0 : Int) ≤ (n : Int) := by omega
  clear hsl hn hL hn10 hv hc1 hc2 HB0
  have HA2 := Lib.hid (MsgAt.keep HA1.out O2.out id)
  obtain ⟨e0, e1, e2⟩ := nums3 HA2.out KK.out
  go_wp2_with fail
  obtain ⟨A, hA⟩ : ∃ A, A = w.heap.size := ⟨_, rfl⟩
  rw [← hA] at HA2 e0 e1 e2 ⊢
  have N1 := Lib.hid (fun W => refnumber_any 2 W (by decide) (by decide))
  have N2 := Lib.hid (fun W => refnumber_any m.s W HS.out.1 (Int.le_trans HS.out.2 (by decide)))
  have N3 := Lib.hid (fun W => refnumber_any m.r W HR.out.1 (Int.le_trans HR.out.2 (by decide)))
  have u0 : IntKind.u64.wrap m.s = m.s := IntWalk.u64_in _ (by have := HS.out; omega)
  have u1 : IntKind.u64.wrap m.r = m.r := IntWalk.u64_in _ (by have := HR.out; omega)
  have R := Lib.hid ((Only.refl (fun _ => False) W2).drew)
  have HAE := Lib.hid hA
  clear hA hg hS
  go_region_held3 (fun w' => w'.cell? ⟨A, 0, none⟩ = some (.int .i64 2) ∧ w'.cell? ⟨A, 1, none⟩ = some (.int .u32 m.s) ∧ w'.cell? ⟨A, 2, none⟩ = some (.int .u32 m.r)) (first | exact nums3 (MsgAt.keep HA2.out R.out id) KK.out | exact nums3 (MsgAt.keep HA2.out (R.out.alloc _) id) KK.out)
    (first
      | (go_at_call_of 125 m.s; (with_reducible refine Calls.mono (N2.out _) ?_); rintro e w7 ⟨o', rfl⟩; have R := Lib.hid (R.out.trans o'); clear o')
      | (go_at_call_of 125 m.r; (with_reducible refine Calls.mono (N3.out _) ?_); rintro e w7 ⟨o', rfl⟩; have R := Lib.hid (R.out.trans o'); clear o')
      | (go_at_call 125; refine Calls.mono (N1.out _) ?_; rintro e w7 ⟨o', rfl⟩; have R := Lib.hid (R.out.trans o'); clear o'))
  have SZ := Lib.hid (show A < W2.heap.size from MsgAt.lt HA2.out)
  obtain ⟨X, hX⟩ : ∃ X, X = w7.alloc (.cells #[.string ⟨(numT 2).toArray⟩, .string ⟨(numT m.s).toArray⟩, .string ⟨(numT m.r).toArray⟩] 9) := ⟨_, rfl⟩
  have ox : Only (fun _ => False) W2 X := by rw [hX]; exact R.out.alloc _
  have own3 : X.ownsRow w7.heap.size 9 1 (.slice (some ⟨w7.heap.size, 0, none⟩) 3 3) 3 ([numT 2, numT m.s, numT m.r].map sv) := by rw [hX]; exact own_lit3 w7 _ _ _
  have hx7 : w7.heap.size ≤ X.heap.size := by rw [hX, World.size_alloc]; omega
  have hln : ((rterms m).take n).length = n := by rw [List.length_take, HN.out]; omega
  obtain ⟨g', cp, W10, hap, own10, on10⟩ := add_all own3 (HSL.out.keep ox fun _ _ h => h) hx7 (by omega) (by rw [hln]; have := HN10.out; omega)
  have O10 := Lib.hid (on10 W2 ox R.out.size)
  have HAP := Lib.hid hap
  have SLL := Lib.hid (show Sl W10 (fun k => A < k) (.slice (some ⟨g', 0, none⟩) (3 + n) cp) (([numT 2, numT m.s, numT m.r] ++ (rterms m).take n).map sv) from by
    have e : ([numT 2, numT m.s, numT m.r] ++ (rterms m).take n).length = 3 + n := by rw [List.length_append, hln]; rfl
    refine trE.own_sl (NB := A) ?_
    rw [e, List.map_append]
    exact prS.owns_base own10 (Nat.le_trans SZ.out R.out.size))
  have CM := Lib.hid (reflist_any ([numT 2, numT m.s, numT m.r] ++ (rterms m).take n) (fun k => A < k) (some ⟨g', 0, none⟩) (3 + n) cp W10 SLL.out (by
    refine Nat.le_trans (total_small _ fun p hp => ?_) (by rw [List.length_append, hln]; have := HN10.out; simp; omega)
    rcases List.mem_append.1 hp with hp | hp
    · have h1 := numT_65 (n := 2) (by decide) (by decide)
      have h2 := numT_65 HS.out.1 (Int.le_trans HS.out.2 (by decide))
      have h3 := numT_65 HR.out.1 (Int.le_trans HR.out.2 (by decide))
      simp at hp
      rcases hp with rfl | rfl | rfl
      · exact h1
      · exact h2
      · exact h3
    · exact Nat.le_succ_of_le (RL.out p (List.mem_of_mem_take hp))) (by rw [List.length_append, hln]; have := HN10.out; simp; omega))
  rw [← hX]
  clear hX ox own3 hx7 hap own10 on10 u0 u1 e0 e1 e2
  go_wp2_with (at_builtin; refine Lib.wpList_append_run _ rfl (.tmp 28) (.tmp 33) 25 25 rfl _ _ rfl rfl _ _ HAP.out ?_)
  (with_reducible refine CM.out.mono ?_)
  rintro e w11 ⟨o', rfl⟩
  have O11 := Lib.hid o'
  clear o'
  go_wp2_with fail
  go_ret
  exact ⟨(((oW.out.trans O1.out).trans O2.out).trans O10.out).trans O11.out, by rw [HB.out]; rfl⟩

theorem reflist2 (x y : ByteArray) (w : World) (hx : x.size ≤ 10000000) (hy : y.size ≤ 10000000) : Calls Try.prog 126 #[.slice (some ⟨w.heap.size, 0, none⟩) 2 2] (w.alloc (.cells #[.string x, .string y] 9)) (Made w (mkI 11 0 [] [x.data.toList, y.data.toList])) := by
  refine (reflist_any [x.data.toList, y.data.toList] _ _ 2 2 _ (sl_strs w [x, y] (by simp)) (by
    simp only [total, List.map_cons, List.map_nil, List.sum_cons, List.sum_nil, tl_size]
    omega) (by simp)).mono ?_
  rintro e w' ⟨o, rfl⟩
  exact ⟨((Only.refl _ w).alloc _).trans o, rfl⟩

set_option maxRecDepth 100000 in
theorem rbody_no (m : Msg) (w : World) (h : rightM m = false ∨ 2 < m.k) (ht : ∀ i, (m.t i).size ≤ 100000000) : Calls Try.prog 63 #[mval m] w (Made w (bodyM m)) := by
  have HA := Lib.hid (show MsgAt (w.alloc (.cells m.row 61)) w.heap.size m from heap_alloc_new w _)
  have oW := Lib.hid (show Only (fun _ => False) w (w.alloc (.cells m.row 61)) from (Only.refl _ w).alloc _)
  have RG := Lib.hid (refright_any m (w.alloc (.cells m.row 61)) ht)
  have HB := Lib.hid (show bodyM m = [] from by
    rw [bodyM_eq, if_neg]
    rintro ⟨q1, q2⟩
    rcases h with h | h
    · rw [h] at q1
      cases q1
    · omega)
  obtain ⟨d0, d1, d2, d3, d4, d5, d6, d7, d8, d9, d10, d11, d12⟩ := MsgAt.cells HA.out
  simp only [mval, Msg.row] at RG d0 d1 d2 d3 d4 d5 d6 d7 d8 d9 d10 d11 d12
  unfold mval
  cases hq : rightM m with
  | false =>
    rw [hq] at RG
    clear ht h hq
    go_enter Try.func63, Try.ntmps63
    go_wp2_with fail
    (with_reducible refine RG.out.mono ?_)
    rintro e W1 ⟨rfl, o⟩
    have O1 := Lib.hid (show Only (fun _ => False) (w.alloc (.cells m.row 61)) W1 from o)
    clear o RG
    go_wp2_with fail
    go_ret
    exact ⟨oW.out.trans O1.out, by rw [HB.out]; rfl⟩
  | true =>
    rw [hq] at RG
    have h2 : 2 < m.k := by
      rcases h with h | h
      · rw [h] at hq
        cases hq
      · exact h
    have g2 : (2 < m.k) = True := eq_true h2
    clear ht h hq h2
    go_enter Try.func63, Try.ntmps63
    go_wp2_with fail
    (with_reducible refine RG.out.mono ?_)
    rintro e W1 ⟨rfl, o⟩
    have O1 := Lib.hid (show Only (fun _ => False) (w.alloc (.cells m.row 61)) W1 from o)
    obtain ⟨e0, -⟩ := MsgAt.cells (MsgAt.keep HA.out O1.out id)
    clear o RG d0 d1 d2 d3 d4 d5 d6 d7 d8 d9 d10 d11 d12
    go_wp2_with fail
    go_ret
    exact ⟨oW.out.trans O1.out, by rw [HB.out]; rfl⟩

theorem rbody_any (m : Msg) (w : World) (ht : ∀ i, (m.t i).size ≤ 100000000) (hs : 0 ≤ m.s ∧ m.s ≤ 4294967295) (hr : 0 ≤ m.r ∧ m.r ≤ 4294967295) : Calls Try.prog 63 #[mval m] w (Made w (bodyM m)) := by
  by_cases h : rightM m = false ∨ 2 < m.k
  · exact rbody_no m w h ht
  have hq : rightM m = true := by
    cases e : rightM m
    · exact absurd (Or.inl e) h
    · rfl
  have hk := rightM_k hq
  have e : m.k = 1 ∨ m.k = 2 := by omega
  rcases e with e | e
  · exact rbody_1 m w e hq ht hs hr
  · exact rbody_2 m w e hq ht hs hr

set_option maxRecDepth 100000 in
set_option maxHeartbeats 1600000 in
theorem rsigned_any (m : Msg) (w : World) (ht : ∀ i, (m.t i).size ≤ 10000000) (hs : 0 ≤ m.s ∧ m.s ≤ 4294967295) (hr : 0 ≤ m.r ∧ m.r ≤ 4294967295) : Calls Try.prog 64 #[mval m] w (Made w (signedM m)) := by
  have HA := Lib.hid (show MsgAt (w.alloc (.cells m.row 61)) w.heap.size m from heap_alloc_new w _)
  have oW := Lib.hid (show Only (fun _ => False) w (w.alloc (.cells m.row 61)) from (Only.refl _ w).alloc _)
  have CB := Lib.hid (rbody_any m (w.alloc (.cells m.row 61)) (fun i => Nat.le_trans (ht i) (by decide)) hs hr)
  have HT := Lib.hid (ht 11)
  obtain ⟨d0, d1, d2, d3, d4, d5, d6, d7, d8, d9, d10, d11, d12⟩ := MsgAt.cells HA.out
  simp only [mval, Msg.row] at CB d0 d1 d2 d3 d4 d5 d6 d7 d8 d9 d10 d11 d12
  unfold mval
  obtain ⟨bs, hbs⟩ : ∃ bs : ByteArray, bs = ⟨(bodyM m).toArray⟩ := ⟨_, rfl⟩
  have HBS := Lib.hid (show bs.data.toList = bodyM m from by rw [hbs])
  clear ht hs hr
  go_enter Try.func64, Try.ntmps64
  go_wp2_with fail
  (with_reducible refine CB.out.mono ?_)
  rintro e W2 ⟨o, rfl⟩
  rw [← hbs]
  have O2 := Lib.hid (show Only (fun _ => False) (w.alloc (.cells m.row 61)) W2 from o)
  have HA2 := Lib.hid (MsgAt.keep HA.out O2.out id)
  have c11 := MsgAt.text HA2.out (i := 11) (by decide) (by decide)
  clear o CB d0 d1 d2 d3 d4 d5 d6 d7 d8 d9 d10 d11 d12 hbs
  by_cases h0 : bs = ⟨#[]⟩
  · have x1 := beq_t h0
    have x2 := eq_t h0
    have x3 : bs.toList.isEmpty = true := by rw [byteArray_toList, h0]; rfl
    have HF := Lib.hid (show signedM m = [] from by rw [signedM, if_pos]; rw [← HBS.out, h0])
    clear h0
    go_wp2_with fail
    go_ret
    exact ⟨oW.out.trans O2.out, by rw [HF.out]; rfl⟩
  · have x1 := beq_f h0
    have x2 := eq_f h0
    have x3 : bs.toList.isEmpty = false := by
      rw [byteArray_toList, Bool.eq_false_iff]
      intro q
      exact h0 (by
        have e : bs = ⟨bs.data.toList.toArray⟩ := by simp
        rw [e, List.isEmpty_iff.1 q])
    have HF := Lib.hid (show signedM m = mkI 11 0 [] [bs.data.toList, (m.t 11).data.toList] from by
      rw [signedM, if_neg, HBS.out]
      intro q
      rw [q] at HBS
      have := HBS.out
      exact h0 (by
        have e : bs = ⟨bs.data.toList.toArray⟩ := by simp
        rw [e, this]))
    have CM := Lib.hid (reflist2 bs (m.t 11) W2 (by have := HBS.out; have h2 := bodyM_len m; rw [← this, tl_size] at h2; omega) HT.out)
    clear h0
    go_wp2_with fail
    (with_reducible refine CM.out.mono ?_)
    rintro e w11 ⟨o', rfl⟩
    have O11 := Lib.hid o'
    clear o'
    go_wp2_with fail
    go_ret
    exact ⟨(oW.out.trans O2.out).trans O11.out, by rw [HF.out]; rfl⟩
end Go.Proofs.Ytbjnejnjlidiaaa.wrK
namespace Go.Proofs.Ytbjnejnjlidiaaa.wrL
open Go.RowKit kit numA numC numD tmA tmD trA trB prR prS prW prX wrA wrB wrC wrD wrE wrF wrG wrH wrI wrJ
set_option linter.unusedVariables false
set_option linter.unusedSimpArgs false

end Go.Proofs.Ytbjnejnjlidiaaa.wrL

