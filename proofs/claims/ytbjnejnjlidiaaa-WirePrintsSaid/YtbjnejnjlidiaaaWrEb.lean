/- (more) Wire: Terms. -/
import Derived.Test.YtbjnejnjlidiaaaWrE
import Derived.Test.YtbjnejnjlidiaaaTsJb
namespace Go.Proofs.Ytbjnejnjlidiaaa.wrE
open Go.RowKit kit numA numC numD tmA tmD trA trB prR prS wrA wrB wrC wrD
set_option linter.unusedVariables false
set_option linter.unusedSimpArgs false

end Go.Proofs.Ytbjnejnjlidiaaa.wrE
namespace Go.Proofs.Ytbjnejnjlidiaaa.wrF
open Go.RowKit kit numA numC numD tmA tmD trA trB prR prS prW prX wrA wrB wrC wrD wrE
set_option linter.unusedVariables false
set_option linter.unusedSimpArgs false

theorem sl_take {w : World} {S : Nat → Prop} {a : Option Addr} {L c n : Nat} {ps : List Txt} (h : Sl w S (.slice a L c) (ps.map sv)) (hn : n ≤ ps.length) : Sl w S (.slice a n c) ((ps.take n).map sv) := by
  obtain ⟨hm, a', cap, hv, h⟩ := h
  injection hv with e1 e2 e3
  subst e1 e2 e3
  rw [List.length_map] at hm
  refine ⟨by rw [List.length_map, List.length_take]; omega, a, c, by rw [List.length_map, List.length_take, Nat.min_eq_left hn], ?_⟩
  rcases h with h | ⟨g, o, ha, hS, hg, hc⟩
  · left
    rw [List.map_eq_nil_iff] at h
    rw [h]
    simp
  · refine .inr ⟨g, o, ha, hS, hg, fun i hi => ?_⟩
    rw [List.length_map, List.length_take] at hi
    rw [hc i (by rw [List.length_map]; omega)]
    simp [List.getD_eq_getElem?_getD, List.getElem?_map, List.getElem?_take, show i < n by omega]

/-- A row of texts just built. -/
theorem own_lit (w : World) (xs : List ByteArray) (hl : xs.length ≤ 1000) : (w.alloc (.cells (xs.map Value.string).toArray 9)).ownsRow w.heap.size 9 1 (.slice (some ⟨w.heap.size, 0, none⟩) xs.length xs.length) xs.length ((xs.map (·.data.toList)).map sv) := by
  refine ⟨by simp, .inr ⟨w.heap.size, xs.length, _, rfl, Nat.le_refl _, heap_alloc_new w _, Nat.le_refl _, by unfold maxLen; omega, by simp, ?_⟩⟩
  rw [List.take_of_length_le (by simp)]
  simp [sv, Function.comp_def]
theorem own_lit3 (w : World) (x y z : Txt) : (w.alloc (.cells #[.string ⟨x.toArray⟩, .string ⟨y.toArray⟩, .string ⟨z.toArray⟩] 9)).ownsRow w.heap.size 9 1 (.slice (some ⟨w.heap.size, 0, none⟩) 3 3) 3 ([x, y, z].map sv) := own_lit w [⟨x.toArray⟩, ⟨y.toArray⟩, ⟨z.toArray⟩] (by simp)

def bodyM (m : Msg) : Txt := if (m.k = 1 ∨ m.k = 2) ∧ termsOf m ≠ [] then mkI 11 0 [] ([numT m.k, numT m.s, numT m.r] ++ (termsOf m).take ((termsOf m).length - 2)) else []

theorem terms_len {m : Msg} (hk : m.k = 1 ∨ m.k = 2) (h : termsOf m ≠ []) : ∃ n, (termsOf m).length = n + 2 ∧ n ≤ 10 := by
  unfold termsOf goodF at *
  by_cases hg : goodM m
  · rw [if_pos hg] at *
    rcases hk with hk | hk <;> rw [hk] at *
    · exact ⟨3, rfl, by decide⟩
    · exact ⟨2, rfl, by decide⟩
  · rw [if_neg hg] at h
    exact absurd rfl h

theorem terms_small {m : Msg} (ht : ∀ i, (m.t i).size ≤ 100000000) : ∀ p ∈ termsOf m, p.length ≤ 100000000 := by
  intro p hp
  unfold termsOf txt at hp
  obtain ⟨f, _, hf⟩ := List.mem_filterMap.1 hp
  cases f with
  | t i =>
    simp only [Option.some.injEq] at hf
    rw [← hf, tl_size]
    exact ht i
  | n i => cases hf
  | c => cases hf

theorem nums3 {w : World} {B : Nat} {m : Msg} {k : Int} (h : MsgAt w B m) (hk : m.k = k) : w.cell? ⟨B, 0, none⟩ = some (.int .i64 k) ∧ w.cell? ⟨B, 1, none⟩ = some (.int .u32 m.s) ∧ w.cell? ⟨B, 2, none⟩ = some (.int .u32 m.r) := by
  subst hk
  exact ⟨h.nums.1, h.nums.2.1, h.nums.2.2.1⟩

theorem numT_len {n : Int} (h0 : 0 ≤ n) (h1 : n ≤ (most : Nat)) : (numT n).length ≤ 100000000 := by
  have := tsJ.mkI_len (k := 3) (n := n.toNat) (b := []) (ps := []) (by omega)
  unfold numT
  omega

set_option maxRecDepth 100000 in
set_option maxHeartbeats 3200000 in
theorem body_1 (m : Msg) (w : World) (hk : m.k = 1) (ht : ∀ i, (m.t i).size ≤ 100000000) (hs : 0 ≤ m.s ∧ m.s ≤ 4294967295) (hr : 0 ≤ m.r ∧ m.r ≤ 4294967295) : Calls Try.prog 58 #[mval m] w (Made w (bodyM m)) := by
  have HA := Lib.hid (show MsgAt (w.alloc (.cells m.row 61)) w.heap.size m from heap_alloc_new w _)
  have oW := Lib.hid (show Only (fun _ => False) w (w.alloc (.cells m.row 61)) from (Only.refl _ w).alloc _)
  have CR := Lib.hid (terms_any m (w.alloc (.cells m.row 61)) ht)
  have KK := Lib.hid hk
  have HS := Lib.hid hs
  have HR := Lib.hid hr
  have HT := Lib.hid ht
  obtain ⟨d0, d1, d2, d3, d4, d5, d6, d7, d8, d9, d10, d11, d12⟩ := MsgAt.cells HA.out
  simp only [mval, Msg.row] at CR d0 d1 d2 d3 d4 d5 d6 d7 d8 d9 d10 d11 d12
  rw [hk] at CR d0
  unfold mval
  rw [hk]
  clear ht hs hr hk
  go_enter Try.func58, Try.ntmps58
  go_wp2_with fail
  (with_reducible refine CR.out.mono ?_)
  rintro e W2 ⟨o, a, c, rfl, hc1, hc2, hsl⟩
  have O2 := Lib.hid (show Only (fun _ => False) (w.alloc (.cells m.row 61)) W2 from by rw [show m.row = #[.int .i64 1, .int .u32 m.s, .int .u32 m.r, .int .u64 m.c, .string (m.t 4), .string (m.t 5), .string (m.t 6), .string (m.t 7), .string (m.t 8), .string (m.t 9), .string (m.t 10), .string (m.t 11), .string (m.t 12)] from by rw [Msg.row, KK.out]]; exact o)
  clear o CR d0 d1 d2 d3 d4 d5 d6 d7 d8 d9 d10 d11 d12
  obtain ⟨L, hL⟩ : ∃ L, L = (termsOf m).length := ⟨_, rfl⟩
  rw [← hL] at hc1 hsl ⊢
  by_cases h0 : termsOf m = []
  · have HB := Lib.hid (show bodyM m = [] from by rw [bodyM, if_neg (fun q => q.2 h0)])
    rw [h0] at hL
    have hL' : L = 0 := hL
    subst hL'
    clear hsl h0 hL hc1 hc2
    go_wp2_with fail
    go_ret
    exact ⟨oW.out.trans O2.out, by rw [HB.out]; rfl⟩
  obtain ⟨n, hn, hn10⟩ := terms_len (by rw [KK.out]; decide) h0
  obtain ⟨g, o, c', hv, hS, hg, -⟩ := sl_lits hsl (by omega)
  have HSL := Lib.hid (sl_take hsl (n := n) (by omega))
  obtain rfl : a = some ⟨g, o, none⟩ := by injection hv
  have nc : n ≤ c := by omega
  have SM := Lib.hid (show ∀ p ∈ (termsOf m).take n, p.length ≤ 100000000 from fun p hp => terms_small HT.out p (List.mem_of_mem_take hp))
  have HN := Lib.hid hn
  have HN10 := Lib.hid hn10
  have HB := Lib.hid (show bodyM m = mkI 11 0 [] ([numT 1, numT m.s, numT m.r] ++ (termsOf m).take n) from by rw [bodyM, if_pos ⟨by rw [KK.out]; decide, h0⟩, hn, KK.out]; rfl)
  have wl : wrap64 ((L : Int) - 2) = (n : Int) := by rw [IntWalk.wrap64_in _ (by omega)]; omega
  have c0 : ((L : Int) == 0) = false := by rw [beq_eq_false_iff_ne]; omega
  have l1 : (0 : Int) ≤ (n : Int) := by omega
  clear hsl hn h0 hL hn10 hv hc1 hc2
  go_wp2_with fail
  have HA2 := Lib.hid (MsgAt.keep HA.out O2.out id)
  obtain ⟨e0, e1, e2⟩ := nums3 HA2.out KK.out
  obtain ⟨A, hA⟩ : ∃ A, A = w.heap.size := ⟨_, rfl⟩
  rw [← hA] at HA2 e0 e1 e2 ⊢
  have N1 := Lib.hid (fun W => number_any 1 W (by decide) (by decide))
  have N2 := Lib.hid (fun W => number_any m.s W HS.out.1 (Int.le_trans HS.out.2 (by decide)))
  have N3 := Lib.hid (fun W => number_any m.r W HR.out.1 (Int.le_trans HR.out.2 (by decide)))
  have u0 : IntKind.u64.wrap m.s = m.s := IntWalk.u64_in _ (by have := HS.out; omega)
  have u1 : IntKind.u64.wrap m.r = m.r := IntWalk.u64_in _ (by have := HR.out; omega)
  have R := Lib.hid ((Only.refl (fun _ => False) W2).drew)
  have HAE := Lib.hid hA
  clear hA hg hS
  go_region_held3 (fun w' => w'.cell? ⟨A, 0, none⟩ = some (.int .i64 1) ∧ w'.cell? ⟨A, 1, none⟩ = some (.int .u32 m.s) ∧ w'.cell? ⟨A, 2, none⟩ = some (.int .u32 m.r)) (first | exact nums3 (MsgAt.keep HA2.out R.out id) KK.out | exact nums3 (MsgAt.keep HA2.out (R.out.alloc _) id) KK.out)
    (first
      | (go_at_call_of 119 m.s; (with_reducible refine Calls.mono (N2.out _) ?_); rintro e w7 ⟨o', rfl⟩; have R := Lib.hid (R.out.trans o'); clear o')
      | (go_at_call_of 119 m.r; (with_reducible refine Calls.mono (N3.out _) ?_); rintro e w7 ⟨o', rfl⟩; have R := Lib.hid (R.out.trans o'); clear o')
      | (go_at_call 119; refine Calls.mono (N1.out _) ?_; rintro e w7 ⟨o', rfl⟩; have R := Lib.hid (R.out.trans o'); clear o'))
  have SZ := Lib.hid (show A < W2.heap.size from MsgAt.lt HA2.out)
  obtain ⟨X, hX⟩ : ∃ X, X = w7.alloc (.cells #[.string ⟨(numT 1).toArray⟩, .string ⟨(numT m.s).toArray⟩, .string ⟨(numT m.r).toArray⟩] 9) := ⟨_, rfl⟩
  have ox : Only (fun _ => False) W2 X := by rw [hX]; exact R.out.alloc _
  have own3 : X.ownsRow w7.heap.size 9 1 (.slice (some ⟨w7.heap.size, 0, none⟩) 3 3) 3 ([numT 1, numT m.s, numT m.r].map sv) := by rw [hX]; exact own_lit3 w7 _ _ _
  have hx7 : w7.heap.size ≤ X.heap.size := by rw [hX, World.size_alloc]; omega
  have hln : ((termsOf m).take n).length = n := by rw [List.length_take, HN.out]; omega
  obtain ⟨g', cp, W10, hap, own10, on10⟩ := add_all own3 (HSL.out.keep ox fun _ _ h => h) hx7 (by omega) (by rw [hln]; have := HN10.out; omega)
  have O10 := Lib.hid (on10 W2 ox R.out.size)
  have HAP := Lib.hid hap
  have SLL := Lib.hid (show Sl W10 (fun k => A < k) (.slice (some ⟨g', 0, none⟩) (3 + n) cp) (([numT 1, numT m.s, numT m.r] ++ (termsOf m).take n).map sv) from by
    have e : ([numT 1, numT m.s, numT m.r] ++ (termsOf m).take n).length = 3 + n := by rw [List.length_append, hln]; rfl
    refine trE.own_sl (NB := A) ?_
    rw [e, List.map_append]
    exact prS.owns_base own10 (Nat.le_trans SZ.out R.out.size))
  have CM := Lib.hid (show Calls Try.prog 30 #[.int .i64 11, .int .u64 0, .slice none 0 0, .slice (some ⟨g', 0, none⟩) (3 + n) cp] W10 _ from make_any 11 0 [] ([numT 1, numT m.s, numT m.r] ++ (termsOf m).take n) (fun k => A < k) (fun _ => False) (.slice none 0 0) (.slice (some ⟨g', 0, none⟩) (3 + n) cp) W10 (by decide) (sl_nil _ _) (Nat.zero_le _) SLL.out (fun p hp => by
    rcases List.mem_append.1 hp with hp | hp
    · have h1 := numT_len (n := 1) (by decide) (by decide)
      have h2 := numT_len HS.out.1 (Int.le_trans HS.out.2 (by decide))
      have h3 := numT_len HR.out.1 (Int.le_trans HR.out.2 (by decide))
      simp at hp
      rcases hp with rfl | rfl | rfl
      · exact h1
      · exact h2
      · exact h3
    · exact SM.out p hp) (by rw [List.length_append, hln]; have := HN10.out; simp; omega))
  rw [← hX]
  clear hX ox own3 hx7 hap own10 on10 u0 u1 e0 e1 e2
  go_wp2_with (at_builtin; refine Lib.wpList_append_run _ rfl (.tmp 31) (.tmp 36) 25 25 rfl _ _ rfl rfl _ _ HAP.out ?_)
  (with_reducible refine CM.out.mono ?_)
  rintro e w11 ⟨o', rfl⟩
  have O11 := Lib.hid o'
  clear o'
  go_wp2_with fail
  go_ret
  exact ⟨((oW.out.trans O2.out).trans O10.out).trans O11.out, by rw [HB.out]; rfl⟩

set_option maxRecDepth 100000 in
set_option maxHeartbeats 3200000 in
theorem body_2 (m : Msg) (w : World) (hk : m.k = 2) (ht : ∀ i, (m.t i).size ≤ 100000000) (hs : 0 ≤ m.s ∧ m.s ≤ 4294967295) (hr : 0 ≤ m.r ∧ m.r ≤ 4294967295) : Calls Try.prog 58 #[mval m] w (Made w (bodyM m)) := by
  have HA := Lib.hid (show MsgAt (w.alloc (.cells m.row 61)) w.heap.size m from heap_alloc_new w _)
  have oW := Lib.hid (show Only (fun _ => False) w (w.alloc (.cells m.row 61)) from (Only.refl _ w).alloc _)
  have CR := Lib.hid (terms_any m (w.alloc (.cells m.row 61)) ht)
  have KK := Lib.hid hk
  have HS := Lib.hid hs
  have HR := Lib.hid hr
  have HT := Lib.hid ht
  obtain ⟨d0, d1, d2, d3, d4, d5, d6, d7, d8, d9, d10, d11, d12⟩ := MsgAt.cells HA.out
  simp only [mval, Msg.row] at CR d0 d1 d2 d3 d4 d5 d6 d7 d8 d9 d10 d11 d12
  rw [hk] at CR d0
  unfold mval
  rw [hk]
  clear ht hs hr hk
  go_enter Try.func58, Try.ntmps58
  go_wp2_with fail
  (with_reducible refine CR.out.mono ?_)
  rintro e W2 ⟨o, a, c, rfl, hc1, hc2, hsl⟩
  have O2 := Lib.hid (show Only (fun _ => False) (w.alloc (.cells m.row 61)) W2 from by rw [show m.row = #[.int .i64 2, .int .u32 m.s, .int .u32 m.r, .int .u64 m.c, .string (m.t 4), .string (m.t 5), .string (m.t 6), .string (m.t 7), .string (m.t 8), .string (m.t 9), .string (m.t 10), .string (m.t 11), .string (m.t 12)] from by rw [Msg.row, KK.out]]; exact o)
  clear o CR d0 d1 d2 d3 d4 d5 d6 d7 d8 d9 d10 d11 d12
  obtain ⟨L, hL⟩ : ∃ L, L = (termsOf m).length := ⟨_, rfl⟩
  rw [← hL] at hc1 hsl ⊢
  by_cases h0 : termsOf m = []
  · have HB := Lib.hid (show bodyM m = [] from by rw [bodyM, if_neg (fun q => q.2 h0)])
    rw [h0] at hL
    have hL' : L = 0 := hL
    subst hL'
    clear hsl h0 hL hc1 hc2
    go_wp2_with fail
    go_ret
    exact ⟨oW.out.trans O2.out, by rw [HB.out]; rfl⟩
  obtain ⟨n, hn, hn10⟩ := terms_len (by rw [KK.out]; decide) h0
  obtain ⟨g, o, c', hv, hS, hg, -⟩ := sl_lits hsl (by omega)
  have HSL := Lib.hid (sl_take hsl (n := n) (by omega))
  obtain rfl : a = some ⟨g, o, none⟩ := by injection hv
  have nc : n ≤ c := by omega
  have SM := Lib.hid (show ∀ p ∈ (termsOf m).take n, p.length ≤ 100000000 from fun p hp => terms_small HT.out p (List.mem_of_mem_take hp))
  have HN := Lib.hid hn
  have HN10 := Lib.hid hn10
  have HB := Lib.hid (show bodyM m = mkI 11 0 [] ([numT 2, numT m.s, numT m.r] ++ (termsOf m).take n) from by rw [bodyM, if_pos ⟨by rw [KK.out]; decide, h0⟩, hn, KK.out]; rfl)
  have wl : wrap64 ((L : Int) - 2) = (n : Int) := by rw [IntWalk.wrap64_in _ (by omega)]; omega
  have c0 : ((L : Int) == 0) = false := by rw [beq_eq_false_iff_ne]; omega
  have l1 : (0 : Int) ≤ (n : Int) := by omega
  clear hsl hn h0 hL hn10 hv hc1 hc2
  go_wp2_with fail
  have HA2 := Lib.hid (MsgAt.keep HA.out O2.out id)
  obtain ⟨e0, e1, e2⟩ := nums3 HA2.out KK.out
  obtain ⟨A, hA⟩ : ∃ A, A = w.heap.size := ⟨_, rfl⟩
  rw [← hA] at HA2 e0 e1 e2 ⊢
  have N1 := Lib.hid (fun W => number_any 2 W (by decide) (by decide))
  have N2 := Lib.hid (fun W => number_any m.s W HS.out.1 (Int.le_trans HS.out.2 (by decide)))
  have N3 := Lib.hid (fun W => number_any m.r W HR.out.1 (Int.le_trans HR.out.2 (by decide)))
  have u0 : IntKind.u64.wrap m.s = m.s := IntWalk.u64_in _ (by have := HS.out; omega)
  have u1 : IntKind.u64.wrap m.r = m.r := IntWalk.u64_in _ (by have := HR.out; omega)
  have R := Lib.hid ((Only.refl (fun _ => False) W2).drew)
  have HAE := Lib.hid hA
  clear hA hg hS
  go_region_held3 (fun w' => w'.cell? ⟨A, 0, none⟩ = some (.int .i64 2) ∧ w'.cell? ⟨A, 1, none⟩ = some (.int .u32 m.s) ∧ w'.cell? ⟨A, 2, none⟩ = some (.int .u32 m.r)) (first | exact nums3 (MsgAt.keep HA2.out R.out id) KK.out | exact nums3 (MsgAt.keep HA2.out (R.out.alloc _) id) KK.out)
    (first
      | (go_at_call_of 119 m.s; (with_reducible refine Calls.mono (N2.out _) ?_); rintro e w7 ⟨o', rfl⟩; have R := Lib.hid (R.out.trans o'); clear o')
      | (go_at_call_of 119 m.r; (with_reducible refine Calls.mono (N3.out _) ?_); rintro e w7 ⟨o', rfl⟩; have R := Lib.hid (R.out.trans o'); clear o')
      | (go_at_call 119; refine Calls.mono (N1.out _) ?_; rintro e w7 ⟨o', rfl⟩; have R := Lib.hid (R.out.trans o'); clear o'))
  have SZ := Lib.hid (show A < W2.heap.size from MsgAt.lt HA2.out)
  obtain ⟨X, hX⟩ : ∃ X, X = w7.alloc (.cells #[.string ⟨(numT 2).toArray⟩, .string ⟨(numT m.s).toArray⟩, .string ⟨(numT m.r).toArray⟩] 9) := ⟨_, rfl⟩
  have ox : Only (fun _ => False) W2 X := by rw [hX]; exact R.out.alloc _
  have own3 : X.ownsRow w7.heap.size 9 1 (.slice (some ⟨w7.heap.size, 0, none⟩) 3 3) 3 ([numT 2, numT m.s, numT m.r].map sv) := by rw [hX]; exact own_lit3 w7 _ _ _
  have hx7 : w7.heap.size ≤ X.heap.size := by rw [hX, World.size_alloc]; omega
  have hln : ((termsOf m).take n).length = n := by rw [List.length_take, HN.out]; omega
  obtain ⟨g', cp, W10, hap, own10, on10⟩ := add_all own3 (HSL.out.keep ox fun _ _ h => h) hx7 (by omega) (by rw [hln]; have := HN10.out; omega)
  have O10 := Lib.hid (on10 W2 ox R.out.size)
  have HAP := Lib.hid hap
  have SLL := Lib.hid (show Sl W10 (fun k => A < k) (.slice (some ⟨g', 0, none⟩) (3 + n) cp) (([numT 2, numT m.s, numT m.r] ++ (termsOf m).take n).map sv) from by
    have e : ([numT 2, numT m.s, numT m.r] ++ (termsOf m).take n).length = 3 + n := by rw [List.length_append, hln]; rfl
    refine trE.own_sl (NB := A) ?_
    rw [e, List.map_append]
    exact prS.owns_base own10 (Nat.le_trans SZ.out R.out.size))
  have CM := Lib.hid (show Calls Try.prog 30 #[.int .i64 11, .int .u64 0, .slice none 0 0, .slice (some ⟨g', 0, none⟩) (3 + n) cp] W10 _ from make_any 11 0 [] ([numT 2, numT m.s, numT m.r] ++ (termsOf m).take n) (fun k => A < k) (fun _ => False) (.slice none 0 0) (.slice (some ⟨g', 0, none⟩) (3 + n) cp) W10 (by decide) (sl_nil _ _) (Nat.zero_le _) SLL.out (fun p hp => by
    rcases List.mem_append.1 hp with hp | hp
    · have h1 := numT_len (n := 2) (by decide) (by decide)
      have h2 := numT_len HS.out.1 (Int.le_trans HS.out.2 (by decide))
      have h3 := numT_len HR.out.1 (Int.le_trans HR.out.2 (by decide))
      simp at hp
      rcases hp with rfl | rfl | rfl
      · exact h1
      · exact h2
      · exact h3
    · exact SM.out p hp) (by rw [List.length_append, hln]; have := HN10.out; simp; omega))
  rw [← hX]
  clear hX ox own3 hx7 hap own10 on10 u0 u1 e0 e1 e2
  go_wp2_with (at_builtin; refine Lib.wpList_append_run _ rfl (.tmp 31) (.tmp 36) 25 25 rfl _ _ rfl rfl _ _ HAP.out ?_)
  (with_reducible refine CM.out.mono ?_)
  rintro e w11 ⟨o', rfl⟩
  have O11 := Lib.hid o'
  clear o'
  go_wp2_with fail
  go_ret
  exact ⟨((oW.out.trans O2.out).trans O10.out).trans O11.out, by rw [HB.out]; rfl⟩

set_option maxRecDepth 100000 in
theorem body_no (m : Msg) (w : World) (h1 : m.k ≠ 1) (h2 : m.k ≠ 2) : Calls Try.prog 58 #[mval m] w (Made w (bodyM m)) := by
  have HA := Lib.hid (show MsgAt (w.alloc (.cells m.row 61)) w.heap.size m from heap_alloc_new w _)
  have oW := Lib.hid (show Only (fun _ => False) w (w.alloc (.cells m.row 61)) from (Only.refl _ w).alloc _)
  have HB := Lib.hid (show bodyM m = [] from by rw [bodyM, if_neg (fun q => by rcases q.1 with q | q; exact h1 q; exact h2 q)])
  obtain ⟨d0, -⟩ := MsgAt.cells HA.out
  simp only [Msg.row] at d0
  have c1 : (m.k != 1) = true := by rw [bne_iff_ne]; exact h1
  have c2 : (m.k != 2) = true := by rw [bne_iff_ne]; exact h2
  unfold mval
  clear h1 h2
  go_enter Try.func58, Try.ntmps58
  go_wp2_with fail
  go_ret
  exact ⟨oW.out, by rw [HB.out]; rfl⟩

theorem body_any (m : Msg) (w : World) (ht : ∀ i, (m.t i).size ≤ 100000000) (hs : 0 ≤ m.s ∧ m.s ≤ 4294967295) (hr : 0 ≤ m.r ∧ m.r ≤ 4294967295) : Calls Try.prog 58 #[mval m] w (Made w (bodyM m)) := by
  by_cases h1 : m.k = 1
  · exact body_1 m w h1 ht hs hr
  by_cases h2 : m.k = 2
  · exact body_2 m w h2 ht hs hr
  exact body_no m w h1 h2

def signedM (m : Msg) : Txt := if bodyM m = [] then [] else mkI 11 0 [] [bodyM m, (m.t 11).data.toList]

theorem bodyM_len (m : Msg) : (bodyM m).length ≤ 65536 := by
  unfold bodyM
  split
  · exact tsJ.mkI_len (by decide)
  · exact Nat.zero_le _

set_option maxRecDepth 100000 in
set_option maxHeartbeats 1600000 in
theorem signed_any (m : Msg) (w : World) (ht : ∀ i, (m.t i).size ≤ 100000000) (hs : 0 ≤ m.s ∧ m.s ≤ 4294967295) (hr : 0 ≤ m.r ∧ m.r ≤ 4294967295) : Calls Try.prog 59 #[mval m] w (Made w (signedM m)) := by
  have HA := Lib.hid (show MsgAt (w.alloc (.cells m.row 61)) w.heap.size m from heap_alloc_new w _)
  have oW := Lib.hid (show Only (fun _ => False) w (w.alloc (.cells m.row 61)) from (Only.refl _ w).alloc _)
  have CB := Lib.hid (body_any m (w.alloc (.cells m.row 61)) ht hs hr)
  have HT := Lib.hid (ht 11)
  obtain ⟨d0, d1, d2, d3, d4, d5, d6, d7, d8, d9, d10, d11, d12⟩ := MsgAt.cells HA.out
  simp only [mval, Msg.row] at CB d0 d1 d2 d3 d4 d5 d6 d7 d8 d9 d10 d11 d12
  unfold mval
  obtain ⟨bs, hbs⟩ : ∃ bs : ByteArray, bs = ⟨(bodyM m).toArray⟩ := ⟨_, rfl⟩
  have HBS := Lib.hid (show bs.data.toList = bodyM m from by rw [hbs])
  clear ht hs hr
  go_enter Try.func59, Try.ntmps59
  go_wp2_with fail
  (with_reducible refine CB.out.mono ?_)
  rintro e W2 ⟨o, rfl⟩
  rw [← hbs]
  have O2 := Lib.hid (show Only (fun _ => False) (w.alloc (.cells m.row 61)) W2 from o)
  have HA2 := Lib.hid (MsgAt.keep HA.out O2.out id)
  have c11 := MsgAt.text HA2.out (i := 11) (by decide) (by decide)
  clear o CB d0 d1 d2 d3 d4 d5 d6 d7 d8 d9 d10 d11 d12 hbs
  by_cases h0 : bs = ⟨#[]⟩
  · have x1 := beq_t h0
    have x2 := eq_t h0
    have x3 : bs.toList.isEmpty = true := by rw [byteArray_toList, h0]; rfl
    have HF := Lib.hid (show signedM m = [] from by rw [signedM, if_pos]; rw [← HBS.out, h0])
    clear h0
    go_wp2_with fail
    go_ret
    exact ⟨oW.out.trans O2.out, by rw [HF.out]; rfl⟩
  · have x1 := beq_f h0
    have x2 := eq_f h0
    have x3 : bs.toList.isEmpty = false := by
      rw [byteArray_toList, Bool.eq_false_iff]
      intro q
      exact h0 (by
        have e : bs = ⟨bs.data.toList.toArray⟩ := by simp
        rw [e, List.isEmpty_iff.1 q])
    have HF := Lib.hid (show signedM m = mkI 11 0 [] [bs.data.toList, (m.t 11).data.toList] from by
      rw [signedM, if_neg, HBS.out]
      intro q
      rw [q] at HBS
      have := HBS.out
      exact h0 (by
        have e : bs = ⟨bs.data.toList.toArray⟩ := by simp
        rw [e, this]))
    have CM := Lib.hid (make2 11 0 0 rfl (by decide) bs (m.t 11) W2 (by have := HBS.out; have h2 := bodyM_len m; rw [← this, tl_size] at h2; omega) HT.out)
    clear h0
    go_wp2_with fail
    (with_reducible refine CM.out.mono ?_)
    rintro e w11 ⟨o', rfl⟩
    have O11 := Lib.hid o'
    clear o'
    go_wp2_with fail
    go_ret
    exact ⟨(oW.out.trans O2.out).trans O11.out, by rw [HF.out]; rfl⟩
end Go.Proofs.Ytbjnejnjlidiaaa.wrF
namespace Go.Proofs.Ytbjnejnjlidiaaa.wrG
open Go.RowKit kit numA numC numD tmA tmD trA trB prR prS prW prX wrA wrB wrC wrD wrE wrF
set_option linter.unusedVariables false
set_option linter.unusedSimpArgs false

theorem reflist_any (ps : List Txt) (S : Nat → Prop) (a : Option Addr) (n c : Nat) (w : World) (hsl : Sl w S (.slice a n c) (ps.map sv)) (ht : total ps ≤ 50000000) (hlen : ps.length ≤ 1000000) : Calls Try.prog 126 #[.slice a n c] w (Made w (mkI 11 0 [] ps)) := by
  have CM := Lib.hid (show Calls Try.prog 32 #[.int .i64 11, .int .u64 0, .slice none 0 0, .slice a n c] w _ from tsF.refmake_any 11 0 [] ps S (fun _ => False) (.slice none 0 0) (.slice a n c) w (by decide) (sl_nil _ _) (Nat.zero_le _) hsl ht hlen)
  clear hsl ht hlen
  go_enter Try.func126, Try.ntmps126
  go_wp2_with fail
  (with_reducible refine CM.out.mono ?_)
  rintro e w2 ⟨o, rfl⟩
  have O := Lib.hid o
  clear o
  go_wp2_with fail
  go_ret
  exact ⟨O.out, rfl⟩
end Go.Proofs.Ytbjnejnjlidiaaa.wrG

