/- Addresses: the document's Plain. -/
import Derived.Test.YtokbaknckagfmaaAdG
import Derived.Test.YtokbaknckagfmaaRgA
import Derived.Laws.MakeOwn
import Derived.Deep.RegionWith
namespace Go.Proofs.Ytokbaknckagfmaa.adH
open Go.RowKit kit numA numB numD adA adB adC adD adE adF adG
set_option linter.unusedVariables false
set_option linter.unusedSimpArgs false

theorem slt {w : World} {S : Nat → Prop} {v : Value} {xs : List Value} (h : Sl w S v xs) : Sl w (fun k => k < w.heap.size) v xs := by
  obtain ⟨hm, a, c, hv, hx⟩ := h
  exact ⟨hm, a, c, hv, hx.imp id fun ⟨g, o, e, hS, hg, hc⟩ => ⟨g, o, e, hg, hg, hc⟩⟩
theorem wrapN {n : Nat} (h : n ≤ 1000) : wrap64 (n : Int) = (n : Int) := IntWalk.wrap64_in _ (by omega)
theorem wrapI {n : Nat} (h : n ≤ 1000) : IntKind.i64.wrap (n : Int) = (n : Int) := by
  rw [IntKind.wrap_i64]
  omega
theorem wrapN1 {n : Nat} (h : n ≤ 1000) : wrap64 ((n : Int) + 1) = (n : Int) + 1 := IntWalk.wrap64_in _ (by omega)
theorem made_row (W : World) (n : Nat) : RowF (W.alloc (.cells (madeCells #[.int .u8 0] n) 5)) W.heap.size n (fun _ => 0) := by
  refine ⟨_, heap_alloc_new W _, by rw [size_madeCells]; exact Nat.le_refl _, fun j hj => ?_⟩
  have e : (madeCells #[Value.int .u8 0] n)[j]? = some (.int .u8 0) := by
    simp [madeCells, hj, Nat.mod_one]
  exact e
theorem mk_zero (l : Txt) (j : Nat) : 0 = mk l 0 j := by
  have := UInt8.toNat_lt (l.getD j 0)
  unfold mk top
  rw [Nat.zero_sub, Nat.zero_min, Nat.sub_zero, Nat.div_eq_of_lt (by omega), Nat.zero_mul]
theorem mk_step (l : Txt) (k d m : Nat) (hd : d = k / 8) (hm : m = k % 8) (j : Nat) : mk l (k + 1) j = if j = d then top (l.getD d 0).toNat m + bitN (l.getD d 0).toNat m * 2 ^ (7 - m) else mk l k j := by
  by_cases h : j = d
  · subst h
    rw [if_pos rfl, ← top_step _ _ (by omega), mk]
    congr 1
    omega
  · rw [if_neg h, mk, mk]
    congr 1
    omega
theorem mk_at (l : Txt) (k d m : Nat) (hd : d = k / 8) (hm : m = k % 8) : mk l k d = top (l.getD d 0).toNat m := by
  rw [mk]
  congr 1
  omega
theorem run_mk (n : Nat) (hn : n ≤ 100) (W : World) : (Instr.makeSlice 22 (.int .i64 (n : Nat)) (.int .i64 (n : Nat))).run Try.prog W = .ok (.slice (some ⟨W.heap.size, 0, none⟩) n n) (W.alloc (.cells (madeCells #[.int .u8 0] n) 5)) := by
  obtain ⟨i0, hi0, hz0, hz1, hz2⟩ := info_parts info5
  have h := run_make (P := Try.prog) W 22 5 i0 (.int .u8 0) Try.underlying22 hi0 hz0 .i64 .i64 (n : Nat) (n : Nat) (by omega) (Int.le_refl _) (by rw [hz2]; omega) (by omega)
  rw [hz1, Nat.mul_one, Int.toNat_natCast] at h
  exact h
theorem val_eq {x b s y v : Nat} (hy : y = b * 2 ^ s) (hv : v = x + y) (hs : s ≤ 7) (h1 : y < 256) (h2 : v < 256) : (((x : Int) + (b : Int) * 2 ^ min s 8 % 256) % 256) = (v : Int) := by
  have e : ((b : Int) * 2 ^ min s 8) = ((y : Nat) : Int) := by rw [Nat.min_eq_left (by omega), hy]; simp
  rw [e]
  omega
theorem byte_add {x y v : Nat} (h : v = x + y) (hv : v < 256) : IntKind.u8.wrap ((x : Int) + (y : Int)) = (v : Int) := by
  rw [IntKind.wrap_u8]
  omega
theorem byte_shl {b s y : Nat} (h : y = b * 2 ^ s) (hy : y < 256) : IntKind.u8.wrap ((b : Int) * 2 ^ s) = (y : Int) := by
  have e : ((b : Int) * 2 ^ s) = ((y : Nat) : Int) := by rw [h]; simp
  rw [IntKind.wrap_u8, e]
  omega
set_option maxRecDepth 100000 in
set_option maxHeartbeats 3200000 in
theorem refplain_ok (S : Nat → Prop) (a : Option Addr) (n c q : Nat) (l : Txt) (w : World) (hs : Sl w S (.slice a n c) (U8 l)) (hl : n = l.length) (hr : rP n (q : Nat) = true) : Calls Try.prog 12 #[.agg #[.slice a n c, .int .i64 (q : Nat)]] w (fun e w' => ∃ g cp, e = .returned (.agg #[.slice (some ⟨g, 0, none⟩) n cp, .int .i64 (q : Nat)]) ∧ Only (fun _ => False) w w' ∧ RowF w' g n (mk l q) ∧ w.heap.size ≤ g) := by
  obtain ⟨hn16, q', hqq, hq⟩ := rP_spec hr
  obtain rfl : q = q' := by omega
  obtain ⟨X, hX⟩ : ∃ X, X = (w.alloc (.cells #[.slice a n c, .int .i64 (q : Nat)] 24)).alloc (.cells #[.slice none 0 0, .int .i64 0] 24) := ⟨_, rfl⟩
  obtain ⟨P, hP⟩ : ∃ A, A = w.heap.size := ⟨_, rfl⟩
  have O := Lib.hid (show Only (fun _ => False) w X from by rw [hX]; exact ((Only.refl _ w).alloc _).alloc _)
  have HP := Lib.hid (show PfxAt X P (.slice a n c) (q : Nat) from by rw [hX, hP]; exact Only.keep ((Only.refl (fun _ => False) _).alloc _) (heap_alloc_new w _) id)
  have HQ := Lib.hid (show PfxAt X (P + 1) (.slice none 0 0) 0 from by
    have h := heap_alloc_new (w.alloc (.cells #[.slice a n c, .int .i64 (q : Nat)] 24)) (.cells #[.slice none 0 0, .int .i64 0] 24)
    rw [World.size_alloc, ← hP] at h
    rw [hX]
    exact h)
  have HX := Lib.hid hX
  have HPE := Lib.hid hP
  have SA := Lib.hid (Sl.keep (T := fun _ => False) (show Sl w (fun x => x < P) (.slice a n c) (U8 l) from by rw [hP]; exact slt hs) O.out (fun _ _ h => h))
  have HB := Lib.hid (show n ≤ 16 ∧ q ≤ 8 * n ∧ n = l.length from ⟨hn16, hq, hl⟩)
  have hmk := run_mk n (by omega)
  clear hX hP hr hqq hs hn16 hq hl
  go_enter Try.func12, Try.ntmps12
  go_upto_region 1 with fail
  rw [← HX.out, ← HPE.out]
  obtain ⟨p0, p1⟩ := PfxAt.cells HP.out
  go_upto_region 2 with fail
  obtain ⟨Z, hZ⟩ : ∃ Z, Z = X.alloc (.cells (madeCells #[.int .u8 0] n) 5) := ⟨_, rfl⟩
  obtain ⟨g, hg⟩ : ∃ g, g = X.heap.size := ⟨_, rfl⟩
  have oZ : Only (fun _ => False) X Z := by rw [hZ]; exact (Only.refl _ _).alloc _
  have HF := Lib.hid (show RowF Z g n (mk l 0) from by rw [hZ, hg]; exact (made_row X n).congr (fun j _ => mk_zero l j))
  have h2s := O.out.size
  have h2p := lt_of HQ.out
  have HG := Lib.hid (show w.heap.size ≤ g ∧ P + 1 < g from ⟨by omega, by omega⟩)
  rw [← hZ, ← hg]
  replace O := Lib.hid (O.out.trans oZ)
  replace HP := Lib.hid (PfxAt.keep HP.out oZ id)
  replace HQ := Lib.hid (PfxAt.keep HQ.out oZ id)
  replace SA := Lib.hid (Sl.keep SA.out oZ (fun _ _ h => h))
  clear hZ hg oZ h2s h2p hmk p0 p1
  go_wp2_with fail
  go_loopw [4] (fun i wr => ∃ k : Nat, i = .int .i64 (k : Nat) ∧ k ≤ q ∧ RowF wr g n (mk l k) ∧ Only (fun x => x = g) Z wr) (fun i _ => q - (intOf i).toNat)
  case atStart => exact ⟨0, rfl, Nat.zero_le _, HF.out, Only.refl _ _⟩
  case round =>
    obtain ⟨k, rfl, hk, hF, ho⟩ := hrel
    have HF3 := Lib.hid hF
    have HO3 := Lib.hid ho
    have HP3 := Lib.hid (PfxAt.keep HP.out ho (by have := HG.out.2; omega))
    have HQ3 := Lib.hid (PfxAt.keep HQ.out ho (by have := HG.out.2; omega))
    have SA3 := Lib.hid (Sl.keep SA.out ho (fun x h h' => by have := HG.out.2; omega))
    obtain ⟨p0, p1⟩ := PfxAt.cells HP3.out
    clear hF ho
    by_cases hkq : k < q
    · have k1 : ((k : Int) < (q : Int)) = True := eq_true (by omega)
      have k128 : k ≤ 1000 := by have := HB.out; omega
      have HL8 := Lib.hid (show k < 8 * n ∧ n ≤ 100000 from by have := HB.out; omega)
      have B1 := Lib.hid (fun W (o : Only (fun _ => False) wr W) => (show Calls Try.prog 18 #[.slice a n c, .int .i64 (k : Nat)] W (fun e w' => e = .returned (.int .u8 ((bitA l k : Nat) : Int)) ∧ W = w') from bit_any _ a n c k l W (Sl.keep SA3.out o (fun _ _ h => h)) HB.out.2.2 HL8.out.1 HL8.out.2))
      obtain ⟨d, hd⟩ : ∃ d, d = k / 8 := ⟨_, rfl⟩
      obtain ⟨m, hm⟩ : ∃ m, m = k % 8 := ⟨_, rfl⟩
      have hdn : d < n := by have := HB.out; omega
      have hm8 : m < 8 := by omega
      have x0 := HF3.out.cell hdn
      have f0 := HF3.out.free d
      rw [mk_at l k d m hd hm] at x0
      have HST := Lib.hid (mk_step l k d m hd hm)
      obtain ⟨b, hb⟩ : ∃ b, b = bitA l k := ⟨_, rfl⟩
      have hbb : bitN (l.getD d 0).toNat m = b := by rw [hb, hd, hm]; rfl
      rw [← hb] at B1
      obtain ⟨t, ht⟩ : ∃ t, t = (l.getD d 0).toNat := ⟨_, rfl⟩
      have ht8 : t < 256 := by rw [ht]; exact UInt8.toNat_lt _
      rw [← ht] at x0 HST hbb
      obtain ⟨x, hx⟩ : ∃ x, x = top t m := ⟨_, rfl⟩
      obtain ⟨s, hs7⟩ : ∃ s, s = 7 - m := ⟨_, rfl⟩
      obtain ⟨y, hy⟩ : ∃ y, y = b * 2 ^ s := ⟨_, rfl⟩
      obtain ⟨v, hv⟩ : ∃ v, v = x + y := ⟨_, rfl⟩
      have hvt : v = top t (m + 1) := by rw [hv, hx, hy, top_step _ _ hm8, hbb, hs7]
      have hv8 : v < 256 := by rw [hvt]; exact Nat.lt_of_le_of_lt (top_le _ _) ht8
      have ky : IntKind.u8.wrap ((b : Int) * 2 ^ s) = (y : Int) := byte_shl hy (by omega)
      have kx : IntKind.u8.wrap ((x : Int) + (y : Int)) = (v : Int) := byte_add hv hv8
      rw [← hx] at x0
      have HF4 := Lib.hid (HF3.out.set (v := v) hdn)
      have HVAL := Lib.hid (val_eq (x := x) hy hv (by omega : s ≤ 7) (by omega : y < 256) hv8)
      have HST2 := Lib.hid (show ∀ j, mk l (k + 1) j = if j = d then v else mk l k j from fun j => by rw [HST.out j, hbb, ← hx, ← hs7, ← hy, ← hv])
      have e1 : (k : Int) / 8 = (d : Int) := by omega
      have e2 : (k : Int) % 8 = (m : Int) := by omega
      have e3 : (7 : Int) - (m : Int) = (s : Int) := by omega
      have hdi : (d : Int) < (n : Int) := by omega
      have e8 : (k : Int).tmod 8 = (m : Int) := by rw [Int.tmod_eq_emod_of_nonneg (by omega)]; exact e2
      have e10 : (k : Int).tdiv 8 = (d : Int) := by rw [Int.tdiv_eq_ediv_of_nonneg (by omega)]; exact e1
      have hs8 : (s : Int) < 8 := by omega
      have d1000 : d ≤ 1000 := by omega
      have m1000 : m ≤ 1000 := by omega
      have s1000 : s ≤ 1000 := by omega
      have e4 := wrapN d1000
      have e7 := wrapI d1000
      have e11 := wrapI s1000
      have e12 : IntKind.i64.wrap (7 - (m : Int)) = (s : Int) := by rw [e3]; exact e11
      have hs0 : ¬ ((s : Int) < 0) := by omega
      have hs1 : (0 : Int) ≤ (s : Int) := by omega
      have e5 := wrapN m1000
      have e6 := wrapN s1000
      have wk := wrapN1 k128
      have HKK := Lib.hid hkq
      clear k128 d1000 m1000 s1000 hd hm hm8 HST hb hbb ht ht8 hx hs7 hy hv hvt hv8 hkq hk hdn
      go_upto_region 5 with fail
      have D := Lib.hid ((Only.refl (fun _ => False) wr).drew)
      have PC := Lib.hid (fun W (o : Only (fun x => x = g) wr W) => PfxAt.cells (PfxAt.keep HP3.out o (by have := HG.out.2; omega)))
      have x1 : wr.drew.cell? ⟨g, d, none⟩ = some (.int .u8 (x : Int)) := x0
      have f1 : wr.drew.frozen? ⟨g, d, none⟩ = false := f0
      refine wp_region_held_drew (S := (fun w' => (w'.cell? ⟨P, 0, none⟩ = some (.slice a n c) ∧ w'.cell? ⟨P, 1, none⟩ = some (.int .i64 ((q : Nat) : Int))))) (by kernel_rfl) ?_ (fun hHeld => ?_)
      · exact PC.out _ (by first | exact D.out.mono (fun _ h => h.elim) | exact (D.out.mono (fun _ h => h.elim)).set rfl)
      refine rgA.tk 0 hHeld ?_
      refine rgA.tk 1 hHeld ?_
      refine rgA.tk 2 hHeld ?_
      refine rgA.tk 3 hHeld ?_
      refine rgA.tk 4 hHeld ?_
      refine rgA.tk 5 hHeld ?_
      refine rgA.tk 6 hHeld ?_
      refine rgA.tk 8 hHeld ?_
      refine rgA.tk 9 hHeld ?_
      refine rgA.tk 10 hHeld ?_
      refine rgA.tk 12 hHeld ?_
      refine rgA.tk 13 hHeld ?_
      refine rgA.tk 14 hHeld ?_
      refine wpAnyH_ready (rs := [7, 11]) (by kernel_rfl) (by simp) ?_
      refine AllReadyH.cons rfl (fun K hK => ?br1) (AllReadyH.cons rfl (fun K hK => ?br2) (AllReadyH.nil))
      case' br1 =>
        go_simp
        refine hK.out _ _ ?_ (fun hHeld => ?_)
        · exact PC.out _ (by first | exact D.out.mono (fun _ h => h.elim) | exact (D.out.mono (fun _ h => h.elim)).set rfl)
        clear hK K
        try simp only [List.getElem_toArray, List.getElem_cons_succ, List.getElem_cons_zero, Act.put, List.setIfInBounds_toArray, List.set_cons_zero, List.set_cons_succ]
        refine rgA.rd 11 (fun K hK => ?_)
        go_simp
        (with_reducible refine (B1.out _ D.out).mono ?_)
        rintro e w7 ⟨rfl, rfl⟩
        go_wp2_with fail
        refine hK.out _ _ ?_ (fun hHeld => ?_)
        · exact PC.out _ (by first | exact D.out.mono (fun _ h => h.elim) | exact (D.out.mono (fun _ h => h.elim)).set rfl)
        clear hK K
        try simp only [List.getElem_toArray, List.getElem_cons_succ, List.getElem_cons_zero, Act.put, List.setIfInBounds_toArray, List.set_cons_zero, List.set_cons_succ]
        refine rgA.tk 15 hHeld ?_
        refine rgA.tk 16 hHeld ?_
        refine rgA.tk 17 hHeld ?_
        refine rgA.rd 18 (fun K hK => ?_)
        go_simp
        refine hK.out _ _ ?_ (fun hHeld => ?_)
        · exact PC.out _ (by first | exact D.out.mono (fun _ h => h.elim) | exact (D.out.mono (fun _ h => h.elim)).set rfl)
        clear hK K
        try simp only [List.getElem_toArray, List.getElem_cons_succ, List.getElem_cons_zero, Act.put, List.setIfInBounds_toArray, List.set_cons_zero, List.set_cons_succ]
        refine wpAnyH_done (by kernel_rfl) ?_ _
      case' br2 =>
        go_simp
        (with_reducible refine (B1.out _ D.out).mono ?_)
        rintro e w7 ⟨rfl, rfl⟩
        go_wp2_with fail
        refine hK.out _ _ ?_ (fun hHeld => ?_)
        · exact PC.out _ (by first | exact D.out.mono (fun _ h => h.elim) | exact (D.out.mono (fun _ h => h.elim)).set rfl)
        clear hK K
        try simp only [List.getElem_toArray, List.getElem_cons_succ, List.getElem_cons_zero, Act.put, List.setIfInBounds_toArray, List.set_cons_zero, List.set_cons_succ]
        refine rgA.tk 15 hHeld ?_
        refine rgA.rd 7 (fun K hK => ?_)
        go_simp
        refine hK.out _ _ ?_ (fun hHeld => ?_)
        · exact PC.out _ (by first | exact D.out.mono (fun _ h => h.elim) | exact (D.out.mono (fun _ h => h.elim)).set rfl)
        clear hK K
        try simp only [List.getElem_toArray, List.getElem_cons_succ, List.getElem_cons_zero, Act.put, List.setIfInBounds_toArray, List.set_cons_zero, List.set_cons_succ]
        refine rgA.tk 16 hHeld ?_
        refine rgA.tk 17 hHeld ?_
        refine rgA.rd 18 (fun K hK => ?_)
        go_simp
        refine hK.out _ _ ?_ (fun hHeld => ?_)
        · exact PC.out _ (by first | exact D.out.mono (fun _ h => h.elim) | exact (D.out.mono (fun _ h => h.elim)).set rfl)
        clear hK K
        try simp only [List.getElem_toArray, List.getElem_cons_succ, List.getElem_cons_zero, Act.put, List.setIfInBounds_toArray, List.set_cons_zero, List.set_cons_succ]
        refine wpAnyH_done (by kernel_rfl) ?_ _
      all_goals go_wp2_with fail
      all_goals go_roundw
      all_goals first
        | exact measq HKK.out wk
        | exact ⟨k + 1, by first | rfl | (rw [wk]; rfl), HKK.out, by rw [HVAL.out]; exact (HF4.out.congr (fun j hj => (HST2.out j).symm)).keep ((Only.refl (fun _ => False) _).drew) id, (HO3.out.set rfl).drew⟩
    · obtain rfl : k = q := at_endq hkq hk
      have k1 : ((k : Int) < (k : Int)) = False := eq_false (by omega)
      clear hkq hk
      go_wp2_with (refine wpList_store_row rfl 24 (.tmp 2) (.tmp 36) rfl (P + 1) #[.slice (some ⟨g, 0, none⟩) n n, .int .i64 (k : Nat)] rfl rfl 24 _ HQ3.out (info24 _ _) rfl (by simp [Value.oneCell']) ?_)
      exact bodyPost_ret (results_cell_row (p := 2) (ty := 24) Try.results12 _ _ (P + 1) 24 #[.slice (some ⟨g, 0, none⟩) n n, .int .i64 (k : Nat)] (0, 0) _ rfl (setRow_heap _ _ _ _ _ _ HQ3.out) Try.underlying24 rfl (info24 _ _)) rfl ⟨g, n, rfl, Only.old (only_roww ((O.out.mono fun _ h => h.elim).trans (HO3.out.mono fun x hx => by have := HG.out.1; omega)) _ (by rw [HPE.out]; omega)), HF3.out.keep (only_roww (S := fun x => x = P + 1) (Only.refl _ _) _ rfl) (by have := HG.out.2; omega), HG.out.1⟩


end Go.Proofs.Ytokbaknckagfmaa.adH
