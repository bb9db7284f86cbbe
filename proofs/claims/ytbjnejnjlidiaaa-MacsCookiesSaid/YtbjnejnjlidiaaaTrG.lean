/- Term: the document's terms with parts. -/
import Derived.Test.YtbjnejnjlidiaaaTrE
import Derived.Deep.RegionHeld3
import Derived.Deep.RegionLaw
namespace Go.Proofs.Ytbjnejnjlidiaaa.trE
open Go.RowKit Go.Proofs.Ytbjnejnjlidiaaa.kit Go.Proofs.Ytbjnejnjlidiaaa.numA Go.Proofs.Ytbjnejnjlidiaaa.numB Go.Proofs.Ytbjnejnjlidiaaa.numC Go.Proofs.Ytbjnejnjlidiaaa.numD Go.Proofs.Ytbjnejnjlidiaaa.numE Go.Proofs.Ytbjnejnjlidiaaa.numF Go.Proofs.Ytbjnejnjlidiaaa.numG Go.Proofs.Ytbjnejnjlidiaaa.tmA Go.Proofs.Ytbjnejnjlidiaaa.tmB Go.Proofs.Ytbjnejnjlidiaaa.trA Go.Proofs.Ytbjnejnjlidiaaa.trB Go.Proofs.Ytbjnejnjlidiaaa.trC Go.Proofs.Ytbjnejnjlidiaaa.trD
set_option linter.unusedVariables false
set_option linter.unusedSimpArgs false

set_option maxRecDepth 100000 in
set_option maxHeartbeats 1600000 in
theorem node_8 (s : ByteArray) (N : Nat) (ih : IH s N) (i f : Nat) (w : World) (hm : s.size ≤ 100000000) (h0 : i ≤ s.size) (hN : s.size - i ≤ N + 1) (hf : 2 * (s.size - i) ≤ f) (hk : kindOf (cb s i) = 8) : Calls Try.prog 104 #[.string s, .int .i64 i] w (Tmd w s (tmR f (s.data.toList.drop i))) := by
  have hi : i < s.size := cb_lt (c := letter 8) (by decide) (by rw [← hk]; exact (kind_letter _ (by rw [hk]; decide)).1)
  have hR : tmR f (s.data.toList.drop i) = (match s.data.toList.drop (i + 1) with
      | [] => none
      | o :: r1 => if o = 40 then (match headR 8 r1 with
          | none => none
          | some (n, r2) => if 8 = 11 ∧ r2.head? = some 41 then some (⟨11, n, [], []⟩, r2.tail) else lpR (f - 1) 8 n [] r2)
        else none) := by
    obtain ⟨f, rfl⟩ : ∃ g, f = g + 1 := ⟨f - 1, by omega⟩
    rw [cb_in s i hi, tmR_cons, hk, if_neg (by omega), if_neg (by omega), if_neg (by omega)]
    rfl
  have BN := Lib.hid (resbox s i w)
  have AT := Lib.hid (at_cb s i (w.alloc (.cells #[.int .i64 0, .int .u64 0, .slice none 0 0, .slice none 0 0] 27)) (by omega) (by omega))
  have KD := Lib.hid (kind_any (cb s i) (w.alloc (.cells #[.int .i64 0, .int .u64 0, .slice none 0 0, .slice none 0 0] 27)))
  rw [hk] at KD
  have A1 := Lib.hid (fun W => at_cb1 s i W (by omega) (by omega))
  have HR := Lib.hid hR
  have HM := Lib.hid hm
  have HI := Lib.hid hi
  have HN := Lib.hid hN
  have HFu := Lib.hid hf
  have IHH := Lib.hid ih

  have wi : wrap64 ((i : Int) + 1) = (i : Int) + 1 := IntWalk.wrap64_in _ (by omega)
  have wi2 : wrap64 ((i : Int) + 2) = (i : Int) + 2 := IntWalk.wrap64_in _ (by omega)
  clear hk h0 hf hm hi hR hN ih
  go_enter Try.func104, Try.ntmps104
  go_wp2_with fail
  (with_reducible refine AT.out.mono ?_)
  rintro e w1 ⟨rfl, hw⟩
  obtain rfl := hw
  go_wp2_with fail
  (with_reducible refine KD.out.mono ?_)
  rintro e w1 ⟨rfl, hw⟩
  obtain rfl := hw
  go_wp2_with fail
  have hs1 : (w.alloc (.cells #[.int .i64 0, .int .u64 0, .slice none 0 0, .slice none 0 0] 27)).heap.size = w.heap.size + 1 := World.size_alloc _ _
  generalize w.alloc (.cells #[.int .i64 0, .int .u64 0, .slice none 0 0, .slice none 0 0] 27) = W1 at BN hs1 ⊢
  obtain ⟨B, hB⟩ : ∃ B, B = w.heap.size := ⟨_, rfl⟩
  have HBB := Lib.hid hB
  rw [← hB] at BN hs1 ⊢
  clear hB AT KD
  have NX := Lib.hid (Box4.new W1 (.int .i64 8) (.int .u64 0) (.slice none 0 0) (.slice none 0 0))
  have O2 := Lib.hid ((Only.refl (fun _ => False) W1).alloc (.cells #[.int .i64 8, .int .u64 0, .slice none 0 0, .slice none 0 0] 27))
  generalize W1.alloc (.cells #[.int .i64 8, .int .u64 0, .slice none 0 0, .slice none 0 0] 27) = W2 at NX O2 ⊢
  obtain ⟨NB, hNB⟩ : ∃ x, x = B + 1 := ⟨_, rfl⟩
  have HNB := Lib.hid (show NB = W1.heap.size from hNB.trans hs1.symm)
  rw [hs1, ← hNB] at NX
  rw [← hNB]
  clear hNB hs1
  have HBL := Lib.hid (show B < NB from by rw [HNB.out]; exact lt_of BN.out.1)
  (with_reducible refine (A1.out _).mono ?_)
  rintro e w1 ⟨rfl, hw⟩
  obtain rfl := hw
  by_cases h40 : cb s (i + 1) = 40
  rotate_left
  · have b40 : (((cb s (i + 1)).toNat : Int) != 40) = true := by rw [bne, cb_int (c := 40) (n := 40) rfl]; simp [h40]
    have HF := Lib.hid (show tmR f (s.data.toList.drop i) = none from by
      rw [HR.out]
      rcases Nat.lt_or_ge (i + 1) s.size with q | q
      · rw [cb_in s (i + 1) q]
        simp [h40]
      · rw [(cb_out s (i + 1) q).2])
    have HB2 := Lib.hid (BN.out.1.keep O2.out)
    obtain ⟨f0, f1, f2, f3⟩ := HB2.out.free
    obtain ⟨c0, c1, c2, c3⟩ := HB2.out.cells
    have BM := Lib.hid (HB2.out.put (.int .i64 0) (.int .u64 0) (.slice none 0 0) (.slice none 0 0))
    have ON := Lib.hid (only_set4 (BN.out.2.trans O2.out) (B := B) (by rw [HBB.out]; omega) (.int .i64 0) (.int .u64 0) (.slice none 0 0) (.slice none 0 0))
    clear h40
    go_wp2_with fail
    exact bodyPost_ret (res2 (p := 4) (u := 5) (ty := 27) Try.results104 _ _ B 27 _ (0, 0) _ rfl BM.out Try.underlying27 rfl (by kernel_rfl)) rfl (by rw [HF.out]; exact ⟨ON.out, rfl⟩)
  have b40 : (((cb s (i + 1)).toNat : Int) != 40) = false := by rw [bne, cb_int (c := 40) (n := 40) rfl]; simp [h40]
  have H40 := Lib.hid (cb_lt (by decide) h40)
  have HR2 := Lib.hid (show tmR f (s.data.toList.drop i) = (match headR 8 (s.data.toList.drop (i + 2)) with
          | none => none
          | some (n, r2) => if 8 = 11 ∧ r2.head? = some 41 then some (⟨11, n, [], []⟩, r2.tail) else lpR (f - 1) 8 n [] r2) from by
    rw [HR.out, cb_in s (i + 1) (by have := H40.out; omega), h40]
    simp only [↓reduceIte])
  clear h40 HR
  have WA := Lib.hid (fun W => word2 s i W (by have := H40.out; omega) (by have := HM.out; omega))
  obtain ⟨nx, hnx⟩ : ∃ x, x = behind s (restOf (s.data.toList.drop (i + 2))) := ⟨_, rfl⟩
  obtain ⟨re1, re2, re3⟩ := rest_drop s (i + 2) (by have := H40.out; omega)
  rw [← hnx] at re1 re2 re3
  have HX := Lib.hid (And.intro re1 (And.intro re2 (And.intro re3 hnx)))
  have AX := Lib.hid (fun W => at_cb s nx W (by have := HM.out; omega) (by have := HM.out; omega))
  have wx : wrap64 ((nx : Int) + 1) = (nx : Int) + 1 := IntWalk.wrap64_in _ (by have := HM.out; omega)
  clear re1 re2 re3
  go_wp2_with fail
  (with_reducible refine (WA.out _).mono ?_)
  rintro e w1 ⟨t, rfl, ht, hts, hw⟩
  obtain rfl : W2 = w1 := hw
  rw [← hnx]
  have RD := Lib.hid (read_ref t W2 (by have := HM.out; omega))
  have HT := Lib.hid ht
  clear ht hts WA hnx
  go_wp2_with fail
  (with_reducible refine RD.out.mono ?_)
  rintro e w2 ⟨he, o⟩
  have O3 := Lib.hid (O2.out.trans o)
  have NX3 := Lib.hid (NX.out.keep o)
  have HB3 := Lib.hid (BN.out.1.keep O3.out)
  have hc := rd_cases t.data.toList
  rw [HT.out] at hc he
  clear o RD
  have HHC := Lib.hid (head_cases 8 (s.data.toList.drop (i + 2)) rfl)
  rcases hc with ⟨h1, h2, h3⟩ | ⟨h1, c, hc, h3⟩
  rotate_left
  · rw [h3] at he
    subst he
    have hc2 : (c != 0) = true := by rw [bne, hc]; rfl
    have HF := Lib.hid (hd_none HR2.out (by rw [HHC.out, if_neg (fun q => h1 q.1)]))
    clear h1 h3
    obtain ⟨f0, f1, f2, f3⟩ := HB3.out.free
    obtain ⟨d0, d1, d2, d3⟩ := HB3.out.cells
    have BM := Lib.hid (HB3.out.put (.int .i64 0) (.int .u64 0) (.slice none 0 0) (.slice none 0 0))
    have ON := Lib.hid (only_set4 (BN.out.2.trans O3.out) (B := B) (by rw [HBB.out]; omega) (.int .i64 0) (.int .u64 0) (.slice none 0 0) (.slice none 0 0))
    go_wp2_with fail
    exact bodyPost_ret (res2 (p := 4) (u := 5) (ty := 27) Try.results104 _ _ B 27 _ (0, 0) _ rfl BM.out Try.underlying27 rfl (by kernel_rfl)) rfl (by rw [HF.out]; exact ⟨ON.out, rfl⟩)
  rw [h3] at he
  subst he
  obtain ⟨nv, hv⟩ : ∃ v, v = val (wordOf (s.data.toList.drop (i + 2))) := ⟨_, rfl⟩
  rw [← hv] at h2 h3 ⊢
  have HV := Lib.hid (And.intro h1 (And.intro h2 hv))
  clear h1 h2 h3 hv
  by_cases g1 : nv < 1
  · have z1 : ((nv : Int) < 1) = True := eq_true (by omega)
    have HF := Lib.hid (hd_none HR2.out (by
      rw [HHC.out, if_neg]
      intro q
      have := (q.2.1 rfl).1
      rw [← HV.out.2.2] at this
      omega))
    clear g1
    obtain ⟨f0, f1, f2, f3⟩ := HB3.out.free
    obtain ⟨d0, d1, d2, d3⟩ := HB3.out.cells
    have BM := Lib.hid (HB3.out.put (.int .i64 0) (.int .u64 0) (.slice none 0 0) (.slice none 0 0))
    have ON := Lib.hid (only_set4 (BN.out.2.trans O3.out) (B := B) (by rw [HBB.out]; omega) (.int .i64 0) (.int .u64 0) (.slice none 0 0) (.slice none 0 0))
    go_wp2_with fail
    exact bodyPost_ret (res2 (p := 4) (u := 5) (ty := 27) Try.results104 _ _ B 27 _ (0, 0) _ rfl BM.out Try.underlying27 rfl (by kernel_rfl)) rfl (by rw [HF.out]; exact ⟨ON.out, rfl⟩)
  have z1 : ((nv : Int) < 1) = False := eq_false (by omega)
  by_cases g3 : 3 < nv
  · have z3 : ((3 : Int) < (nv : Int)) = True := eq_true (by omega)
    have HF := Lib.hid (hd_none HR2.out (by
      rw [HHC.out, if_neg]
      intro q
      have := (q.2.1 rfl).2
      rw [← HV.out.2.2] at this
      omega))
    clear g1 g3
    obtain ⟨f0, f1, f2, f3⟩ := HB3.out.free
    obtain ⟨d0, d1, d2, d3⟩ := HB3.out.cells
    have BM := Lib.hid (HB3.out.put (.int .i64 0) (.int .u64 0) (.slice none 0 0) (.slice none 0 0))
    have ON := Lib.hid (only_set4 (BN.out.2.trans O3.out) (B := B) (by rw [HBB.out]; omega) (.int .i64 0) (.int .u64 0) (.slice none 0 0) (.slice none 0 0))
    go_wp2_with fail
    exact bodyPost_ret (res2 (p := 4) (u := 5) (ty := 27) Try.results104 _ _ B 27 _ (0, 0) _ rfl BM.out Try.underlying27 rfl (by kernel_rfl)) rfl (by rw [HF.out]; exact ⟨ON.out, rfl⟩)
  have z3 : ((3 : Int) < (nv : Int)) = False := eq_false (by omega)
  have HG := Lib.hid (show 1 ≤ nv ∧ nv ≤ 3 by omega)
  clear g1 g3

  by_cases h44 : cb s nx = 44
  rotate_left
  · have b44 : (((cb s nx).toNat : Int) != 44) = true := by rw [bne, cb_int (c := 44) (n := 44) rfl]; simp [h44]
    have HF := Lib.hid (hd_none HR2.out (by
      rw [HHC.out, if_neg]
      intro q
      have q3 := q.2.2
      rw [HX.out.1] at q3
      exact h44 ((drop_head s nx 44 (by decide)).1 q3)))
    clear h44
    go_wp2_with fail
    (with_reducible refine (AX.out _).mono ?_)
    rintro e w3 ⟨rfl, hw⟩
    obtain rfl : w2 = w3 := hw
    obtain ⟨f0, f1, f2, f3⟩ := HB3.out.free
    obtain ⟨d0, d1, d2, d3⟩ := HB3.out.cells
    have BM := Lib.hid (HB3.out.put (.int .i64 0) (.int .u64 0) (.slice none 0 0) (.slice none 0 0))
    have ON := Lib.hid (only_set4 (BN.out.2.trans O3.out) (B := B) (by rw [HBB.out]; omega) (.int .i64 0) (.int .u64 0) (.slice none 0 0) (.slice none 0 0))
    go_wp2_with fail
    exact bodyPost_ret (res2 (p := 4) (u := 5) (ty := 27) Try.results104 _ _ B 27 _ (0, 0) _ rfl BM.out Try.underlying27 rfl (by kernel_rfl)) rfl (by rw [HF.out]; exact ⟨ON.out, rfl⟩)
  have b44 : (((cb s nx).toNat : Int) != 44) = false := by rw [bne, cb_int (c := 44) (n := 44) rfl]; simp [h44]
  have hxs := cb_lt (by decide) h44
  have HF := Lib.hid (hd_some (n := nv) (r2 := s.data.toList.drop (nx + 1)) HR2.out (by
      rw [HHC.out, if_pos ⟨⟨HV.out.1, by rw [← HV.out.2.2]; exact HV.out.2.1⟩, (fun _ => by rw [← HV.out.2.2]; exact HG.out), by rw [HX.out.1]; exact (drop_head s nx 44 (by decide)).2 h44⟩, HX.out.1, cb_in s nx hxs, ← HV.out.2.2]
      rfl) (by decide))
  have HXS := Lib.hid hxs
  clear h44 hxs
  go_wp2_with fail
  (with_reducible refine (AX.out _).mono ?_)
  rintro e w3 ⟨rfl, hw⟩
  obtain rfl : w2 = w3 := hw
  obtain ⟨c0, c1, c2, c3⟩ := NX3.out.cells
  obtain ⟨f0, f1, f2, f3⟩ := NX3.out.free
  have NX4 := Lib.hid (show Box4 (w2.setCell ⟨NB, 1, none⟩ (.int .u64 nv)) NB (.int .i64 8) (.int .u64 nv) (.slice none 0 0) (.slice none 0 0) from heap_set NX3.out)
  have O4 := Lib.hid (only_setNew (b := NB) (o := 1) (v := .int .u64 nv) O3.out (by rw [HNB.out]; omega))
  have LP0 := Lib.hid (Lp.nil (f := f) (g := f - 1) (n := nv) (j := nx + 1) (i := i) (by have := HXS.out; omega) (by have := HX.out.2.1; omega) HF.out (by have := HFu.out; have := HX.out.2.1; have := HXS.out; omega) NX4.out O4.out)
  have WI2 := Lib.hid wx
  go_wp2_with fail
  clear c0 c1 c2 c3 f0 f1 f2 f3 wx
  clear wi wi2
  go_loopw [1] (fun ii wr => ∃ (j g : Nat) (acc : List Txt) (v : Value), ii = .int .i64 j ∧ Lp s i f 8 nv NB W1 j g acc v wr) (fun ii _ => s.size - (intOf ii).toNat)
  case atStart => exact ⟨_, _, [], _, by first | rfl | go_num | (rw [WI2.out]; go_num) | (rw [WI2.out]; rfl), LP0.out⟩
  case round =>
    obtain ⟨j, g, acc, v, rfl, lp⟩ := hrel
    obtain ⟨i0, hi0, hz0, hz1, hz2⟩ := info_parts info9
    have LP := Lib.hid lp
    clear lp LP0
    obtain ⟨g, rfl⟩ : ∃ g', g = g' + 1 := ⟨g - 1, by have := LP.out.fuel; omega⟩
    have RC := Lib.hid (IHH.out j g wr LP.out.le (by have := LP.out.ge; have := HN.out; have := HI.out; omega) (by have := LP.out.fuel; omega))
    obtain ⟨q, hq⟩ : ∃ q, q = tmR g (s.data.toList.drop j) := ⟨_, rfl⟩
    rw [← hq] at RC
    have HQ := Lib.hid hq
    clear hq
    go_wp2_with fail
    (with_reducible refine RC.out.mono ?_)
    rintro e w3 ⟨o, hr⟩
    have O3 := Lib.hid o
    clear RC o
    cases q with
    | none =>
      subst hr
      have HF := Lib.hid (lp_none LP.out.eq HQ.out.symm)
      have HB2 := Lib.hid (BN.out.1.keep ((LP.out.only.trans O3.out).alloc (.cells #[.int .i64 0, .int .u64 0, .slice none 0 0, .slice none 0 0] 27)))
      obtain ⟨f0, f1, f2, f3⟩ := HB2.out.free
      obtain ⟨c0, c1, c2, c3⟩ := HB2.out.cells
      have BM := Lib.hid (HB2.out.put (.int .i64 0) (.int .u64 0) (.slice none 0 0) (.slice none 0 0))
      have ON := Lib.hid (only_set4 (BN.out.2.trans ((LP.out.only.trans O3.out).alloc (.cells #[.int .i64 0, .int .u64 0, .slice none 0 0, .slice none 0 0] 27))) (B := B) (by rw [HBB.out]; omega) (.int .i64 0) (.int .u64 0) (.slice none 0 0) (.slice none 0 0))
      go_wp2_with fail
      exact bodyPost_ret (res2 (p := 4) (u := 5) (ty := 27) Try.results104 _ _ B 27 _ (0, 0) _ rfl BM.out Try.underlying27 rfl (by kernel_rfl)) rfl (by rw [HF.out]; exact ⟨ON.out, rfl⟩)
    | some dd =>
      obtain ⟨d, rest⟩ := dd
      obtain ⟨vv, hv, rfl⟩ := hr
      obtain ⟨a, nn, c, a', nn', c', rfl, -, -⟩ := hv
      obtain ⟨e1, hlt, hle, ept⟩ := part_ok LP.out.le HQ.out.symm
      obtain ⟨jn, hjn⟩ : ∃ x, x = behind s rest := ⟨_, rfl⟩
      rw [← hjn] at e1 hlt hle ept ⊢
      have HJ := Lib.hid (And.intro hjn (And.intro hlt hle))
      have SVE := Lib.hid (sv_extract s j jn hle)
      have b1 : (0 : Int) ≤ (j : Int) := by omega
      have b2 : (j : Int) ≤ (jn : Int) := by omega
      have b3 : (jn : Int) ≤ (s.size : Int) := by omega
      have b4 : ((jn : Int) < 0) = False := eq_false (by omega)
      have O4 := Lib.hid (O3.out.alloc (.cells #[.int .i64 d.k, .int .u64 d.n, .slice a nn c, .slice a' nn' c'] 27))
      clear e1 hlt hle ept hjn
      have BX := Lib.hid (LP.out.box.keep O4.out)
      have OX := Lib.hid (owns_keep LP.out.own O4.out)
      obtain ⟨c0, c1, c2, c3⟩ := BX.out.cells
      go_wp2_with fail
      generalize w3.alloc (.cells #[.int .i64 d.k, .int .u64 d.n, .slice a nn c, .slice a' nn' c'] 27) = W4 at BX OX O4 c0 c1 c2 c3 ⊢
      have fz := BX.out.free.2.2.2
      have BX7 := Lib.hid (show Box4 W4.drew NB (.int .i64 8) (.int .u64 (nv : Nat)) (.slice none 0 0) v from BX.out)
      have OX7 := Lib.hid (owns_keep OX.out (Only.drew (Only.refl (fun _ => False) W4)))
      have O7 := Lib.hid (Only.drew (Only.refl (fun _ => False) W4))
      have hcnt : acc.length ≤ 100000001 := by have := LP.out.cnt; have := LP.out.le; have := HM.out; omega
      have hNBlt : NB < W4.heap.size := lt_of BX.out
      go_region_law (first
        | (refine step_append_lies _ (by rfl) _ _ _ (by rfl) (NB + 1) 9 i0 _ 1 16 Try.underlying25 hi0 hz0 hz1 hz2 rfl (by omega) v acc.length (acc.map sv) (by rfl) (OX7.out.alloc _) ⟨_, 0, none⟩ 1 1 [.string (s.extract j jn)] (by rfl) (by rfl) (World.news_of_block (cs := #[.string (s.extract j jn)]) (t := 9) (fr := (0, 0)) (heap_alloc_new _ _)) (by simp [Value.oneCell']) (by omega) (by unfold maxLen; omega) (by omega) (by simp; omega) _ rfl ?_; intro g' cap' w9 hown9 hgrow9 hat9 hlt9; obtain ⟨KO9, R9⟩ := after_app BX7.out OX7.out (LP.out.only.trans (O4.out.trans O7.out)) hgrow9 (by rw [HNB.out]; omega); have cO := KO9.cells.2.2.2; have fO := KO9.free.2.2.2; have KO9 := Lib.hid KO9; have R9 := Lib.hid R9; have OW9 := Lib.hid hown9; clear hown9 hgrow9 hat9 hlt9))
      all_goals
        obtain ⟨ps, hps⟩ : ∃ ps, ps = acc ++ [(s.data.toList.drop j).take (jn - j)] := ⟨_, rfl⟩
        have hlen : acc.length + 1 = ps.length := by rw [hps]; simp
        have hmap : acc.map sv ++ [.string (s.extract j jn)] = ps.map sv := by rw [hps, SVE.out]; simp
        have BY := Lib.hid (show Box4 (w9.setCell ⟨NB, 3, none⟩ (.slice (some ⟨g', 0, none⟩) ps.length cap')) NB (.int .i64 8) (.int .u64 (nv : Nat)) (.slice none 0 0) (.slice (some ⟨g', 0, none⟩) ps.length cap') from heap_set KO9.out)
        have OY := Lib.hid (show (w9.setCell ⟨NB, 3, none⟩ (.slice (some ⟨g', 0, none⟩) ps.length cap')).ownsRow (NB + 1) 9 1 (.slice (some ⟨g', 0, none⟩) ps.length cap') ps.length (ps.map sv) from by
          have q := OW9.out
          rw [hmap, hlen] at q
          exact owns_set q (Nat.lt_succ_self NB))
        have R := Lib.hid (only_setNew (b := NB) (o := 3) (v := .slice (some ⟨g', 0, none⟩) ps.length cap') R9.out (by rw [HNB.out]; omega))
        have PS := Lib.hid (And.intro hps hlen)
        rw [hlen]
        clear BX OX BX7 OX7 O7 KO9 R9 OW9 cO fO hmap hlen hps hcnt hNBlt O4 c0 c1 c2 c3 fz hi0 hz0 hz1 hz2
        generalize w9.setCell ⟨NB, 3, none⟩ (.slice (some ⟨g', 0, none⟩) ps.length cap') = W9 at BY OY R ⊢
        have AJ := Lib.hid (at_cb s jn W9 (by have := HM.out; omega) (by have := HM.out; omega))
        have wj : wrap64 ((jn : Int) + 1) = (jn : Int) + 1 := IntWalk.wrap64_in _ (by have := HM.out; omega)
        go_wp2_with fail
        (with_reducible refine AJ.out.mono ?_)
        rintro e w10 ⟨rfl, hw⟩
        obtain rfl := hw
        clear AJ
        have ST := Lib.hid (lp_step LP.out.le LP.out.eq HQ.out.symm HJ.out.1 PS.out.1)
        obtain ⟨c0, c1, c2, c3⟩ := BY.out.cells
        by_cases h41 : cb s jn = 41
        · have b41 : (((cb s jn).toNat : Int) == 41) = true := by rw [cb_int (c := 41) (n := 41) rfl]; simp [h41]
          have hjs := cb_lt (by decide) h41
          have HE3 := Lib.hid (ST.out.1 h41)
          clear h41
          cases hrr : right 8 ps.length
          · have RT := fun W => right_q 8 ps.length false W (by decide) (by decide) hrr
            have HF := Lib.hid (show tmR f (s.data.toList.drop i) = none from by rw [HE3.out, hrr]; simp)
            have RTH := Lib.hid RT
            clear RT hrr HE3
            go_wp2_with fail
            go_quiet ((go_at_call 161; exact Calls.quiet_of_same (RTH.out _)))
            have HB2 := Lib.hid (BN.out.1.keep (R.out.drewN nq))
            obtain ⟨f0, f1, f2, f3⟩ := HB2.out.free
            obtain ⟨d0, d1, d2, d3⟩ := HB2.out.cells
            have BM := Lib.hid (HB2.out.put (.int .i64 0) (.int .u64 0) (.slice none 0 0) (.slice none 0 0))
            have ON := Lib.hid (only_set4 (BN.out.2.trans (R.out.drewN nq)) (B := B) (by rw [HBB.out]; omega) (.int .i64 0) (.int .u64 0) (.slice none 0 0) (.slice none 0 0))
            go_wp2_with fail
            exact bodyPost_ret (res2 (p := 4) (u := 5) (ty := 27) Try.results104 _ _ B 27 _ (0, 0) _ rfl BM.out Try.underlying27 rfl (by kernel_rfl)) rfl (by rw [HF.out]; exact ⟨ON.out, rfl⟩)
          · have RT := fun W => right_q 8 ps.length true W (by decide) (by decide) hrr
            have HF := Lib.hid (show tmR f (s.data.toList.drop i) = some (⟨8, nv, [], ps⟩, s.data.toList.drop (jn + 1)) from by rw [HE3.out, hrr, show sorted 8 ps = true from by simp [sorted]]; rfl)
            have RTH := Lib.hid RT
            clear RT hrr HE3
            go_wp2_with fail
            go_quiet ((go_at_call 161; exact Calls.quiet_of_same (RTH.out _)))
            have HB2 := Lib.hid (BN.out.1.keep (R.out.drewN nq))
            have HY2 := Lib.hid (show Box4 (W9.drewN nq) NB (.int .i64 8) (.int .u64 (nv : Nat)) (.slice none 0 0) (.slice (some ⟨g', 0, none⟩) ps.length cap') from BY.out)
            obtain ⟨f0, f1, f2, f3⟩ := HB2.out.free
            obtain ⟨d0, d1, d2, d3⟩ := HB2.out.cells
            clear c0 c1 c2 c3
            obtain ⟨c0, c1, c2, c3⟩ := HY2.out.cells
            have BM := Lib.hid (HB2.out.put (.int .i64 8) (.int .u64 (nv : Nat)) (.slice none 0 0) (.slice (some ⟨g', 0, none⟩) ps.length cap'))
            have ON := Lib.hid (only_set4 (BN.out.2.trans (R.out.drewN nq)) (B := B) (by rw [HBB.out]; omega) (.int .i64 8) (.int .u64 (nv : Nat)) (.slice none 0 0) (.slice (some ⟨g', 0, none⟩) ps.length cap'))
            have SL := Lib.hid ((own_sl (show (W9.drewN nq).ownsRow (NB + 1) 9 1 (.slice (some ⟨g', 0, none⟩) ps.length cap') ps.length (ps.map sv) from OY.out)).mono (T := fun k => B < k) fun k hk => by have := HBL.out; omega)
            have BE := Lib.hid (show behind s (s.data.toList.drop (jn + 1)) = jn + 1 from by rw [behind, List.length_drop, tl_size]; omega)
            go_wp2_with fail
            exact bodyPost_ret (res2 (p := 4) (u := 5) (ty := 27) Try.results104 _ _ B 27 _ (0, 0) _ rfl BM.out Try.underlying27 rfl (by kernel_rfl)) rfl (by rw [HF.out]; exact ⟨ON.out, _, nd_set4 (fun k hk => by have := HBB.out; omega) _ _ _ _ _ _ rfl (sl_nil _ _) SL.out, by rw [BE.out]; first | rfl | (rw [wj]; rfl) | (simp [wj])⟩)
        have b41 : (((cb s jn).toNat : Int) == 41) = false := by rw [cb_int (c := 41) (n := 41) rfl]; simp [h41]
        by_cases h44 : cb s jn = 44
        · have b44 : (((cb s jn).toNat : Int) != 44) = false := by rw [bne, cb_int (c := 44) (n := 44) rfl]; simp [h44]
          have hjs := cb_lt (by decide) h44
          have HE3 := Lib.hid (ST.out.2.1 h44)
          clear h41 h44
          go_wp2_with fail
          have NXT := Lib.hid (show Lp s i f 8 nv NB W1 (jn + 1) g ps (.slice (some ⟨g', 0, none⟩) ps.length cap') W9 from
            ⟨hjs, by have := LP.out.ge; have := HJ.out.2.1; omega, HE3.out, by have := LP.out.fuel; have := HJ.out.2.1; omega, BY.out, OY.out, by have := LP.out.cnt; have := PS.out.2; have := HJ.out.2.1; omega, R.out⟩)
          have HWJ := Lib.hid wj
          have HMS := Lib.hid (show s.size - (jn + 1) < s.size - j from by have := HJ.out.2.1; omega)
          clear wj
          go_roundw
          case rel => exact ⟨jn + 1, g, ps, _, by first | (rw [HWJ.out]; go_num) | go_num, NXT.out⟩
          case measure =>
            first
              | (rw [HWJ.out]; simp [intOf]; have := HMS.out; omega)
              | (simp [intOf]; have := HMS.out; omega)
        · have b44 : (((cb s jn).toNat : Int) != 44) = true := by rw [bne, cb_int (c := 44) (n := 44) rfl]; simp [h44]
          have HF := Lib.hid (ST.out.2.2 h41 h44)
          clear h41 h44
          have HB2 := Lib.hid (BN.out.1.keep R.out)
          obtain ⟨f0, f1, f2, f3⟩ := HB2.out.free
          obtain ⟨d0, d1, d2, d3⟩ := HB2.out.cells
          have BM := Lib.hid (HB2.out.put (.int .i64 0) (.int .u64 0) (.slice none 0 0) (.slice none 0 0))
          have ON := Lib.hid (only_set4 (BN.out.2.trans R.out) (B := B) (by rw [HBB.out]; omega) (.int .i64 0) (.int .u64 0) (.slice none 0 0) (.slice none 0 0))
          go_wp2_with fail
          exact bodyPost_ret (res2 (p := 4) (u := 5) (ty := 27) Try.results104 _ _ B 27 _ (0, 0) _ rfl BM.out Try.underlying27 rfl (by kernel_rfl)) rfl (by rw [HF.out]; exact ⟨ON.out, rfl⟩)
end Go.Proofs.Ytbjnejnjlidiaaa.trE
