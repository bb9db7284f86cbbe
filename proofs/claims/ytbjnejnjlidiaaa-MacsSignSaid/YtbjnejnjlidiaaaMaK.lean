/- Macs: the law on sums. -/
import Derived.Test.YtbjnejnjlidiaaaMaJ
import Derived.Test.YtbjnejnjlidiaaaArgM
namespace Go.Proofs.Ytbjnejnjlidiaaa.maK
open Go.RowKit kit numA numB numC numD numE tmA tmB tmC tmD tmE trA trB prR prS prW prX tsA tsB tsF tsI wrA wrB wrC wrD wrE wrF wrG wrH wrI wrJ wrK wrL mkA maA maB maC maD maE maF maG maI maJ
set_option linter.unusedVariables false
set_option linter.unusedSimpArgs false

set_option maxRecDepth 100000 in
set_option maxHeartbeats 4000000 in
theorem ms_e (m : Msg) (p c q : ByteArray) (w : World) (ha : asksM m = true) (hpu : pubB p.data.toList = true) (hck : c.data.toList = ([] : Txt)) (hb : bigB m ([p, c, q].map (·.data.toList)) = false) (ht : ∀ i, (m.t i).size ≤ 3000) (hz : tsz m ≤ 3000) (hp : p.size ≤ 200) (hc : c.size ≤ 200) (hq : q.size ≤ 200) (hs : 0 ≤ m.s ∧ m.s ≤ 4294967295) (hr : 0 ≤ m.r ∧ m.r ≤ 4294967295) : Calls Try.prog 17 #[mval m, .string p, .string c, .string q] w (numA.Told w (.bool true)) := by
  have AW := Lib.hid (fun W => maG.awake_any W)
  have BG := Lib.hid (fun W => big3 m p c q false W hb (fun i => Nat.le_trans (ht i) (by decide)))
  obtain rfl : c = ⟨#[]⟩ := ba_ext hck
  have CA := Lib.hid (fun W => asks_any m true W ha (fun i => Nat.le_trans (ht i) (by decide)))
  obtain ⟨F, hF⟩ : ∃ F : ByteArray, F.data.toList = firstT m p.data.toList := ⟨⟨(firstT m p.data.toList).toArray⟩, rfl⟩
  have CR1 := Lib.hid (fun W => reffirst_any m p F W hF (fun i => Nat.le_trans (ht i) (by decide)) (by omega) hs hr)
  obtain ⟨f, hf⟩ : ∃ f, f = ((m.t 11).toList == F.toList) := ⟨_, rfl⟩
  have hff := first_law ha hpu hF hs hr (by omega) (by rw [tl_size]; omega)
  rw [← hf] at hff
  have y1 : ((m.t 11).toList == F.toList) = f := hf.symm
  have y2 : ((m.t 11).toList = F.toList) = (f = true) := by rw [hf, beq_iff_eq]
  have CF := Lib.hid (fun W => first_any m p f W hff (fun i => Nat.le_trans (ht i) (by decide)) (by omega) hs hr)
  have hgg : secondB m [] = false := second_no (by decide)
  have CE := Lib.hid (fun W => second_any m ⟨#[]⟩ false W hgg (fun i => Nat.le_trans (ht i) (by decide)) hs hr)
  have CP := Lib.hid (fun W => refpub_any p true W hpu (by omega))
  have CI := Lib.hid (fun W => (show Calls Try.prog 39 #[.string ⟨#[]⟩] W (numA.Told W (.bool false)) from by have h := trJ.is_any ⟨#[]⟩ W (by decide); rw [show trJ.isT (⟨#[]⟩ : ByteArray).data.toList = false from by decide] at h; exact h))
  obtain ⟨fo1, fo2, fo3⟩ := firstT_ok ha hpu hs hr (by omega) (by rw [tl_size]; omega)
  rw [tl_size] at fo2
  have fo1F : fitB F.data.toList = true := by rw [hF]; exact fo1
  have Fz : F.size ≤ 3500 := u_le hF (by omega)
  obtain ⟨ms, hms⟩ : ∃ ms, ms = sumsM m F ⟨#[48]⟩ := ⟨_, rfl⟩
  have hR : rightM (sumsM m F ⟨#[48]⟩) = true := (asks_r (sums_asks ha fo1F zero_fit)).1
  have CS := Lib.hid (fun W => sign_e m p F W ha hpu hF hR (fun i => Nat.le_trans (ht i) (by decide)) (by omega) hs hr)
  have hb2 : (⟨#[48]⟩ : ByteArray).data.toList = secondT ((sumsM m ⟨#[48]⟩ ⟨#[48]⟩).put 11 F) ([] : Txt) := rfl
  have CT := Lib.hid (fun W => (show Calls Try.prog 85 #[mval m, .string p, .string ⟨#[]⟩] W (numA.Told W (mval ms)) from by
    have h := refsign_any m p ⟨#[]⟩ F ⟨#[48]⟩ W (by rw [first_put ha zero_fit zero_fit]; exact hF) hb2 (fun i => Nat.le_trans (ht i) (by decide)) (by omega) (by decide) hs hr
    rw [sums_ref, ← hms] at h
    exact h))
  have mt : ∀ i, (ms.t i).size ≤ 10000000 := by rw [hms]; exact sums_sz (fun i => Nat.le_trans (ht i) (by decide)) (by omega) (by decide)
  have mss : 0 ≤ ms.s ∧ ms.s ≤ 4294967295 := by rw [hms]; exact hs
  have msr : 0 ≤ ms.r ∧ ms.r ≤ 4294967295 := by rw [hms]; exact hr
  have w1 : ∀ x : Txt, firstB ms x = decide (x = p.data.toList) := fun x => by rw [Bool.eq_iff_iff, decide_eq_true_eq, hms]; exact first_who ha hpu hF zero_fit hs hr (by omega) (by rw [tl_size]; omega)
  have C1 := Lib.hid (fun W => first_any ms p true W (by rw [w1]; exact decide_eq_true rfl) mt (by omega) mss msr)
  obtain ⟨u, hu⟩ : ∃ u, u = decide (q.data.toList = p.data.toList) := ⟨_, rfl⟩
  have C3 := Lib.hid (fun W => first_any ms q u W (by rw [w1, hu]) mt (by omega) mss msr)
  have v1 : (q.toList == p.toList) = u := by rw [hu]; exact beq_dec q p
  have v2 : (q.toList = p.toList) = (u = true) := by rw [hu]; exact eq_dec q p
  have hneq := fun W => neq_self ms W
  have C2 := Lib.hid (fun W => second_any ms ⟨#[]⟩ false W (by rw [hms]; exact second_zero) mt mss msr)
  have C4 := Lib.hid (fun W => second_any ms q false W (by rw [hms]; exact second_zero) mt mss msr)
  rw [← hms] at CS
  simp only [Msg.row] at BG
  simp only [mval] at CA CR1 CF CE CT C1 C2 C3 C4 hneq CS
  have HA := Lib.hid (show MsgAt (w.alloc (.cells m.row 61)) w.heap.size m from heap_alloc_new w _)
  have O := Lib.hid (show Only (fun _ => False) w (w.alloc (.cells m.row 61)) from (Only.refl _ w).alloc _)
  obtain ⟨X, hX⟩ : ∃ X, X = w.alloc (.cells m.row 61) := ⟨_, rfl⟩
  rw [← hX] at HA O
  obtain ⟨A, hA⟩ : ∃ A, A = w.heap.size := ⟨_, rfl⟩
  rw [← hA] at HA
  have HX := Lib.hid hX
  have HAE := Lib.hid hA
  simp only [Msg.row] at HX
  clear hX hA
  unfold mval
  clear hb ht hz hp hc hq hs hr ha hff hgg hpu hF hf fo1 fo2 fo3 fo1F Fz hms hR hb2 mt mss msr w1 hu
  go_enter Try.func17, Try.ntmps17
  go_wp2_with fail
  rw [← HX.out, ← HAE.out]
  (with_reducible refine (AW.out _).mono ?_)
  rintro e w2 ⟨rfl, o⟩
  replace O := Lib.hid (O.out.trans o)
  replace HA := Lib.hid (MsgAt.keep HA.out o id)
  clear o
  obtain ⟨d0, d1, d2, d3, d4, d5, d6, d7, d8, d9, d10, d11, d12⟩ := MsgAt.cells HA.out
  go_wp2_with fail
  (with_reducible refine (BG.out _).mono ?_)
  rintro e w3 ⟨rfl, o⟩
  replace O := Lib.hid (O.out.trans o)
  replace HA := Lib.hid (MsgAt.keep HA.out o id)
  clear o
  obtain ⟨d0, d1, d2, d3, d4, d5, d6, d7, d8, d9, d10, d11, d12⟩ := MsgAt.cells HA.out
  go_wp2_with fail
  (with_reducible refine (CS.out _).mono ?_)
  rintro e w4 ⟨rfl, o⟩
  replace O := Lib.hid (O.out.trans o)
  replace HA := Lib.hid (MsgAt.keep HA.out o id)
  clear o
  have HN := Lib.hid (show (w4.alloc (.cells #[.int .i64 0, .int .u32 0, .int .u32 0, .int .u64 0, .string ⟨#[]⟩, .string ⟨#[]⟩, .string ⟨#[]⟩, .string ⟨#[]⟩, .string ⟨#[]⟩, .string ⟨#[]⟩, .string ⟨#[]⟩, .string ⟨#[]⟩, .string ⟨#[]⟩] 61)).heap[w4.heap.size]? = some (.cells #[.int .i64 0, .int .u32 0, .int .u32 0, .int .u64 0, .string ⟨#[]⟩, .string ⟨#[]⟩, .string ⟨#[]⟩, .string ⟨#[]⟩, .string ⟨#[]⟩, .string ⟨#[]⟩, .string ⟨#[]⟩, .string ⟨#[]⟩, .string ⟨#[]⟩] 61 (0, 0)) from heap_alloc_new w4 _)
  go_upto_region 6 with (refine wpList_store_row rfl 61 (.tmp 9) (.tmp 25) rfl w4.heap.size ms.row rfl rfl 61 _ HN.out (info61 ms) (size61 (zeroM 0) ms) (one61 ms) ?_)
  obtain ⟨Z, hZ⟩ : ∃ Z, Z = (w4.alloc (.cells #[.int .i64 0, .int .u32 0, .int .u32 0, .int .u64 0, .string ⟨#[]⟩, .string ⟨#[]⟩, .string ⟨#[]⟩, .string ⟨#[]⟩, .string ⟨#[]⟩, .string ⟨#[]⟩, .string ⟨#[]⟩, .string ⟨#[]⟩, .string ⟨#[]⟩] 61)).setRow w4.heap.size ms.row := ⟨_, rfl⟩
  obtain ⟨G, hG⟩ : ∃ G, G = w4.heap.size := ⟨_, rfl⟩
  rw [← hZ, ← hG]
  have HC := Lib.hid (show Z.heap[G]? = some (.cells ms.row 61 (0, 0)) from by rw [hZ, hG]; exact setRow_heap _ _ _ _ _ _ HN.out)
  have oS : Only (fun _ => False) w4 Z := by rw [hZ, World.setRow_alloc_new]; exact (Only.refl _ _).alloc _
  replace O := Lib.hid (O.out.trans oS)
  clear hZ hG HN
  replace HA := Lib.hid (MsgAt.keep HA.out oS id)
  clear oS
  replace HC := Lib.hid (show MsgAt Z G ms from HC.out)
  obtain ⟨d0, d1, d2, d3, d4, d5, d6, d7, d8, d9, d10, d11, d12⟩ := MsgAt.cells HA.out
  go_wp2_with fail
  (with_reducible refine (CA.out _).mono ?_)
  rintro e w5 ⟨rfl, o⟩
  replace O := Lib.hid (O.out.trans o)
  replace HA := Lib.hid (MsgAt.keep HA.out o id)
  replace HC := Lib.hid (MsgAt.keep HC.out o id)
  clear o
  go_upto_region 7 with fail
  have R := Lib.hid ((Only.refl (fun _ => False) w5).drew)
  refine wp_region_held_drew (S := (fun w' => w'.cell? ⟨A, 0, none⟩ = some (.int .i64 m.k) ∧ w'.cell? ⟨A, 1, none⟩ = some (.int .u32 m.s) ∧ w'.cell? ⟨A, 2, none⟩ = some (.int .u32 m.r) ∧ w'.cell? ⟨A, 3, none⟩ = some (.int .u64 m.c) ∧ w'.cell? ⟨A, 4, none⟩ = some (.string (m.t 4)) ∧ w'.cell? ⟨A, 5, none⟩ = some (.string (m.t 5)) ∧ w'.cell? ⟨A, 6, none⟩ = some (.string (m.t 6)) ∧ w'.cell? ⟨A, 7, none⟩ = some (.string (m.t 7)) ∧ w'.cell? ⟨A, 8, none⟩ = some (.string (m.t 8)) ∧ w'.cell? ⟨A, 9, none⟩ = some (.string (m.t 9)) ∧ w'.cell? ⟨A, 10, none⟩ = some (.string (m.t 10)) ∧ w'.cell? ⟨A, 11, none⟩ = some (.string (m.t 11)) ∧ w'.cell? ⟨A, 12, none⟩ = some (.string (m.t 12)))) (by kernel_rfl) ?_ (fun hHeld => ?_)
  · exact MsgAt.cells (MsgAt.keep HA.out R.out id)
  refine rgA.tk 0 hHeld ?_
  refine rgA.tk 1 hHeld ?_
  refine rgA.tk 3 hHeld ?_
  refine rgA.rd 2 (fun K hK => ?_)
  go_simp
  (with_reducible refine (CF.out _).mono ?_)
  rintro e w2 ⟨rfl, o⟩
  replace R := Lib.hid (R.out.trans o)
  clear o
  go_wp2_with fail
  refine hK.out _ _ ?_ (fun hHeld => ?_)
  · exact MsgAt.cells (MsgAt.keep HA.out R.out id)
  clear hK K
  try simp only [List.getElem_toArray, List.getElem_cons_succ, List.getElem_cons_zero, Act.put, List.setIfInBounds_toArray, List.set_cons_zero, List.set_cons_succ]
  refine rgA.tk 4 hHeld ?_
  refine rgA.tk 5 hHeld ?_
  refine rgA.rd 6 (fun K hK => ?_)
  go_simp
  (with_reducible refine (CP.out _).mono ?_)
  rintro e w2 ⟨rfl, o⟩
  replace R := Lib.hid (R.out.trans o)
  clear o
  go_wp2_with fail
  refine hK.out _ _ ?_ (fun hHeld => ?_)
  · exact MsgAt.cells (MsgAt.keep HA.out R.out id)
  clear hK K
  try simp only [List.getElem_toArray, List.getElem_cons_succ, List.getElem_cons_zero, Act.put, List.setIfInBounds_toArray, List.set_cons_zero, List.set_cons_succ]
  refine rgA.tk 7 hHeld ?_
  refine rgA.tk 8 hHeld ?_
  refine rgA.tk 9 hHeld ?_
  refine rgA.tk 10 hHeld ?_
  refine rgA.tk 11 hHeld ?_
  refine rgA.tk 12 hHeld ?_
  refine rgA.rd 13 (fun K hK => ?_)
  go_simp
  (with_reducible refine (CR1.out _).mono ?_)
  rintro e w2 ⟨rfl, o⟩
  replace R := Lib.hid (R.out.trans o)
  clear o
  go_wp2_with fail
  refine hK.out _ _ ?_ (fun hHeld => ?_)
  · exact MsgAt.cells (MsgAt.keep HA.out R.out id)
  clear hK K
  try simp only [List.getElem_toArray, List.getElem_cons_succ, List.getElem_cons_zero, Act.put, List.setIfInBounds_toArray, List.set_cons_zero, List.set_cons_succ]
  refine rgA.tk 14 hHeld ?_
  refine rgA.tk 15 hHeld ?_
  refine rgA.tk 16 hHeld ?_
  refine rgA.tk 17 hHeld ?_
  refine rgA.tk 18 hHeld ?_
  refine rgA.tk 19 hHeld ?_
  refine rgA.tk 21 hHeld ?_
  refine rgA.rd 20 (fun K hK => ?_)
  go_simp
  (with_reducible refine (CE.out _).mono ?_)
  rintro e w2 ⟨rfl, o⟩
  replace R := Lib.hid (R.out.trans o)
  clear o
  go_wp2_with fail
  refine hK.out _ _ ?_ (fun hHeld => ?_)
  · exact MsgAt.cells (MsgAt.keep HA.out R.out id)
  clear hK K
  try simp only [List.getElem_toArray, List.getElem_cons_succ, List.getElem_cons_zero, Act.put, List.setIfInBounds_toArray, List.set_cons_zero, List.set_cons_succ]
  refine rgA.tk 22 hHeld ?_
  refine rgA.tk 23 hHeld ?_
  refine rgA.rd 24 (fun K hK => ?_)
  go_simp
  (with_reducible refine (CI.out _).mono ?_)
  rintro e w2 ⟨rfl, o⟩
  replace R := Lib.hid (R.out.trans o)
  clear o
  go_wp2_with fail
  refine hK.out _ _ ?_ (fun hHeld => ?_)
  · exact MsgAt.cells (MsgAt.keep HA.out R.out id)
  clear hK K
  try simp only [List.getElem_toArray, List.getElem_cons_succ, List.getElem_cons_zero, Act.put, List.setIfInBounds_toArray, List.set_cons_zero, List.set_cons_succ]
  refine rgA.tk 25 hHeld ?_
  refine rgA.tk 26 hHeld ?_
  refine rgA.tk 27 hHeld ?_
  refine rgA.tk 28 hHeld ?_
  refine rgA.tk 29 hHeld ?_
  refine rgA.tk 30 hHeld ?_
  refine rgA.tk 31 hHeld ?_
  refine rgA.tk 32 hHeld ?_
  refine rgA.tk 33 hHeld ?_
  refine rgA.tk 34 hHeld ?_
  refine rgA.tk 35 hHeld ?_
  refine wpAnyH_done (by kernel_rfl) ?_ _
  obtain ⟨V, hV⟩ : ∃ V, V = w2 := ⟨_, rfl⟩
  rw [← hV] at R ⊢
  clear hV hHeld
  replace O := Lib.hid (O.out.trans R.out)
  replace HA := Lib.hid (MsgAt.keep HA.out R.out id)
  replace HC := Lib.hid (MsgAt.keep HC.out R.out id)
  clear R
  go_wp2_with fail
  (with_reducible refine (CP.out _).mono ?_)
  rintro e w6 ⟨rfl, o⟩
  replace O := Lib.hid (O.out.trans o)
  replace HA := Lib.hid (MsgAt.keep HA.out o id)
  replace HC := Lib.hid (MsgAt.keep HC.out o id)
  clear o
  go_upto_region 11 with fail
  have R := Lib.hid ((Only.refl (fun _ => False) w6).drew)
  refine wp_region_held_drew (S := (fun w' => (w'.cell? ⟨A, 0, none⟩ = some (.int .i64 m.k) ∧ w'.cell? ⟨A, 1, none⟩ = some (.int .u32 m.s) ∧ w'.cell? ⟨A, 2, none⟩ = some (.int .u32 m.r) ∧ w'.cell? ⟨A, 3, none⟩ = some (.int .u64 m.c) ∧ w'.cell? ⟨A, 4, none⟩ = some (.string (m.t 4)) ∧ w'.cell? ⟨A, 5, none⟩ = some (.string (m.t 5)) ∧ w'.cell? ⟨A, 6, none⟩ = some (.string (m.t 6)) ∧ w'.cell? ⟨A, 7, none⟩ = some (.string (m.t 7)) ∧ w'.cell? ⟨A, 8, none⟩ = some (.string (m.t 8)) ∧ w'.cell? ⟨A, 9, none⟩ = some (.string (m.t 9)) ∧ w'.cell? ⟨A, 10, none⟩ = some (.string (m.t 10)) ∧ w'.cell? ⟨A, 11, none⟩ = some (.string (m.t 11)) ∧ w'.cell? ⟨A, 12, none⟩ = some (.string (m.t 12))) ∧ (w'.cell? ⟨G, 0, none⟩ = some (.int .i64 ms.k) ∧ w'.cell? ⟨G, 1, none⟩ = some (.int .u32 ms.s) ∧ w'.cell? ⟨G, 2, none⟩ = some (.int .u32 ms.r) ∧ w'.cell? ⟨G, 3, none⟩ = some (.int .u64 ms.c) ∧ w'.cell? ⟨G, 4, none⟩ = some (.string (ms.t 4)) ∧ w'.cell? ⟨G, 5, none⟩ = some (.string (ms.t 5)) ∧ w'.cell? ⟨G, 6, none⟩ = some (.string (ms.t 6)) ∧ w'.cell? ⟨G, 7, none⟩ = some (.string (ms.t 7)) ∧ w'.cell? ⟨G, 8, none⟩ = some (.string (ms.t 8)) ∧ w'.cell? ⟨G, 9, none⟩ = some (.string (ms.t 9)) ∧ w'.cell? ⟨G, 10, none⟩ = some (.string (ms.t 10)) ∧ w'.cell? ⟨G, 11, none⟩ = some (.string (ms.t 11)) ∧ w'.cell? ⟨G, 12, none⟩ = some (.string (ms.t 12))))) (by kernel_rfl) ?_ (fun hHeld => ?_)
  · exact ⟨MsgAt.cells (MsgAt.keep HA.out R.out id), MsgAt.cells (MsgAt.keep HC.out R.out id)⟩
  refine rgA.tk 0 hHeld ?_
  refine rgA.tk 1 hHeld ?_
  refine rgA.tk 2 hHeld ?_
  refine rgA.tk 3 hHeld ?_
  refine rgA.tk 4 hHeld ?_
  refine rgA.tk 5 hHeld ?_
  refine rgA.tk 6 hHeld ?_
  refine rgA.rd 7 (fun K hK => ?_)
  go_simp
  (with_reducible refine (CT.out _).mono ?_)
  rintro e w2 ⟨rfl, o⟩
  replace R := Lib.hid (R.out.trans o)
  clear o
  go_wp2_with fail
  refine hK.out _ _ ?_ (fun hHeld => ?_)
  · exact ⟨MsgAt.cells (MsgAt.keep HA.out R.out id), MsgAt.cells (MsgAt.keep HC.out R.out id)⟩
  clear hK K
  try simp only [List.getElem_toArray, List.getElem_cons_succ, List.getElem_cons_zero, Act.put, List.setIfInBounds_toArray, List.set_cons_zero, List.set_cons_succ]
  refine rgA.tk 8 hHeld ?_
  refine rgA.tk 9 hHeld ?_
  refine rgA.tk 10 hHeld ?_
  refine rgA.tk 11 hHeld ?_
  refine rgA.tk 12 hHeld ?_
  refine rgA.rd 13 (fun K hK => ?_)
  go_simp
  (with_reducible refine (C1.out _).mono ?_)
  rintro e w2 ⟨rfl, o⟩
  replace R := Lib.hid (R.out.trans o)
  clear o
  go_wp2_with fail
  refine hK.out _ _ ?_ (fun hHeld => ?_)
  · exact ⟨MsgAt.cells (MsgAt.keep HA.out R.out id), MsgAt.cells (MsgAt.keep HC.out R.out id)⟩
  clear hK K
  try simp only [List.getElem_toArray, List.getElem_cons_succ, List.getElem_cons_zero, Act.put, List.setIfInBounds_toArray, List.set_cons_zero, List.set_cons_succ]
  refine rgA.tk 14 hHeld ?_
  refine rgA.tk 15 hHeld ?_
  refine rgA.tk 16 hHeld ?_
  refine rgA.tk 17 hHeld ?_
  refine rgA.tk 18 hHeld ?_
  refine rgA.tk 20 hHeld ?_
  refine rgA.tk 21 hHeld ?_
  refine rgA.rd 19 (fun K hK => ?_)
  go_simp
  (with_reducible refine (C2.out _).mono ?_)
  rintro e w2 ⟨rfl, o⟩
  replace R := Lib.hid (R.out.trans o)
  clear o
  go_wp2_with fail
  refine hK.out _ _ ?_ (fun hHeld => ?_)
  · exact ⟨MsgAt.cells (MsgAt.keep HA.out R.out id), MsgAt.cells (MsgAt.keep HC.out R.out id)⟩
  clear hK K
  try simp only [List.getElem_toArray, List.getElem_cons_succ, List.getElem_cons_zero, Act.put, List.setIfInBounds_toArray, List.set_cons_zero, List.set_cons_succ]
  refine rgA.tk 22 hHeld ?_
  refine rgA.tk 23 hHeld ?_
  refine wpAnyH_done (by kernel_rfl) ?_ _
  obtain ⟨V2, hV⟩ : ∃ V, V = w2 := ⟨_, rfl⟩
  rw [← hV] at R ⊢
  clear hV hHeld
  replace O := Lib.hid (O.out.trans R.out)
  replace HC := Lib.hid (MsgAt.keep HC.out R.out id)
  clear R HA
  go_upto_region 13 with fail
  obtain ⟨g0, g1, g2, g3, g4, g5, g6, g7, g8, g9, g10, g11, g12⟩ := MsgAt.cells HC.out
  cases u
  all_goals
    go_wp2_with fail
    (with_reducible refine (C3.out _).mono ?_)
    rintro e w8 ⟨rfl, o⟩
    replace O := Lib.hid (O.out.trans o)
    replace HC := Lib.hid (MsgAt.keep HC.out o id)
    clear o
    obtain ⟨g0, g1, g2, g3, g4, g5, g6, g7, g8, g9, g10, g11, g12⟩ := MsgAt.cells HC.out
    go_wp2_with fail
    (with_reducible refine (C4.out _).mono ?_)
    rintro e w9 ⟨rfl, o⟩
    replace O := Lib.hid (O.out.trans o)
    replace HC := Lib.hid (MsgAt.keep HC.out o id)
    clear o
    go_wp2_with fail
    go_ret
    exact ⟨rfl, O.out⟩

set_option maxRecDepth 100000 in
set_option maxHeartbeats 4000000 in
theorem ms_t (m : Msg) (p c q : ByteArray) (w : World) (ha : asksM m = true) (hpu : pubB p.data.toList = true) (hct : isT c.data.toList = true) (hb : bigB m ([p, c, q].map (·.data.toList)) = false) (ht : ∀ i, (m.t i).size ≤ 3000) (hz : tsz m ≤ 3000) (hp : p.size ≤ 200) (hc : c.size ≤ 200) (hq : q.size ≤ 200) (hs : 0 ≤ m.s ∧ m.s ≤ 4294967295) (hr : 0 ≤ m.r ∧ m.r ≤ 4294967295) : Calls Try.prog 17 #[mval m, .string p, .string c, .string q] w (numA.Told w (.bool true)) := by
  have AW := Lib.hid (fun W => maG.awake_any W)
  have BG := Lib.hid (fun W => big3 m p c q false W hb (fun i => Nat.le_trans (ht i) (by decide)))
  obtain ⟨x1, x2, x3, x4⟩ := ne_facts (isT_ne hct)
  have CA := Lib.hid (fun W => asks_any m true W ha (fun i => Nat.le_trans (ht i) (by decide)))
  obtain ⟨F, hF⟩ : ∃ F : ByteArray, F.data.toList = firstT m p.data.toList := ⟨⟨(firstT m p.data.toList).toArray⟩, rfl⟩
  have CR1 := Lib.hid (fun W => reffirst_any m p F W hF (fun i => Nat.le_trans (ht i) (by decide)) (by omega) hs hr)
  obtain ⟨f, hf⟩ : ∃ f, f = ((m.t 11).toList == F.toList) := ⟨_, rfl⟩
  have hff := first_law ha hpu hF hs hr (by omega) (by rw [tl_size]; omega)
  rw [← hf] at hff
  have y1 : ((m.t 11).toList == F.toList) = f := hf.symm
  have y2 : ((m.t 11).toList = F.toList) = (f = true) := by rw [hf, beq_iff_eq]
  have CF := Lib.hid (fun W => first_any m p f W hff (fun i => Nat.le_trans (ht i) (by decide)) (by omega) hs hr)
  obtain ⟨E, hE⟩ : ∃ E : ByteArray, E.data.toList = secondT m c.data.toList := ⟨⟨(secondT m c.data.toList).toArray⟩, rfl⟩
  have CR2 := Lib.hid (fun W => refsecond_any m c E W hE (fun i => Nat.le_trans (ht i) (by decide)) (by omega) hs hr)
  obtain ⟨g, hg⟩ : ∃ g, g = ((m.t 12).toList == E.toList) := ⟨_, rfl⟩
  have hgg := second_law ha hct hE hs hr (by omega) (by rw [tl_size]; omega)
  rw [← hg] at hgg
  have z1 : ((m.t 12).toList == E.toList) = g := hg.symm
  have z2 : ((m.t 12).toList = E.toList) = (g = true) := by rw [hg, beq_iff_eq]
  have CE := Lib.hid (fun W => second_any m c g W hgg (fun i => Nat.le_trans (ht i) (by decide)) hs hr)
  have CP := Lib.hid (fun W => refpub_any p true W hpu (by omega))
  have CI := Lib.hid (fun W => (show Calls Try.prog 39 #[.string c] W (numA.Told W (.bool true)) from by have h := trJ.is_any c W (by omega); rw [show trJ.isT (c : ByteArray).data.toList = true from hct] at h; exact h))
  obtain ⟨fo1, fo2, fo3⟩ := firstT_ok ha hpu hs hr (by omega) (by rw [tl_size]; omega)
  rw [tl_size] at fo2
  have fo1F : fitB F.data.toList = true := by rw [hF]; exact fo1
  have Fz : F.size ≤ 3500 := u_le hF (by omega)
  obtain ⟨E2, hE2⟩ : ∃ E2 : ByteArray, E2.data.toList = macT c.data.toList (signedM (sumsM m F ⟨#[48]⟩)) := ⟨⟨(macT c.data.toList (signedM (sumsM m F ⟨#[48]⟩))).toArray⟩, rfl⟩
  have tz := tsz_sums m F ⟨#[48]⟩
  rw [show (⟨#[48]⟩ : ByteArray).size = 1 from rfl] at tz
  obtain ⟨so1, so2, so3⟩ := signed_ok (sums_asks ha fo1F zero_fit) hs hr (by omega)
  obtain ⟨se1, se2, se3⟩ := mac2 hct so1 (by rw [tl_size]; omega)
  rw [tl_size] at se2
  have fo2E : fitB E2.data.toList = true := by rw [hE2]; exact fit_of se1 (by omega)
  have Ez : E2.size ≤ 20000 := u_le hE2 (by omega)
  obtain ⟨ms, hms⟩ : ∃ ms, ms = sumsM m F E2 := ⟨_, rfl⟩
  have hR : rightM ((sumsM m F ⟨#[48]⟩).put 12 E2) = true := by rw [sums_put]; exact (asks_r (sums_asks ha fo1F fo2E)).1
  have CS := Lib.hid (fun W => sign_t m p c F E2 W ha hpu hct (by omega) hF hE2 hR (fun i => Nat.le_trans (ht i) (by decide)) (by omega) hs hr)
  have hb2 : E2.data.toList = secondT ((sumsM m ⟨#[48]⟩ ⟨#[48]⟩).put 11 F) c.data.toList := by rw [sums_ref1, secondT, if_neg (isT_ne hct)]; exact hE2
  have CT := Lib.hid (fun W => (show Calls Try.prog 85 #[mval m, .string p, .string c] W (numA.Told W (mval ms)) from by
    have h := refsign_any m p c F E2 W (by rw [first_put ha zero_fit zero_fit]; exact hF) hb2 (fun i => Nat.le_trans (ht i) (by decide)) (by omega) (by omega) hs hr
    rw [sums_ref, ← hms] at h
    exact h))
  have mt : ∀ i, (ms.t i).size ≤ 10000000 := by rw [hms]; exact sums_sz (fun i => Nat.le_trans (ht i) (by decide)) (by omega) (by omega)
  have mss : 0 ≤ ms.s ∧ ms.s ≤ 4294967295 := by rw [hms]; exact hs
  have msr : 0 ≤ ms.r ∧ ms.r ≤ 4294967295 := by rw [hms]; exact hr
  have w1 : ∀ x : Txt, firstB ms x = decide (x = p.data.toList) := fun x => by rw [Bool.eq_iff_iff, decide_eq_true_eq, hms]; exact first_who ha hpu hF fo2E hs hr (by omega) (by rw [tl_size]; omega)
  have C1 := Lib.hid (fun W => first_any ms p true W (by rw [w1]; exact decide_eq_true rfl) mt (by omega) mss msr)
  obtain ⟨u, hu⟩ : ∃ u, u = decide (q.data.toList = p.data.toList) := ⟨_, rfl⟩
  have C3 := Lib.hid (fun W => first_any ms q u W (by rw [w1, hu]) mt (by omega) mss msr)
  have v1 : (q.toList == p.toList) = u := by rw [hu]; exact beq_dec q p
  have v2 : (q.toList = p.toList) = (u = true) := by rw [hu]; exact eq_dec q p
  have hneq := fun W => neq_self ms W
  have w2 : ∀ x : Txt, secondB ms x = decide (x = c.data.toList) := fun x => by rw [Bool.eq_iff_iff, decide_eq_true_eq, hms]; exact second_who ha hct fo1F hE2 hs hr (by omega) (by rw [tl_size]; omega)
  have C2 := Lib.hid (fun W => second_any ms c true W (by rw [w2]; exact decide_eq_true rfl) mt mss msr)
  obtain ⟨t, ht2⟩ : ∃ t, t = decide (q.data.toList = c.data.toList) := ⟨_, rfl⟩
  have C4 := Lib.hid (fun W => second_any ms q t W (by rw [w2, ht2]) mt mss msr)
  have v3 : (q.toList == c.toList) = t := by rw [ht2]; exact beq_dec q c
  have v4 : (q.toList = c.toList) = (t = true) := by rw [ht2]; exact eq_dec q c
  clear ht2 w2
  rw [← hms] at CS
  simp only [Msg.row] at BG
  simp only [mval] at CA CR1 CF CR2 CE CT C1 C2 C3 C4 hneq CS
  have HA := Lib.hid (show MsgAt (w.alloc (.cells m.row 61)) w.heap.size m from heap_alloc_new w _)
  have O := Lib.hid (show Only (fun _ => False) w (w.alloc (.cells m.row 61)) from (Only.refl _ w).alloc _)
  obtain ⟨X, hX⟩ : ∃ X, X = w.alloc (.cells m.row 61) := ⟨_, rfl⟩
  rw [← hX] at HA O
  obtain ⟨A, hA⟩ : ∃ A, A = w.heap.size := ⟨_, rfl⟩
  rw [← hA] at HA
  have HX := Lib.hid hX
  have HAE := Lib.hid hA
  simp only [Msg.row] at HX
  clear hX hA
  unfold mval
  clear hb ht hz hp hc hq hs hr ha hff hgg hpu hF hf hE hg hct fo1 fo2 fo3 fo1F Fz hms hR hb2 mt mss msr w1 hu tz so1 so2 so3 se1 se2 se3 fo2E Ez hE2
  go_enter Try.func17, Try.ntmps17
  go_wp2_with fail
  rw [← HX.out, ← HAE.out]
  (with_reducible refine (AW.out _).mono ?_)
  rintro e w2 ⟨rfl, o⟩
  replace O := Lib.hid (O.out.trans o)
  replace HA := Lib.hid (MsgAt.keep HA.out o id)
  clear o
  obtain ⟨d0, d1, d2, d3, d4, d5, d6, d7, d8, d9, d10, d11, d12⟩ := MsgAt.cells HA.out
  go_wp2_with fail
  (with_reducible refine (BG.out _).mono ?_)
  rintro e w3 ⟨rfl, o⟩
  replace O := Lib.hid (O.out.trans o)
  replace HA := Lib.hid (MsgAt.keep HA.out o id)
  clear o
  obtain ⟨d0, d1, d2, d3, d4, d5, d6, d7, d8, d9, d10, d11, d12⟩ := MsgAt.cells HA.out
  go_wp2_with fail
  (with_reducible refine (CS.out _).mono ?_)
  rintro e w4 ⟨rfl, o⟩
  replace O := Lib.hid (O.out.trans o)
  replace HA := Lib.hid (MsgAt.keep HA.out o id)
  clear o
  have HN := Lib.hid (show (w4.alloc (.cells #[.int .i64 0, .int .u32 0, .int .u32 0, .int .u64 0, .string ⟨#[]⟩, .string ⟨#[]⟩, .string ⟨#[]⟩, .string ⟨#[]⟩, .string ⟨#[]⟩, .string ⟨#[]⟩, .string ⟨#[]⟩, .string ⟨#[]⟩, .string ⟨#[]⟩] 61)).heap[w4.heap.size]? = some (.cells #[.int .i64 0, .int .u32 0, .int .u32 0, .int .u64 0, .string ⟨#[]⟩, .string ⟨#[]⟩, .string ⟨#[]⟩, .string ⟨#[]⟩, .string ⟨#[]⟩, .string ⟨#[]⟩, .string ⟨#[]⟩, .string ⟨#[]⟩, .string ⟨#[]⟩] 61 (0, 0)) from heap_alloc_new w4 _)
  go_upto_region 6 with (refine wpList_store_row rfl 61 (.tmp 9) (.tmp 25) rfl w4.heap.size ms.row rfl rfl 61 _ HN.out (info61 ms) (size61 (zeroM 0) ms) (one61 ms) ?_)
  obtain ⟨Z, hZ⟩ : ∃ Z, Z = (w4.alloc (.cells #[.int .i64 0, .int .u32 0, .int .u32 0, .int .u64 0, .string ⟨#[]⟩, .string ⟨#[]⟩, .string ⟨#[]⟩, .string ⟨#[]⟩, .string ⟨#[]⟩, .string ⟨#[]⟩, .string ⟨#[]⟩, .string ⟨#[]⟩, .string ⟨#[]⟩] 61)).setRow w4.heap.size ms.row := ⟨_, rfl⟩
  obtain ⟨G, hG⟩ : ∃ G, G = w4.heap.size := ⟨_, rfl⟩
  rw [← hZ, ← hG]
  have HC := Lib.hid (show Z.heap[G]? = some (.cells ms.row 61 (0, 0)) from by rw [hZ, hG]; exact setRow_heap _ _ _ _ _ _ HN.out)
  have oS : Only (fun _ => False) w4 Z := by rw [hZ, World.setRow_alloc_new]; exact (Only.refl _ _).alloc _
  replace O := Lib.hid (O.out.trans oS)
  clear hZ hG HN
  replace HA := Lib.hid (MsgAt.keep HA.out oS id)
  clear oS
  replace HC := Lib.hid (show MsgAt Z G ms from HC.out)
  obtain ⟨d0, d1, d2, d3, d4, d5, d6, d7, d8, d9, d10, d11, d12⟩ := MsgAt.cells HA.out
  go_wp2_with fail
  (with_reducible refine (CA.out _).mono ?_)
  rintro e w5 ⟨rfl, o⟩
  replace O := Lib.hid (O.out.trans o)
  replace HA := Lib.hid (MsgAt.keep HA.out o id)
  replace HC := Lib.hid (MsgAt.keep HC.out o id)
  clear o
  go_upto_region 7 with fail
  have R := Lib.hid ((Only.refl (fun _ => False) w5).drew)
  refine wp_region_held_drew (S := (fun w' => w'.cell? ⟨A, 0, none⟩ = some (.int .i64 m.k) ∧ w'.cell? ⟨A, 1, none⟩ = some (.int .u32 m.s) ∧ w'.cell? ⟨A, 2, none⟩ = some (.int .u32 m.r) ∧ w'.cell? ⟨A, 3, none⟩ = some (.int .u64 m.c) ∧ w'.cell? ⟨A, 4, none⟩ = some (.string (m.t 4)) ∧ w'.cell? ⟨A, 5, none⟩ = some (.string (m.t 5)) ∧ w'.cell? ⟨A, 6, none⟩ = some (.string (m.t 6)) ∧ w'.cell? ⟨A, 7, none⟩ = some (.string (m.t 7)) ∧ w'.cell? ⟨A, 8, none⟩ = some (.string (m.t 8)) ∧ w'.cell? ⟨A, 9, none⟩ = some (.string (m.t 9)) ∧ w'.cell? ⟨A, 10, none⟩ = some (.string (m.t 10)) ∧ w'.cell? ⟨A, 11, none⟩ = some (.string (m.t 11)) ∧ w'.cell? ⟨A, 12, none⟩ = some (.string (m.t 12)))) (by kernel_rfl) ?_ (fun hHeld => ?_)
  · exact MsgAt.cells (MsgAt.keep HA.out R.out id)
  refine rgA.tk 0 hHeld ?_
  refine rgA.tk 1 hHeld ?_
  refine rgA.tk 3 hHeld ?_
  refine rgA.rd 2 (fun K hK => ?_)
  go_simp
  (with_reducible refine (CF.out _).mono ?_)
  rintro e w2 ⟨rfl, o⟩
  replace R := Lib.hid (R.out.trans o)
  clear o
  go_wp2_with fail
  refine hK.out _ _ ?_ (fun hHeld => ?_)
  · exact MsgAt.cells (MsgAt.keep HA.out R.out id)
  clear hK K
  try simp only [List.getElem_toArray, List.getElem_cons_succ, List.getElem_cons_zero, Act.put, List.setIfInBounds_toArray, List.set_cons_zero, List.set_cons_succ]
  refine rgA.tk 4 hHeld ?_
  refine rgA.tk 5 hHeld ?_
  refine rgA.rd 6 (fun K hK => ?_)
  go_simp
  (with_reducible refine (CP.out _).mono ?_)
  rintro e w2 ⟨rfl, o⟩
  replace R := Lib.hid (R.out.trans o)
  clear o
  go_wp2_with fail
  refine hK.out _ _ ?_ (fun hHeld => ?_)
  · exact MsgAt.cells (MsgAt.keep HA.out R.out id)
  clear hK K
  try simp only [List.getElem_toArray, List.getElem_cons_succ, List.getElem_cons_zero, Act.put, List.setIfInBounds_toArray, List.set_cons_zero, List.set_cons_succ]
  refine rgA.tk 7 hHeld ?_
  refine rgA.tk 8 hHeld ?_
  refine rgA.tk 9 hHeld ?_
  refine rgA.tk 10 hHeld ?_
  refine rgA.tk 11 hHeld ?_
  refine rgA.tk 12 hHeld ?_
  refine rgA.rd 13 (fun K hK => ?_)
  go_simp
  (with_reducible refine (CR1.out _).mono ?_)
  rintro e w2 ⟨rfl, o⟩
  replace R := Lib.hid (R.out.trans o)
  clear o
  go_wp2_with fail
  refine hK.out _ _ ?_ (fun hHeld => ?_)
  · exact MsgAt.cells (MsgAt.keep HA.out R.out id)
  clear hK K
  try simp only [List.getElem_toArray, List.getElem_cons_succ, List.getElem_cons_zero, Act.put, List.setIfInBounds_toArray, List.set_cons_zero, List.set_cons_succ]
  refine rgA.tk 14 hHeld ?_
  refine rgA.tk 15 hHeld ?_
  refine rgA.tk 16 hHeld ?_
  refine rgA.tk 17 hHeld ?_
  refine rgA.tk 18 hHeld ?_
  refine rgA.tk 19 hHeld ?_
  refine rgA.tk 21 hHeld ?_
  refine rgA.rd 20 (fun K hK => ?_)
  go_simp
  (with_reducible refine (CE.out _).mono ?_)
  rintro e w2 ⟨rfl, o⟩
  replace R := Lib.hid (R.out.trans o)
  clear o
  go_wp2_with fail
  refine hK.out _ _ ?_ (fun hHeld => ?_)
  · exact MsgAt.cells (MsgAt.keep HA.out R.out id)
  clear hK K
  try simp only [List.getElem_toArray, List.getElem_cons_succ, List.getElem_cons_zero, Act.put, List.setIfInBounds_toArray, List.set_cons_zero, List.set_cons_succ]
  refine rgA.tk 22 hHeld ?_
  refine rgA.tk 23 hHeld ?_
  refine rgA.rd 24 (fun K hK => ?_)
  go_simp
  (with_reducible refine (CI.out _).mono ?_)
  rintro e w2 ⟨rfl, o⟩
  replace R := Lib.hid (R.out.trans o)
  clear o
  go_wp2_with fail
  refine hK.out _ _ ?_ (fun hHeld => ?_)
  · exact MsgAt.cells (MsgAt.keep HA.out R.out id)
  clear hK K
  try simp only [List.getElem_toArray, List.getElem_cons_succ, List.getElem_cons_zero, Act.put, List.setIfInBounds_toArray, List.set_cons_zero, List.set_cons_succ]
  refine rgA.tk 25 hHeld ?_
  refine rgA.tk 26 hHeld ?_
  refine rgA.tk 27 hHeld ?_
  refine rgA.tk 28 hHeld ?_
  refine rgA.tk 29 hHeld ?_
  refine rgA.tk 30 hHeld ?_
  refine rgA.rd 31 (fun K hK => ?_)
  go_simp
  (with_reducible refine (CR2.out _).mono ?_)
  rintro e w2 ⟨rfl, o⟩
  replace R := Lib.hid (R.out.trans o)
  clear o
  go_wp2_with fail
  refine hK.out _ _ ?_ (fun hHeld => ?_)
  · exact MsgAt.cells (MsgAt.keep HA.out R.out id)
  clear hK K
  try simp only [List.getElem_toArray, List.getElem_cons_succ, List.getElem_cons_zero, Act.put, List.setIfInBounds_toArray, List.set_cons_zero, List.set_cons_succ]
  refine rgA.tk 32 hHeld ?_
  refine rgA.tk 33 hHeld ?_
  refine rgA.tk 34 hHeld ?_
  refine rgA.tk 35 hHeld ?_
  refine wpAnyH_done (by kernel_rfl) ?_ _
  obtain ⟨V, hV⟩ : ∃ V, V = w2 := ⟨_, rfl⟩
  rw [← hV] at R ⊢
  clear hV hHeld
  replace O := Lib.hid (O.out.trans R.out)
  replace HA := Lib.hid (MsgAt.keep HA.out R.out id)
  replace HC := Lib.hid (MsgAt.keep HC.out R.out id)
  clear R
  go_wp2_with fail
  (with_reducible refine (CP.out _).mono ?_)
  rintro e w6 ⟨rfl, o⟩
  replace O := Lib.hid (O.out.trans o)
  replace HA := Lib.hid (MsgAt.keep HA.out o id)
  replace HC := Lib.hid (MsgAt.keep HC.out o id)
  clear o
  go_wp2_with fail
  (with_reducible refine (CI.out _).mono ?_)
  rintro e w6 ⟨rfl, o⟩
  replace O := Lib.hid (O.out.trans o)
  replace HA := Lib.hid (MsgAt.keep HA.out o id)
  replace HC := Lib.hid (MsgAt.keep HC.out o id)
  clear o
  go_upto_region 11 with fail
  have R := Lib.hid ((Only.refl (fun _ => False) w6).drew)
  refine wp_region_held_drew (S := (fun w' => (w'.cell? ⟨A, 0, none⟩ = some (.int .i64 m.k) ∧ w'.cell? ⟨A, 1, none⟩ = some (.int .u32 m.s) ∧ w'.cell? ⟨A, 2, none⟩ = some (.int .u32 m.r) ∧ w'.cell? ⟨A, 3, none⟩ = some (.int .u64 m.c) ∧ w'.cell? ⟨A, 4, none⟩ = some (.string (m.t 4)) ∧ w'.cell? ⟨A, 5, none⟩ = some (.string (m.t 5)) ∧ w'.cell? ⟨A, 6, none⟩ = some (.string (m.t 6)) ∧ w'.cell? ⟨A, 7, none⟩ = some (.string (m.t 7)) ∧ w'.cell? ⟨A, 8, none⟩ = some (.string (m.t 8)) ∧ w'.cell? ⟨A, 9, none⟩ = some (.string (m.t 9)) ∧ w'.cell? ⟨A, 10, none⟩ = some (.string (m.t 10)) ∧ w'.cell? ⟨A, 11, none⟩ = some (.string (m.t 11)) ∧ w'.cell? ⟨A, 12, none⟩ = some (.string (m.t 12))) ∧ (w'.cell? ⟨G, 0, none⟩ = some (.int .i64 ms.k) ∧ w'.cell? ⟨G, 1, none⟩ = some (.int .u32 ms.s) ∧ w'.cell? ⟨G, 2, none⟩ = some (.int .u32 ms.r) ∧ w'.cell? ⟨G, 3, none⟩ = some (.int .u64 ms.c) ∧ w'.cell? ⟨G, 4, none⟩ = some (.string (ms.t 4)) ∧ w'.cell? ⟨G, 5, none⟩ = some (.string (ms.t 5)) ∧ w'.cell? ⟨G, 6, none⟩ = some (.string (ms.t 6)) ∧ w'.cell? ⟨G, 7, none⟩ = some (.string (ms.t 7)) ∧ w'.cell? ⟨G, 8, none⟩ = some (.string (ms.t 8)) ∧ w'.cell? ⟨G, 9, none⟩ = some (.string (ms.t 9)) ∧ w'.cell? ⟨G, 10, none⟩ = some (.string (ms.t 10)) ∧ w'.cell? ⟨G, 11, none⟩ = some (.string (ms.t 11)) ∧ w'.cell? ⟨G, 12, none⟩ = some (.string (ms.t 12))))) (by kernel_rfl) ?_ (fun hHeld => ?_)
  · exact ⟨MsgAt.cells (MsgAt.keep HA.out R.out id), MsgAt.cells (MsgAt.keep HC.out R.out id)⟩
  refine rgA.tk 0 hHeld ?_
  refine rgA.tk 1 hHeld ?_
  refine rgA.tk 2 hHeld ?_
  refine rgA.tk 3 hHeld ?_
  refine rgA.tk 4 hHeld ?_
  refine rgA.tk 5 hHeld ?_
  refine rgA.tk 6 hHeld ?_
  refine rgA.rd 7 (fun K hK => ?_)
  go_simp
  (with_reducible refine (CT.out _).mono ?_)
  rintro e w2 ⟨rfl, o⟩
  replace R := Lib.hid (R.out.trans o)
  clear o
  go_wp2_with fail
  refine hK.out _ _ ?_ (fun hHeld => ?_)
  · exact ⟨MsgAt.cells (MsgAt.keep HA.out R.out id), MsgAt.cells (MsgAt.keep HC.out R.out id)⟩
  clear hK K
  try simp only [List.getElem_toArray, List.getElem_cons_succ, List.getElem_cons_zero, Act.put, List.setIfInBounds_toArray, List.set_cons_zero, List.set_cons_succ]
  refine rgA.tk 8 hHeld ?_
  refine rgA.tk 9 hHeld ?_
  refine rgA.tk 10 hHeld ?_
  refine rgA.tk 11 hHeld ?_
  refine rgA.tk 12 hHeld ?_
  refine rgA.rd 13 (fun K hK => ?_)
  go_simp
  (with_reducible refine (C1.out _).mono ?_)
  rintro e w2 ⟨rfl, o⟩
  replace R := Lib.hid (R.out.trans o)
  clear o
  go_wp2_with fail
  refine hK.out _ _ ?_ (fun hHeld => ?_)
  · exact ⟨MsgAt.cells (MsgAt.keep HA.out R.out id), MsgAt.cells (MsgAt.keep HC.out R.out id)⟩
  clear hK K
  try simp only [List.getElem_toArray, List.getElem_cons_succ, List.getElem_cons_zero, Act.put, List.setIfInBounds_toArray, List.set_cons_zero, List.set_cons_succ]
  refine rgA.tk 14 hHeld ?_
  refine rgA.tk 15 hHeld ?_
  refine rgA.tk 16 hHeld ?_
  refine rgA.tk 17 hHeld ?_
  refine rgA.tk 18 hHeld ?_
  refine rgA.tk 20 hHeld ?_
  refine rgA.tk 21 hHeld ?_
  refine rgA.rd 19 (fun K hK => ?_)
  go_simp
  (with_reducible refine (C2.out _).mono ?_)
  rintro e w2 ⟨rfl, o⟩
  replace R := Lib.hid (R.out.trans o)
  clear o
  go_wp2_with fail
  refine hK.out _ _ ?_ (fun hHeld => ?_)
  · exact ⟨MsgAt.cells (MsgAt.keep HA.out R.out id), MsgAt.cells (MsgAt.keep HC.out R.out id)⟩
  clear hK K
  try simp only [List.getElem_toArray, List.getElem_cons_succ, List.getElem_cons_zero, Act.put, List.setIfInBounds_toArray, List.set_cons_zero, List.set_cons_succ]
  refine rgA.tk 22 hHeld ?_
  refine rgA.tk 23 hHeld ?_
  refine wpAnyH_done (by kernel_rfl) ?_ _
  obtain ⟨V2, hV⟩ : ∃ V, V = w2 := ⟨_, rfl⟩
  rw [← hV] at R ⊢
  clear hV hHeld
  replace O := Lib.hid (O.out.trans R.out)
  replace HC := Lib.hid (MsgAt.keep HC.out R.out id)
  clear R HA
  go_upto_region 13 with fail
  obtain ⟨g0, g1, g2, g3, g4, g5, g6, g7, g8, g9, g10, g11, g12⟩ := MsgAt.cells HC.out
  cases u <;> cases t
  all_goals
    go_wp2_with fail
    (with_reducible refine (C3.out _).mono ?_)
    rintro e w8 ⟨rfl, o⟩
    replace O := Lib.hid (O.out.trans o)
    replace HC := Lib.hid (MsgAt.keep HC.out o id)
    clear o
    obtain ⟨g0, g1, g2, g3, g4, g5, g6, g7, g8, g9, g10, g11, g12⟩ := MsgAt.cells HC.out
    go_wp2_with fail
    (with_reducible refine (C4.out _).mono ?_)
    rintro e w9 ⟨rfl, o⟩
    replace O := Lib.hid (O.out.trans o)
    replace HC := Lib.hid (MsgAt.keep HC.out o id)
    clear o
    go_wp2_with fail
    go_ret
    exact ⟨rfl, O.out⟩

set_option maxRecDepth 100000 in
set_option maxHeartbeats 4000000 in
theorem ms_b (m : Msg) (p c q : ByteArray) (w : World) (ha : asksM m = true) (hpu : pubB p.data.toList = true) (hct : isT c.data.toList = false) (hne : c.data.toList ≠ []) (hb : bigB m ([p, c, q].map (·.data.toList)) = false) (ht : ∀ i, (m.t i).size ≤ 3000) (hz : tsz m ≤ 3000) (hp : p.size ≤ 200) (hc : c.size ≤ 200) (hq : q.size ≤ 200) (hs : 0 ≤ m.s ∧ m.s ≤ 4294967295) (hr : 0 ≤ m.r ∧ m.r ≤ 4294967295) : Calls Try.prog 17 #[mval m, .string p, .string c, .string q] w (numA.Told w (.bool true)) := by
  have AW := Lib.hid (fun W => maG.awake_any W)
  have BG := Lib.hid (fun W => big3 m p c q false W hb (fun i => Nat.le_trans (ht i) (by decide)))
  obtain ⟨x1, x2, x3, x4⟩ := ne_facts hne
  have CA := Lib.hid (fun W => asks_any m true W ha (fun i => Nat.le_trans (ht i) (by decide)))
  obtain ⟨F, hF⟩ : ∃ F : ByteArray, F.data.toList = firstT m p.data.toList := ⟨⟨(firstT m p.data.toList).toArray⟩, rfl⟩
  have CR1 := Lib.hid (fun W => reffirst_any m p F W hF (fun i => Nat.le_trans (ht i) (by decide)) (by omega) hs hr)
  obtain ⟨f, hf⟩ : ∃ f, f = ((m.t 11).toList == F.toList) := ⟨_, rfl⟩
  have hff := first_law ha hpu hF hs hr (by omega) (by rw [tl_size]; omega)
  rw [← hf] at hff
  have y1 : ((m.t 11).toList == F.toList) = f := hf.symm
  have y2 : ((m.t 11).toList = F.toList) = (f = true) := by rw [hf, beq_iff_eq]
  have CF := Lib.hid (fun W => first_any m p f W hff (fun i => Nat.le_trans (ht i) (by decide)) (by omega) hs hr)
  have hgg : secondB m c.data.toList = false := second_no hct
  have CE := Lib.hid (fun W => second_any m c false W hgg (fun i => Nat.le_trans (ht i) (by decide)) hs hr)
  have CP := Lib.hid (fun W => refpub_any p true W hpu (by omega))
  have CI := Lib.hid (fun W => (show Calls Try.prog 39 #[.string c] W (numA.Told W (.bool false)) from by have h := trJ.is_any c W (by omega); rw [show trJ.isT (c : ByteArray).data.toList = false from hct] at h; exact h))
  have CS := Lib.hid (fun W => sign_3 m p c W ha hpu hne hct (by omega) (fun i => Nat.le_trans (ht i) (by decide)) (by omega) hs hr)
  have hzz := eql_zero
  simp only [Msg.row] at BG
  simp only [mval] at CA CR1 CF CE CS
  have HA := Lib.hid (show MsgAt (w.alloc (.cells m.row 61)) w.heap.size m from heap_alloc_new w _)
  have O := Lib.hid (show Only (fun _ => False) w (w.alloc (.cells m.row 61)) from (Only.refl _ w).alloc _)
  obtain ⟨X, hX⟩ : ∃ X, X = w.alloc (.cells m.row 61) := ⟨_, rfl⟩
  rw [← hX] at HA O
  obtain ⟨A, hA⟩ : ∃ A, A = w.heap.size := ⟨_, rfl⟩
  rw [← hA] at HA
  have HX := Lib.hid hX
  have HAE := Lib.hid hA
  simp only [Msg.row] at HX
  clear hX hA
  unfold mval
  clear hb ht hz hp hc hq hs hr ha hff hgg hpu hF hf hct hne
  go_enter Try.func17, Try.ntmps17
  go_wp2_with fail
  rw [← HX.out, ← HAE.out]
  (with_reducible refine (AW.out _).mono ?_)
  rintro e w2 ⟨rfl, o⟩
  replace O := Lib.hid (O.out.trans o)
  replace HA := Lib.hid (MsgAt.keep HA.out o id)
  clear o
  obtain ⟨d0, d1, d2, d3, d4, d5, d6, d7, d8, d9, d10, d11, d12⟩ := MsgAt.cells HA.out
  go_wp2_with fail
  (with_reducible refine (BG.out _).mono ?_)
  rintro e w3 ⟨rfl, o⟩
  replace O := Lib.hid (O.out.trans o)
  replace HA := Lib.hid (MsgAt.keep HA.out o id)
  clear o
  obtain ⟨d0, d1, d2, d3, d4, d5, d6, d7, d8, d9, d10, d11, d12⟩ := MsgAt.cells HA.out
  go_wp2_with fail
  (with_reducible refine (CS.out _).mono ?_)
  rintro e w4 ⟨rfl, o⟩
  replace O := Lib.hid (O.out.trans o)
  replace HA := Lib.hid (MsgAt.keep HA.out o id)
  clear o
  have HN := Lib.hid (show (w4.alloc (.cells #[.int .i64 0, .int .u32 0, .int .u32 0, .int .u64 0, .string ⟨#[]⟩, .string ⟨#[]⟩, .string ⟨#[]⟩, .string ⟨#[]⟩, .string ⟨#[]⟩, .string ⟨#[]⟩, .string ⟨#[]⟩, .string ⟨#[]⟩, .string ⟨#[]⟩] 61)).heap[w4.heap.size]? = some (.cells #[.int .i64 0, .int .u32 0, .int .u32 0, .int .u64 0, .string ⟨#[]⟩, .string ⟨#[]⟩, .string ⟨#[]⟩, .string ⟨#[]⟩, .string ⟨#[]⟩, .string ⟨#[]⟩, .string ⟨#[]⟩, .string ⟨#[]⟩, .string ⟨#[]⟩] 61 (0, 0)) from heap_alloc_new w4 _)
  go_upto_region 6 with (refine wpList_store_row rfl 61 (.tmp 9) (.tmp 25) rfl w4.heap.size (zeroM 0).row rfl rfl 61 _ HN.out (info61 (zeroM 0)) (size61 (zeroM 0) (zeroM 0)) (one61 (zeroM 0)) ?_)
  obtain ⟨Z, hZ⟩ : ∃ Z, Z = (w4.alloc (.cells #[.int .i64 0, .int .u32 0, .int .u32 0, .int .u64 0, .string ⟨#[]⟩, .string ⟨#[]⟩, .string ⟨#[]⟩, .string ⟨#[]⟩, .string ⟨#[]⟩, .string ⟨#[]⟩, .string ⟨#[]⟩, .string ⟨#[]⟩, .string ⟨#[]⟩] 61)).setRow w4.heap.size (zeroM 0).row := ⟨_, rfl⟩
  obtain ⟨G, hG⟩ : ∃ G, G = w4.heap.size := ⟨_, rfl⟩
  rw [← hZ, ← hG]
  have HC := Lib.hid (show Z.heap[G]? = some (.cells (zeroM 0).row 61 (0, 0)) from by rw [hZ, hG]; exact setRow_heap _ _ _ _ _ _ HN.out)
  have oS : Only (fun _ => False) w4 Z := by rw [hZ, World.setRow_alloc_new]; exact (Only.refl _ _).alloc _
  replace O := Lib.hid (O.out.trans oS)
  clear hZ hG HN
  replace HA := Lib.hid (MsgAt.keep HA.out oS id)
  clear oS
  replace HC := Lib.hid (show MsgAt Z G (zeroM 0) from HC.out)
  obtain ⟨d0, d1, d2, d3, d4, d5, d6, d7, d8, d9, d10, d11, d12⟩ := MsgAt.cells HA.out
  go_wp2_with fail
  (with_reducible refine (CA.out _).mono ?_)
  rintro e w5 ⟨rfl, o⟩
  replace O := Lib.hid (O.out.trans o)
  replace HA := Lib.hid (MsgAt.keep HA.out o id)
  replace HC := Lib.hid (MsgAt.keep HC.out o id)
  clear o
  go_upto_region 7 with fail
  have R := Lib.hid ((Only.refl (fun _ => False) w5).drew)
  refine wp_region_held_drew (S := (fun w' => w'.cell? ⟨A, 0, none⟩ = some (.int .i64 m.k) ∧ w'.cell? ⟨A, 1, none⟩ = some (.int .u32 m.s) ∧ w'.cell? ⟨A, 2, none⟩ = some (.int .u32 m.r) ∧ w'.cell? ⟨A, 3, none⟩ = some (.int .u64 m.c) ∧ w'.cell? ⟨A, 4, none⟩ = some (.string (m.t 4)) ∧ w'.cell? ⟨A, 5, none⟩ = some (.string (m.t 5)) ∧ w'.cell? ⟨A, 6, none⟩ = some (.string (m.t 6)) ∧ w'.cell? ⟨A, 7, none⟩ = some (.string (m.t 7)) ∧ w'.cell? ⟨A, 8, none⟩ = some (.string (m.t 8)) ∧ w'.cell? ⟨A, 9, none⟩ = some (.string (m.t 9)) ∧ w'.cell? ⟨A, 10, none⟩ = some (.string (m.t 10)) ∧ w'.cell? ⟨A, 11, none⟩ = some (.string (m.t 11)) ∧ w'.cell? ⟨A, 12, none⟩ = some (.string (m.t 12)))) (by kernel_rfl) ?_ (fun hHeld => ?_)
  · exact MsgAt.cells (MsgAt.keep HA.out R.out id)
  refine rgA.tk 0 hHeld ?_
  refine rgA.tk 1 hHeld ?_
  refine rgA.tk 3 hHeld ?_
  refine rgA.rd 2 (fun K hK => ?_)
  go_simp
  (with_reducible refine (CF.out _).mono ?_)
  rintro e w2 ⟨rfl, o⟩
  replace R := Lib.hid (R.out.trans o)
  clear o
  go_wp2_with fail
  refine hK.out _ _ ?_ (fun hHeld => ?_)
  · exact MsgAt.cells (MsgAt.keep HA.out R.out id)
  clear hK K
  try simp only [List.getElem_toArray, List.getElem_cons_succ, List.getElem_cons_zero, Act.put, List.setIfInBounds_toArray, List.set_cons_zero, List.set_cons_succ]
  refine rgA.tk 4 hHeld ?_
  refine rgA.tk 5 hHeld ?_
  refine rgA.rd 6 (fun K hK => ?_)
  go_simp
  (with_reducible refine (CP.out _).mono ?_)
  rintro e w2 ⟨rfl, o⟩
  replace R := Lib.hid (R.out.trans o)
  clear o
  go_wp2_with fail
  refine hK.out _ _ ?_ (fun hHeld => ?_)
  · exact MsgAt.cells (MsgAt.keep HA.out R.out id)
  clear hK K
  try simp only [List.getElem_toArray, List.getElem_cons_succ, List.getElem_cons_zero, Act.put, List.setIfInBounds_toArray, List.set_cons_zero, List.set_cons_succ]
  refine rgA.tk 7 hHeld ?_
  refine rgA.tk 8 hHeld ?_
  refine rgA.tk 9 hHeld ?_
  refine rgA.tk 10 hHeld ?_
  refine rgA.tk 11 hHeld ?_
  refine rgA.tk 12 hHeld ?_
  refine rgA.rd 13 (fun K hK => ?_)
  go_simp
  (with_reducible refine (CR1.out _).mono ?_)
  rintro e w2 ⟨rfl, o⟩
  replace R := Lib.hid (R.out.trans o)
  clear o
  go_wp2_with fail
  refine hK.out _ _ ?_ (fun hHeld => ?_)
  · exact MsgAt.cells (MsgAt.keep HA.out R.out id)
  clear hK K
  try simp only [List.getElem_toArray, List.getElem_cons_succ, List.getElem_cons_zero, Act.put, List.setIfInBounds_toArray, List.set_cons_zero, List.set_cons_succ]
  refine rgA.tk 14 hHeld ?_
  refine rgA.tk 15 hHeld ?_
  refine rgA.tk 16 hHeld ?_
  refine rgA.tk 17 hHeld ?_
  refine rgA.tk 18 hHeld ?_
  refine rgA.tk 19 hHeld ?_
  refine rgA.tk 21 hHeld ?_
  refine rgA.rd 20 (fun K hK => ?_)
  go_simp
  (with_reducible refine (CE.out _).mono ?_)
  rintro e w2 ⟨rfl, o⟩
  replace R := Lib.hid (R.out.trans o)
  clear o
  go_wp2_with fail
  refine hK.out _ _ ?_ (fun hHeld => ?_)
  · exact MsgAt.cells (MsgAt.keep HA.out R.out id)
  clear hK K
  try simp only [List.getElem_toArray, List.getElem_cons_succ, List.getElem_cons_zero, Act.put, List.setIfInBounds_toArray, List.set_cons_zero, List.set_cons_succ]
  refine rgA.tk 22 hHeld ?_
  refine rgA.tk 23 hHeld ?_
  refine rgA.rd 24 (fun K hK => ?_)
  go_simp
  (with_reducible refine (CI.out _).mono ?_)
  rintro e w2 ⟨rfl, o⟩
  replace R := Lib.hid (R.out.trans o)
  clear o
  go_wp2_with fail
  refine hK.out _ _ ?_ (fun hHeld => ?_)
  · exact MsgAt.cells (MsgAt.keep HA.out R.out id)
  clear hK K
  try simp only [List.getElem_toArray, List.getElem_cons_succ, List.getElem_cons_zero, Act.put, List.setIfInBounds_toArray, List.set_cons_zero, List.set_cons_succ]
  refine rgA.tk 25 hHeld ?_
  refine rgA.tk 26 hHeld ?_
  refine rgA.tk 27 hHeld ?_
  refine rgA.tk 28 hHeld ?_
  refine rgA.tk 29 hHeld ?_
  refine rgA.tk 30 hHeld ?_
  refine rgA.tk 31 hHeld ?_
  refine rgA.tk 32 hHeld ?_
  refine rgA.tk 33 hHeld ?_
  refine rgA.tk 34 hHeld ?_
  refine rgA.tk 35 hHeld ?_
  refine wpAnyH_done (by kernel_rfl) ?_ _
  obtain ⟨V, hV⟩ : ∃ V, V = w2 := ⟨_, rfl⟩
  rw [← hV] at R ⊢
  clear hV hHeld
  replace O := Lib.hid (O.out.trans R.out)
  replace HA := Lib.hid (MsgAt.keep HA.out R.out id)
  replace HC := Lib.hid (MsgAt.keep HC.out R.out id)
  clear R
  go_wp2_with fail
  (with_reducible refine (CP.out _).mono ?_)
  rintro e w6 ⟨rfl, o⟩
  replace O := Lib.hid (O.out.trans o)
  replace HC := Lib.hid (MsgAt.keep HC.out o id)
  clear o
  go_wp2_with fail
  (with_reducible refine (CI.out _).mono ?_)
  rintro e w7 ⟨rfl, o⟩
  replace O := Lib.hid (O.out.trans o)
  replace HC := Lib.hid (MsgAt.keep HC.out o id)
  clear o
  obtain ⟨g0, g1, g2, g3, g4, g5, g6, g7, g8, g9, g10, g11, g12⟩ := MsgAt.cells HC.out
  simp only [zeroM] at g0 g1 g2 g3 g4 g5 g6 g7 g8 g9 g10 g11 g12
  go_wp2_with fail
  go_ret
  exact ⟨rfl, O.out⟩

theorem sign_law_any (m : Msg) (p c q : ByteArray) (w : World) (ho : ∀ i, i < 4 ∨ 12 < i → (m.t i).size = 0) (ht : ∀ i, (m.t i).size ≤ 140737488355328) (hs : 0 ≤ m.s ∧ m.s ≤ 4294967295) (hr : 0 ≤ m.r ∧ m.r ≤ 4294967295) : Calls Try.prog 17 #[mval m, .string p, .string c, .string q] w (numA.Told w (.bool true)) := by
  cases hb : bigB m ([p, c, q].map (·.data.toList))
  case true => exact ms_big m p c q w hb ht
  obtain ⟨h1, h2⟩ := size_le_of_any hb
  have hp : p.size ≤ 200 := by have := h1 p.data.toList (by simp); rwa [tl_size] at this
  have hc : c.size ≤ 200 := by have := h1 c.data.toList (by simp); rwa [tl_size] at this
  have hq : q.size ≤ 200 := by have := h1 q.data.toList (by simp); rwa [tl_size] at this
  have hz : tsz m ≤ 3000 := by rw [tsz_bytes] at h2; omega
  have ht3 : ∀ i, (m.t i).size ≤ 3000 := by
    intro i
    by_cases h : i < 4 ∨ 12 < i
    · rw [ho i h]; exact Nat.zero_le _
    · have e : i = 4 ∨ i = 5 ∨ i = 6 ∨ i = 7 ∨ i = 8 ∨ i = 9 ∨ i = 10 ∨ i = 11 ∨ i = 12 := by omega
      unfold tsz at hz
      rcases e with rfl | rfl | rfl | rfl | rfl | rfl | rfl | rfl | rfl <;> omega
  cases ha : asksM m
  · exact ms_noask m p c q w ha hb ht3 hz hp hc hq hs hr
  cases hpu : pubB p.data.toList <;> cases hct : isT c.data.toList
  · exact ms_nopub_n m p c q w ha hpu hct hb ht3 hz hp hc hq hs hr
  · exact ms_nopub_t m p c q w ha hpu hct hb ht3 hz hp hc hq hs hr
  · by_cases hck : c.data.toList = []
    · exact ms_e m p c q w ha hpu hck hb ht3 hz hp hc hq hs hr
    · exact ms_b m p c q w ha hpu hct hck hb ht3 hz hp hc hq hs hr
  · exact ms_t m p c q w ha hpu hct hb ht3 hz hp hc hq hs hr

theorem sign_walk (m : Msg) (hm : argM.MsgOk m) (p : ByteArray) (_ : p.size ≤ 9223372036854775807) (c : ByteArray) (_ : c.size ≤ 9223372036854775807) (q : ByteArray) (_ : q.size ≤ 9223372036854775807) {w : World} : Calls Try.prog 17 #[.agg m.row, .string p, .string c, .string q] w fun e w' => e = .returned (.bool true) ∧ Below w.heap.size w w' := by
  obtain ⟨h0, hs, hr, hc, ho, ht⟩ := hm
  refine (sign_law_any m p c q w ho (fun i => Nat.le_trans (ht i) (by decide)) hs hr).mono ?_
  rintro e w' ⟨rfl, o⟩
  exact ⟨rfl, o.below (fun _ h => h.elim) (Nat.le_refl _)⟩

end Go.Proofs.Ytbjnejnjlidiaaa.maK
