/- Addresses: the law on Has. -/
import Derived.Test.YtokbaknckagfmaaAdM
import Derived.Test.YtokbaknckagfmaaAdH
namespace Go.Proofs.Ytokbaknckagfmaa.adN
open Go.RowKit kit numA numB numC numD shJ adA adB adC adD adE adF adG adI adJ adK adL
set_option linter.unusedVariables false
set_option linter.unusedSimpArgs false

set_option maxRecDepth 100000 in
theorem samep_any (S T : Nat → Prop) (a a2 : Option Addr) (n c n2 c2 : Nat) (b : Int) (l : Txt) (w : World) (hs : Sl w S (.slice a n c) (U8 l)) (ht : Sl w T (.slice a2 n2 c2) (U8 l)) : Calls Try.prog 11 #[.agg #[.slice a n c, .int .i64 b], .agg #[.slice a2 n2 c2, .int .i64 b]] w (numA.Told w (.bool true)) := by
  obtain ⟨X, hX⟩ : ∃ X, X = (w.alloc (.cells #[.slice a n c, .int .i64 b] 24)).alloc (.cells #[.slice a2 n2 c2, .int .i64 b] 24) := ⟨_, rfl⟩
  obtain ⟨P, hP⟩ : ∃ A, A = w.heap.size := ⟨_, rfl⟩
  have O := Lib.hid (show Only (fun _ => False) w X from by rw [hX]; exact ((Only.refl _ w).alloc _).alloc _)
  have HP := Lib.hid (show PfxAt X P (.slice a n c) b from by rw [hX, hP]; exact Only.keep ((Only.refl (fun _ => False) _).alloc _) (heap_alloc_new w _) id)
  have HQ := Lib.hid (show PfxAt X (P + 1) (.slice a2 n2 c2) b from by
    have h := heap_alloc_new (w.alloc (.cells #[.slice a n c, .int .i64 b] 24)) (.cells #[.slice a2 n2 c2, .int .i64 b] 24)
    rw [World.size_alloc, ← hP] at h
    rw [hX]
    exact h)
  have HX := Lib.hid hX
  have HPE := Lib.hid hP
  have CE := Lib.hid (same_any _ _ _ _ l l X (hs.keep (T := fun _ => False) O.out (fun _ _ h => h)) (ht.keep (T := fun _ => False) O.out (fun _ _ h => h)))
  rw [beq_self_eq_true] at CE
  have kb : (b == b) = true := beq_self_eq_true b
  clear hX hP hs ht
  go_enter Try.func11, Try.ntmps11
  go_wp2_with fail
  rw [← HX.out, ← HPE.out]
  obtain ⟨p0, p1⟩ := PfxAt.cells HP.out
  obtain ⟨p0q, p1q⟩ := PfxAt.cells HQ.out
  go_wp2_with fail
  (with_reducible refine CE.out.mono ?_)
  rintro e w2 ⟨rfl, rfl⟩
  go_wp2_with fail
  go_ret
  exact ⟨rfl, O.out⟩

/-- The plain one has the same addresses. -/
theorem bitA_msk : ∀ (l : Txt) (q i : Nat), i < q → i < 8 * l.length → bitA (msk l q) i = bitA l i
  | [], q, i, _, h => by simp at h
  | x :: l, q, i, hq, h => by
    by_cases h8 : i < 8
    · rw [msk, bitA_low _ _ _ h8, bitA_low _ _ _ h8]
      have hx := UInt8.toNat_lt x
      have ht := top_le x.toNat (min q 8)
      have e : (UInt8.ofNat (top x.toNat (min q 8))).toNat = top x.toNat (min q 8) := by simp; omega
      rw [e]
      have h2 := div_bits (top x.toNat (min q 8)) x.toNat (by omega) hx (min q 8) (by omega)
      refine h2.1 ?_ i (by omega)
      unfold top
      rw [Nat.mul_div_cancel _ (Nat.pow_pos (by decide))]
    · rw [msk, show i = (i - 8) + 8 from by omega, bitA_high, bitA_high]
      exact bitA_msk l (q - 8) (i - 8) (by omega) (by simp at h; omega)
theorem has_msk (l t : Txt) (q : Nat) (hr : rP l.length (q : Nat) = true) : hasP (msk l q) (q : Nat) t = hasP l (q : Nat) t := by
  obtain ⟨-, p, hp, hq⟩ := rP_spec hr
  obtain rfl : q = p := by omega
  have hr2 : rP (msk l q).length (q : Nat) = true := by rw [msk_len]; exact hr
  cases h : hasP l (q : Nat) t
  · rw [Bool.eq_false_iff] at h ⊢
    intro h2
    apply h
    obtain ⟨-, e2, e3⟩ := alk_has h2
    rw [msk_len] at e2
    exact hasP_yes e2 hr fun i hi => (e3 i (by rw [Int.toNat_natCast]; exact hi)).trans (bitA_msk l q i hi (by omega))
  · obtain ⟨-, e2, e3⟩ := alk_has h
    exact hasP_yes (by rw [msk_len]; exact e2) hr2 fun i hi => (e3 i (by rw [Int.toNat_natCast]; exact hi)).trans (bitA_msk l q i hi (by omega)).symm
set_option maxRecDepth 100000 in
set_option maxHeartbeats 1600000 in
theorem has_big (S U : Nat → Prop) (a a3 : Option Addr) (n c n3 c3 : Nat) (b : Int) (l t : Txt) (w : World) (hs : Sl w S (.slice a n c) (U8 l)) (hu : Sl w U (.slice a3 n3 c3) (U8 t)) (hl : n = l.length) (h3 : n3 = t.length) (hb : 40 < n ∨ 40 < n3) : Calls Try.prog 3 #[.agg #[.slice a n c, .int .i64 b], .slice a3 n3 c3] w (numA.Told w (.bool true)) := by
  have AW := Lib.hid (fun W => awake_any W)
  obtain ⟨X, hX⟩ : ∃ X, X = w.alloc (.cells #[.slice a n c, .int .i64 b] 24) := ⟨_, rfl⟩
  obtain ⟨P, hP⟩ : ∃ A, A = w.heap.size := ⟨_, rfl⟩
  have HP := Lib.hid (show PfxAt X P (.slice a n c) b from by rw [hX, hP]; exact heap_alloc_new w _)
  have O := Lib.hid (show Only (fun _ => False) w X from by rw [hX]; exact (Only.refl _ w).alloc _)
  have HX := Lib.hid hX
  have HPE := Lib.hid hP
  clear hs hu hl h3
  clear hX hP
  go_enter Try.func3, Try.ntmps3
  go_wp2_with fail
  rw [← HX.out, ← HPE.out]
  (with_reducible refine (AW.out _).mono ?_)
  rintro e w2 ⟨rfl, o⟩
  replace O := Lib.hid (O.out.trans o)
  replace HP := Lib.hid (PfxAt.keep HP.out o id)
  clear o
  obtain ⟨p0, p1⟩ := PfxAt.cells HP.out
  by_cases h1 : 40 < n
  · have k1 : ((40 : Int) < (n : Int)) = True := eq_true (by omega)
    go_wp2_with fail
    go_ret
    exact ⟨rfl, O.out⟩
  have k1 : ((40 : Int) < (n : Int)) = False := eq_false (by omega)
  have k3 : ((40 : Int) < (n3 : Int)) = True := eq_true (by rcases hb with h | h <;> omega)
  go_wp2_with fail
  go_ret
  exact ⟨rfl, O.out⟩

set_option maxRecDepth 100000 in
set_option maxHeartbeats 3200000 in
theorem has_no (S U : Nat → Prop) (a a3 : Option Addr) (n c n3 c3 : Nat) (b : Int) (l t : Txt) (w : World) (hs : Sl w S (.slice a n c) (U8 l)) (hu : Sl w U (.slice a3 n3 c3) (U8 t)) (hl : n = l.length) (h3 : n3 = t.length) (hb1 : n ≤ 40) (hb2 : n3 ≤ 40) (hr : rP n b = false) : Calls Try.prog 3 #[.agg #[.slice a n c, .int .i64 b], .slice a3 n3 c3] w (numA.Told w (.bool true)) := by
  have AW := Lib.hid (fun W => awake_any W)
  obtain ⟨X, hX⟩ : ∃ X, X = w.alloc (.cells #[.slice a n c, .int .i64 b] 24) := ⟨_, rfl⟩
  obtain ⟨P, hP⟩ : ∃ A, A = w.heap.size := ⟨_, rfl⟩
  have HP := Lib.hid (show PfxAt X P (.slice a n c) b from by rw [hX, hP]; exact heap_alloc_new w _)
  have O := Lib.hid (show Only (fun _ => False) w X from by rw [hX]; exact (Only.refl _ w).alloc _)
  have HX := Lib.hid hX
  have HPE := Lib.hid hP
  have k1 : ((40 : Int) < (n : Int)) = False := eq_false (by omega)
  have k3 : ((40 : Int) < (n3 : Int)) = False := eq_false (by omega)
  have SA := Lib.hid (Sl.keep (hs.mono (T := fun _ => True) (fun _ _ => trivial)) O.out (fun _ _ h => h))
  have SC := Lib.hid (Sl.keep (hu.mono (T := fun _ => True) (fun _ _ => trivial)) O.out (fun _ _ h => h))
  obtain ⟨hp, hhp⟩ : ∃ r, r = hasP l b t := ⟨_, rfl⟩
  have C1 := Lib.hid (fun W => (show Calls Try.prog 7 #[.agg #[.slice a n c, .int .i64 b]] W (numA.Told W (.bool false)) from by rw [← hr]; exact right_any a n c b W))
  have C2 := Lib.hid (fun W => (show Calls Try.prog 8 #[.agg #[.slice a n c, .int .i64 b]] W (numA.Told W (.bool false)) from by rw [← hr]; exact refright_any a n c b W))
  have C3 := Lib.hid (fun W (s1 : Sl W (fun _ => True) (.slice a n c) (U8 l)) (s2 : Sl W (fun _ => True) (.slice a3 n3 c3) (U8 t)) => (show Calls Try.prog 9 #[.agg #[.slice a n c, .int .i64 b], .slice a3 n3 c3] W (numA.Told W (.bool hp)) from by rw [hhp]; exact has_any _ _ a a3 n c n3 c3 b l t W s1 s2 hl h3))
  have C4 := Lib.hid (fun W (s1 : Sl W (fun _ => True) (.slice a n c) (U8 l)) (s2 : Sl W (fun _ => True) (.slice a3 n3 c3) (U8 t)) => (show Calls Try.prog 10 #[.agg #[.slice a n c, .int .i64 b], .slice a3 n3 c3] W (numA.Told W (.bool hp)) from by rw [hhp]; exact refhas_any _ _ a a3 n c n3 c3 b l t W s1 s2 hl h3))
  have C0 := Lib.hid (fun W => plain_no a n c b W hr)
  clear hs hu hl h3 hhp hr hb1 hb2
  clear hX hP
  go_enter Try.func3, Try.ntmps3
  go_wp2_with fail
  rw [← HX.out, ← HPE.out]
  (with_reducible refine (AW.out _).mono ?_)
  rintro e w2 ⟨rfl, o⟩
  replace O := Lib.hid (O.out.trans o)
  replace HP := Lib.hid (PfxAt.keep HP.out o id)
  replace SA := Lib.hid (Sl.keep SA.out o (fun _ _ h => h))
  replace SC := Lib.hid (Sl.keep SC.out o (fun _ _ h => h))
  clear o
  obtain ⟨p0, p1⟩ := PfxAt.cells HP.out
  go_wp2_with fail
  clear p0 p1
  (with_reducible refine (C0.out _).mono ?_)
  rintro e w3 ⟨rfl, o⟩
  replace O := Lib.hid (O.out.trans o)
  replace HP := Lib.hid (PfxAt.keep HP.out o id)
  replace SA := Lib.hid (Sl.keep SA.out o (fun _ _ h => h))
  replace SC := Lib.hid (Sl.keep SC.out o (fun _ _ h => h))
  clear o
  go_upto_region 6 with fail
  obtain ⟨Z, hZ⟩ : ∃ Z, Z = w3.alloc (.cells #[.slice none 0 0, .int .i64 0] 24) := ⟨_, rfl⟩
  obtain ⟨G, hG⟩ : ∃ G, G = w3.heap.size := ⟨_, rfl⟩
  have oS : Only (fun _ => False) w3 Z := by rw [hZ]; exact (Only.refl _ _).alloc _
  have HG := Lib.hid (show PfxAt Z G (.slice none 0 0) 0 from by rw [hZ, hG]; exact heap_alloc_new w3 _)
  rw [← hZ, ← hG]
  replace O := Lib.hid (O.out.trans oS)
  replace HP := Lib.hid (PfxAt.keep HP.out oS id)
  replace SA := Lib.hid (Sl.keep SA.out oS (fun _ _ h => h))
  replace SC := Lib.hid (Sl.keep SC.out oS (fun _ _ h => h))
  clear oS hZ hG
  have R := Lib.hid ((Only.refl (fun _ => False) Z).drew)
  refine wp_region_held_drew (S := (fun w' => w'.cell? ⟨P, 0, none⟩ = some (.slice a n c) ∧ w'.cell? ⟨P, 1, none⟩ = some (.int .i64 b))) (by kernel_rfl) ?_ (fun hHeld => ?_)
  · exact PfxAt.cells (PfxAt.keep HP.out R.out id)
  refine rgA.tk 0 hHeld ?_
  refine rgA.tk 2 hHeld ?_
  refine rgA.rd 1 (fun K hK => ?_)
  go_simp
  (with_reducible refine (C1.out _).mono ?_)
  rintro e w8 ⟨rfl, o⟩
  replace R := Lib.hid (R.out.trans o)
  clear o
  go_wp2_with fail
  refine hK.out _ _ ?_ (fun hHeld => ?_)
  · exact PfxAt.cells (PfxAt.keep HP.out R.out id)
  clear hK K
  try simp only [List.getElem_toArray, List.getElem_cons_succ, List.getElem_cons_zero, Act.put, List.setIfInBounds_toArray, List.set_cons_zero, List.set_cons_succ]
  refine rgA.rd 3 (fun K hK => ?_)
  go_simp
  (with_reducible refine (C2.out _).mono ?_)
  rintro e w8 ⟨rfl, o⟩
  replace R := Lib.hid (R.out.trans o)
  clear o
  go_wp2_with fail
  refine hK.out _ _ ?_ (fun hHeld => ?_)
  · exact PfxAt.cells (PfxAt.keep HP.out R.out id)
  clear hK K
  try simp only [List.getElem_toArray, List.getElem_cons_succ, List.getElem_cons_zero, Act.put, List.setIfInBounds_toArray, List.set_cons_zero, List.set_cons_succ]
  refine rgA.tk 4 hHeld ?_
  refine rgA.tk 5 hHeld ?_
  refine rgA.tk 6 hHeld ?_
  refine rgA.tk 7 hHeld ?_
  refine rgA.tk 9 hHeld ?_
  refine rgA.tk 10 hHeld ?_
  refine rgA.rd 8 (fun K hK => ?_)
  go_simp
  (with_reducible refine (C3.out _ (Sl.keep SA.out R.out (fun _ _ h => h)) (Sl.keep SC.out R.out (fun _ _ h => h))).mono ?_)
  rintro e w8 ⟨rfl, o⟩
  replace R := Lib.hid (R.out.trans o)
  clear o
  go_wp2_with fail
  refine hK.out _ _ ?_ (fun hHeld => ?_)
  · exact PfxAt.cells (PfxAt.keep HP.out R.out id)
  clear hK K
  try simp only [List.getElem_toArray, List.getElem_cons_succ, List.getElem_cons_zero, Act.put, List.setIfInBounds_toArray, List.set_cons_zero, List.set_cons_succ]
  refine rgA.rd 11 (fun K hK => ?_)
  go_simp
  (with_reducible refine (C4.out _ (Sl.keep SA.out R.out (fun _ _ h => h)) (Sl.keep SC.out R.out (fun _ _ h => h))).mono ?_)
  rintro e w8 ⟨rfl, o⟩
  replace R := Lib.hid (R.out.trans o)
  clear o
  go_wp2_with fail
  refine hK.out _ _ ?_ (fun hHeld => ?_)
  · exact PfxAt.cells (PfxAt.keep HP.out R.out id)
  clear hK K
  try simp only [List.getElem_toArray, List.getElem_cons_succ, List.getElem_cons_zero, Act.put, List.setIfInBounds_toArray, List.set_cons_zero, List.set_cons_succ]
  refine rgA.tk 12 hHeld ?_
  refine rgA.tk 13 hHeld ?_
  refine wpAnyH_done (by kernel_rfl) ?_ _
  clear hHeld
  replace O := Lib.hid (O.out.trans R.out)
  replace HP := Lib.hid (PfxAt.keep HP.out R.out id)
  replace HG := Lib.hid (PfxAt.keep HG.out R.out id)
  clear R
  obtain ⟨p0, p1⟩ := PfxAt.cells HP.out
  obtain ⟨p0q, p1q⟩ := PfxAt.cells HG.out
  go_wp2_with fail
  clear p0 p1 p0q p1q
  (with_reducible refine (C2.out _).mono ?_)
  rintro e w9 ⟨rfl, o⟩
  replace O := Lib.hid (O.out.trans o)
  replace HG := Lib.hid (PfxAt.keep HG.out o id)
  clear o
  obtain ⟨p0q, p1q⟩ := PfxAt.cells HG.out
  go_wp2_with fail
  go_ret
  exact ⟨rfl, O.out⟩

set_option maxRecDepth 100000 in
set_option maxHeartbeats 3200000 in
theorem has_ok (S U : Nat → Prop) (a a3 : Option Addr) (n c n3 c3 : Nat) (q : Nat) (l t : Txt) (w : World) (hs : Sl w S (.slice a n c) (U8 l)) (hu : Sl w U (.slice a3 n3 c3) (U8 t)) (hl : n = l.length) (h3 : n3 = t.length) (hb1 : n ≤ 40) (hb2 : n3 ≤ 40) (hr : rP n (q : Nat) = true) : Calls Try.prog 3 #[.agg #[.slice a n c, .int .i64 (q : Nat)], .slice a3 n3 c3] w (numA.Told w (.bool true)) := by
  have AW := Lib.hid (fun W => awake_any W)
  obtain ⟨X, hX⟩ : ∃ X, X = w.alloc (.cells #[.slice a n c, .int .i64 (q : Nat)] 24) := ⟨_, rfl⟩
  obtain ⟨P, hP⟩ : ∃ A, A = w.heap.size := ⟨_, rfl⟩
  have HP := Lib.hid (show PfxAt X P (.slice a n c) (q : Nat) from by rw [hX, hP]; exact heap_alloc_new w _)
  have O := Lib.hid (show Only (fun _ => False) w X from by rw [hX]; exact (Only.refl _ w).alloc _)
  have HX := Lib.hid hX
  have HPE := Lib.hid hP
  have k1 : ((40 : Int) < (n : Int)) = False := eq_false (by omega)
  have k3 : ((40 : Int) < (n3 : Int)) = False := eq_false (by omega)
  have SA := Lib.hid (Sl.keep (hs.mono (T := fun _ => True) (fun _ _ => trivial)) O.out (fun _ _ h => h))
  have SC := Lib.hid (Sl.keep (hu.mono (T := fun _ => True) (fun _ _ => trivial)) O.out (fun _ _ h => h))
  obtain ⟨hp, hhp⟩ : ∃ r, r = hasP l (q : Nat) t := ⟨_, rfl⟩
  have C1 := Lib.hid (fun W => (show Calls Try.prog 7 #[.agg #[.slice a n c, .int .i64 (q : Nat)]] W (numA.Told W (.bool true)) from by rw [← hr]; exact right_any a n c (q : Nat) W))
  have C2 := Lib.hid (fun W => (show Calls Try.prog 8 #[.agg #[.slice a n c, .int .i64 (q : Nat)]] W (numA.Told W (.bool true)) from by rw [← hr]; exact refright_any a n c (q : Nat) W))
  have C3 := Lib.hid (fun W (s1 : Sl W (fun _ => True) (.slice a n c) (U8 l)) (s2 : Sl W (fun _ => True) (.slice a3 n3 c3) (U8 t)) => (show Calls Try.prog 9 #[.agg #[.slice a n c, .int .i64 (q : Nat)], .slice a3 n3 c3] W (numA.Told W (.bool hp)) from by rw [hhp]; exact has_any _ _ a a3 n c n3 c3 (q : Nat) l t W s1 s2 hl h3))
  have C4 := Lib.hid (fun W (s1 : Sl W (fun _ => True) (.slice a n c) (U8 l)) (s2 : Sl W (fun _ => True) (.slice a3 n3 c3) (U8 t)) => (show Calls Try.prog 10 #[.agg #[.slice a n c, .int .i64 (q : Nat)], .slice a3 n3 c3] W (numA.Told W (.bool hp)) from by rw [hhp]; exact refhas_any _ _ a a3 n c n3 c3 (q : Nat) l t W s1 s2 hl h3))
  have HB := Lib.hid (show n = l.length ∧ n ≤ 100000 from ⟨hl, by omega⟩)
  have C0 := Lib.hid (fun W (s1 : Sl W (fun _ => True) (.slice a n c) (U8 l)) => plain_ok _ a n c q l W s1 hl hr)
  have C5 := Lib.hid (fun W (s1 : Sl W (fun _ => True) (.slice a n c) (U8 l)) => adH.refplain_ok _ a n c q l W s1 hl hr)
  have C6 := Lib.hid (fun W v cp (h1 : Sl W (fun _ => True) (.slice v n cp) (U8 (msk l q))) (s2 : Sl W (fun _ => True) (.slice a3 n3 c3) (U8 t)) => (show Calls Try.prog 9 #[.agg #[.slice v n cp, .int .i64 (q : Nat)], .slice a3 n3 c3] W (numA.Told W (.bool hp)) from by
    have h := has_any _ _ v a3 n cp n3 c3 (q : Nat) (msk l q) t W h1 s2 (by rw [msk_len]; exact hl) h3
    rw [has_msk l t q (by rw [← hl]; exact hr), ← hhp] at h
    exact h))
  have EH := Lib.hid (beq_self_eq_true hp)
  clear hs hu hl h3 hhp hr hb1 hb2
  clear hX hP
  go_enter Try.func3, Try.ntmps3
  go_wp2_with fail
  rw [← HX.out, ← HPE.out]
  (with_reducible refine (AW.out _).mono ?_)
  rintro e w2 ⟨rfl, o⟩
  replace O := Lib.hid (O.out.trans o)
  replace HP := Lib.hid (PfxAt.keep HP.out o id)
  replace SA := Lib.hid (Sl.keep SA.out o (fun _ _ h => h))
  replace SC := Lib.hid (Sl.keep SC.out o (fun _ _ h => h))
  clear o
  obtain ⟨p0, p1⟩ := PfxAt.cells HP.out
  go_wp2_with fail
  clear p0 p1
  (with_reducible refine ((C0.out _ SA.out)).mono ?_)
  rintro e w3 ⟨g, cp, rfl, o, hrow, -⟩
  replace O := Lib.hid (O.out.trans o)
  replace HP := Lib.hid (PfxAt.keep HP.out o id)
  replace SA := Lib.hid (Sl.keep SA.out o (fun _ _ h => h))
  replace SC := Lib.hid (Sl.keep SC.out o (fun _ _ h => h))
  have SG := Lib.hid (Sl.mono (hrow.sl (cp := cp) HB.out.1 HB.out.2) (fun _ _ => trivial) (T := fun _ => True))
  clear hrow
  clear o
  go_upto_region 6 with fail
  obtain ⟨Z, hZ⟩ : ∃ Z, Z = w3.alloc (.cells #[.slice (some ⟨g, 0, none⟩) n cp, .int .i64 (q : Nat)] 24) := ⟨_, rfl⟩
  obtain ⟨G, hG⟩ : ∃ G, G = w3.heap.size := ⟨_, rfl⟩
  have oS : Only (fun _ => False) w3 Z := by rw [hZ]; exact (Only.refl _ _).alloc _
  have HG := Lib.hid (show PfxAt Z G (.slice (some ⟨g, 0, none⟩) n cp) (q : Nat) from by rw [hZ, hG]; exact heap_alloc_new w3 _)
  rw [← hZ, ← hG]
  replace O := Lib.hid (O.out.trans oS)
  replace HP := Lib.hid (PfxAt.keep HP.out oS id)
  replace SA := Lib.hid (Sl.keep SA.out oS (fun _ _ h => h))
  replace SC := Lib.hid (Sl.keep SC.out oS (fun _ _ h => h))
  replace SG := Lib.hid (Sl.keep SG.out oS (fun _ _ h => h))
  clear oS hZ hG
  have R := Lib.hid ((Only.refl (fun _ => False) Z).drew)
  refine wp_region_held_drew (S := (fun w' => w'.cell? ⟨P, 0, none⟩ = some (.slice a n c) ∧ w'.cell? ⟨P, 1, none⟩ = some (.int .i64 ((q : Nat) : Int)))) (by kernel_rfl) ?_ (fun hHeld => ?_)
  · exact PfxAt.cells (PfxAt.keep HP.out R.out id)
  refine rgA.tk 0 hHeld ?_
  refine rgA.tk 2 hHeld ?_
  refine rgA.rd 1 (fun K hK => ?_)
  go_simp
  (with_reducible refine (C1.out _).mono ?_)
  rintro e w8 ⟨rfl, o⟩
  replace R := Lib.hid (R.out.trans o)
  clear o
  go_wp2_with fail
  refine hK.out _ _ ?_ (fun hHeld => ?_)
  · exact PfxAt.cells (PfxAt.keep HP.out R.out id)
  clear hK K
  try simp only [List.getElem_toArray, List.getElem_cons_succ, List.getElem_cons_zero, Act.put, List.setIfInBounds_toArray, List.set_cons_zero, List.set_cons_succ]
  refine rgA.rd 3 (fun K hK => ?_)
  go_simp
  (with_reducible refine (C2.out _).mono ?_)
  rintro e w8 ⟨rfl, o⟩
  replace R := Lib.hid (R.out.trans o)
  clear o
  go_wp2_with fail
  refine hK.out _ _ ?_ (fun hHeld => ?_)
  · exact PfxAt.cells (PfxAt.keep HP.out R.out id)
  clear hK K
  try simp only [List.getElem_toArray, List.getElem_cons_succ, List.getElem_cons_zero, Act.put, List.setIfInBounds_toArray, List.set_cons_zero, List.set_cons_succ]
  refine rgA.tk 4 hHeld ?_
  refine rgA.tk 5 hHeld ?_
  refine rgA.tk 6 hHeld ?_
  refine rgA.tk 7 hHeld ?_
  refine rgA.tk 9 hHeld ?_
  refine rgA.tk 10 hHeld ?_
  refine rgA.rd 8 (fun K hK => ?_)
  go_simp
  (with_reducible refine (C3.out _ (Sl.keep SA.out R.out (fun _ _ h => h)) (Sl.keep SC.out R.out (fun _ _ h => h))).mono ?_)
  rintro e w8 ⟨rfl, o⟩
  replace R := Lib.hid (R.out.trans o)
  clear o
  go_wp2_with fail
  refine hK.out _ _ ?_ (fun hHeld => ?_)
  · exact PfxAt.cells (PfxAt.keep HP.out R.out id)
  clear hK K
  try simp only [List.getElem_toArray, List.getElem_cons_succ, List.getElem_cons_zero, Act.put, List.setIfInBounds_toArray, List.set_cons_zero, List.set_cons_succ]
  refine rgA.rd 11 (fun K hK => ?_)
  go_simp
  (with_reducible refine (C4.out _ (Sl.keep SA.out R.out (fun _ _ h => h)) (Sl.keep SC.out R.out (fun _ _ h => h))).mono ?_)
  rintro e w8 ⟨rfl, o⟩
  replace R := Lib.hid (R.out.trans o)
  clear o
  go_wp2_with fail
  refine hK.out _ _ ?_ (fun hHeld => ?_)
  · exact PfxAt.cells (PfxAt.keep HP.out R.out id)
  clear hK K
  try simp only [List.getElem_toArray, List.getElem_cons_succ, List.getElem_cons_zero, Act.put, List.setIfInBounds_toArray, List.set_cons_zero, List.set_cons_succ]
  refine rgA.tk 12 hHeld ?_
  refine rgA.tk 13 hHeld ?_
  refine wpAnyH_done (by kernel_rfl) ?_ _
  clear hHeld
  replace O := Lib.hid (O.out.trans R.out)
  replace HP := Lib.hid (PfxAt.keep HP.out R.out id)
  replace HG := Lib.hid (PfxAt.keep HG.out R.out id)
  replace SA := Lib.hid (Sl.keep SA.out R.out (fun _ _ h => h))
  replace SC := Lib.hid (Sl.keep SC.out R.out (fun _ _ h => h))
  replace SG := Lib.hid (Sl.keep SG.out R.out (fun _ _ h => h))
  clear R
  obtain ⟨p0, p1⟩ := PfxAt.cells HP.out
  obtain ⟨p0q, p1q⟩ := PfxAt.cells HG.out
  go_wp2_with fail
  clear p0 p1 p0q p1q
  (with_reducible refine (C2.out _).mono ?_)
  rintro e w9 ⟨rfl, o⟩
  replace O := Lib.hid (O.out.trans o)
  replace HP := Lib.hid (PfxAt.keep HP.out o id)
  replace SA := Lib.hid (Sl.keep SA.out o (fun _ _ h => h))
  replace SC := Lib.hid (Sl.keep SC.out o (fun _ _ h => h))
  replace HG := Lib.hid (PfxAt.keep HG.out o id)
  replace SG := Lib.hid (Sl.keep SG.out o (fun _ _ h => h))
  clear o
  go_upto_region 10 with fail
  have R := Lib.hid ((Only.refl (fun _ => False) w9).drew)
  refine wp_region_held_drew (S := (fun w' => (w'.cell? ⟨P, 0, none⟩ = some (.slice a n c) ∧ w'.cell? ⟨P, 1, none⟩ = some (.int .i64 ((q : Nat) : Int))) ∧ w'.cell? ⟨G, 0, none⟩ = some (.slice (some ⟨g, 0, none⟩) n cp) ∧ w'.cell? ⟨G, 1, none⟩ = some (.int .i64 ((q : Nat) : Int)))) (by kernel_rfl) ?_ (fun hHeld => ?_)
  · exact ⟨PfxAt.cells (PfxAt.keep HP.out R.out id), PfxAt.cells (PfxAt.keep HG.out R.out id)⟩
  refine rgA.tk 0 hHeld ?_
  refine rgA.tk 1 hHeld ?_
  refine rgA.tk 2 hHeld ?_
  refine rgA.tk 3 hHeld ?_
  refine rgA.tk 4 hHeld ?_
  refine rgA.rd 5 (fun K hK => ?_)
  go_simp
  (with_reducible refine (C5.out _ (Sl.keep SA.out R.out (fun _ _ h => h))).mono ?_)
  rintro e w8 ⟨g2, cp2, rfl, o, hrow2, -⟩
  replace R := Lib.hid (R.out.trans o)
  have SG2 := Lib.hid (Sl.mono (hrow2.sl (cp := cp2) HB.out.1 HB.out.2) (fun _ _ => trivial) (T := fun _ => True))
  clear o hrow2
  go_wp2_with fail
  refine hK.out _ _ ?_ (fun hHeld => ?_)
  · exact ⟨PfxAt.cells (PfxAt.keep HP.out R.out id), PfxAt.cells (PfxAt.keep HG.out R.out id)⟩
  clear hK K
  try simp only [List.getElem_toArray, List.getElem_cons_succ, List.getElem_cons_zero, Act.put, List.setIfInBounds_toArray, List.set_cons_zero, List.set_cons_succ]
  refine rgA.rd 6 (fun K hK => ?_)
  go_simp
  (with_reducible refine (samep_any _ _ _ _ _ _ _ _ _ (msk l q) _ (Sl.keep SG.out R.out (fun _ _ h => h)) SG2.out).mono ?_)
  rintro e w8 ⟨rfl, o⟩
  replace R := Lib.hid (R.out.trans o)
  clear o SG2
  go_wp2_with fail
  refine hK.out _ _ ?_ (fun hHeld => ?_)
  · exact ⟨PfxAt.cells (PfxAt.keep HP.out R.out id), PfxAt.cells (PfxAt.keep HG.out R.out id)⟩
  clear hK K
  try simp only [List.getElem_toArray, List.getElem_cons_succ, List.getElem_cons_zero, Act.put, List.setIfInBounds_toArray, List.set_cons_zero, List.set_cons_succ]
  refine rgA.tk 7 hHeld ?_
  refine rgA.tk 8 hHeld ?_
  refine rgA.tk 9 hHeld ?_
  refine rgA.tk 10 hHeld ?_
  refine rgA.tk 12 hHeld ?_
  refine rgA.tk 13 hHeld ?_
  refine rgA.rd 11 (fun K hK => ?_)
  go_simp
  (with_reducible refine (C6.out _ _ _ (Sl.keep SG.out R.out (fun _ _ h => h)) (Sl.keep SC.out R.out (fun _ _ h => h))).mono ?_)
  rintro e w8 ⟨rfl, o⟩
  replace R := Lib.hid (R.out.trans o)
  clear o
  go_wp2_with fail
  refine hK.out _ _ ?_ (fun hHeld => ?_)
  · exact ⟨PfxAt.cells (PfxAt.keep HP.out R.out id), PfxAt.cells (PfxAt.keep HG.out R.out id)⟩
  clear hK K
  try simp only [List.getElem_toArray, List.getElem_cons_succ, List.getElem_cons_zero, Act.put, List.setIfInBounds_toArray, List.set_cons_zero, List.set_cons_succ]
  refine rgA.rd 14 (fun K hK => ?_)
  go_simp
  (with_reducible refine (C3.out _ (Sl.keep SA.out R.out (fun _ _ h => h)) (Sl.keep SC.out R.out (fun _ _ h => h))).mono ?_)
  rintro e w8 ⟨rfl, o⟩
  replace R := Lib.hid (R.out.trans o)
  clear o
  go_wp2_with fail
  refine hK.out _ _ ?_ (fun hHeld => ?_)
  · exact ⟨PfxAt.cells (PfxAt.keep HP.out R.out id), PfxAt.cells (PfxAt.keep HG.out R.out id)⟩
  clear hK K
  try simp only [List.getElem_toArray, List.getElem_cons_succ, List.getElem_cons_zero, Act.put, List.setIfInBounds_toArray, List.set_cons_zero, List.set_cons_succ]
  refine rgA.tk 15 hHeld ?_
  refine rgA.tk 16 hHeld ?_
  refine rgA.tk 17 hHeld ?_
  refine wpAnyH_done (by kernel_rfl) ?_ _
  clear hHeld
  replace O := Lib.hid (O.out.trans R.out)
  go_wp2_with fail
  go_ret
  exact ⟨rfl, O.out⟩

theorem hasl_any (S U : Nat → Prop) (a a3 : Option Addr) (n c n3 c3 : Nat) (b : Int) (l t : Txt) (w : World) (hs : Sl w S (.slice a n c) (U8 l)) (hu : Sl w U (.slice a3 n3 c3) (U8 t)) (hl : n = l.length) (h3 : n3 = t.length) : Calls Try.prog 3 #[.agg #[.slice a n c, .int .i64 b], .slice a3 n3 c3] w (numA.Told w (.bool true)) := by
  by_cases hb : 40 < n ∨ 40 < n3
  · exact has_big S U a a3 n c n3 c3 b l t w hs hu hl h3 hb
  cases hr : rP n b
  · exact has_no S U a a3 n c n3 c3 b l t w hs hu hl h3 (by omega) (by omega) hr
  · obtain ⟨-, q, rfl, -⟩ := rP_spec hr
    exact has_ok S U a a3 n c n3 c3 q l t w hs hu hl h3 (by omega) (by omega) hr
theorem has_walk {w : World} (z : adM.PfxA) (hz : Sl w (fun k => k < w.heap.size) (.slice z.a z.l.length z.c) (U8 z.l)) (a : Option Addr) (len cap : Nat) (t : Txt) (h : len = t.length ∧ len ≤ cap ∧ cap ≤ maxLen ∧ Sl w (fun k => k < w.heap.size) (.slice a len cap) (U8 t)) : Calls Try.prog 3 #[.agg z.row, .slice a len cap] w fun e w' => e = .returned (.bool true) ∧ Below w.heap.size w w' := by
  refine (hasl_any _ _ z.a a z.l.length z.c len cap z.b z.l t w hz h.2.2.2 rfl h.1).mono ?_
  rintro e w' ⟨rfl, o⟩
  exact ⟨rfl, o.below (fun _ h => h.elim) (Nat.le_refl _)⟩

end Go.Proofs.Ytokbaknckagfmaa.adN
