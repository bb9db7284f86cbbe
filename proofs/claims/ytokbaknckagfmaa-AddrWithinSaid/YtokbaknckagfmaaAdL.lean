/- Addresses: the law on one prefix in the other one. -/
import Derived.Test.YtokbaknckagfmaaAdK
namespace Go.Proofs.Ytokbaknckagfmaa.adL
open Go.RowKit kit numA numB numC numD shJ adA adB adC adD adE adF adG adI adJ adK
set_option linter.unusedVariables false
set_option linter.unusedSimpArgs false

theorem alk_has {l m : Txt} {b : Int} (h : hasP l b m = true) : rP l.length b = true ∧ l.length = m.length ∧ ∀ i, i < b.toNat → bitA m i = bitA l i := by
  unfold hasP at h
  rw [Bool.and_eq_true, Bool.and_eq_true, beq_iff_eq] at h
  obtain ⟨h1, h2, h3⟩ := h
  obtain ⟨-, q, rfl, hq⟩ := rP_spec h1
  exact ⟨h1, h2, (alk_iff l m _ h2 (by rw [Int.toNat_natCast]; exact hq)).1 h3⟩
/-- What lies in the one lies in the other one. -/
theorem win_has {l m t : Txt} {b b2 : Int} (h1 : winP l b m b2 = true) (h2 : hasP l b t = true) : hasP m b2 t = true := by
  unfold winP at h1
  rw [Bool.and_eq_true, Bool.and_eq_true, decide_eq_true_eq] at h1
  obtain ⟨r1, r2, r3⟩ := h1
  obtain ⟨s1, s2, s3⟩ := alk_has r2
  obtain ⟨t1, t2, t3⟩ := alk_has h2
  obtain ⟨-, p, rfl, hp⟩ := rP_spec t1
  obtain ⟨-, q, rfl, hq⟩ := rP_spec s1
  exact hasP_yes (s2.trans t2) s1 fun i hi => (t3 i (by rw [Int.toNat_natCast]; omega)).trans (s3 i (by rw [Int.toNat_natCast]; exact hi))
/-- What the document wants of Within. -/
theorem win_eq (l m : Txt) (b b2 : Int) : winP l b m b2 = (rP l.length b && (rP m.length b2 && ((l.length == m.length) && (decide (b2 ≤ b) && hasP m b2 l)))) := by
  unfold winP
  cases hx : hasP m b2 l
  · simp
  · obtain ⟨h1, h2, -⟩ := alk_has hx
    rw [h1, ← h2]
    simp
set_option maxRecDepth 100000 in
set_option maxHeartbeats 1600000 in
theorem win_big (S T U : Nat → Prop) (a a2 a3 : Option Addr) (n c n2 c2 n3 c3 : Nat) (b b2 : Int) (l m t : Txt) (w : World) (hs : Sl w S (.slice a n c) (U8 l)) (ht : Sl w T (.slice a2 n2 c2) (U8 m)) (hu : Sl w U (.slice a3 n3 c3) (U8 t)) (hl : n = l.length) (hm : n2 = m.length) (h3 : n3 = t.length) (hb : 40 < n ∨ 40 < n2 ∨ 40 < n3) : Calls Try.prog 4 #[.agg #[.slice a n c, .int .i64 b], .agg #[.slice a2 n2 c2, .int .i64 b2], .slice a3 n3 c3] w (numA.Told w (.bool true)) := by
  have AW := Lib.hid (fun W => awake_any W)
  obtain ⟨X, hX⟩ : ∃ X, X = (w.alloc (.cells #[.slice a n c, .int .i64 b] 24)).alloc (.cells #[.slice a2 n2 c2, .int .i64 b2] 24) := ⟨_, rfl⟩
  obtain ⟨P, hP⟩ : ∃ A, A = w.heap.size := ⟨_, rfl⟩
  have O := Lib.hid (show Only (fun _ => False) w X from by rw [hX]; exact ((Only.refl _ w).alloc _).alloc _)
  have HP := Lib.hid (show PfxAt X P (.slice a n c) b from by rw [hX, hP]; exact Only.keep ((Only.refl (fun _ => False) _).alloc _) (heap_alloc_new w _) id)
  have HQ := Lib.hid (show PfxAt X (P + 1) (.slice a2 n2 c2) b2 from by
    have h := heap_alloc_new (w.alloc (.cells #[.slice a n c, .int .i64 b] 24)) (.cells #[.slice a2 n2 c2, .int .i64 b2] 24)
    rw [World.size_alloc, ← hP] at h
    rw [hX]
    exact h)
  have HX := Lib.hid hX
  have HPE := Lib.hid hP
  clear hs ht hu hl hm h3
  clear hX hP
  go_enter Try.func4, Try.ntmps4
  go_wp2_with fail
  rw [← HX.out, ← HPE.out]
  (with_reducible refine (AW.out _).mono ?_)
  rintro e w2 ⟨rfl, o⟩
  replace O := Lib.hid (O.out.trans o)
  replace HP := Lib.hid (PfxAt.keep HP.out o id)
  replace HQ := Lib.hid (PfxAt.keep HQ.out o id)
  clear o
  obtain ⟨p0, p1⟩ := PfxAt.cells HP.out
  obtain ⟨p0q, p1q⟩ := PfxAt.cells HQ.out
  by_cases h1 : 40 < n
  · have k1 : ((40 : Int) < (n : Int)) = True := eq_true (by omega)
    go_wp2_with fail
    go_ret
    exact ⟨rfl, O.out⟩
  have k1 : ((40 : Int) < (n : Int)) = False := eq_false (by omega)
  by_cases h2 : 40 < n2
  · have k2 : ((40 : Int) < (n2 : Int)) = True := eq_true (by omega)
    go_wp2_with fail
    go_ret
    exact ⟨rfl, O.out⟩
  have k2 : ((40 : Int) < (n2 : Int)) = False := eq_false (by omega)
  have k3 : ((40 : Int) < (n3 : Int)) = True := eq_true (by rcases hb with h | h | h <;> omega)
  go_wp2_with fail
  go_ret
  exact ⟨rfl, O.out⟩

set_option maxRecDepth 100000 in
set_option maxHeartbeats 3200000 in
theorem win_law (S T U : Nat → Prop) (a a2 a3 : Option Addr) (n c n2 c2 n3 c3 : Nat) (b b2 : Int) (l m t : Txt) (w : World) (hs : Sl w S (.slice a n c) (U8 l)) (ht : Sl w T (.slice a2 n2 c2) (U8 m)) (hu : Sl w U (.slice a3 n3 c3) (U8 t)) (hl : n = l.length) (hm : n2 = m.length) (h3 : n3 = t.length) (hb1 : n ≤ 40) (hb2 : n2 ≤ 40) (hb3 : n3 ≤ 40) : Calls Try.prog 4 #[.agg #[.slice a n c, .int .i64 b], .agg #[.slice a2 n2 c2, .int .i64 b2], .slice a3 n3 c3] w (numA.Told w (.bool true)) := by
  have AW := Lib.hid (fun W => awake_any W)
  obtain ⟨X, hX⟩ : ∃ X, X = (w.alloc (.cells #[.slice a n c, .int .i64 b] 24)).alloc (.cells #[.slice a2 n2 c2, .int .i64 b2] 24) := ⟨_, rfl⟩
  obtain ⟨P, hP⟩ : ∃ A, A = w.heap.size := ⟨_, rfl⟩
  have O := Lib.hid (show Only (fun _ => False) w X from by rw [hX]; exact ((Only.refl _ w).alloc _).alloc _)
  have HP := Lib.hid (show PfxAt X P (.slice a n c) b from by rw [hX, hP]; exact Only.keep ((Only.refl (fun _ => False) _).alloc _) (heap_alloc_new w _) id)
  have HQ := Lib.hid (show PfxAt X (P + 1) (.slice a2 n2 c2) b2 from by
    have h := heap_alloc_new (w.alloc (.cells #[.slice a n c, .int .i64 b] 24)) (.cells #[.slice a2 n2 c2, .int .i64 b2] 24)
    rw [World.size_alloc, ← hP] at h
    rw [hX]
    exact h)
  have HX := Lib.hid hX
  have HPE := Lib.hid hP
  have k1 : ((40 : Int) < (n : Int)) = False := eq_false (by omega)
  have k2 : ((40 : Int) < (n2 : Int)) = False := eq_false (by omega)
  have k3 : ((40 : Int) < (n3 : Int)) = False := eq_false (by omega)
  have SA := Lib.hid (Sl.keep (hs.mono (T := fun _ => True) (fun _ _ => trivial)) O.out (fun _ _ h => h))
  have SB := Lib.hid (Sl.keep (ht.mono (T := fun _ => True) (fun _ _ => trivial)) O.out (fun _ _ h => h))
  have SC := Lib.hid (Sl.keep (hu.mono (T := fun _ => True) (fun _ _ => trivial)) O.out (fun _ _ h => h))
  obtain ⟨wn, hwn⟩ : ∃ r, r = winP l b m b2 := ⟨_, rfl⟩
  obtain ⟨r1, hr1⟩ : ∃ r, r = rP n b := ⟨_, rfl⟩
  obtain ⟨r2, hr2⟩ : ∃ r, r = rP n2 b2 := ⟨_, rfl⟩
  obtain ⟨hq, hhq⟩ : ∃ r, r = hasP m b2 l := ⟨_, rfl⟩
  obtain ⟨hp3, hhp3⟩ : ∃ r, r = hasP l b t := ⟨_, rfl⟩
  obtain ⟨hq3, hhq3⟩ : ∃ r, r = hasP m b2 t := ⟨_, rfl⟩
  have CW := Lib.hid (fun W (s1 : Sl W (fun _ => True) (.slice a n c) (U8 l)) (s2 : Sl W (fun _ => True) (.slice a2 n2 c2) (U8 m)) => (show Calls Try.prog 13 #[.agg #[.slice a n c, .int .i64 b], .agg #[.slice a2 n2 c2, .int .i64 b2]] W (numA.Told W (.bool wn)) from by rw [hwn]; exact within_any _ _ a a2 n c n2 c2 b b2 l m W s1 s2 hl hm))
  have C1 := Lib.hid (fun W => (show Calls Try.prog 8 #[.agg #[.slice a n c, .int .i64 b]] W (numA.Told W (.bool r1)) from by rw [hr1]; exact refright_any a n c b W))
  have C2 := Lib.hid (fun W => (show Calls Try.prog 8 #[.agg #[.slice a2 n2 c2, .int .i64 b2]] W (numA.Told W (.bool r2)) from by rw [hr2]; exact refright_any a2 n2 c2 b2 W))
  have C3 := Lib.hid (fun W (s1 : Sl W (fun _ => True) (.slice a2 n2 c2) (U8 m)) (s2 : Sl W (fun _ => True) (.slice a n c) (U8 l)) => (show Calls Try.prog 10 #[.agg #[.slice a2 n2 c2, .int .i64 b2], .slice a n c] W (numA.Told W (.bool hq)) from by rw [hhq]; exact refhas_any _ _ a2 a n2 c2 n c b2 m l W s1 s2 hm hl))
  have C4 := Lib.hid (fun W (s1 : Sl W (fun _ => True) (.slice a n c) (U8 l)) (s2 : Sl W (fun _ => True) (.slice a3 n3 c3) (U8 t)) => (show Calls Try.prog 9 #[.agg #[.slice a n c, .int .i64 b], .slice a3 n3 c3] W (numA.Told W (.bool hp3)) from by rw [hhp3]; exact has_any _ _ a a3 n c n3 c3 b l t W s1 s2 hl h3))
  have C5 := Lib.hid (fun W (s1 : Sl W (fun _ => True) (.slice a2 n2 c2) (U8 m)) (s2 : Sl W (fun _ => True) (.slice a3 n3 c3) (U8 t)) => (show Calls Try.prog 9 #[.agg #[.slice a2 n2 c2, .int .i64 b2], .slice a3 n3 c3] W (numA.Told W (.bool hq3)) from by rw [hhq3]; exact has_any _ _ a2 a3 n2 c2 n3 c3 b2 m t W s1 s2 hm h3))
  have WE := Lib.hid (show wn = (r1 && (r2 && ((n == n2) && (decide (b2 ≤ b) && hq)))) from by rw [hwn, hr1, hr2, hhq, hl, hm]; exact win_eq l m b b2)
  have WH := Lib.hid (show wn = true → hp3 = true → hq3 = true from fun e1 e2 => by rw [hhq3]; exact win_has (hwn.symm.trans e1) (hhp3.symm.trans e2))
  clear hwn hr1 hr2 hhq hhp3 hhq3 hs ht hu hl hm h3 hb1 hb2 hb3
  clear hX hP
  go_enter Try.func4, Try.ntmps4
  go_wp2_with fail
  rw [← HX.out, ← HPE.out]
  (with_reducible refine (AW.out _).mono ?_)
  rintro e w2 ⟨rfl, o⟩
  replace O := Lib.hid (O.out.trans o)
  replace HP := Lib.hid (PfxAt.keep HP.out o id)
  replace HQ := Lib.hid (PfxAt.keep HQ.out o id)
  replace SA := Lib.hid (Sl.keep SA.out o (fun _ _ h => h))
  replace SB := Lib.hid (Sl.keep SB.out o (fun _ _ h => h))
  replace SC := Lib.hid (Sl.keep SC.out o (fun _ _ h => h))
  clear o
  obtain ⟨p0, p1⟩ := PfxAt.cells HP.out
  obtain ⟨p0q, p1q⟩ := PfxAt.cells HQ.out
  go_wp2_with fail
  clear p0 p1 p0q p1q
  (with_reducible refine ((CW.out _ SA.out SB.out)).mono ?_)
  rintro e w3 ⟨rfl, o⟩
  replace O := Lib.hid (O.out.trans o)
  replace HP := Lib.hid (PfxAt.keep HP.out o id)
  replace HQ := Lib.hid (PfxAt.keep HQ.out o id)
  replace SA := Lib.hid (Sl.keep SA.out o (fun _ _ h => h))
  replace SB := Lib.hid (Sl.keep SB.out o (fun _ _ h => h))
  replace SC := Lib.hid (Sl.keep SC.out o (fun _ _ h => h))
  clear o
  obtain ⟨p0, p1⟩ := PfxAt.cells HP.out
  obtain ⟨p0q, p1q⟩ := PfxAt.cells HQ.out
  go_wp2_with fail
  clear p0 p1 p0q p1q
  (with_reducible refine (C1.out _).mono ?_)
  rintro e w4 ⟨rfl, o⟩
  replace O := Lib.hid (O.out.trans o)
  replace HP := Lib.hid (PfxAt.keep HP.out o id)
  replace HQ := Lib.hid (PfxAt.keep HQ.out o id)
  replace SA := Lib.hid (Sl.keep SA.out o (fun _ _ h => h))
  replace SB := Lib.hid (Sl.keep SB.out o (fun _ _ h => h))
  replace SC := Lib.hid (Sl.keep SC.out o (fun _ _ h => h))
  clear o
  obtain ⟨p0, p1⟩ := PfxAt.cells HP.out
  obtain ⟨p0q, p1q⟩ := PfxAt.cells HQ.out
  cases r1
  case false =>
    have hw : wn = false := WE.out.trans (by simp)
    subst hw
    go_wp2_with fail
    go_ret
    exact ⟨rfl, O.out⟩
  go_wp2_with fail
  clear p0 p1 p0q p1q
  (with_reducible refine (C2.out _).mono ?_)
  rintro e w5 ⟨rfl, o⟩
  replace O := Lib.hid (O.out.trans o)
  replace HP := Lib.hid (PfxAt.keep HP.out o id)
  replace HQ := Lib.hid (PfxAt.keep HQ.out o id)
  replace SA := Lib.hid (Sl.keep SA.out o (fun _ _ h => h))
  replace SB := Lib.hid (Sl.keep SB.out o (fun _ _ h => h))
  replace SC := Lib.hid (Sl.keep SC.out o (fun _ _ h => h))
  clear o
  obtain ⟨p0, p1⟩ := PfxAt.cells HP.out
  obtain ⟨p0q, p1q⟩ := PfxAt.cells HQ.out
  cases r2
  case false =>
    have hw : wn = false := WE.out.trans (by simp)
    subst hw
    go_wp2_with fail
    go_ret
    exact ⟨rfl, O.out⟩
  by_cases hn : n = n2
  case neg =>
    have k4 : ((n : Int) == (n2 : Int)) = false := by rw [beq_eq_false_iff_ne]; omega
    have hw : wn = false := WE.out.trans (by rw [beq_eq_false_iff_ne.2 hn]; simp)
    clear hn
    subst hw
    go_wp2_with fail
    go_ret
    exact ⟨rfl, O.out⟩
  subst hn
  by_cases hb : b2 ≤ b
  case neg =>
    have k4 : (b2 ≤ b) = False := eq_false hb
    have hw : wn = false := WE.out.trans (by rw [decide_eq_false hb]; simp)
    clear hb
    subst hw
    go_wp2_with fail
    go_ret
    exact ⟨rfl, O.out⟩
  have k4 : (b2 ≤ b) = True := eq_true hb
  replace WE := Lib.hid (show wn = hq from WE.out.trans (by rw [decide_eq_true hb]; simp))
  clear hb
  go_wp2_with fail
  clear p0 p1 p0q p1q
  (with_reducible refine ((C3.out _ SB.out SA.out)).mono ?_)
  rintro e w6 ⟨rfl, o⟩
  replace O := Lib.hid (O.out.trans o)
  replace HP := Lib.hid (PfxAt.keep HP.out o id)
  replace HQ := Lib.hid (PfxAt.keep HQ.out o id)
  replace SA := Lib.hid (Sl.keep SA.out o (fun _ _ h => h))
  replace SB := Lib.hid (Sl.keep SB.out o (fun _ _ h => h))
  replace SC := Lib.hid (Sl.keep SC.out o (fun _ _ h => h))
  clear o
  obtain ⟨p0, p1⟩ := PfxAt.cells HP.out
  obtain ⟨p0q, p1q⟩ := PfxAt.cells HQ.out
  cases hq
  case false =>
    have hw : wn = false := WE.out
    subst hw
    go_wp2_with fail
    go_ret
    exact ⟨rfl, O.out⟩
  have hw : wn = true := WE.out
  subst hw
  clear WE
  go_wp2_with fail
  clear p0 p1 p0q p1q
  (with_reducible refine ((C4.out _ SA.out SC.out)).mono ?_)
  rintro e w7 ⟨rfl, o⟩
  replace O := Lib.hid (O.out.trans o)
  replace HP := Lib.hid (PfxAt.keep HP.out o id)
  replace HQ := Lib.hid (PfxAt.keep HQ.out o id)
  replace SA := Lib.hid (Sl.keep SA.out o (fun _ _ h => h))
  replace SB := Lib.hid (Sl.keep SB.out o (fun _ _ h => h))
  replace SC := Lib.hid (Sl.keep SC.out o (fun _ _ h => h))
  clear o
  obtain ⟨p0, p1⟩ := PfxAt.cells HP.out
  obtain ⟨p0q, p1q⟩ := PfxAt.cells HQ.out
  cases hp3
  case false =>
    go_wp2_with fail
    go_ret
    exact ⟨rfl, O.out⟩
  have hw : hq3 = true := by first | exact WH.out rfl rfl | exact WH.out trivial trivial | simpa using WH.out
  subst hw
  go_wp2_with fail
  clear p0 p1 p0q p1q
  (with_reducible refine ((C5.out _ SB.out SC.out)).mono ?_)
  rintro e w8 ⟨rfl, o⟩
  replace O := Lib.hid (O.out.trans o)
  clear o
  go_wp2_with fail
  go_ret
  exact ⟨rfl, O.out⟩

theorem win_any (S T U : Nat → Prop) (a a2 a3 : Option Addr) (n c n2 c2 n3 c3 : Nat) (b b2 : Int) (l m t : Txt) (w : World) (hs : Sl w S (.slice a n c) (U8 l)) (ht : Sl w T (.slice a2 n2 c2) (U8 m)) (hu : Sl w U (.slice a3 n3 c3) (U8 t)) (hl : n = l.length) (hm : n2 = m.length) (h3 : n3 = t.length) : Calls Try.prog 4 #[.agg #[.slice a n c, .int .i64 b], .agg #[.slice a2 n2 c2, .int .i64 b2], .slice a3 n3 c3] w (numA.Told w (.bool true)) := by
  by_cases hb : 40 < n ∨ 40 < n2 ∨ 40 < n3
  · exact win_big S T U a a2 a3 n c n2 c2 n3 c3 b b2 l m t w hs ht hu hl hm h3 hb
  · exact win_law S T U a a2 a3 n c n2 c2 n3 c3 b b2 l m t w hs ht hu hl hm h3 (by omega) (by omega) (by omega)

end Go.Proofs.Ytokbaknckagfmaa.adL
