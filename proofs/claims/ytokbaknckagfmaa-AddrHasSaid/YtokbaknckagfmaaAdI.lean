/- Addresses: Within, Equal, Same. -/
import Derived.Test.YtokbaknckagfmaaAdG
namespace Go.Proofs.Ytokbaknckagfmaa.adI
open Go.RowKit kit numA numB numD adA adB adC adD adE adF adG
set_option linter.unusedVariables false
set_option linter.unusedSimpArgs false

theorem slt {w : World} {S : Nat → Prop} {v : Value} {xs : List Value} (h : Sl w S v xs) : Sl w (fun k => k < w.heap.size) v xs := by
  obtain ⟨hm, a, c, hv, hx⟩ := h
  exact ⟨hm, a, c, hv, hx.imp id fun ⟨g, o, e, hS, hg, hc⟩ => ⟨g, o, e, hg, hg, hc⟩⟩
theorem byteArray_toList (s : ByteArray) : s.toList = s.data.toList :=
  ByteArray.toList_eq s
theorem bytes_eq (A C : ByteArray) : (A.toList == C.toList) = (A.data.toList == C.data.toList) := by
  have e : ∀ s : ByteArray, s.toList = s.data.toList := fun s => by
    rw [byteArray_toList]
  rw [e, e]
def winP (l : Txt) (b : Int) (m : Txt) (b2 : Int) : Bool := rP l.length b && (hasP m b2 l && decide (b2 ≤ b))
set_option maxRecDepth 100000 in
theorem equal_any (S T : Nat → Prop) (v u : Value) (l m : Txt) (w : World) (hs : Sl w S v (U8 l)) (ht : Sl w T u (U8 m)) : Calls Try.prog 24 #[v, u] w (fun e w' => e = .returned (.bool (l == m)) ∧ w = w') := by
  have h1 := conv_lst hs
  have h2 := conv_lst ht
  obtain ⟨A, hA⟩ : ∃ A : ByteArray, A = ⟨l.toArray⟩ := ⟨_, rfl⟩
  obtain ⟨C, hC⟩ : ∃ A : ByteArray, A = ⟨m.toArray⟩ := ⟨_, rfl⟩
  have e1 : (A.toList == C.toList) = (l == m) := by rw [bytes_eq, hA, hC]
  have e2 : (A.toList = C.toList) = (l = m) := by rw [byteArray_toList, byteArray_toList, hA, hC]
  rw [← hA] at h1
  rw [← hC] at h2
  obtain ⟨a1, n1, c1, rfl⟩ : ∃ a n c, v = .slice a n c := by obtain ⟨_, a, c, h, _⟩ := hs; exact ⟨a, _, c, h⟩
  obtain ⟨a2, n2, c2, rfl⟩ : ∃ a n c, u = .slice a n c := by obtain ⟨_, a, c, h, _⟩ := ht; exact ⟨a, _, c, h⟩
  clear hs ht hA hC
  go_enter Try.func24, Try.ntmps24
  go_wp2_with fail
  go_ret
  first | exact ⟨rfl, rfl⟩ | (refine ⟨?_, rfl⟩; trace_state; sorry)

set_option maxRecDepth 100000 in
theorem same_any (S T : Nat → Prop) (v u : Value) (l m : Txt) (w : World) (hs : Sl w S v (U8 l)) (ht : Sl w T u (U8 m)) : Calls Try.prog 19 #[v, u] w (fun e w' => e = .returned (.bool (l == m)) ∧ w = w') := by
  have h1 := conv_lst hs
  have h2 := conv_lst ht
  obtain ⟨A, hA⟩ : ∃ A : ByteArray, A = ⟨l.toArray⟩ := ⟨_, rfl⟩
  obtain ⟨C, hC⟩ : ∃ A : ByteArray, A = ⟨m.toArray⟩ := ⟨_, rfl⟩
  have e1 : (A.toList == C.toList) = (l == m) := by rw [bytes_eq, hA, hC]
  have e2 : (A.toList = C.toList) = (l = m) := by rw [byteArray_toList, byteArray_toList, hA, hC]
  rw [← hA] at h1
  rw [← hC] at h2
  obtain ⟨a1, n1, c1, rfl⟩ : ∃ a n c, v = .slice a n c := by obtain ⟨_, a, c, h, _⟩ := hs; exact ⟨a, _, c, h⟩
  obtain ⟨a2, n2, c2, rfl⟩ : ∃ a n c, u = .slice a n c := by obtain ⟨_, a, c, h, _⟩ := ht; exact ⟨a, _, c, h⟩
  clear hs ht hA hC
  go_enter Try.func19, Try.ntmps19
  go_wp2_with fail
  go_ret
  first | exact ⟨rfl, rfl⟩ | (refine ⟨?_, rfl⟩; trace_state; sorry)

set_option maxRecDepth 100000 in
set_option maxHeartbeats 1600000 in
theorem within_any (S T : Nat → Prop) (a a2 : Option Addr) (n c n2 c2 : Nat) (b b2 : Int) (l m : Txt) (w : World) (hs : Sl w S (.slice a n c) (U8 l)) (ht : Sl w T (.slice a2 n2 c2) (U8 m)) (hl : n = l.length) (hm : n2 = m.length) : Calls Try.prog 13 #[.agg #[.slice a n c, .int .i64 b], .agg #[.slice a2 n2 c2, .int .i64 b2]] w (numA.Told w (.bool (winP l b m b2))) := by
  subst hl
  subst hm
  obtain ⟨n, hn⟩ : ∃ n, n = l.length := ⟨_, rfl⟩
  obtain ⟨n2, hn2⟩ : ∃ n, n = m.length := ⟨_, rfl⟩
  rw [← hn] at hs ⊢
  rw [← hn2] at ht ⊢
  have HV := Lib.hid (show winP l b m b2 = (rP n b && (hasP m b2 l && decide (b2 ≤ b))) from by rw [hn]; rfl)
  have HR := Lib.hid (fun W => right_any a n c b W)
  obtain ⟨X, hX⟩ : ∃ X, X = (w.alloc (.cells #[.slice a n c, .int .i64 b] 24)).alloc (.cells #[.slice a2 n2 c2, .int .i64 b2] 24) := ⟨_, rfl⟩
  obtain ⟨P, hP⟩ : ∃ A, A = w.heap.size := ⟨_, rfl⟩
  have O := Lib.hid (show Only (fun _ => False) w X from by rw [hX]; exact ((Only.refl _ w).alloc _).alloc _)
  have HP := Lib.hid (show PfxAt X P (.slice a n c) b from by rw [hX, hP]; exact Only.keep ((Only.refl (fun _ => False) _).alloc _) (heap_alloc_new w _) id)
  have HQ := Lib.hid (show PfxAt X (P + 1) (.slice a2 n2 c2) b2 from by
    have h := heap_alloc_new (w.alloc (.cells #[.slice a n c, .int .i64 b] 24)) (.cells #[.slice a2 n2 c2, .int .i64 b2] 24)
    rw [World.size_alloc, ← hP] at h
    rw [hX]
    exact h)
  have HX := Lib.hid hX
  have HPE := Lib.hid hP
  have SA := Lib.hid (Sl.keep (hs.mono (T := fun _ => True) (fun _ _ => trivial)) O.out (fun _ _ h => h))
  have SB := Lib.hid (Sl.keep (ht.mono (T := fun _ => True) (fun _ _ => trivial)) O.out (fun _ _ h => h))
  have HN := Lib.hid hn
  have HN2 := Lib.hid hn2
  obtain ⟨r, hr⟩ : ∃ r, r = rP n b := ⟨_, rfl⟩
  rw [← hr] at HR HV
  obtain ⟨h, hh⟩ : ∃ r, r = hasP m b2 l := ⟨_, rfl⟩
  have HH := Lib.hid (fun W (s1 : Sl W (fun _ => True) (.slice a n c) (U8 l)) (s2 : Sl W (fun _ => True) (.slice a2 n2 c2) (U8 m)) => (show Calls Try.prog 9 #[.agg #[.slice a2 n2 c2, .int .i64 b2], .slice a n c] W (numA.Told W (.bool h)) from by rw [hh]; exact has_any _ _ a2 a n2 c2 n c b2 m l W s2 s1 hn2 hn))
  rw [← hh] at HV
  obtain ⟨v, hv⟩ : ∃ v, v = winP l b m b2 := ⟨_, rfl⟩
  rw [← hv] at HV ⊢
  clear hX hP hs ht hn hn2 hr hh hv
  go_enter Try.func13, Try.ntmps13
  go_wp2_with fail
  rw [← HX.out, ← HPE.out]
  obtain ⟨p0, p1⟩ := PfxAt.cells HP.out
  obtain ⟨p0q, p1q⟩ := PfxAt.cells HQ.out
  go_wp2_with fail
  clear p0 p1 p0q p1q
  (with_reducible refine (HR.out _).mono ?_)
  rintro e w2 ⟨rfl, o⟩
  replace O := Lib.hid (O.out.trans o)
  replace HP := Lib.hid (PfxAt.keep HP.out o id)
  replace HQ := Lib.hid (PfxAt.keep HQ.out o id)
  replace SA := Lib.hid (Sl.keep SA.out o (fun _ _ h => h))
  replace SB := Lib.hid (Sl.keep SB.out o (fun _ _ h => h))
  clear o
  obtain ⟨p0, p1⟩ := PfxAt.cells HP.out
  obtain ⟨p0q, p1q⟩ := PfxAt.cells HQ.out
  cases r
  · go_wp2_with fail
    go_ret
    exact ⟨by rw [HV.out]; rfl, O.out⟩
  have CH := Lib.hid (HH.out w2 SA.out SB.out)
  go_wp2_with fail
  clear p0 p1 p0q p1q
  (with_reducible refine CH.out.mono ?_)
  rintro e w3 ⟨rfl, o⟩
  replace O := Lib.hid (O.out.trans o)
  replace HP := Lib.hid (PfxAt.keep HP.out o id)
  replace HQ := Lib.hid (PfxAt.keep HQ.out o id)
  clear o
  obtain ⟨p0, p1⟩ := PfxAt.cells HP.out
  obtain ⟨p0q, p1q⟩ := PfxAt.cells HQ.out
  cases h
  · go_wp2_with fail
    go_ret
    exact ⟨by rw [HV.out]; rfl, O.out⟩
  by_cases hb : b2 ≤ b
  · have k1 : (b2 ≤ b) = True := eq_true hb
    have HBB := Lib.hid (decide_eq_true hb)
    clear hb
    go_wp2_with fail
    go_ret
    exact ⟨by rw [HV.out, HBB.out]; rfl, O.out⟩
  · have k1 : (b2 ≤ b) = False := eq_false hb
    have HBB := Lib.hid (decide_eq_false hb)
    clear hb
    go_wp2_with fail
    go_ret
    exact ⟨by rw [HV.out, HBB.out]; rfl, O.out⟩


end Go.Proofs.Ytokbaknckagfmaa.adI
