/- Addresses: the program's Has. -/
import Derived.Test.YtokbaknckagfmaaAdC
namespace Go.Proofs.Ytokbaknckagfmaa.adD
open Go.RowKit kit numA numB numD adA adB adC
set_option linter.unusedVariables false
set_option linter.unusedSimpArgs false

/-- A prefix in a box. -/
def PfxAt (w : World) (P : Nat) (v : Value) (b : Int) : Prop := w.heap[P]? = some (.cells #[v, .int .i64 b] 24 (0, 0))
theorem PfxAt.keep {w w' : World} {P : Nat} {v : Value} {b : Int} {T : Nat → Prop} (h : PfxAt w P v b) (o : Only T w w') (hT : ¬ T P) : PfxAt w' P v b := Only.keep o h hT
theorem PfxAt.cells {w : World} {P : Nat} {v : Value} {b : Int} (h : PfxAt w P v b) : w.cell? ⟨P, 0, none⟩ = some v ∧ w.cell? ⟨P, 1, none⟩ = some (.int .i64 b) := ⟨cell_of h, cell_of h⟩
def hasP (l : Txt) (b : Int) (m : Txt) : Bool := rP l.length b && (l.length == m.length && alk l m b.toNat)
theorem only_of_below {w w' : World} (b : Below w.heap.size w w') : Only (fun _ => False) w w' := ⟨b.os, b.tape, b.output, b.size, fun k hk _ => b.block k hk⟩
theorem alike_any (S T : Nat → Prop) (a b : Option Addr) (len ca cb q0 : Nat) (la lb : Txt) (hla : len = la.length) (hlb : len = lb.length) (hm : len ≤ 100000) (hq : q0 ≤ 100000000) (w : World) (ra : Sl w S (.slice a len ca) (U8 la)) (rb : Sl w T (.slice b len cb) (U8 lb)) :
    Calls Try.prog 17 #[.slice a len ca, .slice b len cb, .int .i64 (q0 : Nat)] w (numA.Told w (.bool (alk la lb q0))) :=
  Calls.mono (callsIn_wide.1 (alike_in a b len ca cb q0 la lb hla.symm hlb.symm hm hq w (Rd.of_sl ra) (Rd.of_sl rb))) fun e w' ⟨h, o⟩ => ⟨h, only_of_below o⟩
theorem rP_spec {n : Nat} {b : Int} (h : rP n b = true) : n ≤ 16 ∧ ∃ q : Nat, b = (q : Nat) ∧ q ≤ 8 * n := by
  unfold rP at h
  rw [Bool.and_eq_true, Bool.and_eq_true, decide_eq_true_eq, decide_eq_true_eq] at h
  refine ⟨by have := h.1; simp at this; omega, b.toNat, by omega, by omega⟩
set_option maxRecDepth 100000 in
set_option maxHeartbeats 1600000 in
theorem has_any (S T : Nat → Prop) (a a2 : Option Addr) (n c n2 c2 : Nat) (b : Int) (l m : Txt) (w : World) (hs : Sl w S (.slice a n c) (U8 l)) (ht : Sl w T (.slice a2 n2 c2) (U8 m)) (hl : n = l.length) (hm : n2 = m.length) : Calls Try.prog 9 #[.agg #[.slice a n c, .int .i64 b], .slice a2 n2 c2] w (numA.Told w (.bool (hasP l b m))) := by
  subst hl
  subst hm
  obtain ⟨n, hn⟩ : ∃ n, n = l.length := ⟨_, rfl⟩
  obtain ⟨n2, hn2⟩ : ∃ n, n = m.length := ⟨_, rfl⟩
  rw [← hn] at hs ⊢
  rw [← hn2] at ht ⊢
  have HV := Lib.hid (show hasP l b m = (rP n b && (n == n2 && alk l m b.toNat)) from by rw [hn, hn2]; rfl)
  have HR := Lib.hid (fun W => right_any a n c b W)
  obtain ⟨X, hX⟩ : ∃ X, X = w.alloc (.cells #[.slice a n c, .int .i64 b] 24) := ⟨_, rfl⟩
  obtain ⟨P, hP⟩ : ∃ A, A = w.heap.size := ⟨_, rfl⟩
  have HP := Lib.hid (show PfxAt X P (.slice a n c) b from by rw [hX, hP]; exact heap_alloc_new w _)
  have O := Lib.hid (show Only (fun _ => False) w X from by rw [hX]; exact (Only.refl _ w).alloc _)
  have SA := Lib.hid (Sl.keep (hs.mono (T := fun _ => True) (fun _ _ => trivial)) O.out (fun _ _ h => h))
  have SB := Lib.hid (Sl.keep (ht.mono (T := fun _ => True) (fun _ _ => trivial)) O.out (fun _ _ h => h))
  have HX := Lib.hid hX
  have HPE := Lib.hid hP
  have HN := Lib.hid hn
  have HN2 := Lib.hid hn2
  obtain ⟨r, hr⟩ : ∃ r, r = rP n b := ⟨_, rfl⟩
  have HRE := Lib.hid hr
  rw [← hr] at HR HV
  obtain ⟨v, hv⟩ : ∃ v, v = hasP l b m := ⟨_, rfl⟩
  rw [← hv] at HV ⊢
  clear hX hP hs ht hn hn2 hr hv
  go_enter Try.func9, Try.ntmps9
  go_wp2_with fail
  rw [← HX.out, ← HPE.out]
  obtain ⟨p0, p1⟩ := PfxAt.cells HP.out
  go_wp2_with fail
  clear p0 p1
  (with_reducible refine (HR.out _).mono ?_)
  rintro e w2 ⟨rfl, o⟩
  replace O := Lib.hid (O.out.trans o)
  replace HP := Lib.hid (PfxAt.keep HP.out o id)
  replace SA := Lib.hid (Sl.keep SA.out o (fun _ _ h => h))
  replace SB := Lib.hid (Sl.keep SB.out o (fun _ _ h => h))
  clear o
  obtain ⟨p0, p1⟩ := PfxAt.cells HP.out
  cases r
  · go_wp2_with fail
    go_ret
    exact ⟨by rw [HV.out]; rfl, O.out⟩
  obtain ⟨hn16, q, rfl, hq⟩ := rP_spec HRE.out.symm
  by_cases h2 : n = n2
  · subst h2
    have CA := Lib.hid (alike_any _ _ a a2 n c c2 q l m HN.out HN2.out (by omega) (by omega) w2 SA.out SB.out)
    clear hn16 hq
    go_wp2_with fail
    (with_reducible refine CA.out.mono ?_)
    rintro e w3 ⟨rfl, o⟩
    replace O := Lib.hid (O.out.trans o)
    clear o
    go_wp2_with fail
    go_ret
    exact ⟨by rw [HV.out]; simp, O.out⟩
  · have k1 : ((n : Int) == (n2 : Int)) = false := by rw [beq_eq_false_iff_ne]; omega
    have k2 : (n == n2) = false := by rw [beq_eq_false_iff_ne]; exact h2
    have K2 := Lib.hid k2
    clear k2 h2 hn16 hq
    go_wp2_with fail
    go_ret
    exact ⟨by rw [HV.out, K2.out]; rfl, O.out⟩


end Go.Proofs.Ytokbaknckagfmaa.adD
