/- Addresses: the document's Has. -/
import Derived.Test.YtokbaknckagfmaaAdD
import Derived.LoopTactic
import Derived.Deep.RegionWith
import Derived.Deep.Cut
import Derived.Deep.DeepCutAuto
namespace Go.Proofs.Ytokbaknckagfmaa.adE
open Go.RowKit kit numA numB numD adA adB adC adD
set_option linter.unusedVariables false
set_option linter.unusedSimpArgs false

theorem at_endq {k q : Nat} (h1 : ¬ k < q) (h2 : k ≤ q) : k = q := by omega
theorem measq {k q : Nat} (h : k < q) (hw : wrap64 ((k : Int) + 1) = (k : Int) + 1) : q - (intOf (Value.int IntKind.i64 (wrap64 ((k : Int) + 1)))).toNat < q - (intOf (Value.int IntKind.i64 (k : Int))).toNat := by
  rw [hw]
  simp only [intOf]
  omega
theorem bits_step {l m : Txt} {k : Nat} (h : ∀ j, j < k → bitA m j = bitA l j) (e : bitA m k = bitA l k) : ∀ j, j < k + 1 → bitA m j = bitA l j := fun j hj => by
  by_cases hjk : j = k
  · subst hjk; exact e
  · exact h j (by omega)
theorem hasP_yes {l m : Txt} {q : Nat} (hl : l.length = m.length) (hr : rP l.length (q : Nat) = true) (h : ∀ i, i < q → bitA m i = bitA l i) : hasP l (q : Nat) m = true := by
  obtain ⟨-, p, hp, hq⟩ := rP_spec hr
  unfold hasP
  rw [hr, beq_iff_eq.2 hl, Int.toNat_natCast, (alk_iff l m q hl (by omega)).2 h]
  rfl
theorem hasP_no {l m : Txt} {q k : Nat} (hl : l.length = m.length) (hr : rP l.length (q : Nat) = true) (hk : k < q) (h : ¬ bitA m k = bitA l k) : hasP l (q : Nat) m = false := by
  obtain ⟨-, p, hp, hq⟩ := rP_spec hr
  have e : alk l m q = false := by
    rw [Bool.eq_false_iff]
    intro e
    exact h ((alk_iff l m q hl (by omega)).1 e k hk)
  unfold hasP
  rw [Int.toNat_natCast, e, Bool.and_false, Bool.and_false]
set_option maxRecDepth 100000 in
set_option maxHeartbeats 3200000 in
theorem refhas_any (S T : Nat → Prop) (a a2 : Option Addr) (n c n2 c2 : Nat) (b : Int) (l m : Txt) (w : World) (hs : Sl w S (.slice a n c) (U8 l)) (ht : Sl w T (.slice a2 n2 c2) (U8 m)) (hl : n = l.length) (hm : n2 = m.length) : Calls Try.prog 10 #[.agg #[.slice a n c, .int .i64 b], .slice a2 n2 c2] w (numA.Told w (.bool (hasP l b m))) := by
  subst hl
  subst hm
  obtain ⟨n, hn⟩ : ∃ n, n = l.length := ⟨_, rfl⟩
  obtain ⟨n2, hn2⟩ : ∃ n, n = m.length := ⟨_, rfl⟩
  rw [← hn] at hs ⊢
  rw [← hn2] at ht ⊢
  have HV := Lib.hid (show hasP l b m = (rP n b && (n == n2 && alk l m b.toNat)) from by rw [hn, hn2]; rfl)
  have HR := Lib.hid (fun W => refright_any a n c b W)
  obtain ⟨X, hX⟩ : ∃ X, X = w.alloc (.cells #[.slice a n c, .int .i64 b] 24) := ⟨_, rfl⟩
  obtain ⟨P, hP⟩ : ∃ A, A = w.heap.size := ⟨_, rfl⟩
  have HP := Lib.hid (show PfxAt X P (.slice a n c) b from by rw [hX, hP]; exact heap_alloc_new w _)
  have O := Lib.hid (show Only (fun _ => False) w X from by rw [hX]; exact (Only.refl _ w).alloc _)
  have SA := Lib.hid (Sl.keep (hs.mono (T := fun _ => True) (fun _ _ => trivial)) O.out (fun _ _ h => h))
  have SB := Lib.hid (Sl.keep (ht.mono (T := fun _ => True) (fun _ _ => trivial)) O.out (fun _ _ h => h))
  have HX := Lib.hid hX
  have HPE := Lib.hid hP
  have HN := Lib.hid hn
  have HN2 := Lib.hid hn2
  obtain ⟨r, hr⟩ : ∃ r, r = rP n b := ⟨_, rfl⟩
  have HRE := Lib.hid hr
  rw [← hr] at HR HV
  clear hX hP hs ht hn hn2 hr
  go_enter Try.func10, Try.ntmps10
  go_wp2_with fail
  rw [← HX.out, ← HPE.out]
  obtain ⟨p0, p1⟩ := PfxAt.cells HP.out
  go_wp2_with fail
  clear p0 p1
  (with_reducible refine (HR.out _).mono ?_)
  rintro e w2 ⟨rfl, o⟩
  replace O := Lib.hid (O.out.trans o)
  replace HP := Lib.hid (PfxAt.keep HP.out o id)
  replace SA := Lib.hid (Sl.keep SA.out o (fun _ _ h => h))
  replace SB := Lib.hid (Sl.keep SB.out o (fun _ _ h => h))
  clear o
  obtain ⟨p0, p1⟩ := PfxAt.cells HP.out
  cases r
  · go_wp2_with fail
    go_ret
    exact ⟨by rw [HV.out]; rfl, O.out⟩
  obtain ⟨hn16, q, rfl, hq⟩ := rP_spec HRE.out.symm
  by_cases h2 : n = n2
  · subst h2
    have HNL := Lib.hid (show l.length = m.length from by rw [← HN.out, HN2.out])
    have HRL := Lib.hid (show rP l.length (q : Nat) = true from by rw [← HN.out]; exact HRE.out.symm)
    have HQ := Lib.hid (show n ≤ 16 ∧ q ≤ 8 * n from ⟨hn16, hq⟩)
    have NE := Lib.hid (bne_self_eq_false (n : Int))
    clear hn16 hq HV HRE
    go_wp2_with fail
    clear p0 p1
    go_loopw [5] (fun i wr => ∃ k : Nat, i = .int .i64 (k : Nat) ∧ k ≤ q ∧ (∀ j, j < k → bitA m j = bitA l j) ∧ Only (fun _ => False) w2 wr) (fun i _ => q - (intOf i).toNat)
    case atStart => exact ⟨0, rfl, Nat.zero_le _, fun j hj => by omega, Only.refl _ _⟩
    case round =>
      obtain ⟨k, rfl, hk, hb, ho⟩ := hrel
      have HB := Lib.hid hb
      have HO := Lib.hid ho
      have HP3 := Lib.hid (PfxAt.keep HP.out ho id)
      have SA3 := Lib.hid (Sl.keep SA.out ho (fun _ _ h => h))
      have SB3 := Lib.hid (Sl.keep SB.out ho (fun _ _ h => h))
      obtain ⟨p0, p1⟩ := PfxAt.cells HP3.out
      clear hb ho
      by_cases hkq : k < q
      · have k1 : ((k : Int) < (q : Int)) = True := eq_true (by omega)
        have wk : wrap64 ((k : Int) + 1) = (k : Int) + 1 := IntWalk.wrap64_in _ (by have := HQ.out; omega)
        have B1 := Lib.hid (fun W (o : Only (fun _ => False) wr W) => (show Calls Try.prog 18 #[.slice a2 n c2, .int .i64 (k : Nat)] W (fun e w' => e = .returned (.int .u8 ((bitA m k : Nat) : Int)) ∧ W = w') from bit_any _ a2 n c2 k m W (Sl.keep SB3.out o (fun _ _ h => h)) HN2.out (by have := HQ.out; omega) (by have := HQ.out; omega)))
        have B2 := Lib.hid (fun W (o : Only (fun _ => False) wr W) => (show Calls Try.prog 18 #[.slice a n c, .int .i64 (k : Nat)] W (fun e w' => e = .returned (.int .u8 ((bitA l k : Nat) : Int)) ∧ W = w') from bit_any _ a n c k l W (Sl.keep SA3.out o (fun _ _ h => h)) HN.out (by have := HQ.out; omega) (by have := HQ.out; omega)))
        obtain ⟨x, hx⟩ : ∃ x, x = bitA m k := ⟨_, rfl⟩
        obtain ⟨y, hy⟩ : ∃ x, x = bitA l k := ⟨_, rfl⟩
        rw [← hx] at B1
        rw [← hy] at B2
        have HXY := Lib.hid (show x = bitA m k ∧ y = bitA l k from ⟨hx, hy⟩)
        have HK := Lib.hid hkq
        clear hx hy hkq hk
        by_cases he : x = y
        · have k2 : ((x : Int) != (y : Int)) = false := by rw [bne_eq_false_iff_eq]; omega
          have HE := Lib.hid he
          clear he
          go_upto_region 6 with fail
          have D := Lib.hid ((Only.refl (fun _ => False) wr).drew)
          go_region_with (first | ((with_reducible refine (B1.out _ D.out).mono ?_); rintro e w7 ⟨rfl, rfl⟩) | ((with_reducible refine (B2.out _ D.out).mono ?_); rintro e w7 ⟨rfl, rfl⟩))
          all_goals go_wp2_with fail
          all_goals go_roundw
          all_goals first
            | exact ⟨k + 1, by first | rfl | (rw [wk]; rfl), HK.out, bits_step HB.out (by rw [← HXY.out.1, ← HXY.out.2]; exact HE.out), HO.out.trans D.out⟩
            | exact measq HK.out wk
        · have k2 : ((x : Int) != (y : Int)) = true := by rw [bne_iff_ne]; omega
          have HV := Lib.hid (show hasP l (q : Nat) m = false from hasP_no HNL.out HRL.out HK.out (by rw [← HXY.out.1, ← HXY.out.2]; exact he))
          clear he
          go_upto_region 6 with fail
          have D := Lib.hid ((Only.refl (fun _ => False) wr).drew)
          go_region_with (first | ((with_reducible refine (B1.out _ D.out).mono ?_); rintro e w7 ⟨rfl, rfl⟩) | ((with_reducible refine (B2.out _ D.out).mono ?_); rintro e w7 ⟨rfl, rfl⟩))
          all_goals go_wp2_with fail
          all_goals go_ret
          all_goals exact ⟨by rw [HV.out]; rfl, (O.out.trans HO.out).trans D.out⟩
      · obtain rfl : k = q := at_endq hkq hk
        have HV := Lib.hid (show hasP l (k : Nat) m = true from hasP_yes HNL.out HRL.out HB.out)
        have k1 : ((k : Int) < (k : Int)) = False := eq_false (by omega)
        clear hkq hk
        go_wp2_with fail
        go_ret
        exact ⟨by rw [HV.out]; rfl, O.out.trans HO.out⟩
  · have k1 : ((n2 : Int) != (n : Int)) = true := by rw [bne_iff_ne]; omega
    have k2 : (n == n2) = false := by rw [beq_eq_false_iff_ne]; exact h2
    have K2 := Lib.hid k2
    clear k2 h2 hn16 hq
    go_wp2_with fail
    go_ret
    exact ⟨by rw [HV.out, K2.out]; rfl, O.out⟩


end Go.Proofs.Ytokbaknckagfmaa.adE
