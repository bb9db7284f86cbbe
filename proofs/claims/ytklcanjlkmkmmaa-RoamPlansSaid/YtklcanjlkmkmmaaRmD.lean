/- Roam: the document's plan. -/
import Derived.Test.YtklcanjlkmkmmaaRmC
namespace Go.Proofs.Ytklcanjlkmkmmaa.rmD
open Go.RowKit Go.Proofs.Ytklcanjlkmkmmaa.kit Go.Proofs.Ytklcanjlkmkmmaa.floA Go.Proofs.Ytklcanjlkmkmmaa.skyA Go.Proofs.Ytklcanjlkmkmmaa.skyB Go.Proofs.Ytklcanjlkmkmmaa.skyC Go.Proofs.Ytklcanjlkmkmmaa.skyD Go.Proofs.Ytklcanjlkmkmmaa.skyE Go.Proofs.Ytklcanjlkmkmmaa.skyF Go.Proofs.Ytklcanjlkmkmmaa.skyG Go.Proofs.Ytklcanjlkmkmmaa.skyH Go.Proofs.Ytklcanjlkmkmmaa.skyI Go.Proofs.Ytklcanjlkmkmmaa.skyK Go.Proofs.Ytklcanjlkmkmmaa.skyO Go.Proofs.Ytklcanjlkmkmmaa.skyP Go.Proofs.Ytklcanjlkmkmmaa.skyQ Go.Proofs.Ytklcanjlkmkmmaa.skyT Go.Proofs.Ytklcanjlkmkmmaa.rmA Go.Proofs.Ytklcanjlkmkmmaa.rmB Go.Proofs.Ytklcanjlkmkmmaa.rmC
set_option linter.unusedVariables false
set_option linter.unusedSimpArgs false

/-- An act without bytes: its kind, who, how long, whence. -/
structure Ac where
  k : Int
  a : Int
  n : Int
  f : Int
deriving Inhabited

def ac5 (x : Ac) : List Value := [.int .i64 x.k, .int .i64 x.a, .int .i64 x.n, .int .i64 x.f, .slice none 0 0]

def flatA (l : List Ac) : List Value := l.flatMap ac5

theorem flatA_snoc (l : List Ac) (x : Ac) : flatA (l ++ [x]) = flatA l ++ ac5 x := by
  rw [flatA, List.flatMap_append]
  simp [flatA]

theorem info47 : (Try.prog.info? 47).map (fun i => (i.zero, i.size, i.bytes)) = some (some (.agg #[.int .i64 0, .int .i64 0, .int .i64 0, .int .i64 0, .slice none 0 0]), 5, 56) := by kernel_rfl
theorem info45 : (Try.prog.info? 45).map (fun i => (i.zero, i.size, i.bytes)) = some (some (.agg #[.int .i64 0, .int .i64 0, .int .i64 0, .int .i64 0, .slice none 0 0]), 5, 56) := by kernel_rfl

abbrev waitA : Ac := ⟨5, 0, 1000, 0⟩
abbrev moveA (m : List (Int × Int)) (rs : List Rt) (t i : Nat) : Ac := ⟨6, i, 0, addr m rs i t⟩

/-- Does a host go somewhere else at a second? -/
def goes (m : List (Int × Int)) (rs : List Rt) (t i : Nat) : Bool := decide (t = 0) || decide (¬ addr m rs i t = addr m rs i ((t : Int) - 1))

/-- What the first hosts do at a second. -/
def mv (m : List (Int × Int)) (rs : List Rt) (t : Nat) : Nat → List Ac
  | 0 => []
  | i + 1 => if goes m rs t i = true then mv m rs t i ++ [moveA m rs t i] else mv m rs t i

/-- The acts of the first seconds. -/
def pl (m : List (Int × Int)) (rs : List Rt) : Nat → List Ac
  | 0 => []
  | t + 1 => (if 0 < t then pl m rs t ++ [waitA] else pl m rs t) ++ mv m rs t rs.length

theorem mv_len (m : List (Int × Int)) (rs : List Rt) (t : Nat) : ∀ i, (mv m rs t i).length ≤ i
  | 0 => Nat.le_refl _
  | i + 1 => by
    have := mv_len m rs t i
    simp only [mv]
    split
    · rw [List.length_append]; simp; omega
    · omega

theorem pl_len (m : List (Int × Int)) (rs : List Rt) (h : rs.length ≤ 8) : ∀ t, (pl m rs t).length ≤ 9 * t
  | 0 => Nat.le_refl _
  | t + 1 => by
    have := pl_len m rs h t
    have := mv_len m rs t rs.length
    simp only [pl]
    rw [List.length_append]
    split
    · rw [List.length_append]; simp; omega
    · omega

/-- The acts of the first seconds, and what goes ahead of the hosts' moves at the next one. -/
def pw (m : List (Int × Int)) (rs : List Rt) (t : Nat) : List Ac := if 0 < t then pl m rs t ++ [waitA] else pl m rs t

theorem pw_len (m : List (Int × Int)) (rs : List Rt) (h : rs.length ≤ 8) (t : Nat) : (pw m rs t).length ≤ 9 * t + 1 := by
  have := pl_len m rs h t
  unfold pw
  split
  · rw [List.length_append]; simp; omega
  · omega

theorem wrap_n {n : Nat} (h : n ≤ 100000) : wrap64 ((n : Int) + 1) = (n : Int) + 1 := IntWalk.wrap64_in _ (by omega)
theorem wrap_p {n : Nat} (h : n ≤ 100000) (h1 : 0 < n) : wrap64 ((n : Int) - 1) = (n : Int) - 1 := IntWalk.wrap64_in _ (by omega)

set_option maxRecDepth 100000 in
set_option maxHeartbeats 1600000 in
theorem refplan_any (ma : Option Addr) (mcap : Nat) (m : List (Int × Int)) (ra : Option Addr) (rcap : Nat) (rs : List Rt) (U : Nat) (w : World) (hm : Pts w ma m) (hr : Rts w ra rs) (hj : jOk m rs = true) (hU : U ≤ 1000) :
    Calls Try.prog 13 #[.slice ma m.length mcap, .slice ra rs.length rcap, .int .i64 U] w fun e w' => (∃ v, e = .returned v ∧ w'.ownsRow w.heap.size 47 5 v (pl m rs (U + 1)).length (flatA (pl m rs (U + 1)))) ∧ Only (fun _ => False) w w' := by
  have JA := Go.Lib.hid (fun (w' : World) (o : Only (fun _ => False) w w') (i : Nat) (hi : i < rs.length) (t : Int) (h0 : 0 ≤ t) (h63 : t ≤ 9223372036854775807) => refjat_any ma mcap m ra rcap rs i t w' (hm.keep o) (hr.keep o) hj hi h0 h63)
  have H8 := Go.Lib.hid (jOk_parts hj).2.2.2
  have HU := Go.Lib.hid hU
  have R0 := Go.Lib.hid (And.intro ((Only.refl (fun _ => False) w).alloc (.cells #[] 47)) (show (w.alloc (.cells #[] 47)).ownsRow w.heap.size 47 5 (.slice (some ⟨w.heap.size, 0, none⟩) 0 0) (pl m rs 0).length (flatA (pl m rs 0)) from ⟨rfl, .inr ⟨_, 0, _, rfl, Nat.le_refl _, heap_alloc_new w _, Nat.le_refl _, by decide, rfl, rfl⟩⟩))
  clear hm hr hj hU
  go_enter Try.func13, Try.ntmps13
  go_wp2_with fail
  go_loopw [7, 8] (fun v s wr => ∃ t : Nat, t ≤ U + 1 ∧ s = .int .i64 t ∧ Only (fun _ => False) w wr ∧ wr.ownsRow w.heap.size 47 5 v (pl m rs t).length (flatA (pl m rs t))) (fun _ s _ => U + 1 - (intOf s).toNat)
  case atStart => exact ⟨0, Nat.zero_le _, rfl, R0.out.1, R0.out.2⟩
  case round =>
    obtain ⟨t, ht, rfl, o, hown⟩ := hrel
    have R := Go.Lib.hid o
    have OW := Go.Lib.hid hown
    clear o hown R0
    obtain ⟨W1, rfl⟩ : ∃ W, W = wr := ⟨_, rfl⟩
    by_cases hlt : t ≤ U
    · have k1 : ((t : Int) ≤ (U : Int)) = True := eq_true (by omega)
      have HT := Go.Lib.hid hlt
      -- the wait
      by_cases ht0 : 0 < t
      · have k2 : ((0 : Int) < (t : Int)) = True := eq_true (by omega)
        obtain ⟨v', w6, hrun, hown, o6⟩ := app (bytes := 56) (size := 5) Try.underlying41 info47 rfl (by decide) (by decide) R.out OW.out (ac5 waitA) rfl (fun u hu => by simp [ac5] at hu; rcases hu with rfl | rfl | rfl | rfl | rfl <;> rfl) (by have := pl_len m rs H8.out t; have := HU.out; omega)
        rw [← flatA_snoc] at hown
        have hpw : pl m rs t ++ [waitA] = pw m rs t := by rw [pw, if_pos ht0]
        rw [hpw] at hown
        have hn : (pl m rs t).length + 1 = (pw m rs t).length := by rw [← hpw, List.length_append]; rfl
        rw [hn] at hown
        have IN := Go.Lib.hid (And.intro o6 hown)
        have HT0 := Go.Lib.hid ht0
        clear o6 hown hn hpw ht0 hlt
        go_wp2_with (first | (at_builtin; refine Go.Lib.wpList_append_run _ rfl (.tmp 18) (.tmp 20) 41 41 rfl _ _ rfl rfl _ _ hrun ?_))
        clear hrun
        go_loopw [7, 9] (fun v i ws => ∃ k : Nat, k ≤ rs.length ∧ i = .int .i64 k ∧ Only (fun _ => False) w ws ∧ ws.ownsRow w.heap.size 47 5 v (pw m rs t ++ mv m rs t k).length (flatA (pw m rs t ++ mv m rs t k))) (fun _ i _ => rs.length - (intOf i).toNat)
        case atStart => exact ⟨0, Nat.zero_le _, rfl, IN.out.1, by rw [mv, List.append_nil]; exact IN.out.2⟩
        case round =>
          obtain ⟨k, hk, rfl, o, hown⟩ := hrel
          have S := Go.Lib.hid o
          have OV := Go.Lib.hid hown
          clear o hown IN
          by_cases hik : k < rs.length
          · have j1 : ((k : Int) < (rs.length : Int)) = True := eq_true (by omega)
            have WK := Go.Lib.hid (wrap_n (n := k) (by have := H8.out; omega))
            have HK := Go.Lib.hid hik
            have hlen : (pw m rs t ++ mv m rs t k).length ≤ 100000 := by
              have := pw_len m rs H8.out t
              have := mv_len m rs t k
              have := HU.out
              have := HT.out
              have := H8.out
              rw [List.length_append]
              omega
            have HN := Go.Lib.hid hlen
            clear hlen
            have HP := Go.Lib.hid (wrap_p (n := t) (by have := HU.out; have := HT.out; omega) HT0.out)
            have b0 : ((t : Int) == 0) = false := beq_false_of_ne (by have := HT0.out; omega)
            have T0 := Go.Lib.hid (JA.out _ S.out k HK.out (t : Int) (by omega) (by have := HU.out; have := HT.out; omega))
            clear hik
            have wp := HP.out
            go_wp2_with fail
            with_reducible refine T0.out.mono ?_
            rintro e w5 ⟨rfl, o⟩
            have S := Go.Lib.hid (S.out.trans o)
            have OV := Go.Lib.hid (owns_keep OV.out o)
            clear o T0
            have T2 := Go.Lib.hid (JA.out _ S.out k HK.out ((t : Int) - 1) (by have := HT0.out; omega) (by have := HU.out; have := HT.out; omega))
            go_wp2_with fail
            with_reducible refine T2.out.mono ?_
            rintro e w6 ⟨rfl, o⟩
            have S := Go.Lib.hid (S.out.trans o)
            have OV := Go.Lib.hid (owns_keep OV.out o)
            clear o T2 wp
            by_cases e : addr m rs k (t : Int) = addr m rs k ((t : Int) - 1)
            · have GO := Go.Lib.hid (show goes m rs t k = false by have := HT0.out; simp [goes, e]; omega)
              have eb : (addr m rs k (t : Int) == addr m rs k ((t : Int) - 1)) = true := by rw [e]; exact beq_self_eq_true _
              clear e
              have wk := WK.out
              go_wp2_with fail
              clear wk
              go_roundw
              case rel => exact ⟨k + 1, HK.out, by first | (rw [WK.out]; go_num) | go_num, S.out, by rw [show mv m rs t (k + 1) = mv m rs t k from if_neg (by rw [GO.out]; decide)]; exact OV.out⟩
              case measure => first | exact meas WK.out HK.out | exact meas rfl HK.out
            · have GO := Go.Lib.hid (show goes m rs t k = true by simp [goes, e])
              have eb : (addr m rs k (t : Int) == addr m rs k ((t : Int) - 1)) = false := beq_false_of_ne e
              clear e
              have T1 := Go.Lib.hid (JA.out _ S.out k HK.out (t : Int) (by omega) (by have := HU.out; have := HT.out; omega))
              go_wp2_with fail
              with_reducible refine T1.out.mono ?_
              rintro e w9 ⟨rfl, o⟩
              obtain ⟨v', w10, hrun, hown, o6⟩ := app (bytes := 56) (size := 5) Try.underlying41 info47 rfl (by decide) (by decide) (S.out.trans o) (owns_keep OV.out o) (ac5 (moveA m rs t k)) rfl (fun u hu => by simp [ac5] at hu; rcases hu with rfl | rfl | rfl | rfl | rfl <;> rfl) HN.out
              rw [← flatA_snoc, List.append_assoc, show mv m rs t k ++ [moveA m rs t k] = mv m rs t (k + 1) from (if_pos GO.out).symm] at hown
              have hn : (pw m rs t ++ mv m rs t k).length + 1 = (pw m rs t ++ mv m rs t (k + 1)).length := by rw [show mv m rs t (k + 1) = mv m rs t k ++ [moveA m rs t k] from if_pos GO.out, ← List.append_assoc, List.length_append (bs := [_])]; rfl
              rw [hn] at hown
              have OV' := Go.Lib.hid hown
              have S' := Go.Lib.hid o6
              clear o hown o6 hn T1
              have wk := WK.out
              go_wp2_with (first | (at_builtin; refine Go.Lib.wpList_append_run _ rfl (.tmp 44) (.tmp 52) 41 41 rfl _ _ rfl rfl _ _ hrun ?_))
              clear wk
              go_roundw
              case rel => exact ⟨k + 1, HK.out, by first | (rw [WK.out]; go_num) | go_num, S'.out, OV'.out⟩
              case measure => first | exact meas WK.out HK.out | exact meas rfl HK.out
          · have j1 : ((k : Int) < (rs.length : Int)) = False := eq_false (by omega)
            have e : k = rs.length := by omega
            subst e
            have hov := OV.out
            rw [show pw m rs t ++ mv m rs t rs.length = pl m rs (t + 1) from rfl] at hov
            have OX := Go.Lib.hid hov
            have WT := Go.Lib.hid (wrap_n (n := t) (by have := HU.out; have := HT.out; omega))
            clear hov
            have wt := WT.out
            go_wp2_with fail
            clear wt
            go_roundw
            case rel => exact ⟨t + 1, by have := HT.out; omega, by first | (rw [WT.out]; go_num) | go_num, S.out, OX.out⟩
            case measure => first | exact meas WT.out (Nat.lt_succ_of_le HT.out) | exact meas rfl (Nat.lt_succ_of_le HT.out)
      · have k2 : ((0 : Int) < (t : Int)) = False := eq_false (by omega)
        have k2n : (0 < t) = False := eq_false ht0
        have IN := Go.Lib.hid (And.intro R.out (show W1.ownsRow w.heap.size 47 5 u7 (pw m rs t).length (flatA (pw m rs t)) by rw [pw, if_neg ht0]; exact OW.out))
        have HT0 := Go.Lib.hid ht0
        clear ht0 hlt
        go_wp2_with fail
        go_loopw [7, 9] (fun v i ws => ∃ k : Nat, k ≤ rs.length ∧ i = .int .i64 k ∧ Only (fun _ => False) w ws ∧ ws.ownsRow w.heap.size 47 5 v (pw m rs t ++ mv m rs t k).length (flatA (pw m rs t ++ mv m rs t k))) (fun _ i _ => rs.length - (intOf i).toNat)
        case atStart => exact ⟨0, Nat.zero_le _, rfl, IN.out.1, by rw [mv, List.append_nil]; exact IN.out.2⟩
        case round =>
          obtain ⟨k, hk, rfl, o, hown⟩ := hrel
          have S := Go.Lib.hid o
          have OV := Go.Lib.hid hown
          clear o hown IN
          by_cases hik : k < rs.length
          · have j1 : ((k : Int) < (rs.length : Int)) = True := eq_true (by omega)
            have WK := Go.Lib.hid (wrap_n (n := k) (by have := H8.out; omega))
            have HK := Go.Lib.hid hik
            have hlen : (pw m rs t ++ mv m rs t k).length ≤ 100000 := by
              have := pw_len m rs H8.out t
              have := mv_len m rs t k
              have := HU.out
              have := HT.out
              have := H8.out
              rw [List.length_append]
              omega
            have HN := Go.Lib.hid hlen
            clear hlen
            have hz : t = 0 := by have := HT0.out; omega
            have b0 : ((t : Int) == 0) = true := by rw [hz]; rfl
            have GO := Go.Lib.hid (show goes m rs t k = true by simp [goes, hz])
            clear hik hz
            have T1 := Go.Lib.hid (JA.out _ S.out k HK.out (t : Int) (by omega) (by have := HU.out; have := HT.out; omega))
            go_wp2_with fail
            with_reducible refine T1.out.mono ?_
            rintro e w9 ⟨rfl, o⟩
            obtain ⟨v', w10, hrun, hown, o6⟩ := app (bytes := 56) (size := 5) Try.underlying41 info47 rfl (by decide) (by decide) (S.out.trans o) (owns_keep OV.out o) (ac5 (moveA m rs t k)) rfl (fun u hu => by simp [ac5] at hu; rcases hu with rfl | rfl | rfl | rfl | rfl <;> rfl) HN.out
            rw [← flatA_snoc, List.append_assoc, show mv m rs t k ++ [moveA m rs t k] = mv m rs t (k + 1) from (if_pos GO.out).symm] at hown
            have hn : (pw m rs t ++ mv m rs t k).length + 1 = (pw m rs t ++ mv m rs t (k + 1)).length := by rw [show mv m rs t (k + 1) = mv m rs t k ++ [moveA m rs t k] from if_pos GO.out, ← List.append_assoc, List.length_append (bs := [_])]; rfl
            rw [hn] at hown
            have OV' := Go.Lib.hid hown
            have S' := Go.Lib.hid o6
            clear o hown o6 hn T1
            have wk := WK.out
            go_wp2_with (first | (at_builtin; refine Go.Lib.wpList_append_run _ rfl (.tmp 44) (.tmp 52) 41 41 rfl _ _ rfl rfl _ _ hrun ?_))
            clear wk
            go_roundw
            case rel => exact ⟨k + 1, HK.out, by first | (rw [WK.out]; go_num) | go_num, S'.out, OV'.out⟩
            case measure => first | exact meas WK.out HK.out | exact meas rfl HK.out
          · have j1 : ((k : Int) < (rs.length : Int)) = False := eq_false (by omega)
            have e : k = rs.length := by omega
            subst e
            have hov := OV.out
            rw [show pw m rs t ++ mv m rs t rs.length = pl m rs (t + 1) from rfl] at hov
            have OX := Go.Lib.hid hov
            have WT := Go.Lib.hid (wrap_n (n := t) (by have := HU.out; have := HT.out; omega))
            clear hov
            have wt := WT.out
            go_wp2_with fail
            clear wt
            go_roundw
            case rel => exact ⟨t + 1, by have := HT.out; omega, by first | (rw [WT.out]; go_num) | go_num, S.out, OX.out⟩
            case measure => first | exact meas WT.out (Nat.lt_succ_of_le HT.out) | exact meas rfl (Nat.lt_succ_of_le HT.out)
    · have k1 : ((t : Int) ≤ (U : Int)) = False := eq_false (by omega)
      have e : t = U + 1 := by omega
      have OW' := OW.out
      rw [e] at OW'
      have OE := Go.Lib.hid OW'
      clear OW' e
      go_wp2_with fail
      go_ret
      exact ⟨⟨_, rfl, OE.out⟩, R.out⟩
end Go.Proofs.Ytklcanjlkmkmmaa.rmD
