/- Loops of sky: Masts. -/
import Derived.Test.YtklcanjlkmkmmaaSkyA
import Derived.Test.YtklcanjlkmkmmaaKit2
import Derived.LoopTactic
namespace Go.Proofs.Ytklcanjlkmkmmaa.skyB
open Go.RowKit Go.Lib Go.Proofs.Ytklcanjlkmkmmaa.kit Go.Proofs.Ytklcanjlkmkmmaa.floA Go.Proofs.Ytklcanjlkmkmmaa.skyA
set_option linter.unusedVariables false
set_option linter.unusedSimpArgs false

/-- A slice of points: its cells. -/
def Pts (w : World) (a : Option Addr) (l : List (Int × Int)) : Prop :=
  l.length ≤ maxLen ∧ (l.length = 0 ∨ ∃ b o, a = some ⟨b, o, none⟩ ∧ b < w.heap.size ∧ ∀ i, i < l.length → w.cell? ⟨b, o + i * 2, none⟩ = some (.int .i64 (l.getD i (0, 0)).1) ∧ w.cell? ⟨b, o + i * 2 + 1, none⟩ = some (.int .i64 (l.getD i (0, 0)).2))

theorem Pts.keep {w w' : World} {a : Option Addr} {l : List (Int × Int)} (h : Pts w a l) (o : Only (fun _ => False) w w') : Pts w' a l := by
  refine ⟨h.1, ?_⟩
  rcases h.2 with h0 | ⟨b, off, rfl, hb, hc⟩
  · exact .inl h0
  · refine .inr ⟨b, off, rfl, Nat.lt_of_lt_of_le hb o.size, fun i hi => ?_⟩
    have e := o.block b hb id
    exact ⟨(World.cell?_of_block (a := ⟨b, _, none⟩) e).trans (hc i hi).1, (World.cell?_of_block (a := ⟨b, _, none⟩) e).trans (hc i hi).2⟩

def px (l : List (Int × Int)) (k : Nat) : Int := (l.getD k (0, 0)).1
def py (l : List (Int × Int)) (k : Nat) : Int := (l.getD k (0, 0)).2

theorem Pts.at {w : World} {a : Option Addr} {l : List (Int × Int)} (h : Pts w a l) {k : Nat} (hk : k < l.length) : ∃ b o, a = some ⟨b, o, none⟩ ∧ b < w.heap.size ∧ w.cell? ⟨b, o + k * 2, none⟩ = some (.int .i64 (px l k)) ∧ w.cell? ⟨b, o + k * 2 + 1, none⟩ = some (.int .i64 (py l k)) := by
  rcases h.2 with h0 | ⟨b, off, rfl, hb, hc⟩
  · omega
  · exact ⟨b, off, rfl, hb, (hc k hk).1, (hc k hk).2⟩

/-- The first k points are right. -/
def okTo (l : List (Int × Int)) : Nat → Bool
  | 0 => true
  | k + 1 => okTo l k && inP 16777216 (px l k) (py l k)

/-- All are right. -/
def ok (l : List (Int × Int)) : Bool := okTo l l.length

/-- Masts may be so. -/
def good (l : List (Int × Int)) : Bool := ok l && (decide ((1 : Int) ≤ l.length) && decide ((l.length : Int) ≤ 64))

theorem okTo_le {l : List (Int × Int)} {k n : Nat} (h : okTo l n = true) (hk : k ≤ n) : okTo l k = true := by
  induction hk with
  | refl => exact h
  | step _ ih => exact ih (by simp [okTo] at h; exact h.1)

theorem okTo_false {l : List (Int × Int)} {k n : Nat} (h : okTo l k = false) (hk : k ≤ n) : okTo l n = false := by
  cases q : okTo l n
  · rfl
  · rw [okTo_le q hk] at h; exact h

theorem meas {n k : Nat} {x : Int} (hx : x = (k : Int) + 1) (h : k < n) : n - (intOf (.int .i64 x)).toNat < n - (intOf (.int .i64 (k : Int))).toNat := by
  subst hx
  simp [intOf]
  omega

theorem wrap_succ {k n : Nat} (h : k < n) (hn : n ≤ maxLen) : wrap64 ((k : Int) + 1) = (k : Int) + 1 := IntWalk.wrap64_in _ (by simp [maxLen] at hn; omega)

theorem masts_any (a : Option Addr) (cap : Nat) (l : List (Int × Int)) (w : World) (h : Pts w a l) : Calls Try.prog 17 #[.slice a l.length cap] w fun e w' => e = .returned (.bool (good l)) ∧ Only (fun _ => False) w w' := by
  have H := Lib.hid refright_any
  have HM := Lib.hid h.1
  have HP := Lib.hid h
  clear h
  go_enter Try.func17, Try.ntmps17
  go_wp2_with fail
  go_loopw [3] (fun i wr => ∃ k : Nat, k ≤ l.length ∧ i = .int .i64 k ∧ Only (fun _ => False) w wr ∧ okTo l k = true) (fun i _ => l.length - (intOf i).toNat)
  case atStart => exact ⟨0, Nat.zero_le _, rfl, Only.refl _ w, rfl⟩
  case round =>
    obtain ⟨k, hk, rfl, o, hok⟩ := hrel
    have O := Lib.hid o
    have OK := Lib.hid hok
    clear o hok
    by_cases hlt : k < l.length
    · have k1 : ((k : Int) < (l.length : Int)) = True := eq_true (by omega)
      have k1n : ((k : Int) < (l.length : Int)) := by omega
      have wk : wrap64 ((k : Int) + 1) = (k : Int) + 1 := wrap_succ hlt HM.out
      obtain ⟨b, off, rfl, hb, c0, c1⟩ := (HP.out.keep O.out).at hlt
      go_wp2_with fail
      with_reducible refine (H.out _ _ _).mono ?_
      rintro e w5 ⟨rfl, o⟩
      have O5 := Lib.hid (O.out.trans o)
      clear o c0 c1
      cases hr : inP 16777216 (px l k) (py l k)
      · go_wp2_with fail
        go_ret
        refine ⟨?_, O5.out⟩
        have : ok l = false := okTo_false (k := k + 1) (by simp [okTo, hr]) (by omega)
        rw [good, this]
        rfl
      · go_wp2_with fail
        go_roundw
        case rel => exact ⟨k + 1, by omega, by go_num, O5.out, by simp [okTo, hr, OK.out]⟩
        case measure => exact meas wk hlt
    · have k1 : ((k : Int) < (l.length : Int)) = False := eq_false (by omega)
      have e : k = l.length := by omega
      subst e
      go_wp2_with fail
      all_goals
        go_ret
        refine ⟨?_, O.out⟩
        have := OK.out
        first | (simp [good, ok, this, *]; done) | (simp [good, ok, this, *]; intros; omega)
end Go.Proofs.Ytklcanjlkmkmmaa.skyB
