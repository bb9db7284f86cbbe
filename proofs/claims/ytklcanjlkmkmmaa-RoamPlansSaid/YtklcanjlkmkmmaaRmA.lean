/- Roam: journeys. -/
import Derived.Test.YtklcanjlkmkmmaaSkyK
import Derived.Test.YtklcanjlkmkmmaaSkyT
import Derived.Test.YtklcanjlkmkmmaaSkyX
namespace Go.Proofs.Ytklcanjlkmkmmaa.rmA
open Go.RowKit Go.Lib Go.Proofs.Ytklcanjlkmkmmaa.kit Go.Proofs.Ytklcanjlkmkmmaa.floA Go.Proofs.Ytklcanjlkmkmmaa.skyA Go.Proofs.Ytklcanjlkmkmmaa.skyB Go.Proofs.Ytklcanjlkmkmmaa.skyC Go.Proofs.Ytklcanjlkmkmmaa.skyD Go.Proofs.Ytklcanjlkmkmmaa.skyE Go.Proofs.Ytklcanjlkmkmmaa.skyF Go.Proofs.Ytklcanjlkmkmmaa.skyG Go.Proofs.Ytklcanjlkmkmmaa.skyH Go.Proofs.Ytklcanjlkmkmmaa.skyI Go.Proofs.Ytklcanjlkmkmmaa.skyK Go.Proofs.Ytklcanjlkmkmmaa.skyO Go.Proofs.Ytklcanjlkmkmmaa.skyP Go.Proofs.Ytklcanjlkmkmmaa.skyQ
set_option linter.unusedVariables false
set_option linter.unusedSimpArgs false

/-- A route as it lies: its start, and where its legs lie. -/
structure Rt where
  x : Int
  y : Int
  a : Option Addr
  cap : Nat
  l : List Leg3
deriving Inhabited

abbrev nor : Rt := ⟨0, 0, none, 0, []⟩
def rr (rs : List Rt) (k : Nat) : Rt := rs.getD k nor

/-- A slice of routes: its cells. -/
def Rts (w : World) (a : Option Addr) (rs : List Rt) : Prop :=
  rs.length ≤ maxLen ∧ (rs.length = 0 ∨ ∃ b o, a = some ⟨b, o, none⟩ ∧ b < w.heap.size ∧ ∀ i, i < rs.length → w.cell? ⟨b, o + i * 3, none⟩ = some (.int .i64 (rr rs i).x) ∧ w.cell? ⟨b, o + i * 3 + 1, none⟩ = some (.int .i64 (rr rs i).y) ∧ w.cell? ⟨b, o + i * 3 + 2, none⟩ = some (.slice (rr rs i).a (rr rs i).l.length (rr rs i).cap) ∧ Lgs w (rr rs i).a (rr rs i).l)

theorem Rts.keep {w w' : World} {a : Option Addr} {rs : List Rt} (h : Rts w a rs) (o : Only (fun _ => False) w w') : Rts w' a rs := by
  refine ⟨h.1, ?_⟩
  rcases h.2 with h0 | ⟨b, off, rfl, hb, hc⟩
  · exact .inl h0
  · refine .inr ⟨b, off, rfl, Nat.lt_of_lt_of_le hb o.size, fun i hi => ?_⟩
    have e := o.block b hb id
    obtain ⟨c0, c1, c2, hl⟩ := hc i hi
    exact ⟨(World.cell?_of_block (a := ⟨b, _, none⟩) e).trans c0, (World.cell?_of_block (a := ⟨b, _, none⟩) e).trans c1, (World.cell?_of_block (a := ⟨b, _, none⟩) e).trans c2, hl.keep o⟩

theorem Rts.at {w : World} {a : Option Addr} {rs : List Rt} (h : Rts w a rs) {k : Nat} (hk : k < rs.length) : ∃ b o, a = some ⟨b, o, none⟩ ∧ b < w.heap.size ∧ w.cell? ⟨b, o + k * 3, none⟩ = some (.int .i64 (rr rs k).x) ∧ w.cell? ⟨b, o + k * 3 + 1, none⟩ = some (.int .i64 (rr rs k).y) ∧ w.cell? ⟨b, o + k * 3 + 2, none⟩ = some (.slice (rr rs k).a (rr rs k).l.length (rr rs k).cap) ∧ Lgs w (rr rs k).a (rr rs k).l := by
  rcases h.2 with h0 | ⟨b, off, rfl, hb, hc⟩
  · omega
  · obtain ⟨c0, c1, c2, hl⟩ := hc k hk
    exact ⟨b, off, rfl, hb, c0, c1, c2, hl⟩

/-- The first k routes may be. -/
def rtsOk (rs : List Rt) : Nat → Bool
  | 0 => true
  | k + 1 => rtsOk rs k && routeOk (rr rs k).x (rr rs k).y (rr rs k).l

/-- A journey may be. -/
def jOk (m : List (Int × Int)) (rs : List Rt) : Bool := good m && (rtsOk rs rs.length && (decide ((1 : Int) ≤ rs.length) && decide ((rs.length : Int) ≤ 8)))

theorem rtsOk_le {rs : List Rt} {k n : Nat} (h : rtsOk rs n = true) (hk : k ≤ n) : rtsOk rs k = true := by
  induction hk with
  | refl => exact h
  | step _ ih => exact ih (by simp [rtsOk] at h; exact h.1)

theorem rtsOk_false {rs : List Rt} {k n : Nat} (h : rtsOk rs k = false) (hk : k ≤ n) : rtsOk rs n = false := by
  cases q : rtsOk rs n
  · rfl
  · rw [rtsOk_le q hk] at h; exact h

theorem route_of {rs : List Rt} {n k : Nat} (h : rtsOk rs n = true) (hk : k < n) : routeOk (rr rs k).x (rr rs k).y (rr rs k).l = true := by
  have := rtsOk_le h (k := k + 1) (by omega)
  simp [rtsOk] at this
  exact this.2

/-- A block holds a journey. -/
def BoxJ (w : World) (B : Nat) (u v : Value) : Prop := w.heap[B]? = some (.cells #[u, v] 25 (0, 0))

theorem BoxJ.cells {w : World} {B : Nat} {u v : Value} (h : BoxJ w B u v) : w.cell? ⟨B, 0, none⟩ = some u ∧ w.cell? ⟨B, 1, none⟩ = some v := ⟨cell_of h, cell_of h⟩

theorem BoxJ.keep {w w' : World} {B : Nat} {u v : Value} (h : BoxJ w B u v) (o : Only (fun _ => False) w w') : BoxJ w' B u v := o.keep h id

theorem address_good (h n : Int) (h0 : 0 ≤ h ∧ h < 8) (n0 : 0 ≤ n ∧ n < 64) (w : World) : Calls Try.prog 15 #[.int .i64 h, .int .i64 n] w fun e w' => e = .returned (.tuple #[.int .i64 (8 * n + h + 1), .int .i64 0]) ∧ w' = w := by
  have t1 : (h < 0) = False := eq_false (by omega)
  have t2 : (8 ≤ h) = False := eq_false (by omega)
  have t3 : (n < 0) = False := eq_false (by omega)
  have t4 : (64 ≤ n) = False := eq_false (by omega)
  have w1 : wrap64 (8 * n) = 8 * n := IntWalk.wrap64_in _ (by omega)
  have w2 : wrap64 (8 * n + h) = 8 * n + h := IntWalk.wrap64_in _ (by omega)
  have w3 : wrap64 (8 * n + h + 1) = 8 * n + h + 1 := IntWalk.wrap64_in _ (by omega)
  clear h0 n0
  go_enter Try.func15, Try.ntmps15
  go_wp2_with fail
  exact bodyPost_ret (v := .tuple #[.int .i64 (8 * n + h + 1), .int .i64 0]) (by simp [results, Try.results15, go_sem, w1, w2, w3]) rfl ⟨rfl, rfl⟩

theorem inP_zero : inP 16777216 0 0 = true := by decide

abbrev jn (ma : Option Addr) (mn mcap : Nat) (ra : Option Addr) (rn rcap : Nat) : Value := .agg #[.slice ma mn mcap, .slice ra rn rcap]

set_option maxHeartbeats 800000 in
theorem jright_any (ma : Option Addr) (mcap : Nat) (m : List (Int × Int)) (ra : Option Addr) (rcap : Nat) (rs : List Rt) (w : World) (hm : Pts w ma m) (hml : m.length ≤ 1000) (hr : Rts w ra rs) (hrl : rs.length ≤ 1000) (hll : ∀ k, k < rs.length → (rr rs k).l.length ≤ 1000) :
    Calls Try.prog 11 #[jn ma m.length mcap ra rs.length rcap] w fun e w' => e = .returned (.bool (jOk m rs)) ∧ Only (fun _ => False) w w' := by
  have o1 : Only (fun _ => False) w (w.alloc (.cells #[.slice ma m.length mcap, .slice ra rs.length rcap] 25)) := (Only.refl _ w).alloc _
  have HB := Lib.hid (show BoxJ (w.alloc (.cells #[.slice ma m.length mcap, .slice ra rs.length rcap] 25)) w.heap.size (.slice ma m.length mcap) (.slice ra rs.length rcap) from heap_alloc_new w _)
  have HR := Lib.hid (hr.keep o1)
  have HG := Lib.hid (fun hg => nearest_good ma mcap m 0 0 _ (hm.keep o1) hg inP_zero)
  have HBd := Lib.hid (fun hg => nearest_bad ma mcap m 0 0 _ (hm.keep o1) hml (.inl hg))
  have HL := Lib.hid hrl
  have HLL := Lib.hid hll
  have O1 := Lib.hid o1
  clear hm hml hr hrl hll o1
  go_enter Try.func11, Try.ntmps11
  go_wp2_with fail
  generalize w.alloc (.cells #[.slice ma m.length mcap, .slice ra rs.length rcap] 25) = W1 at HB HR HG HBd O1 ⊢
  generalize w.heap.size = B at HB ⊢
  cases hg : good m
  · with_reducible refine (HBd.out hg).mono ?_
    rintro e w2 ⟨rfl, o⟩
    have O := Lib.hid o
    clear o
    go_wp2_with fail
    go_ret
    exact ⟨by simp [jOk, hg], O1.out.trans O.out⟩
  with_reducible refine (HG.out hg).mono ?_
  rintro e w2 ⟨rfl, o⟩
  have O := Lib.hid o
  obtain ⟨c0, c1⟩ := (HB.out.keep o).cells
  clear o
  go_wp2_with fail
  clear c0 c1
  go_loopw [19] (fun i wr => ∃ k : Nat, k ≤ rs.length ∧ i = .int .i64 k ∧ rtsOk rs k = true ∧ Only (fun _ => False) W1 wr) (fun i _ => rs.length - (intOf i).toNat)
  case atStart => exact ⟨0, Nat.zero_le _, rfl, rfl, O.out⟩
  case round =>
    obtain ⟨k, hk, rfl, hok, o⟩ := hrel
    have R := Lib.hid o
    have OK := Lib.hid hok
    clear o hok
    obtain ⟨c0, c1⟩ := (HB.out.keep R.out).cells
    by_cases hlt : k < rs.length
    · have k1 : ((k : Int) < (rs.length : Int)) = True := eq_true (by omega)
      have k1n : ((k : Int) < (rs.length : Int)) := by omega
      have WK := Lib.hid (wrap_succ hlt (by have := HL.out; unfold maxLen; omega))
      obtain ⟨b, off, rfl, hb, d0, d1, d2, hl⟩ := (HR.out.keep R.out).at hlt
      have oal : Only (fun _ => False) wr (wr.alloc (.cells #[.int .i64 (rr rs k).x, .int .i64 (rr rs k).y, .slice (rr rs k).a (rr rs k).l.length (rr rs k).cap] 53)) := (Only.refl _ wr).alloc _
      have RA := Lib.hid (routeright_any (rr rs k).x (rr rs k).y (rr rs k).a (rr rs k).cap (rr rs k).l _ (hl.keep oal) (HLL.out k hlt))
      have R2 := Lib.hid (R.out.trans oal)
      have HLT := Lib.hid hlt
      clear hl oal hb hlt
      go_wp2_with fail
      with_reducible refine RA.out.mono ?_
      rintro e w5 ⟨rfl, o⟩
      have R5 := Lib.hid (R2.out.trans o)
      clear o d0 d1 d2 RA
      cases hr : routeOk (rr rs k).x (rr rs k).y (rr rs k).l
      · go_wp2_with fail
        go_ret
        refine ⟨?_, O1.out.trans R5.out⟩
        have : rtsOk rs rs.length = false := rtsOk_false (k := k + 1) (by simp [rtsOk, hr]) HLT.out
        simp [jOk, this]
      · have wk := WK.out
        go_wp2_with fail
        clear wk
        go_roundw
        case rel => exact ⟨k + 1, HLT.out, by first | (rw [WK.out]; go_num) | go_num, by simp [rtsOk, hr, OK.out], R5.out⟩
        case measure => first | exact meas WK.out HLT.out | exact meas rfl HLT.out
    · have k1 : ((k : Int) < (rs.length : Int)) = False := eq_false (by omega)
      have e : k = rs.length := by omega
      subst e
      have hok := OK.out
      by_cases g1 : 1 ≤ rs.length
      · have t1 : ((1 : Int) ≤ (rs.length : Int)) = True := eq_true (by omega)
        go_wp2_with fail
        go_ret
        exact ⟨by simp [jOk, hg, hok, t1], O1.out.trans R.out⟩
      · have t1 : ((1 : Int) ≤ (rs.length : Int)) = False := eq_false (by omega)
        go_wp2_with fail
        go_ret
        exact ⟨by simp [jOk, hg, hok, t1], O1.out.trans R.out⟩
end Go.Proofs.Ytklcanjlkmkmmaa.rmA
