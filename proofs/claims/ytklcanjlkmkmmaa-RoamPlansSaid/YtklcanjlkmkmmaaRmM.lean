/- Roam: how many moves. -/
import Derived.Test.YtklcanjlkmkmmaaRmK
import Derived.Test.YtklcanjlkmkmmaaRmH
namespace Go.Proofs.Ytklcanjlkmkmmaa.rmM
open Go.RowKit Go.Proofs.Ytklcanjlkmkmmaa.kit Go.Proofs.Ytklcanjlkmkmmaa.floA Go.Proofs.Ytklcanjlkmkmmaa.skyA Go.Proofs.Ytklcanjlkmkmmaa.skyB Go.Proofs.Ytklcanjlkmkmmaa.skyC Go.Proofs.Ytklcanjlkmkmmaa.skyD Go.Proofs.Ytklcanjlkmkmmaa.skyE Go.Proofs.Ytklcanjlkmkmmaa.skyF Go.Proofs.Ytklcanjlkmkmmaa.skyG Go.Proofs.Ytklcanjlkmkmmaa.skyH Go.Proofs.Ytklcanjlkmkmmaa.skyI Go.Proofs.Ytklcanjlkmkmmaa.skyK Go.Proofs.Ytklcanjlkmkmmaa.skyO Go.Proofs.Ytklcanjlkmkmmaa.skyP Go.Proofs.Ytklcanjlkmkmmaa.skyQ Go.Proofs.Ytklcanjlkmkmmaa.skyT Go.Proofs.Ytklcanjlkmkmmaa.rmA Go.Proofs.Ytklcanjlkmkmmaa.rmB Go.Proofs.Ytklcanjlkmkmmaa.rmC Go.Proofs.Ytklcanjlkmkmmaa.rmD Go.Proofs.Ytklcanjlkmkmmaa.rmE Go.Proofs.Ytklcanjlkmkmmaa.rmG Go.Proofs.Ytklcanjlkmkmmaa.rmH Go.Proofs.Ytklcanjlkmkmmaa.rmI Go.Proofs.Ytklcanjlkmkmmaa.rmJ Go.Proofs.Ytklcanjlkmkmmaa.rmL Go.Proofs.Ytklcanjlkmkmmaa.rmK
set_option linter.unusedVariables false
set_option linter.unusedSimpArgs false

def aa (l : List Ac) (k : Nat) : Ac := l.getD k default

theorem flatA_get (l : List Ac) : ∀ (k j : Nat), k < l.length → j < 5 → (flatA l)[k * 5 + j]? = (ac5 (aa l k))[j]? := by
  induction l with
  | nil => intro k j h; cases h
  | cons x l ih =>
    intro k j h hj
    rw [flatA, List.flatMap_cons]
    have e5 : (ac5 x).length = 5 := rfl
    cases k with
    | zero =>
      rw [List.getElem?_append_left (by omega)]
      simp [aa]
    | succ k =>
      rw [List.getElem?_append_right (by omega), e5, show (k + 1) * 5 + j - 5 = k * 5 + j by omega]
      have := ih k j (by simpa using h) hj
      rw [flatA] at this
      rw [this]
      simp [aa]

theorem row_cells {w : World} {base g n cap : Nat} {l : List Ac} (h : w.ownsRow base 45 5 (.slice (some ⟨g, 0, none⟩) n cap) l.length (flatA l)) {k : Nat} (hk : k < l.length) :
    w.cell? ⟨g, k * 5, none⟩ = some (.int .i64 (aa l k).k) ∧ w.cell? ⟨g, k * 5 + 1, none⟩ = some (.int .i64 (aa l k).a) ∧ w.cell? ⟨g, k * 5 + 2, none⟩ = some (.int .i64 (aa l k).n) ∧ w.cell? ⟨g, k * 5 + 3, none⟩ = some (.int .i64 (aa l k).f) ∧ w.cell? ⟨g, k * 5 + 4, none⟩ = some (.slice none 0 0) := by
  have c := fun j u (hj : j < 5) (e : (ac5 (aa l k))[j]? = some u) => h.cells (g := g) rfl (k * 5 + j) u ((flatA_get l k j hk hj).trans e)
  refine ⟨?_, ?_, ?_, ?_, ?_⟩
  · have := c 0 _ (by decide) rfl
    rw [Addr.add_lit, Nat.zero_add] at this
    exact this
  · have := c 1 _ (by decide) rfl
    rw [Addr.add_lit, Nat.zero_add] at this
    exact this
  · have := c 2 _ (by decide) rfl
    rw [Addr.add_lit, Nat.zero_add] at this
    exact this
  · have := c 3 _ (by decide) rfl
    rw [Addr.add_lit, Nat.zero_add] at this
    exact this
  · have := c 4 _ (by decide) rfl
    rw [Addr.add_lit, Nat.zero_add] at this
    exact this

/-- How many of the first k are moves. -/
def mvc (l : List Ac) : Nat → Nat
  | 0 => 0
  | k + 1 => if (aa l k).k = 6 then mvc l k + 1 else mvc l k

theorem mvc_le (l : List Ac) : ∀ k, mvc l k ≤ k
  | 0 => Nat.le_refl _
  | k + 1 => by
    have := mvc_le l k
    simp only [mvc]
    split <;> omega

theorem mv0_len (m : List (Int × Int)) (rs : List Rt) : ∀ i, (mv m rs 0 i).length = i
  | 0 => rfl
  | i + 1 => by
    rw [mv_goes (goes_zero m rs i), List.length_append, mv0_len m rs i]
    rfl

theorem pl_pos (m : List (Int × Int)) (rs : List Rt) (h : 1 ≤ rs.length) : ∀ t, 0 < (pl m rs (t + 1)).length
  | 0 => by
    have e : pl m rs (0 + 1) = mv m rs 0 rs.length := by simp [pl]
    rw [e, mv0_len]
    omega
  | t + 1 => by
    have := pl_pos m rs h t
    show 0 < ((if 0 < t + 1 then pl m rs (t + 1) ++ [waitA] else pl m rs (t + 1)) ++ mv m rs (t + 1) rs.length).length
    rw [if_pos (Nat.succ_pos t), List.length_append, List.length_append]
    omega

/-- A block holds an act. -/
def BoxA (w : World) (B : Nat) (x : Ac) : Prop := w.heap[B]? = some (.cells #[.int .i64 x.k, .int .i64 x.a, .int .i64 x.n, .int .i64 x.f, .slice none 0 0] 45 (0, 0))

theorem BoxA.cells {w : World} {B : Nat} {x : Ac} (h : BoxA w B x) : w.cell? ⟨B, 0, none⟩ = some (.int .i64 x.k) := cell_of h

set_option maxHeartbeats 800000 in
theorem moves_bad (ma : Option Addr) (mcap : Nat) (m : List (Int × Int)) (ra : Option Addr) (rcap : Nat) (rs : List Rt) (U code : Int) (w : World)
    (hp : ∀ W1, Only (fun _ => False) w W1 → Calls Try.prog 8 #[jn ma m.length mcap ra rs.length rcap, .int .i64 U] W1 fun e w' => e = .returned (.tuple #[.slice none 0 0, .int .i64 code]) ∧ Only (fun _ => False) W1 w') :
    Calls Try.prog 9 #[jn ma m.length mcap ra rs.length rcap, .int .i64 U] w fun e w' => e = .returned (.tuple #[.int .i64 0, .int .i64 code]) ∧ Only (fun _ => False) w w' := by
  have o1 : Only (fun _ => False) w (w.alloc (.cells #[.slice ma m.length mcap, .slice ra rs.length rcap] 25)) := (Only.refl _ w).alloc _
  have HB := Lib.hid (show BoxJ (w.alloc (.cells #[.slice ma m.length mcap, .slice ra rs.length rcap] 25)) w.heap.size (.slice ma m.length mcap) (.slice ra rs.length rcap) from heap_alloc_new w _)
  have PC := Lib.hid (hp _ o1)
  have O1 := Lib.hid o1
  clear hp o1
  obtain ⟨c0, c1⟩ := HB.out.cells
  go_enter Try.func9, Try.ntmps9
  go_wp2_with fail
  generalize w.alloc (.cells #[.slice ma m.length mcap, .slice ra rs.length rcap] 25) = W1 at PC O1 HB c0 c1 ⊢
  generalize w.heap.size = B at HB c0 c1 ⊢
  with_reducible refine PC.out.mono ?_
  rintro e w2 ⟨rfl, o⟩
  have O := Lib.hid o
  clear o PC c0 c1
  go_wp2_with fail
  go_loopw [8, 19] (fun n i wr => n = .int .i64 0 ∧ i = .int .i64 0 ∧ Only (fun _ => False) W1 wr) (fun _ i _ => 0)
  case atStart => exact ⟨rfl, rfl, O.out⟩
  case round =>
    obtain ⟨rfl, rfl, o⟩ := hrel
    have R := Lib.hid o
    clear o
    go_wp2_with fail
    exact bodyPost_ret (v := .tuple #[.int .i64 0, .int .i64 code]) (by simp [results, Try.results9, go_sem]) rfl ⟨rfl, O1.out.trans R.out⟩

set_option maxHeartbeats 800000 in
theorem moves_good (ma : Option Addr) (mcap : Nat) (m : List (Int × Int)) (ra : Option Addr) (rcap : Nat) (rs : List Rt) (U : Nat) (w : World) (hm : Pts w ma m) (hml : m.length ≤ 1000) (hr : Rts w ra rs) (hrl : rs.length ≤ 1000) (hll : ∀ k, k < rs.length → (rr rs k).l.length ≤ 1000) (hj : jOk m rs = true) (hU : U ≤ 1000) :
    Calls Try.prog 9 #[jn ma m.length mcap ra rs.length rcap, .int .i64 U] w fun e w' => e = .returned (.tuple #[.int .i64 (mvc (pl m rs (U + 1)) (pl m rs (U + 1)).length), .int .i64 0]) ∧ Only (fun _ => False) w w' := by
  have o1 : Only (fun _ => False) w (w.alloc (.cells #[.slice ma m.length mcap, .slice ra rs.length rcap] 25)) := (Only.refl _ w).alloc _
  have HB := Lib.hid (show BoxJ (w.alloc (.cells #[.slice ma m.length mcap, .slice ra rs.length rcap] 25)) w.heap.size (.slice ma m.length mcap) (.slice ra rs.length rcap) from heap_alloc_new w _)
  have PC := Lib.hid (plan_good ma mcap m ra rcap rs U _ (hm.keep o1) hml (hr.keep o1) hrl hll hj hU)
  have O1 := Lib.hid o1
  have LP := Lib.hid (pl_pos m rs (jOk_parts hj).2.2.1 U)
  have LL := Lib.hid (Nat.le_trans (pl_len m rs (jOk_parts hj).2.2.2 (U + 1)) (by omega : 9 * (U + 1) ≤ 10000))
  clear hm hml hr hrl hll o1 hj hU
  obtain ⟨c0, c1⟩ := HB.out.cells
  generalize pl m rs (U + 1) = L at PC LP LL ⊢
  go_enter Try.func9, Try.ntmps9
  go_wp2_with fail
  generalize w.alloc (.cells #[.slice ma m.length mcap, .slice ra rs.length rcap] 25) = W1 at PC O1 HB c0 c1 ⊢
  generalize w.heap.size = B at HB c0 c1 ⊢
  with_reducible refine PC.out.mono ?_
  rintro e w2 ⟨⟨v, rfl, own⟩, o⟩
  obtain ⟨g, cap, rfl, _, _⟩ := own.form LP.out
  have O := Lib.hid o
  have OW := Lib.hid own
  clear o own PC c0 c1
  go_wp2_with fail
  go_loopw [8, 19] (fun n i wr => ∃ k : Nat, k ≤ L.length ∧ i = .int .i64 k ∧ n = .int .i64 (mvc L k) ∧ Only (fun _ => False) w2 wr) (fun _ i _ => L.length - (intOf i).toNat)
  case atStart => exact ⟨0, Nat.zero_le _, rfl, rfl, Only.refl _ _⟩
  case round =>
    obtain ⟨k, hk, rfl, rfl, o⟩ := hrel
    have R := Lib.hid o
    clear o
    by_cases hlt : k < L.length
    · have k1 : ((k : Int) < (L.length : Int)) = True := eq_true (by omega)
      have k1n : ((k : Int) < (L.length : Int)) := by omega
      have k0n : (0 : Int) ≤ (k : Int) := by omega
      have WK := Lib.hid (wrap_succ hlt (by have := LL.out; unfold maxLen; omega))
      have WM := Lib.hid (show wrap64 ((mvc L k : Int) + 1) = ((mvc L k + 1 : Nat) : Int) from (IntWalk.wrap64_in _ (by have := mvc_le L k; have := LL.out; omega)).trans (by omega))
      obtain ⟨d0, d1, d2, d3, d4⟩ := row_cells (owns_keep OW.out R.out) hlt
      have BX := Lib.hid (show BoxA (wr.alloc (.cells #[.int .i64 (aa L k).k, .int .i64 (aa L k).a, .int .i64 (aa L k).n, .int .i64 (aa L k).f, .slice none 0 0] 45)) wr.heap.size (aa L k) from heap_alloc_new wr _)
      have R2 := Lib.hid (R.out.alloc (.cells #[.int .i64 (aa L k).k, .int .i64 (aa L k).a, .int .i64 (aa L k).n, .int .i64 (aa L k).f, .slice none 0 0] 45))
      have HLT := Lib.hid hlt
      clear hlt hk
      have x0 := BX.out.cells
      have wk := WK.out
      have wm := WM.out
      by_cases h6 : (aa L k).k = 6
      · have b6 : ((aa L k).k == 6) = true := by rw [h6]; rfl
        have HC := Lib.hid (show mvc L (k + 1) = mvc L k + 1 from if_pos h6)
        clear h6
        go_wp2_with fail
        clear wk wm
        go_roundw
        case rel => exact ⟨k + 1, HLT.out, by first | (rw [WK.out]; go_num) | go_num, by first | (rw [WM.out, HC.out]) | rw [HC.out], R2.out⟩
        case measure => first | exact meas WK.out HLT.out | exact meas rfl HLT.out
      · have b6 : ((aa L k).k == 6) = false := beq_false_of_ne h6
        have HC := Lib.hid (show mvc L (k + 1) = mvc L k from if_neg h6)
        clear h6
        go_wp2_with fail
        clear wk wm
        go_roundw
        case rel => exact ⟨k + 1, HLT.out, by first | (rw [WK.out]; go_num) | go_num, by rw [HC.out], R2.out⟩
        case measure => first | exact meas WK.out HLT.out | exact meas rfl HLT.out
    · have k1 : ((k : Int) < (L.length : Int)) = False := eq_false (by omega)
      have e : k = L.length := by omega
      subst e
      go_wp2_with fail
      exact bodyPost_ret (v := .tuple #[.int .i64 (mvc L L.length), .int .i64 0]) (by simp [results, Try.results9, go_sem]) rfl ⟨rfl, O1.out.trans (O.out.trans R.out)⟩
end Go.Proofs.Ytklcanjlkmkmmaa.rmM
