/- sky: the document's turn; the legs as the document's. -/
import Derived.Test.YtmkpdnjdengcfaaSkyQ
import Derived.Deep.AppendLies
namespace Go.Proofs.Ytmkpdnjdengcfaa.skyR
open Go.RowKit Go.Lib Go.Proofs.Ytmkpdnjdengcfaa.kit Go.Proofs.Ytmkpdnjdengcfaa.floA Go.Proofs.Ytmkpdnjdengcfaa.skyA Go.Proofs.Ytmkpdnjdengcfaa.skyB Go.Proofs.Ytmkpdnjdengcfaa.skyC Go.Proofs.Ytmkpdnjdengcfaa.skyD Go.Proofs.Ytmkpdnjdengcfaa.skyE Go.Proofs.Ytmkpdnjdengcfaa.skyF Go.Proofs.Ytmkpdnjdengcfaa.skyG Go.Proofs.Ytmkpdnjdengcfaa.skyH Go.Proofs.Ytmkpdnjdengcfaa.skyI Go.Proofs.Ytmkpdnjdengcfaa.skyO Go.Proofs.Ytmkpdnjdengcfaa.skyP
set_option linter.unusedVariables false
set_option linter.unusedSimpArgs false

/-- Turned by k quarters. -/
def tX (x y : Int) : Nat → Int × Int
  | 0 => (x, y)
  | k + 1 => (-(tX x y k).2, (tX x y k).1)

theorem tX_mid {x y : Int} (hx : Mid x) (hy : Mid y) : ∀ k, Mid (tX x y k).1 ∧ Mid (tX x y k).2
  | 0 => ⟨hx, hy⟩
  | k + 1 => by
    obtain ⟨h1, h2⟩ := tX_mid hx hy k
    exact ⟨by have := h2; simp only [tX]; constructor <;> omega, h1⟩

def qn (q : Int) : Nat := (q % 4).toNat

theorem qn_lt (q : Int) : qn q < 4 := by unfold qn; omega

theorem qn_tmod (q : Int) : (q.tmod 4 < 0 ∧ q.tmod 4 + 4 = (qn q : Int)) ∨ (¬ q.tmod 4 < 0 ∧ q.tmod 4 = (qn q : Int)) := by
  have h := Int.tmod_eq_emod (a := q) (b := 4)
  unfold qn
  split at h <;> omega

set_option maxHeartbeats 800000 in
theorem turn_any (x y q : Int) (hx : Mid x) (hy : Mid y) (w : World) : Calls Try.prog 18 #[pt x y, .int .i64 q] w fun e w' => e = .returned (pt (tX x y (qn q)).1 (tX x y (qn q)).2) ∧ Only (fun _ => False) w w' := by
  have s1 : (w.alloc (.cells #[.int .i64 x, .int .i64 y] 31)).heap.size = w.heap.size + 1 := World.size_alloc _ _
  have b1 : Box ((w.alloc (.cells #[.int .i64 x, .int .i64 y] 31)).alloc (.cells #[.int .i64 0, .int .i64 0] 31)) (w.heap.size + 1) 0 0 31 := by
    have := heap_alloc_new (w.alloc (.cells #[.int .i64 x, .int .i64 y] 31)) (.cells #[.int .i64 0, .int .i64 0] 31)
    rwa [s1] at this
  have HB1 := Lib.hid b1
  have HB0 := Lib.hid (show Box ((w.alloc (.cells #[.int .i64 x, .int .i64 y] 31)).alloc (.cells #[.int .i64 0, .int .i64 0] 31)) w.heap.size x y 31 from (Below.heap_alloc _ _ _ (by simp)).trans (heap_alloc_new w _))
  have O1 := Lib.hid ((((Only.refl (fun _ => False) w).alloc (.cells #[.int .i64 x, .int .i64 y] 31))).alloc (.cells #[.int .i64 0, .int .i64 0] 31))
  have HM := Lib.hid (And.intro hx hy)
  have HQ := Lib.hid (qn_tmod q)
  have HT := Lib.hid (qn_lt q)
  clear b1 s1 hx hy
  go_enter Try.func18, Try.ntmps18
  obtain ⟨N, hN⟩ : ∃ N, N = qn q := ⟨_, rfl⟩
  rw [← hN] at HQ HT ⊢
  clear hN
  have key : ((q.tmod 4 < 0) = True ∧ wrap64 (q.tmod 4 + 4) = (N : Int) ∧ True) ∨ ((q.tmod 4 < 0) = False ∧ q.tmod 4 = (N : Int) ∧ ((N : Int) < 0) = False) := by
    rcases HQ.out with ⟨h1, h2⟩ | ⟨h1, h2⟩
    · exact .inl ⟨eq_true h1, (IntWalk.wrap64_in _ (by have := HT.out; omega)).trans h2, trivial⟩
    · exact .inr ⟨eq_false h1, h2, eq_false (by omega)⟩
  clear HQ
  rcases key with ⟨k1, k2, k3⟩ | ⟨k1, k2, k3⟩
  all_goals
    go_wp2_with fail
    (try rw [k2])
    clear k1 k2 k3
    generalize (w.alloc (.cells #[.int .i64 x, .int .i64 y] 31)).alloc (.cells #[.int .i64 0, .int .i64 0] 31) = W3 at HB1 HB0 O1 ⊢
    generalize hB : w.heap.size = B at HB1 HB0 ⊢
    have HBw := Lib.hid hB
    clear hB
    go_loopw [6] (fun i wr => ∃ k : Nat, k ≤ N ∧ i = .int .i64 k ∧ Box wr B (tX x y k).1 (tX x y k).2 31 ∧ Box wr (B + 1) 0 0 31 ∧ Only (fun _ => False) w wr) (fun i _ => N - (intOf i).toNat)
    case atStart => exact ⟨0, Nat.zero_le _, rfl, HB0.out, HB1.out, O1.out⟩
    case round =>
      obtain ⟨k, hk, rfl, hbx, hb1, o⟩ := hrel
      have O := Lib.hid o
      have BX := Lib.hid hbx
      have BR := Lib.hid hb1
      clear o hbx hb1
      obtain ⟨d0, d1⟩ := BX.out.cells
      by_cases hlt : k < N
      · have k1 : ((k : Int) < (N : Int)) = True := eq_true (by omega)
        have WK := Lib.hid (wrap_succ hlt (by have := HT.out; unfold maxLen; omega))
        obtain ⟨m0, m1⟩ := tX_mid HM.out.1 HM.out.2 k
        have wn : wrap64 (-(tX x y k).2) = -(tX x y k).2 := IntWalk.wrap64_in _ (by have := m1; omega)
        have f0 := free_of (o := 0) BX.out
        have f1 := free_of (o := 1) BX.out
        have BN := Lib.hid (skyE.Box.put BX.out (x' := -(tX x y k).2) (y' := (tX x y k).1))
        have BRN := Lib.hid (show Box ((wr.setCell ⟨B, 0, none⟩ (.int .i64 (-(tX x y k).2))).setCell ⟨B, 1, none⟩ (.int .i64 (tX x y k).1)) (B + 1) 0 0 31 from (heap_other (by omega)).trans ((heap_other (by omega)).trans BR.out))
        have ON := Lib.hid (only_setNew (only_setNew O.out (b := B) (o := 0) (v := .int .i64 (-(tX x y k).2)) (by rw [HBw.out]; omega)) (b := B) (o := 1) (v := .int .i64 (tX x y k).1) (by rw [HBw.out]; omega))
        have hwk := WK.out
        clear m0 m1
        go_wp2_with fail
        clear wn hwk
        go_roundw
        case rel => exact ⟨k + 1, by omega, by rw [WK.out]; go_num, BN.out, BRN.out, ON.out⟩
        case measure => first | exact meas WK.out hlt | exact meas rfl hlt
      · have k1 : ((k : Int) < (N : Int)) = False := eq_false (by omega)
        have e : k = N := by omega
        subst e
        obtain ⟨e0, e1⟩ := BR.out.cells
        have f0 := free_of (o := 0) BR.out
        have f1 := free_of (o := 1) BR.out
        have BN := Lib.hid (skyE.Box.put BR.out (x' := (tX x y k).1) (y' := (tX x y k).2))
        have ON := Lib.hid (only_setNew (only_setNew O.out (b := B + 1) (o := 0) (v := .int .i64 (tX x y k).1) (by rw [HBw.out]; omega)) (b := B + 1) (o := 1) (v := .int .i64 (tX x y k).2) (by rw [HBw.out]; omega))
        go_wp2_with fail
        exact bodyPost_ret (results_cell_row (p := 4) (ty := 31) Try.results18 _ _ (B + 1) 31 _ (0, 0) _ rfl BN.out Try.underlying31 rfl (by kernel_rfl)) rfl ⟨rfl, ON.out⟩
end Go.Proofs.Ytmkpdnjdengcfaa.skyR
