/- SkyChanges' walk, whole. -/
import Derived.Test.YtmkpdnjdengcfaaSkyZb
import Derived.Test.YtmkpdnjdengcfaaSkyY
namespace Go.Proofs.Ytmkpdnjdengcfaa.skyZd
open Go.RowKit Go.Proofs.Ytmkpdnjdengcfaa.kit Go.Proofs.Ytmkpdnjdengcfaa.skyB Go.Proofs.Ytmkpdnjdengcfaa.skyG Go.Proofs.Ytmkpdnjdengcfaa.skyH Go.Proofs.Ytmkpdnjdengcfaa.skyZa Go.Proofs.Ytmkpdnjdengcfaa.skyZb
set_option linter.unusedVariables false

theorem ch_walk (ma : Option Addr) (mcap : Nat) (m : List (Int × Int)) (x y : Int) (a : Option Addr) (cap : Nat) (l : List Leg3) (U q : Int) (w : World) (hm : Pts w ma m) (hl : Lgs w a l) :
    Calls Try.prog 5 #[.slice ma m.length mcap, rt x y a l.length cap, .int .i64 U, .int .i64 q] w fun e w' => e = .returned (.bool true) ∧ Only (fun _ => False) w w' := by
  by_cases hs : m.length ≤ 20 ∧ l.length ≤ 10
  · by_cases hU : 200 < U ∧ U ≤ 100000
    · exact ch_guard ma mcap m x y a cap l U q w hm hl (.inr (.inr hU))
    · cases hb : good m && routeOk x y l
      · exact ch_bad ma mcap m x y a cap l U q w hm hl hs hU hb
      · rw [Bool.and_eq_true] at hb
        by_cases h : U < 0 ∨ 100000 < U
        · exact ch_arg ma mcap m x y a cap l U q w hm hl hs hb.1 hb.2 h
        · obtain ⟨n, rfl⟩ : ∃ n : Nat, U = (n : Int) := ⟨U.toNat, by omega⟩
          exact ch_good ma mcap m x y a cap l n q w hm hl hs hb.1 hb.2 (by omega)
  · exact ch_guard ma mcap m x y a cap l U q w hm hl (by omega)

theorem ch_all {w : World} (a : Option Addr) (len cap : Nat) (m : List (Int × Int)) (h : len = m.length ∧ Pts w a m) (z : (Int × Int) × (Option Addr × Nat) × List Leg3) (hz : Lgs w z.2.1.1 z.2.2 ∧ z.2.2.length ≤ z.2.1.2) (t : Int) (ht : (Lit.int .i64 t).wf = true) (q : Int) (hq : (Lit.int .i64 q).wf = true) :
    Calls Try.prog 5 #[.slice a len cap, .agg #[.int .i64 z.1.1, .int .i64 z.1.2, .slice z.2.1.1 z.2.2.length z.2.1.2], .int .i64 t, .int .i64 q] w fun e W' => e = .returned (.bool true) ∧ Below w.heap.size w W' := by
  obtain ⟨rfl, h⟩ := h
  exact (ch_walk a cap m z.1.1 z.1.2 z.2.1.1 z.2.1.2 z.2.2 t q w h hz.1).mono fun e W' k => ⟨k.1, k.2.below (fun _ h => h.elim) (Nat.le_refl _)⟩
end Go.Proofs.Ytmkpdnjdengcfaa.skyZd
