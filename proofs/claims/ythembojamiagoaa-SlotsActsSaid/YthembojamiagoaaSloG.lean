/- The slots: Fresh, Usable, Find, Newest of slots with pairs. -/
import Derived.Test.YthembojamiagoaaSloF
namespace Go.Proofs.Ythembojamiagoaa.sloG
open Go.RowKit Go.Lib Go.Proofs.Ythembojamiagoaa.kit Go.Proofs.Ythembojamiagoaa.sloA Go.Proofs.Ythembojamiagoaa.sloB Go.Proofs.Ythembojamiagoaa.sloC Go.Proofs.Ythembojamiagoaa.sloD
set_option linter.unusedVariables false
set_option linter.unusedSimpArgs false

def tm (now : Int) : Bool := decide (0 ≤ now ∧ now ≤ 1125899906842624)
def frs (m now : Int) : Bool := decide (0 ≤ now ∧ now ≤ 1125899906842624 ∧ now - m < 180000)

theorem time_low (now : Int) (w : World) (h : now < 0) : Calls Try.prog 27 #[.int .i64 now] w fun e w' => e = .returned (.bool false) ∧ Only (fun _ => False) w w' := by
  have k1 : (0 ≤ now) = False := eq_false (by omega)
  go_enter Try.func27, Try.ntmps27
  go_wp2
  go_ret
  exact ⟨rfl, by only_close⟩

theorem time_high (now : Int) (w : World) (h : 1125899906842624 < now) : Calls Try.prog 27 #[.int .i64 now] w fun e w' => e = .returned (.bool false) ∧ Only (fun _ => False) w w' := by
  have k1 : (0 ≤ now) = True := eq_true (by omega)
  have k2 : (now ≤ 1125899906842624) = False := eq_false (by omega)
  go_enter Try.func27, Try.ntmps27
  go_wp2
  go_ret
  exact ⟨rfl, by only_close⟩

theorem time_no (now : Int) (h : tm now = false) (w : World) : Calls Try.prog 27 #[.int .i64 now] w fun e w' => e = .returned (.bool false) ∧ Only (fun _ => False) w w' := by
  have : ¬ (0 ≤ now ∧ now ≤ 1125899906842624) := of_decide_eq_false h
  rcases Classical.em (now < 0) with c | c
  · exact time_low now w c
  · exact time_high now w (by omega)

theorem age_any (b : Nat) (l m now : Int) (w : World) (h : PairAt w b l m) (h0 : 0 ≤ m) (h1 : m ≤ 1000000) (n0 : 0 ≤ now) (n1 : now ≤ 1125899906842624) :
    Calls Try.prog 31 #[.pointer (some ⟨b, 0, none⟩), .int .i64 now] w fun e w' => ∃ g : Int, e = .returned (.int .i64 g) ∧ (180000 ≤ g ↔ 180000 ≤ now - m) ∧ Only (fun _ => False) w w' := by
  obtain ⟨c, h⟩ := h
  have c5 : w.cell? ⟨b, 5, none⟩ = some (.int .i64 m) := cell_of h
  have wr : IntKind.i64.wrap (now - m) = now - m := IntWalk.i64_in _ (by omega)
  clear h
  rcases Classical.em (now - m < 0) with g | g
  · have k1 : (now - m < 0) = True := eq_true g
    have G := Lib.hid g
    clear h0 h1 n0 n1 g
    go_enter Try.func31, Try.ntmps31
    go_wp2_with fail
    go_ret
    exact ⟨0, rfl, by have := G.out; omega, by only_close⟩
  · have k1 : (now - m < 0) = False := eq_false g
    have G := Lib.hid g
    clear h0 h1 n0 n1 g
    go_enter Try.func31, Try.ntmps31
    go_wp2_with fail
    go_ret
    exact ⟨now - m, rfl, Iff.rfl, by only_close⟩

theorem old_any (b : Nat) (l m now : Int) (w : World) (h : PairAt w b l m) (h0 : 0 ≤ m) (h1 : m ≤ 1000000) (n0 : 0 ≤ now) (n1 : now ≤ 1125899906842624) (v : Bool) (hv : v = decide (180000 ≤ now - m)) :
    Calls Try.prog 29 #[.pointer (some ⟨b, 0, none⟩), .int .i64 now] w fun e w' => e = .returned (.bool v) ∧ Only (fun _ => False) w w' := by
  have T := Lib.hid (age_any b l m now w h h0 h1 n0 n1)
  clear h h0 h1 n0 n1
  go_enter Try.func29, Try.ntmps29
  go_wp2_with fail
  with_reducible refine T.out.mono ?_
  rintro e w1 ⟨g, rfl, hg, o⟩
  have O := Lib.hid o
  clear o
  cases v
  · have k1 : (180000 ≤ g) = False := eq_false (by have := of_decide_eq_false hv.symm; omega)
    clear hg hv
    go_wp2_with fail
    go_ret
    exact ⟨rfl, O.out⟩
  · have k1 : (180000 ≤ g) = True := eq_true (by have := of_decide_eq_true hv.symm; omega)
    clear hg hv
    go_wp2_with fail
    go_ret
    exact ⟨rfl, O.out⟩

theorem frs_false {m now : Int} (h : tm now = false) : frs m now = false := by
  have : ¬ (0 ≤ now ∧ now ≤ 1125899906842624) := of_decide_eq_false h
  exact decide_eq_false (by omega)

set_option maxRecDepth 100000 in
theorem fresh_is (b : Nat) (l m now : Int) (w : World) (h : PairAt w b l m) (h0 : 0 ≤ m) (h1 : m ≤ 1000000) :
    Calls Try.prog 25 #[.pointer (some ⟨b, 0, none⟩), .int .i64 now] w fun e w' => e = .returned (.bool (frs m now)) ∧ Only (fun _ => False) w w' := by
  cases ht : tm now with
  | false =>
    have T := Lib.hid (time_no now ht)
    rw [frs_false ht]
    clear h h0 h1 ht
    go_enter Try.func25, Try.ntmps25
    go_wp2_with fail
    with_reducible refine (T.out _).mono ?_
    rintro e w1 ⟨rfl, o⟩
    have O := Lib.hid o
    clear o
    go_wp2_with fail
    go_ret
    exact ⟨rfl, O.out⟩
  | true =>
    obtain ⟨n0, n1⟩ : 0 ≤ now ∧ now ≤ 1125899906842624 := of_decide_eq_true ht
    have T := Lib.hid (is_time now w n0 n1)
    have T2 := Lib.hid (fun w' (o : Only (fun _ => False) w w') => old_any b l m now w' (h.keep o) h0 h1 n0 n1 _ rfl)
    obtain ⟨c, hc⟩ := h
    have HC := Lib.hid hc
    cases hv : decide (180000 ≤ now - m) with
    | true =>
      have e1 : frs m now = false := decide_eq_false (by have := of_decide_eq_true hv; omega)
      rw [e1]
      rw [hv] at T2
      clear hc h0 h1 n0 n1 ht hv e1
      go_enter Try.func25, Try.ntmps25
      go_wp2_with fail
      with_reducible refine T.out.mono ?_
      rintro e w1 ⟨rfl, o⟩
      have O := Lib.hid o
      clear o
      go_wp2_with fail
      with_reducible refine (T2.out _ O.out).mono ?_
      rintro e w2 ⟨rfl, o⟩
      have O2 := Lib.hid (O.out.trans o)
      clear o
      go_wp2_with fail
      go_ret
      exact ⟨rfl, O2.out⟩
    | false =>
      have e1 : frs m now = true := decide_eq_true (by have := of_decide_eq_false hv; omega)
      rw [e1]
      rw [hv] at T2
      clear hc h0 h1 n0 n1 ht hv e1
      go_enter Try.func25, Try.ntmps25
      go_wp2_with fail
      with_reducible refine T.out.mono ?_
      rintro e w1 ⟨rfl, o⟩
      have O := Lib.hid o
      clear o
      go_wp2_with fail
      with_reducible refine (T2.out _ O.out).mono ?_
      rintro e w2 ⟨rfl, o⟩
      have O2 := Lib.hid (O.out.trans o)
      have c6 : w2.cell? ⟨b, 6, none⟩ = some (.int .u64 0) := cell_of (O2.out.keep HC.out id)
      clear o
      go_wp2_with fail
      go_ret
      exact ⟨rfl, O2.out⟩

theorem usable_none (S : Nat) (p1 p3 : Option Addr) (now : Int) (w : World) (h : SlotsAt w S p1 none p3) : Calls Try.prog 20 #[.pointer (some ⟨S, 0, none⟩), .int .i64 now] w fun e w' => e = .returned (.pointer none) ∧ Only (fun _ => False) w w' := by
  have T := Lib.hid (at_two S p1 none p3 w h)
  have T2 := Lib.hid (fresh_none now)
  clear h
  go_enter Try.func20, Try.ntmps20
  go_wp2_with fail
  with_reducible refine T.out.mono ?_
  rintro e w1 ⟨rfl, o⟩
  have O := Lib.hid o
  clear o
  go_wp2_with fail
  with_reducible refine (T2.out _).mono ?_
  rintro e w2 ⟨rfl, o⟩
  have O2 := Lib.hid (O.out.trans o)
  clear o
  go_wp2_with fail
  go_ret
  exact ⟨rfl, O2.out⟩

theorem usable_is (S : Nat) (p1 p3 : Option Addr) (b : Nat) (l m now : Int) (w : World) (h : SlotsAt w S p1 (some ⟨b, 0, none⟩) p3) (hp : PairAt w b l m) (h0 : 0 ≤ m) (h1 : m ≤ 1000000) (v : Bool) (hv : frs m now = v) :
    Calls Try.prog 20 #[.pointer (some ⟨S, 0, none⟩), .int .i64 now] w fun e w' => e = .returned (.pointer (if v then some ⟨b, 0, none⟩ else none)) ∧ Only (fun _ => False) w w' := by
  have T := Lib.hid (at_two S p1 _ p3 w h)
  have T2 := Lib.hid (fun w' (o : Only (fun _ => False) w w') => fresh_is b l m now w' (hp.keep o) h0 h1)
  rw [hv] at T2
  clear h hp h0 h1 hv
  cases v
  all_goals
    simp only [if_true, Bool.false_eq_true, if_false]
    go_enter Try.func20, Try.ntmps20
    go_wp2_with fail
    with_reducible refine T.out.mono ?_
    rintro e w1 ⟨rfl, o⟩
    have O := Lib.hid o
    clear o
    go_wp2_with fail
    with_reducible refine (T2.out _ O.out).mono ?_
    rintro e w2 ⟨rfl, o⟩
    have O2 := Lib.hid (O.out.trans o)
    clear o
    go_wp2_with fail
    go_ret
    exact ⟨rfl, O2.out⟩
end Go.Proofs.Ythembojamiagoaa.sloG
