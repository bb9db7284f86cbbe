/- The slots: Find, Newest of slots with pairs. Made by sloh.py. -/
import Derived.Test.YthembojamiagoaaSloG
namespace Go.Proofs.Ythembojamiagoaa.sloH
open Go.RowKit Go.Lib Go.Proofs.Ythembojamiagoaa.kit Go.Proofs.Ythembojamiagoaa.sloA Go.Proofs.Ythembojamiagoaa.sloB Go.Proofs.Ythembojamiagoaa.sloC Go.Proofs.Ythembojamiagoaa.sloD
set_option linter.unusedVariables false
set_option linter.unusedSimpArgs false
attribute [-go_sem] run_max_int2

/-- No pair of the number l. -/
def Miss (w : World) (l : Int) (p : Option Addr) : Prop := p = none ∨ ∃ b lo m, p = some ⟨b, 0, none⟩ ∧ PairAt w b lo m ∧ lo ≠ l

set_option maxRecDepth 100000 in
theorem find_2 (S : Nat) (p1 p3 : Option Addr) (b : Nat) (m : Int) (l : Int) (w : World) (h : SlotsAt w S p1 (some ⟨b, 0, none⟩) p3) (hp : PairAt w b l m) : Calls Try.prog 18 #[.pointer (some ⟨S, 0, none⟩), .int .u32 l] w fun e w' => e = .returned (.tuple #[.pointer (some ⟨b, 0, none⟩), .int .i64 2]) ∧ Only (fun _ => False) w w' := by
  have i0 := ord0
  have i1 := ord1
  have i2 := ord2
  have A1 := Lib.hid (fun w' (o : Only (fun _ => False) w w') => at_one S p1 (some ⟨b, 0, none⟩) p3 w' (o.keep h id))
  have A2 := Lib.hid (fun w' (o : Only (fun _ => False) w w') => at_two S p1 (some ⟨b, 0, none⟩) p3 w' (o.keep h id))
  have A3 := Lib.hid (fun w' (o : Only (fun _ => False) w w') => at_three S p1 (some ⟨b, 0, none⟩) p3 w' (o.keep h id))
  have O := Lib.hid (Only.refl (fun _ => False) w)
  clear h
  have L2 := Lib.hid (fun w' (o : Only (fun _ => False) w w') => local_any b l m w' (hp.keep o))
  clear hp
  all_goals
    go_enter Try.func18, Try.ntmps18
    go_wp2_with fail
    refine wp_loop_rounds 4 ?_
    rw [rounds_succ]
    go_wp2_with fail
    with_reducible refine (A2.out _ O.out).mono ?_
    rintro e w' ⟨rfl, o⟩
    have O := Lib.hid (O.out.trans o)
    clear o
    go_wp2_with fail
    try
      with_reducible refine (L2.out _ O.out).mono ?_
      rintro e w'' ⟨rfl, o⟩
      have O := Lib.hid (O.out.trans o)
      clear o
      go_wp2_with fail
    go_ret2
    exact ⟨rfl, O.out⟩

set_option maxRecDepth 100000 in
theorem find_3 (S : Nat) (p1 p2 : Option Addr) (b : Nat) (m : Int) (l : Int) (w : World) (h : SlotsAt w S p1 p2 (some ⟨b, 0, none⟩)) (m2 : Miss w l p2) (hp : PairAt w b l m) : Calls Try.prog 18 #[.pointer (some ⟨S, 0, none⟩), .int .u32 l] w fun e w' => e = .returned (.tuple #[.pointer (some ⟨b, 0, none⟩), .int .i64 3]) ∧ Only (fun _ => False) w w' := by
  have i0 := ord0
  have i1 := ord1
  have i2 := ord2
  have A1 := Lib.hid (fun w' (o : Only (fun _ => False) w w') => at_one S p1 p2 (some ⟨b, 0, none⟩) w' (o.keep h id))
  have A2 := Lib.hid (fun w' (o : Only (fun _ => False) w w') => at_two S p1 p2 (some ⟨b, 0, none⟩) w' (o.keep h id))
  have A3 := Lib.hid (fun w' (o : Only (fun _ => False) w w') => at_three S p1 p2 (some ⟨b, 0, none⟩) w' (o.keep h id))
  have O := Lib.hid (Only.refl (fun _ => False) w)
  clear h
  have L3 := Lib.hid (fun w' (o : Only (fun _ => False) w w') => local_any b l m w' (hp.keep o))
  clear hp
  rcases m2 with rfl | ⟨b2, lo2, t2, rfl, g2, n2⟩
  all_goals
    (try have L2 := Lib.hid (fun w' (o : Only (fun _ => False) w w') => local_any b2 lo2 t2 w' (g2.keep o)))
    (try have k2 : (lo2 == l) = false := beq_false_of_ne n2)
    (try clear g2 n2)
    go_enter Try.func18, Try.ntmps18
    go_wp2_with fail
    refine wp_loop_rounds 4 ?_
    rw [rounds_succ]
    go_wp2_with fail
    with_reducible refine (A2.out _ O.out).mono ?_
    rintro e w' ⟨rfl, o⟩
    have O := Lib.hid (O.out.trans o)
    clear o
    go_wp2_with fail
    try
      with_reducible refine (L2.out _ O.out).mono ?_
      rintro e w'' ⟨rfl, o⟩
      have O := Lib.hid (O.out.trans o)
      clear o
      go_wp2_with fail
    rw [rounds_succ]
    go_wp2_with fail
    with_reducible refine (A3.out _ O.out).mono ?_
    rintro e w' ⟨rfl, o⟩
    have O := Lib.hid (O.out.trans o)
    clear o
    go_wp2_with fail
    try
      with_reducible refine (L3.out _ O.out).mono ?_
      rintro e w'' ⟨rfl, o⟩
      have O := Lib.hid (O.out.trans o)
      clear o
      go_wp2_with fail
    go_ret2
    exact ⟨rfl, O.out⟩

set_option maxRecDepth 100000 in
theorem find_1 (S : Nat) (p2 p3 : Option Addr) (b : Nat) (m : Int) (l : Int) (w : World) (h : SlotsAt w S (some ⟨b, 0, none⟩) p2 p3) (m2 : Miss w l p2) (m3 : Miss w l p3) (hp : PairAt w b l m) : Calls Try.prog 18 #[.pointer (some ⟨S, 0, none⟩), .int .u32 l] w fun e w' => e = .returned (.tuple #[.pointer (some ⟨b, 0, none⟩), .int .i64 1]) ∧ Only (fun _ => False) w w' := by
  have i0 := ord0
  have i1 := ord1
  have i2 := ord2
  have A1 := Lib.hid (fun w' (o : Only (fun _ => False) w w') => at_one S (some ⟨b, 0, none⟩) p2 p3 w' (o.keep h id))
  have A2 := Lib.hid (fun w' (o : Only (fun _ => False) w w') => at_two S (some ⟨b, 0, none⟩) p2 p3 w' (o.keep h id))
  have A3 := Lib.hid (fun w' (o : Only (fun _ => False) w w') => at_three S (some ⟨b, 0, none⟩) p2 p3 w' (o.keep h id))
  have O := Lib.hid (Only.refl (fun _ => False) w)
  clear h
  have L1 := Lib.hid (fun w' (o : Only (fun _ => False) w w') => local_any b l m w' (hp.keep o))
  clear hp
  rcases m2 with rfl | ⟨b2, lo2, t2, rfl, g2, n2⟩
  all_goals rcases m3 with rfl | ⟨b3, lo3, t3, rfl, g3, n3⟩
  all_goals
    (try have L2 := Lib.hid (fun w' (o : Only (fun _ => False) w w') => local_any b2 lo2 t2 w' (g2.keep o)))
    (try have k2 : (lo2 == l) = false := beq_false_of_ne n2)
    (try clear g2 n2)
    (try have L3 := Lib.hid (fun w' (o : Only (fun _ => False) w w') => local_any b3 lo3 t3 w' (g3.keep o)))
    (try have k3 : (lo3 == l) = false := beq_false_of_ne n3)
    (try clear g3 n3)
    go_enter Try.func18, Try.ntmps18
    go_wp2_with fail
    refine wp_loop_rounds 4 ?_
    rw [rounds_succ]
    go_wp2_with fail
    with_reducible refine (A2.out _ O.out).mono ?_
    rintro e w' ⟨rfl, o⟩
    have O := Lib.hid (O.out.trans o)
    clear o
    go_wp2_with fail
    try
      with_reducible refine (L2.out _ O.out).mono ?_
      rintro e w'' ⟨rfl, o⟩
      have O := Lib.hid (O.out.trans o)
      clear o
      go_wp2_with fail
    rw [rounds_succ]
    go_wp2_with fail
    with_reducible refine (A3.out _ O.out).mono ?_
    rintro e w' ⟨rfl, o⟩
    have O := Lib.hid (O.out.trans o)
    clear o
    go_wp2_with fail
    try
      with_reducible refine (L3.out _ O.out).mono ?_
      rintro e w'' ⟨rfl, o⟩
      have O := Lib.hid (O.out.trans o)
      clear o
      go_wp2_with fail
    rw [rounds_succ]
    go_wp2_with fail
    with_reducible refine (A1.out _ O.out).mono ?_
    rintro e w' ⟨rfl, o⟩
    have O := Lib.hid (O.out.trans o)
    clear o
    go_wp2_with fail
    try
      with_reducible refine (L1.out _ O.out).mono ?_
      rintro e w'' ⟨rfl, o⟩
      have O := Lib.hid (O.out.trans o)
      clear o
      go_wp2_with fail
    go_ret2
    exact ⟨rfl, O.out⟩

set_option maxRecDepth 100000 in
theorem find_0 (S : Nat) (p1 p2 p3 : Option Addr) (l : Int) (w : World) (h : SlotsAt w S p1 p2 p3) (m2 : Miss w l p2) (m3 : Miss w l p3) (m1 : Miss w l p1) : Calls Try.prog 18 #[.pointer (some ⟨S, 0, none⟩), .int .u32 l] w fun e w' => e = .returned (.tuple #[.pointer none, .int .i64 0]) ∧ Only (fun _ => False) w w' := by
  have i0 := ord0
  have i1 := ord1
  have i2 := ord2
  have A1 := Lib.hid (fun w' (o : Only (fun _ => False) w w') => at_one S p1 p2 p3 w' (o.keep h id))
  have A2 := Lib.hid (fun w' (o : Only (fun _ => False) w w') => at_two S p1 p2 p3 w' (o.keep h id))
  have A3 := Lib.hid (fun w' (o : Only (fun _ => False) w w') => at_three S p1 p2 p3 w' (o.keep h id))
  have O := Lib.hid (Only.refl (fun _ => False) w)
  clear h
  rcases m2 with rfl | ⟨b2, lo2, t2, rfl, g2, n2⟩
  all_goals rcases m3 with rfl | ⟨b3, lo3, t3, rfl, g3, n3⟩
  all_goals rcases m1 with rfl | ⟨b1, lo1, t1, rfl, g1, n1⟩
  all_goals
    (try have L2 := Lib.hid (fun w' (o : Only (fun _ => False) w w') => local_any b2 lo2 t2 w' (g2.keep o)))
    (try have k2 : (lo2 == l) = false := beq_false_of_ne n2)
    (try clear g2 n2)
    (try have L3 := Lib.hid (fun w' (o : Only (fun _ => False) w w') => local_any b3 lo3 t3 w' (g3.keep o)))
    (try have k3 : (lo3 == l) = false := beq_false_of_ne n3)
    (try clear g3 n3)
    (try have L1 := Lib.hid (fun w' (o : Only (fun _ => False) w w') => local_any b1 lo1 t1 w' (g1.keep o)))
    (try have k1 : (lo1 == l) = false := beq_false_of_ne n1)
    (try clear g1 n1)
    go_enter Try.func18, Try.ntmps18
    go_wp2_with fail
    refine wp_loop_rounds 4 ?_
    rw [rounds_succ]
    go_wp2_with fail
    with_reducible refine (A2.out _ O.out).mono ?_
    rintro e w' ⟨rfl, o⟩
    have O := Lib.hid (O.out.trans o)
    clear o
    go_wp2_with fail
    try
      with_reducible refine (L2.out _ O.out).mono ?_
      rintro e w'' ⟨rfl, o⟩
      have O := Lib.hid (O.out.trans o)
      clear o
      go_wp2_with fail
    rw [rounds_succ]
    go_wp2_with fail
    with_reducible refine (A3.out _ O.out).mono ?_
    rintro e w' ⟨rfl, o⟩
    have O := Lib.hid (O.out.trans o)
    clear o
    go_wp2_with fail
    try
      with_reducible refine (L3.out _ O.out).mono ?_
      rintro e w'' ⟨rfl, o⟩
      have O := Lib.hid (O.out.trans o)
      clear o
      go_wp2_with fail
    rw [rounds_succ]
    go_wp2_with fail
    with_reducible refine (A1.out _ O.out).mono ?_
    rintro e w' ⟨rfl, o⟩
    have O := Lib.hid (O.out.trans o)
    clear o
    go_wp2_with fail
    try
      with_reducible refine (L1.out _ O.out).mono ?_
      rintro e w'' ⟨rfl, o⟩
      have O := Lib.hid (O.out.trans o)
      clear o
      go_wp2_with fail
    rw [rounds_succ]
    go_wp2_with fail
    go_ret2
    exact ⟨rfl, O.out⟩

def mx (x y : Int) : Int := if y > x then y else x
theorem run_mx (x y : Int) (w : World) : (Builtin.max_ #[2, 2] 2 #[.int .i64 x, .int .i64 y]).run Try.prog w = .ok (.int .i64 (mx x y)) w := run_max_int2 _ _ _ _ _ _ _

/-- What a slot does to the newest time so far. -/
def Mk (w : World) (p : Option Addr) (f : Int → Int) : Prop := (p = none ∧ f = fun x => x) ∨ ∃ b l m, p = some ⟨b, 0, none⟩ ∧ PairAt w b l m ∧ f = fun x => mx x m

set_option maxRecDepth 100000 in
theorem newest_any (S : Nat) (p1 p2 p3 : Option Addr) (f1 f2 f3 : Int → Int) (w : World) (h : SlotsAt w S p1 p2 p3) (m1 : Mk w p1 f1) (m2 : Mk w p2 f2) (m3 : Mk w p3 f3) (v : Int) (hv : v = f3 (f2 (f1 0))) (t : Bool) (ht : t = (p1.isSome || p2.isSome || p3.isSome)) :
    Calls Try.prog 19 #[.pointer (some ⟨S, 0, none⟩)] w fun e w' => e = .returned (.tuple #[.int .i64 v, .bool t]) ∧ Only (fun _ => False) w w' := by
  have hmx := run_mx
  have A1 := Lib.hid (fun w' (o : Only (fun _ => False) w w') => at_one S p1 p2 p3 w' (o.keep h id))
  have A2 := Lib.hid (fun w' (o : Only (fun _ => False) w w') => at_two S p1 p2 p3 w' (o.keep h id))
  have A3 := Lib.hid (fun w' (o : Only (fun _ => False) w w') => at_three S p1 p2 p3 w' (o.keep h id))
  have O := Lib.hid (Only.refl (fun _ => False) w)
  clear h
  rcases m1 with ⟨rfl, rfl⟩ | ⟨b1, l1, t1, rfl, g1, rfl⟩
  all_goals rcases m2 with ⟨rfl, rfl⟩ | ⟨b2, l2, t2, rfl, g2, rfl⟩
  all_goals rcases m3 with ⟨rfl, rfl⟩ | ⟨b3, l3, t3, rfl, g3, rfl⟩
  all_goals
    have V := Lib.hid hv
    have W := Lib.hid ht
    clear hv ht
    (try have L1 := Lib.hid (fun w' (o : Only (fun _ => False) w w') => made_any b1 l1 t1 w' (g1.keep o)))
    (try clear g1)
    (try have L2 := Lib.hid (fun w' (o : Only (fun _ => False) w w') => made_any b2 l2 t2 w' (g2.keep o)))
    (try clear g2)
    (try have L3 := Lib.hid (fun w' (o : Only (fun _ => False) w w') => made_any b3 l3 t3 w' (g3.keep o)))
    (try clear g3)
    go_enter Try.func19, Try.ntmps19
    go_wp2_with fail
    refine wp_loop_rounds 4 ?_
    rw [rounds_succ]
    go_wp2_with fail
    with_reducible refine (A1.out _ O.out).mono ?_
    rintro e w' ⟨rfl, o⟩
    have O := Lib.hid (O.out.trans o)
    clear o
    go_wp2_with fail
    try
      with_reducible refine (L1.out _ O.out).mono ?_
      rintro e w'' ⟨rfl, o⟩
      have O := Lib.hid (O.out.trans o)
      clear o
      go_wp2_with fail
    rw [rounds_succ]
    go_wp2_with fail
    with_reducible refine (A2.out _ O.out).mono ?_
    rintro e w' ⟨rfl, o⟩
    have O := Lib.hid (O.out.trans o)
    clear o
    go_wp2_with fail
    try
      with_reducible refine (L2.out _ O.out).mono ?_
      rintro e w'' ⟨rfl, o⟩
      have O := Lib.hid (O.out.trans o)
      clear o
      go_wp2_with fail
    rw [rounds_succ]
    go_wp2_with fail
    with_reducible refine (A3.out _ O.out).mono ?_
    rintro e w' ⟨rfl, o⟩
    have O := Lib.hid (O.out.trans o)
    clear o
    go_wp2_with fail
    try
      with_reducible refine (L3.out _ O.out).mono ?_
      rintro e w'' ⟨rfl, o⟩
      have O := Lib.hid (O.out.trans o)
      clear o
      go_wp2_with fail
    rw [rounds_succ]
    go_wp2_with fail
    go_ret2
    exact ⟨by rw [V.out, W.out]; rfl, O.out⟩
end Go.Proofs.Ythembojamiagoaa.sloH
