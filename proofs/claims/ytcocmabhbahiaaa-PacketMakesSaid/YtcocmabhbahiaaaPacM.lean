/- The walk of the law PacketMakes, in letters. -/
import Derived.Test.YtcocmabhbahiaaaPacL
import Derived.Test.YtcocmabhbahiaaaPacS
namespace Go.Proofs.Ytcocmabhbahiaaa.pacM
open Go.RowKit Go.Lib Go.Proofs.Ytcocmabhbahiaaa.kit Go.Proofs.Ytcocmabhbahiaaa.numA Go.Proofs.Ytcocmabhbahiaaa.numF Go.Proofs.Ytcocmabhbahiaaa.numG Go.Proofs.Ytcocmabhbahiaaa.pacA Go.Proofs.Ytcocmabhbahiaaa.pacD Go.Proofs.Ytcocmabhbahiaaa.pacE Go.Proofs.Ytcocmabhbahiaaa.pacF Go.Proofs.Ytcocmabhbahiaaa.pacG Go.Proofs.Ytcocmabhbahiaaa.pacK Go.Proofs.Ytcocmabhbahiaaa.pacR
set_option linter.unusedVariables false
set_option linter.unusedSimpArgs false

theorem By.front {w : World} {a : Option Addr} {q cap m : Nat} {l : List UInt8} (h : By w (.slice a q cap) l) (e : l.length = q) (hm : m ≤ q) : By w (.slice a m cap) (l.take m) := by
  obtain ⟨a', c', hv, hc, hx, h⟩ := h
  cases hv
  have hl : (l.take m).length = m := by rw [List.length_take]; omega
  refine ⟨a, cap, by rw [hl], by omega, hx, ?_⟩
  rcases h with h | ⟨g, o, ha, hg, hcell⟩
  · left; rw [h]; simp
  · refine .inr ⟨g, o, ha, hg, fun i hi => ?_⟩
    rw [hl] at hi
    rw [hcell i (by omega)]
    congr 3
    rw [List.getD_eq_getElem?_getD, List.getD_eq_getElem?_getD, List.getElem?_take, if_pos hi]

def BytesZ (w : World) (z : Nat) (l : List UInt8) (e : Ending) (w' : World) : Prop := ∃ a n, e = .returned (.slice a z n) ∧ By w' (.slice a z n) l ∧ Only (fun _ => False) w w'

theorem Bytes.z {w : World} {z : Nat} {l : List UInt8} {e : Ending} {w' : World} (h1 : l.length = z) (h : Bytes w l e w') : BytesZ w z l e w' := by
  obtain ⟨r, rfl, b, o⟩ := h
  obtain ⟨a, n, rfl, -⟩ := id b
  rw [h1] at b ⊢
  exact ⟨a, n, rfl, b, o⟩

theorem nought {w : World} {a : Option Addr} {q cap j : Nat} {l : List UInt8} (h : By w (.slice a q cap) l) (e : l.length = q) (hj : j < q) (h0 : l.getD j 0 = 0) : ∃ g o, a = some ⟨g, o, none⟩ ∧ w.cell? ⟨g, o + j, none⟩ = some (.int .u8 0) := by
  obtain ⟨a', c', hv, hc, hx, h⟩ := h
  injection hv with q1 q2 q3
  subst q1 q3
  rcases h with h | ⟨g, o, ha, hg, hcell⟩
  · rw [h] at e; simp at e; omega
  · refine ⟨g, o, ha, ?_⟩
    rw [hcell j (by omega), h0]
    rfl


set_option maxRecDepth 100000 in
set_option maxHeartbeats 1000000 in
theorem bad_small (A1 A2 A3 : Option Addr) (n1 n2 n3 k1 k2 k3 : Nat) (n : Int) (w : World)  (hs : n < 1) (h3 : n3 ≤ 3000) (C : Int) (hC : C ≠ 0) (h1 : n1 ≤ 40) (h2 : n2 ≤ 40)
    (R1 : ∀ W, Only (fun _ => False) w W → Calls Try.prog 30 #[.slice A1 n1 k1, .slice A2 n2 k2, .slice A3 n3 k3] W (GotZ W 0 [] C))
    (R2 : ∀ W, Only (fun _ => False) w W → Calls Try.prog 31 #[.slice A1 n1 k1, .slice A2 n2 k2, .slice A3 n3 k3] W (GotZ W 0 [] C))
    (R3 : ∀ W a c, By W (.slice a 0 c) [] → Calls Try.prog 32 #[.slice a 0 c, .int .i64 n] W (BytesZ W 0 [])) :
    Calls Try.prog 6 #[.slice A1 n1 k1, .slice A2 n2 k2, .slice A3 n3 k3, .int .i64 n] w (numA.Told w (.bool true)) := by
  have HA := Lib.hid (pacJ.awake_true w)
  have t1 : ¬ ((40 : Int) < (n1 : Int)) := by omega
  have t2 : ¬ ((40 : Int) < (n2 : Int)) := by omega
  have hc1 : (C != 0) = true := by simpa using hC
  have t3 : ¬ ((3000 : Int) < (n3 : Int)) := by omega
  have t5 : ¬ ((5000 : Int) < n) := by omega
  have f1 : n < 1 := hs
  have f2 : ¬ ((1 : Int) ≤ n) := by omega
  have H1 := Lib.hid R1
  have H2 := Lib.hid R2
  have H3 := Lib.hid R3
  clear R1 R2 R3
  go_enter Try.func6, Try.ntmps6
  go_wp2_with fail
  refine HA.out.mono ?_
  rintro e w1 ⟨rfl, o1⟩
  go_wp2_with fail
  refine (H1.out _ o1).mono ?_
  rintro e w2 ⟨a1, c1, rfl, b1, o2⟩
  have K2 := Lib.hid (o1.trans o2)
  have b1 := Lib.hid b1
  clear o1 o2
  go_wp2_with fail
  refine (H2.out _ K2.out).mono ?_
  rintro e w3 ⟨a2, c2, rfl, b2, o3⟩
  have K3 := Lib.hid (K2.out.trans o3)
  have b1 := Lib.hid (b1.out.keep o3)
  have b2 := Lib.hid b2
  clear o3
  go_wp2_with fail
  refine (H3.out _ _ _ b1.out).mono ?_
  rintro e w4 ⟨a3, c3, rfl, b3, o4⟩
  have K4 := Lib.hid (K3.out.trans o4)
  have b1 := Lib.hid (b1.out.keep o4)
  have b2 := Lib.hid (b2.out.keep o4)
  have g2 : ((0 : Nat) : Int) ≤ (c3 : Int) := by
    obtain ⟨_, _, hv, hcc, _⟩ := id b3
    cases hv
    omega
  have b3 := Lib.hid b3
  have bf := Lib.hid (by exact b3.out : By w4 (.slice a3 0 c3) [])
  have S1 := Lib.hid (numG.same_true b1.out.sl b2.out.sl)
  have S2 := Lib.hid (numG.same_true bf.out.sl b1.out.sl)
  clear o4 bf
  go_wp2_with fail
  refine S1.out.mono ?_
  rintro e w5 ⟨rfl, rfl⟩
  go_wp2_with fail
  refine S2.out.mono ?_
  rintro e w5 ⟨rfl, rfl⟩
  go_wp2_with fail
  go_loop [14] (fun i => ∃ j : Nat, 0 ≤ j ∧ j ≤ 0 ∧ i = .int .i64 j) (fun i => 0 - (intOf i).toNat)
  case atStart => exact ⟨0, by omega, by omega, rfl⟩
  case round =>
    obtain ⟨j, hj1, hj2, rfl⟩ := hrel
    obtain rfl : j = 0 := by omega
    go_wp2_with fail
    go_ret
    exact ⟨rfl, K4.out⟩

set_option maxRecDepth 100000 in
set_option maxHeartbeats 1000000 in
theorem bad_big (A1 A2 A3 : Option Addr) (n1 n2 n3 k1 k2 k3 : Nat) (N : Nat) (w : World)  (hs : 1 ≤ N) (hN : N ≤ 5000) (h3 : n3 ≤ 3000) (C : Int) (hC : C ≠ 0) (h1 : n1 ≤ 40) (h2 : n2 ≤ 40)
    (R1 : ∀ W, Only (fun _ => False) w W → Calls Try.prog 30 #[.slice A1 n1 k1, .slice A2 n2 k2, .slice A3 n3 k3] W (GotZ W 0 [] C))
    (R2 : ∀ W, Only (fun _ => False) w W → Calls Try.prog 31 #[.slice A1 n1 k1, .slice A2 n2 k2, .slice A3 n3 k3] W (GotZ W 0 [] C))
    (R3 : ∀ W a c, By W (.slice a 0 c) [] → Calls Try.prog 32 #[.slice a 0 c, .int .i64 (N : Int)] W (BytesZ W 0 [])) :
    Calls Try.prog 6 #[.slice A1 n1 k1, .slice A2 n2 k2, .slice A3 n3 k3, .int .i64 (N : Int)] w (numA.Told w (.bool true)) := by
  have HA := Lib.hid (pacJ.awake_true w)
  have t1 : ¬ ((40 : Int) < (n1 : Int)) := by omega
  have t2 : ¬ ((40 : Int) < (n2 : Int)) := by omega
  have hc1 : (C != 0) = true := by simpa using hC
  have t3 : ¬ ((3000 : Int) < (n3 : Int)) := by omega
  have t5 : ¬ ((5000 : Int) < (N : Int)) := by omega
  have f1 : ¬ ((N : Int) < 1) := by omega
  have f2 : (1 : Int) ≤ (N : Int) := by omega
  have f3 : ¬ (N = 0) := by omega
  have f6 : ¬ ((N : Int) ≤ 0) := by omega
  have H1 := Lib.hid R1
  have H2 := Lib.hid R2
  have H3 := Lib.hid R3
  clear R1 R2 R3
  go_enter Try.func6, Try.ntmps6
  go_wp2_with fail
  refine HA.out.mono ?_
  rintro e w1 ⟨rfl, o1⟩
  go_wp2_with fail
  refine (H1.out _ o1).mono ?_
  rintro e w2 ⟨a1, c1, rfl, b1, o2⟩
  have K2 := Lib.hid (o1.trans o2)
  have b1 := Lib.hid b1
  clear o1 o2
  go_wp2_with fail
  refine (H2.out _ K2.out).mono ?_
  rintro e w3 ⟨a2, c2, rfl, b2, o3⟩
  have K3 := Lib.hid (K2.out.trans o3)
  have b1 := Lib.hid (b1.out.keep o3)
  have b2 := Lib.hid b2
  clear o3
  go_wp2_with fail
  refine (H3.out _ _ _ b1.out).mono ?_
  rintro e w4 ⟨a3, c3, rfl, b3, o4⟩
  have K4 := Lib.hid (K3.out.trans o4)
  have b1 := Lib.hid (b1.out.keep o4)
  have b2 := Lib.hid (b2.out.keep o4)
  have g2 : ((0 : Nat) : Int) ≤ (c3 : Int) := by
    obtain ⟨_, _, hv, hcc, _⟩ := id b3
    cases hv
    omega
  have b3 := Lib.hid b3
  have bf := Lib.hid (by exact b3.out : By w4 (.slice a3 0 c3) [])
  have S1 := Lib.hid (numG.same_true b1.out.sl b2.out.sl)
  have S2 := Lib.hid (numG.same_true bf.out.sl b1.out.sl)
  clear o4 bf
  go_wp2_with fail
  refine S1.out.mono ?_
  rintro e w5 ⟨rfl, rfl⟩
  go_wp2_with fail
  refine S2.out.mono ?_
  rintro e w5 ⟨rfl, rfl⟩
  go_wp2_with fail
  go_loop [14] (fun i => ∃ j : Nat, 0 ≤ j ∧ j ≤ 0 ∧ i = .int .i64 j) (fun i => 0 - (intOf i).toNat)
  case atStart => exact ⟨0, by omega, by omega, rfl⟩
  case round =>
    obtain ⟨j, hj1, hj2, rfl⟩ := hrel
    obtain rfl : j = 0 := by omega
    go_wp2_with fail
    go_ret
    exact ⟨rfl, K4.out⟩

set_option maxRecDepth 100000 in
set_option maxHeartbeats 1000000 in
theorem ok_small (A1 A2 A3 : Option Addr) (z n3 k1 k2 k3 : Nat) (n : Int) (w : World) (m q : Nat) (L P : List UInt8) (hs : n < 1) (hq : q = m) (h3 : n3 ≤ 3000) (v : Nat) (LS LD LT : List UInt8) (hz : z ≤ 40)
    (R4 : ∀ W a c, By W (.slice a q c) P → Calls Try.prog 25 #[.slice a q c] W (HeadZ W v m z LS LD 0))
    (R5 : ∀ W a c, By W (.slice a q c) P → Calls Try.prog 27 #[.slice a q c] W (GotZ W n3 LT 0))
    (R6 : ∀ W a c, By W (.slice a q c) P → Calls Try.prog 26 #[.slice a q c] W (GotZ W m L 0))
    (B1 : By w (.slice A1 z k1) LS) (B2 : By w (.slice A2 z k2) LD) (B3 : By w (.slice A3 n3 k3) LT)
    (hmq : m ≤ q) (hqq : q ≤ 100000) (hP : P.length = q) (hL : P.take m = L) (h0 : ∀ j, m ≤ j → j < q → P.getD j 0 = 0)
    (R1 : ∀ W, Only (fun _ => False) w W → Calls Try.prog 30 #[.slice A1 z k1, .slice A2 z k2, .slice A3 n3 k3] W (GotZ W m L 0))
    (R2 : ∀ W, Only (fun _ => False) w W → Calls Try.prog 31 #[.slice A1 z k1, .slice A2 z k2, .slice A3 n3 k3] W (GotZ W m L 0))
    (R3 : ∀ W a c, By W (.slice a m c) L → Calls Try.prog 32 #[.slice a m c, .int .i64 n] W (BytesZ W q P)) :
    Calls Try.prog 6 #[.slice A1 z k1, .slice A2 z k2, .slice A3 n3 k3, .int .i64 n] w (numA.Told w (.bool true)) := by
  have HA := Lib.hid (pacJ.awake_true w)
  have t1 : ¬ ((40 : Int) < (z : Int)) := by omega
  have t3 : ¬ ((3000 : Int) < (n3 : Int)) := by omega
  have t5 : ¬ ((5000 : Int) < n) := by omega
  have f1 : n < 1 := hs
  have f2 : ¬ ((1 : Int) ≤ n) := by omega
  subst hq
  have g1 : ¬ ((q : Int) < (q : Int)) := by omega
  have HB := Lib.hid (⟨B1, B2, B3⟩ : By w (.slice A1 z k1) LS ∧ By w (.slice A2 z k2) LD ∧ By w (.slice A3 n3 k3) LT)
  have HP := Lib.hid (⟨hP, hL, h0⟩ : P.length = q ∧ P.take q = L ∧ ∀ j, q ≤ j → j < q → P.getD j 0 = 0)
  have H4 := Lib.hid R4
  have H5 := Lib.hid R5
  have H6 := Lib.hid R6
  clear B1 B2 B3 hP hL h0 R4 R5 R6
  have H1 := Lib.hid R1
  have H2 := Lib.hid R2
  have H3 := Lib.hid R3
  clear R1 R2 R3
  go_enter Try.func6, Try.ntmps6
  go_wp2_with fail
  refine HA.out.mono ?_
  rintro e w1 ⟨rfl, o1⟩
  go_wp2_with fail
  refine (H1.out _ o1).mono ?_
  rintro e w2 ⟨a1, c1, rfl, b1, o2⟩
  have K2 := Lib.hid (o1.trans o2)
  have b1 := Lib.hid b1
  clear o1 o2
  go_wp2_with fail
  refine (H2.out _ K2.out).mono ?_
  rintro e w3 ⟨a2, c2, rfl, b2, o3⟩
  have K3 := Lib.hid (K2.out.trans o3)
  have b1 := Lib.hid (b1.out.keep o3)
  have b2 := Lib.hid b2
  clear o3
  go_wp2_with fail
  refine (H3.out _ _ _ b1.out).mono ?_
  rintro e w4 ⟨a3, c3, rfl, b3, o4⟩
  have K4 := Lib.hid (K3.out.trans o4)
  have b1 := Lib.hid (b1.out.keep o4)
  have b2 := Lib.hid (b2.out.keep o4)
  have g2 : ((q : Nat) : Int) ≤ (c3 : Int) := by
    obtain ⟨_, _, hv, hcc, _⟩ := id b3
    cases hv
    have := HP.out.1; omega
  have b3 := Lib.hid b3
  have bf := Lib.hid (by have x := By.front (m := q) b3.out HP.out.1 (by omega); rw [HP.out.2.1] at x; exact x : By w4 (.slice a3 q c3) L)
  have S1 := Lib.hid (numG.same_true b1.out.sl b2.out.sl)
  have S2 := Lib.hid (numG.same_true bf.out.sl b1.out.sl)
  clear o4 bf
  go_wp2_with fail
  refine S1.out.mono ?_
  rintro e w5 ⟨rfl, rfl⟩
  go_wp2_with fail
  refine S2.out.mono ?_
  rintro e w5 ⟨rfl, rfl⟩
  go_wp2_with fail
  go_loop [14] (fun i => ∃ j : Nat, q ≤ j ∧ j ≤ q ∧ i = .int .i64 j) (fun i => q - (intOf i).toNat)
  case atStart => exact ⟨q, by omega, by omega, rfl⟩
  case round =>
    obtain ⟨j, hj1, hj2, rfl⟩ := hrel
    obtain rfl : j = q := by omega
    have R25 := Lib.hid (H4.out w4 _ _ b3.out)
    go_wp2_with fail
    refine R25.out.mono ?_
    rintro e w5 ⟨a5, c5, a6, c6, rfl, b5, b6, o5⟩
    have K5 := Lib.hid ((K4.out.trans o5).alloc (.cells #[.int .i64 v, .slice a5 z c5, .slice a6 z c6, .int .i64 (j : Nat)] 36))
    have q5 := (Only.refl (fun _ => False) w5).alloc (.cells #[.int .i64 v, .slice a5 z c5, .slice a6 z c6, .int .i64 (j : Nat)] 36)
    have b1 := Lib.hid ((b1.out.keep o5).keep q5)
    have b3 := Lib.hid ((b3.out.keep o5).keep q5)
    have b5 := Lib.hid (b5.keep q5)
    have b6 := Lib.hid (b6.keep q5)
    have hb := heap_alloc_new w5 (.cells #[.int .i64 v, .slice a5 z c5, .slice a6 z c6, .int .i64 (j : Nat)] 36)
    clear o5 q5
    go_wp2_with fail
    generalize w5.alloc (.cells #[.int .i64 v, .slice a5 z c5, .slice a6 z c6, .int .i64 (j : Nat)] 36) = V5 at K5 b1 b3 b5 b6 hb ⊢
    generalize w5.heap.size = B at hb ⊢
    have R27 := Lib.hid (H5.out V5 _ _ b3.out)
    refine R27.out.mono ?_
    rintro e w6 ⟨a7, c7, rfl, b7, o6⟩
    have K6 := Lib.hid (K5.out.trans o6)
    have b1 := Lib.hid (b1.out.keep o6)
    have b3 := Lib.hid (b3.out.keep o6)
    have b5 := Lib.hid (b5.out.keep o6)
    have b6 := Lib.hid (b6.out.keep o6)
    have b7 := Lib.hid b7
    have hb := (o6.block B (lt_of hb) id).trans hb
    clear o6
    go_wp2_with fail
    have R26 := Lib.hid (H6.out w6 _ _ b3.out)
    refine R26.out.mono ?_
    rintro e w7 ⟨a8, c8, rfl, b8, o7⟩
    have K7 := Lib.hid (K6.out.trans o7)
    have b1 := Lib.hid (b1.out.keep o7)
    have b5 := Lib.hid (b5.out.keep o7)
    have b6 := Lib.hid (b6.out.keep o7)
    have b7 := Lib.hid (b7.out.keep o7)
    have hb := (o7.block B (lt_of hb) id).trans hb
    have z1 : w7.cell? ⟨B, 1, none⟩ = some (.slice a5 z c5) := cell_of hb
    have z2 : w7.cell? ⟨B, 2, none⟩ = some (.slice a6 z c6) := cell_of hb
    have z3 : w7.cell? ⟨B, 3, none⟩ = some (.int .i64 (j : Nat)) := cell_of hb
    have T1 := Lib.hid (numG.same_true b5.out.sl (HB.out.1.keep K7.out).sl)
    have T2 := Lib.hid (numG.same_true b6.out.sl (HB.out.2.1.keep K7.out).sl)
    have T3 := Lib.hid (numG.same_true b7.out.sl (HB.out.2.2.keep K7.out).sl)
    have T4 := Lib.hid (numG.same_true b8.sl b1.out.sl)
    clear o7 hb b8
    go_wp2_with fail
    refine T1.out.mono ?_
    rintro e w8 ⟨rfl, rfl⟩
    go_wp2_with fail
    refine T2.out.mono ?_
    rintro e w8 ⟨rfl, rfl⟩
    go_wp2_with fail
    refine T3.out.mono ?_
    rintro e w8 ⟨rfl, rfl⟩
    go_wp2_with fail
    refine T4.out.mono ?_
    rintro e w8 ⟨rfl, rfl⟩
    go_wp2_with fail
    go_ret
    exact ⟨rfl, K7.out⟩

set_option maxRecDepth 100000 in
set_option maxHeartbeats 1000000 in
theorem ok_big (A1 A2 A3 : Option Addr) (z n3 k1 k2 k3 : Nat) (N : Nat) (w : World) (m q : Nat) (L P : List UInt8) (hs : 1 ≤ N) (hN : N ≤ 5000) (hd : q % N = 0) (hq : q < m + N) (h3 : n3 ≤ 3000) (v : Nat) (LS LD LT : List UInt8) (hz : z ≤ 40)
    (R4 : ∀ W a c, By W (.slice a q c) P → Calls Try.prog 25 #[.slice a q c] W (HeadZ W v m z LS LD 0))
    (R5 : ∀ W a c, By W (.slice a q c) P → Calls Try.prog 27 #[.slice a q c] W (GotZ W n3 LT 0))
    (R6 : ∀ W a c, By W (.slice a q c) P → Calls Try.prog 26 #[.slice a q c] W (GotZ W m L 0))
    (B1 : By w (.slice A1 z k1) LS) (B2 : By w (.slice A2 z k2) LD) (B3 : By w (.slice A3 n3 k3) LT)
    (hmq : m ≤ q) (hqq : q ≤ 100000) (hP : P.length = q) (hL : P.take m = L) (h0 : ∀ j, m ≤ j → j < q → P.getD j 0 = 0)
    (R1 : ∀ W, Only (fun _ => False) w W → Calls Try.prog 30 #[.slice A1 z k1, .slice A2 z k2, .slice A3 n3 k3] W (GotZ W m L 0))
    (R2 : ∀ W, Only (fun _ => False) w W → Calls Try.prog 31 #[.slice A1 z k1, .slice A2 z k2, .slice A3 n3 k3] W (GotZ W m L 0))
    (R3 : ∀ W a c, By W (.slice a m c) L → Calls Try.prog 32 #[.slice a m c, .int .i64 (N : Int)] W (BytesZ W q P)) :
    Calls Try.prog 6 #[.slice A1 z k1, .slice A2 z k2, .slice A3 n3 k3, .int .i64 (N : Int)] w (numA.Told w (.bool true)) := by
  have HA := Lib.hid (pacJ.awake_true w)
  have t1 : ¬ ((40 : Int) < (z : Int)) := by omega
  have t3 : ¬ ((3000 : Int) < (n3 : Int)) := by omega
  have t5 : ¬ ((5000 : Int) < (N : Int)) := by omega
  have f1 : ¬ ((N : Int) < 1) := by omega
  have f2 : (1 : Int) ≤ (N : Int) := by omega
  have f3 : ¬ (N = 0) := by omega
  have f4 : ((q : Int)).tmod (N : Int) = 0 := by rw [Int.tmod_eq_emod_of_nonneg (by omega)]; omega
  have f5 : IntKind.i64.wrap ((q : Int) - (m : Int)) = (q : Int) - (m : Int) := IntWalk.i64_in _ (by omega)
  have f6 : ¬ ((N : Int) ≤ (q : Int) - (m : Int)) := by omega
  have g1 : ¬ ((q : Int) < (m : Int)) := by omega
  have HB := Lib.hid (⟨B1, B2, B3⟩ : By w (.slice A1 z k1) LS ∧ By w (.slice A2 z k2) LD ∧ By w (.slice A3 n3 k3) LT)
  have HP := Lib.hid (⟨hP, hL, h0⟩ : P.length = q ∧ P.take m = L ∧ ∀ j, m ≤ j → j < q → P.getD j 0 = 0)
  have H4 := Lib.hid R4
  have H5 := Lib.hid R5
  have H6 := Lib.hid R6
  clear B1 B2 B3 hP hL h0 R4 R5 R6
  have H1 := Lib.hid R1
  have H2 := Lib.hid R2
  have H3 := Lib.hid R3
  clear R1 R2 R3
  go_enter Try.func6, Try.ntmps6
  go_wp2_with fail
  refine HA.out.mono ?_
  rintro e w1 ⟨rfl, o1⟩
  go_wp2_with fail
  refine (H1.out _ o1).mono ?_
  rintro e w2 ⟨a1, c1, rfl, b1, o2⟩
  have K2 := Lib.hid (o1.trans o2)
  have b1 := Lib.hid b1
  clear o1 o2
  go_wp2_with fail
  refine (H2.out _ K2.out).mono ?_
  rintro e w3 ⟨a2, c2, rfl, b2, o3⟩
  have K3 := Lib.hid (K2.out.trans o3)
  have b1 := Lib.hid (b1.out.keep o3)
  have b2 := Lib.hid b2
  clear o3
  go_wp2_with fail
  refine (H3.out _ _ _ b1.out).mono ?_
  rintro e w4 ⟨a3, c3, rfl, b3, o4⟩
  have K4 := Lib.hid (K3.out.trans o4)
  have b1 := Lib.hid (b1.out.keep o4)
  have b2 := Lib.hid (b2.out.keep o4)
  have g2 : ((m : Nat) : Int) ≤ (c3 : Int) := by
    obtain ⟨_, _, hv, hcc, _⟩ := id b3
    cases hv
    have := HP.out.1; omega
  have b3 := Lib.hid b3
  have bf := Lib.hid (by have x := By.front (m := m) b3.out HP.out.1 (by omega); rw [HP.out.2.1] at x; exact x : By w4 (.slice a3 m c3) L)
  have S1 := Lib.hid (numG.same_true b1.out.sl b2.out.sl)
  have S2 := Lib.hid (numG.same_true bf.out.sl b1.out.sl)
  clear o4 bf
  go_wp2_with fail
  refine S1.out.mono ?_
  rintro e w5 ⟨rfl, rfl⟩
  go_wp2_with fail
  refine S2.out.mono ?_
  rintro e w5 ⟨rfl, rfl⟩
  go_wp2_with fail
  go_loop [14] (fun i => ∃ j : Nat, m ≤ j ∧ j ≤ q ∧ i = .int .i64 j) (fun i => q - (intOf i).toNat)
  case atStart => exact ⟨m, by omega, by omega, rfl⟩
  case round =>
    obtain ⟨j, hj1, hj2, rfl⟩ := hrel
    by_cases hlt : j < q
    · have j1 : (j : Int) < (q : Int) := by omega
      obtain ⟨g, o, rfl, hcell⟩ := nought b3.out HP.out.1 hlt (HP.out.2.2 j hj1 hlt)
      go_wp2_with fail
      go_round
      case rel => exact ⟨j + 1, by omega, by omega, by go_num⟩
      case measure => simp [intOf]; omega
    · obtain rfl : j = q := by omega
      have R25 := Lib.hid (H4.out w4 _ _ b3.out)
      go_wp2_with fail
      refine R25.out.mono ?_
      rintro e w5 ⟨a5, c5, a6, c6, rfl, b5, b6, o5⟩
      have K5 := Lib.hid ((K4.out.trans o5).alloc (.cells #[.int .i64 v, .slice a5 z c5, .slice a6 z c6, .int .i64 (m : Nat)] 36))
      have q5 := (Only.refl (fun _ => False) w5).alloc (.cells #[.int .i64 v, .slice a5 z c5, .slice a6 z c6, .int .i64 (m : Nat)] 36)
      have b1 := Lib.hid ((b1.out.keep o5).keep q5)
      have b3 := Lib.hid ((b3.out.keep o5).keep q5)
      have b5 := Lib.hid (b5.keep q5)
      have b6 := Lib.hid (b6.keep q5)
      have hb := heap_alloc_new w5 (.cells #[.int .i64 v, .slice a5 z c5, .slice a6 z c6, .int .i64 (m : Nat)] 36)
      clear o5 q5
      go_wp2_with fail
      generalize w5.alloc (.cells #[.int .i64 v, .slice a5 z c5, .slice a6 z c6, .int .i64 (m : Nat)] 36) = V5 at K5 b1 b3 b5 b6 hb ⊢
      generalize w5.heap.size = B at hb ⊢
      have R27 := Lib.hid (H5.out V5 _ _ b3.out)
      refine R27.out.mono ?_
      rintro e w6 ⟨a7, c7, rfl, b7, o6⟩
      have K6 := Lib.hid (K5.out.trans o6)
      have b1 := Lib.hid (b1.out.keep o6)
      have b3 := Lib.hid (b3.out.keep o6)
      have b5 := Lib.hid (b5.out.keep o6)
      have b6 := Lib.hid (b6.out.keep o6)
      have b7 := Lib.hid b7
      have hb := (o6.block B (lt_of hb) id).trans hb
      clear o6
      go_wp2_with fail
      have R26 := Lib.hid (H6.out w6 _ _ b3.out)
      refine R26.out.mono ?_
      rintro e w7 ⟨a8, c8, rfl, b8, o7⟩
      have K7 := Lib.hid (K6.out.trans o7)
      have b1 := Lib.hid (b1.out.keep o7)
      have b5 := Lib.hid (b5.out.keep o7)
      have b6 := Lib.hid (b6.out.keep o7)
      have b7 := Lib.hid (b7.out.keep o7)
      have hb := (o7.block B (lt_of hb) id).trans hb
      have z1 : w7.cell? ⟨B, 1, none⟩ = some (.slice a5 z c5) := cell_of hb
      have z2 : w7.cell? ⟨B, 2, none⟩ = some (.slice a6 z c6) := cell_of hb
      have z3 : w7.cell? ⟨B, 3, none⟩ = some (.int .i64 (m : Nat)) := cell_of hb
      have T1 := Lib.hid (numG.same_true b5.out.sl (HB.out.1.keep K7.out).sl)
      have T2 := Lib.hid (numG.same_true b6.out.sl (HB.out.2.1.keep K7.out).sl)
      have T3 := Lib.hid (numG.same_true b7.out.sl (HB.out.2.2.keep K7.out).sl)
      have T4 := Lib.hid (numG.same_true b8.sl b1.out.sl)
      clear o7 hb b8
      go_wp2_with fail
      refine T1.out.mono ?_
      rintro e w8 ⟨rfl, rfl⟩
      go_wp2_with fail
      refine T2.out.mono ?_
      rintro e w8 ⟨rfl, rfl⟩
      go_wp2_with fail
      refine T3.out.mono ?_
      rintro e w8 ⟨rfl, rfl⟩
      go_wp2_with fail
      refine T4.out.mono ?_
      rintro e w8 ⟨rfl, rfl⟩
      go_wp2_with fail
      go_ret
      exact ⟨rfl, K7.out⟩
end Go.Proofs.Ytcocmabhbahiaaa.pacM
