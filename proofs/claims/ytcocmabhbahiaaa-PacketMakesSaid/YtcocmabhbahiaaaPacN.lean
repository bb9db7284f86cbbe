/- PacketMakes, whole. -/
import Derived.Test.YtcocmabhbahiaaaPacM
namespace Go.Proofs.Ytcocmabhbahiaaa.pacN
open Go.RowKit Go.Lib Go.Proofs.Ytcocmabhbahiaaa.kit Go.Proofs.Ytcocmabhbahiaaa.numA Go.Proofs.Ytcocmabhbahiaaa.numF Go.Proofs.Ytcocmabhbahiaaa.numG Go.Proofs.Ytcocmabhbahiaaa.pacA Go.Proofs.Ytcocmabhbahiaaa.pacD Go.Proofs.Ytcocmabhbahiaaa.pacE Go.Proofs.Ytcocmabhbahiaaa.pacF Go.Proofs.Ytcocmabhbahiaaa.pacG Go.Proofs.Ytcocmabhbahiaaa.pacK Go.Proofs.Ytcocmabhbahiaaa.pacR Go.Proofs.Ytcocmabhbahiaaa.pacM
set_option linter.unusedVariables false
set_option linter.unusedSimpArgs false


set_option maxRecDepth 100000 in
theorem early1 (A1 A2 A3 : Option Addr) (n1 n2 n3 k1 k2 k3 : Nat) (n : Int) (w : World) (h1 : 40 < n1) : Calls Try.prog 6 #[.slice A1 n1 k1, .slice A2 n2 k2, .slice A3 n3 k3, .int .i64 n] w (numA.Told w (.bool true)) := by
  have A := pacJ.awake_true w
  have t1 : (40 : Int) < (n1 : Int) := by omega
  go_enter Try.func6, Try.ntmps6
  go_wp2_with fail
  refine A.mono ?_
  rintro e w1 ⟨rfl, o1⟩
  go_wp2_with fail
  go_ret
  exact ⟨rfl, o1⟩

set_option maxRecDepth 100000 in
theorem early2 (A1 A2 A3 : Option Addr) (n1 n2 n3 k1 k2 k3 : Nat) (n : Int) (w : World) (h1 : n1 ≤ 40) (h2 : 40 < n2) : Calls Try.prog 6 #[.slice A1 n1 k1, .slice A2 n2 k2, .slice A3 n3 k3, .int .i64 n] w (numA.Told w (.bool true)) := by
  have A := pacJ.awake_true w
  have s1 : ¬ (40 : Int) < (n1 : Int) := by omega
  have t2 : (40 : Int) < (n2 : Int) := by omega
  go_enter Try.func6, Try.ntmps6
  go_wp2_with fail
  refine A.mono ?_
  rintro e w1 ⟨rfl, o1⟩
  go_wp2_with fail
  go_ret
  exact ⟨rfl, o1⟩

set_option maxRecDepth 100000 in
theorem early3 (A1 A2 A3 : Option Addr) (n1 n2 n3 k1 k2 k3 : Nat) (n : Int) (w : World) (h1 : n1 ≤ 40) (h2 : n2 ≤ 40) (h3 : 3000 < n3) : Calls Try.prog 6 #[.slice A1 n1 k1, .slice A2 n2 k2, .slice A3 n3 k3, .int .i64 n] w (numA.Told w (.bool true)) := by
  have A := pacJ.awake_true w
  have s1 : ¬ (40 : Int) < (n1 : Int) := by omega
  have s2 : ¬ (40 : Int) < (n2 : Int) := by omega
  have t3 : (3000 : Int) < (n3 : Int) := by omega
  go_enter Try.func6, Try.ntmps6
  go_wp2_with fail
  refine A.mono ?_
  rintro e w1 ⟨rfl, o1⟩
  go_wp2_with fail
  go_ret
  exact ⟨rfl, o1⟩

set_option maxRecDepth 100000 in
theorem early4 (A1 A2 A3 : Option Addr) (n1 n2 n3 k1 k2 k3 : Nat) (n : Int) (w : World) (h1 : n1 ≤ 40) (h2 : n2 ≤ 40) (h3 : n3 ≤ 3000) (h4 : 5000 < n) : Calls Try.prog 6 #[.slice A1 n1 k1, .slice A2 n2 k2, .slice A3 n3 k3, .int .i64 n] w (numA.Told w (.bool true)) := by
  have A := pacJ.awake_true w
  have s1 : ¬ (40 : Int) < (n1 : Int) := by omega
  have s2 : ¬ (40 : Int) < (n2 : Int) := by omega
  have s3 : ¬ (3000 : Int) < (n3 : Int) := by omega
  have t4 : (5000 : Int) < n := by omega
  go_enter Try.func6, Try.ntmps6
  go_wp2_with fail
  refine A.mono ?_
  rintro e w1 ⟨rfl, o1⟩
  go_wp2_with fail
  go_ret
  exact ⟨rfl, o1⟩

theorem rest_nil (n : Int) : rest 0 n = 0 := by simp [rest]

theorem rest_small (m : Nat) (n : Int) (h : n < 1) : rest m n = 0 := by rw [rest, if_neg (by omega)]

theorem rest_big (m N : Nat) (h : 1 ≤ N) : (m + rest m (N : Int)) % N = 0 ∧ m + rest m (N : Int) < m + N := by
  have hlt := Nat.mod_lt m (show N > 0 by omega)
  rw [rest]
  simp only [Int.toNat_natCast]
  split
  · refine ⟨?_, by omega⟩
    have e : m + (N - m % N) = N * (m / N) + N := by have := Nat.div_add_mod m N; omega
    rw [e]
    simp
  · refine ⟨?_, by omega⟩
    rw [Nat.add_zero]
    omega

theorem bad_any (A1 A2 A3 : Option Addr) (n1 n2 n3 k1 k2 k3 : Nat) (n : Int) (w : World) (C : Int) (hC : C ≠ 0) (h1 : n1 ≤ 40) (h2 : n2 ≤ 40) (h3 : n3 ≤ 3000) (h4 : n ≤ 5000)
    (R1 : ∀ W, Calls Try.prog 30 #[.slice A1 n1 k1, .slice A2 n2 k2, .slice A3 n3 k3] W (Got W [] C))
    (R2 : ∀ W, Calls Try.prog 31 #[.slice A1 n1 k1, .slice A2 n2 k2, .slice A3 n3 k3] W (Got W [] C)) :
    Calls Try.prog 6 #[.slice A1 n1 k1, .slice A2 n2 k2, .slice A3 n3 k3, .int .i64 n] w (numA.Told w (.bool true)) := by
  have Q1 := fun (W : World) (k : Only (fun _ => False) w W) => (R1 W).mono fun e W' q => Got.z (z := 0) rfl q
  have Q2 := fun (W : World) (k : Only (fun _ => False) w W) => (R2 W).mono fun e W' q => Got.z (z := 0) rfl q
  have Q3 : ∀ W a c, By W (.slice a 0 c) [] → Calls Try.prog 32 #[.slice a 0 c, .int .i64 n] W (BytesZ W 0 []) := by
    intro W a c hb
    have q := pad_any _ [] n W hb (by simp) h4
    rw [List.length_nil, rest_nil] at q
    exact q.mono fun e W' q => Bytes.z rfl q
  by_cases hs : n < 1
  · exact bad_small A1 A2 A3 n1 n2 n3 k1 k2 k3 n w hs h3 C hC h1 h2 Q1 Q2 Q3
  · obtain ⟨N, rfl⟩ : ∃ N : Nat, n = (N : Int) := ⟨n.toNat, by omega⟩
    exact bad_big A1 A2 A3 n1 n2 n3 k1 k2 k3 N w (by omega) (by omega) h3 C hC h1 h2 Q1 Q2 Q3

theorem ok_any (A1 A2 A3 : Option Addr) (z n3 k1 k2 k3 : Nat) (n : Int) (w : World) (LS LD LT H : List UInt8) (v s : Nat) (hz : z ≤ 40) (h4 : n ≤ 5000) (hm : s + z + z + n3 ≤ 2000)
    (e1 : LS.length = z) (e2 : LD.length = z) (e3 : LT.length = n3) (hs : H.length = s)
    (R1 : ∀ W, Only (fun _ => False) w W → Calls Try.prog 30 #[.slice A1 z k1, .slice A2 z k2, .slice A3 n3 k3] W (Got W (H ++ LS ++ LD ++ LT) 0))
    (R2 : ∀ W, Only (fun _ => False) w W → Calls Try.prog 31 #[.slice A1 z k1, .slice A2 z k2, .slice A3 n3 k3] W (Got W (H ++ LS ++ LD ++ LT) 0))
    (PK : ∀ k, Pk (H ++ LS ++ LD ++ LT ++ List.replicate k 0) v (s + z + z) (s + z + z + n3) s (s + z) z)
    (B1 : By w (.slice A1 z k1) LS) (B2 : By w (.slice A2 z k2) LD) (B3 : By w (.slice A3 n3 k3) LT) :
    Calls Try.prog 6 #[.slice A1 z k1, .slice A2 z k2, .slice A3 n3 k3, .int .i64 n] w (numA.Told w (.bool true)) := by
  have hl : (H ++ LS ++ LD ++ LT).length = s + z + z + n3 := by simp; omega
  have pp := fun k => pacL.parts H LS LD LT (List.replicate k 0) s z hs e1 e2
  rw [e3] at pp
  obtain ⟨m, hm1⟩ : ∃ m, m = s + z + z + n3 := ⟨_, rfl⟩
  obtain ⟨L, hL⟩ : ∃ L, L = H ++ LS ++ LD ++ LT := ⟨_, rfl⟩
  rw [← hL] at R1 R2 PK hl pp
  rw [← hm1] at PK hl pp hm
  have Q1 := fun (W : World) (k : Only (fun _ => False) w W) => (R1 W k).mono fun e W' q => Got.z hl q
  have Q2 := fun (W : World) (k : Only (fun _ => False) w W) => (R2 W k).mono fun e W' q => Got.z hl q
  obtain ⟨k, hk⟩ : ∃ k, k = rest m n := ⟨_, rfl⟩
  obtain ⟨P, hP⟩ : ∃ P, P = L ++ List.replicate k 0 := ⟨_, rfl⟩
  obtain ⟨q, hq⟩ : ∃ q, q = m + k := ⟨_, rfl⟩
  have hlen : P.length = q := by rw [hP]; simp; omega
  have pk := PK k
  obtain ⟨p1, p2, p3, p4⟩ := pp k
  rw [← hP] at pk p1 p2 p3 p4
  have Q3 : ∀ W a c, By W (.slice a m c) L → Calls Try.prog 32 #[.slice a m c, .int .i64 n] W (BytesZ W q P) := by
    intro W a c hb
    have x := pad_any _ L n W hb (by omega) h4
    rw [hl, ← hk, ← hP] at x
    exact x.mono fun e W' y => Bytes.z hlen y
  have k5 : k ≤ 5000 := by
    rw [hk, rest]
    split
    · omega
    · omega
  have Q4 : ∀ W a c, By W (.slice a q c) P → Calls Try.prog 25 #[.slice a q c] W (HeadZ W v m z LS LD 0) := by
    intro W a c hb
    have x := pacH.read_ok _ P W hb (by omega) v _ _ _ _ _ pk
    rw [p1, p2] at x
    exact x.mono fun e W' y => Head.z e1 e2 y
  have Q5 : ∀ W a c, By W (.slice a q c) P → Calls Try.prog 27 #[.slice a q c] W (GotZ W n3 LT 0) := by
    intro W a c hb
    have x := data_ok _ P W hb (by omega) v _ _ _ _ _ pk
    rw [p4] at x
    exact x.mono fun e W' y => Got.z e3 y
  have Q6 : ∀ W a c, By W (.slice a q c) P → Calls Try.prog 26 #[.slice a q c] W (GotZ W m L 0) := by
    intro W a c hb
    have x := trim_ok _ P W hb (by omega) v _ _ _ _ _ pk
    rw [p3] at x
    exact x.mono fun e W' y => Got.z hl y
  have h0 : ∀ j, m ≤ j → j < q → P.getD j 0 = 0 := by
    intro j j1 j2
    rw [hP, List.getD_eq_getElem?_getD, List.getElem?_append_right (by omega), List.getElem?_replicate]
    split <;> rfl
  have hT : P.take m = L := by rw [hP]; exact List.take_left' hl
  by_cases hs : n < 1
  · have : q = m := by rw [hq, hk, rest_small m n hs]; rfl
    exact ok_small A1 A2 A3 z n3 k1 k2 k3 n w m q L P hs this (by omega) v LS LD LT hz Q4 Q5 Q6 B1 B2 B3 (by omega) (by omega) hlen hT h0 Q1 Q2 Q3
  · obtain ⟨N, rfl⟩ : ∃ N : Nat, n = (N : Int) := ⟨n.toNat, by omega⟩
    obtain ⟨r1, r2⟩ := rest_big m N (by omega)
    rw [← hk, ← hq] at r1 r2
    exact ok_big A1 A2 A3 z n3 k1 k2 k3 N w m q L P (by omega) (by omega) r1 (by omega) (by omega) v LS LD LT hz Q4 Q5 Q6 B1 B2 B3 (by omega) (by omega) hlen hT h0 Q1 Q2 Q3

theorem makes (A1 A2 A3 : Option Addr) (k1 k2 k3 : Nat) (n : Int) (w : World) (LS LD LT : List UInt8) (B1 : By w (.slice A1 LS.length k1) LS) (B2 : By w (.slice A2 LD.length k2) LD) (B3 : By w (.slice A3 LT.length k3) LT) :
    Calls Try.prog 6 #[.slice A1 LS.length k1, .slice A2 LD.length k2, .slice A3 LT.length k3, .int .i64 n] w (numA.Told w (.bool true)) := by
  by_cases h1 : 40 < LS.length
  · exact early1 _ _ _ _ _ _ _ _ _ n w h1
  by_cases h2 : 40 < LD.length
  · exact early2 _ _ _ _ _ _ _ _ _ n w (by omega) h2
  by_cases h3 : 3000 < LT.length
  · exact early3 _ _ _ _ _ _ _ _ _ n w (by omega) (by omega) h3
  by_cases h4 : 5000 < n
  · exact early4 _ _ _ _ _ _ _ _ _ n w (by omega) (by omega) (by omega) h4
  by_cases hne : LS.length = LD.length
  · by_cases h44 : LS.length = 4
    · have e2 : LD.length = 4 := by omega
      rw [h44] at B1 ⊢
      rw [e2] at B2 ⊢
      by_cases hlong : 1980 < LT.length
      · exact bad_any A1 A2 A3 4 4 _ k1 k2 k3 n w 5 (by decide) (by omega) (by omega) (by omega) (by omega) (fun W => pacL.make_long4 _ _ _ _ _ _ _ W hlong (by omega)) (fun W => pacL.ref_long4 _ _ _ _ _ _ _ W hlong (by omega))
      · refine ok_any A1 A2 A3 4 _ k1 k2 k3 n w LS LD LT [69, 0, UInt8.ofNat ((20 + LT.length) / 256), UInt8.ofNat ((20 + LT.length) % 256), 0, 0, 0, 0, 0, 0, 0, 0] 4 12 (by omega) (by omega) (by omega) h44 e2 rfl rfl ?_ ?_ ?_ B1 B2 B3
        · exact fun W o => pacI.make4 _ _ _ LS LD LT W (B1.keep o) (B2.keep o) (B3.keep o) h44 e2 (by omega)
        · exact fun W o => refmake4 _ _ _ LS LD LT W (B1.keep o) (B2.keep o) (B3.keep o) h44 e2 (by omega)
        · exact fun k => pacL.made4 LS LD LT k h44 e2 (by omega)
    · by_cases h16 : LS.length = 16
      · have e2 : LD.length = 16 := by omega
        rw [h16] at B1 ⊢
        rw [e2] at B2 ⊢
        by_cases hlong : 1960 < LT.length
        · exact bad_any A1 A2 A3 16 16 _ k1 k2 k3 n w 5 (by decide) (by omega) (by omega) (by omega) (by omega) (fun W => pacL.make_long16 _ _ _ _ _ _ _ W hlong (by omega)) (fun W => pacL.ref_long16 _ _ _ _ _ _ _ W hlong (by omega))
        · refine ok_any A1 A2 A3 16 _ k1 k2 k3 n w LS LD LT [96, 0, 0, 0, UInt8.ofNat (LT.length / 256), UInt8.ofNat (LT.length % 256), 0, 0] 6 8 (by omega) (by omega) (by omega) h16 e2 rfl rfl ?_ ?_ ?_ B1 B2 B3
          · exact fun W o => pacI.make16 _ _ _ LS LD LT W (B1.keep o) (B2.keep o) (B3.keep o) h16 e2 (by omega)
          · exact fun W o => refmake16 _ _ _ LS LD LT W (B1.keep o) (B2.keep o) (B3.keep o) h16 e2 (by omega)
          · exact fun k => pacL.made16 LS LD LT k h16 e2 (by omega)
      · rw [← hne] at B2 ⊢
        exact bad_any A1 A2 A3 _ _ _ k1 k2 k3 n w 3 (by decide) (by omega) (by omega) (by omega) (by omega) (fun W => pacL.make_form2 _ _ _ _ _ _ _ _ W h44 h16) (fun W => pacL.ref_form2 _ _ _ _ _ _ _ _ W h44 h16)
  · exact bad_any A1 A2 A3 _ _ _ k1 k2 k3 n w 3 (by decide) (by omega) (by omega) (by omega) (by omega) (fun W => pacL.make_form1 _ _ _ _ _ _ _ _ _ W hne) (fun W => pacL.ref_form1 _ _ _ _ _ _ _ _ _ W hne)

variable {w : World}

theorem makes_walk (A1 : Option Addr) (l1 k1 : Nat) (LS : List UInt8) (B1 : l1 = LS.length ∧ By w (.slice A1 l1 k1) LS) (A2 : Option Addr) (l2 k2 : Nat) (LD : List UInt8) (B2 : l2 = LD.length ∧ By w (.slice A2 l2 k2) LD)
    (A3 : Option Addr) (l3 k3 : Nat) (LT : List UInt8) (B3 : l3 = LT.length ∧ By w (.slice A3 l3 k3) LT) (n : Int) (hn : (Lit.int IntKind.i64 n).wf = true) :
    Calls Try.prog 6 #[.slice A1 l1 k1, .slice A2 l2 k2, .slice A3 l3 k3, .int .i64 n] w fun e W' => e = .returned (.bool true) ∧ Below w.heap.size w W' := by
  obtain ⟨rfl, B1⟩ := B1
  obtain ⟨rfl, B2⟩ := B2
  obtain ⟨rfl, B3⟩ := B3
  exact (makes A1 A2 A3 k1 k2 k3 n w LS LD LT B1 B2 B3).mono fun e W' q => ⟨q.1, q.2.below (fun _ h => h.elim) (Nat.le_refl _)⟩
end Go.Proofs.Ytcocmabhbahiaaa.pacN
