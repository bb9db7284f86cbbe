/- Contracts of packet's Trim and Data. -/
import Derived.Test.YtcocmabhbahiaaaPacC
namespace Go.Proofs.Ytcocmabhbahiaaa.pacD
open Go.RowKit Go.Lib Go.Proofs.Ytcocmabhbahiaaa.kit Go.Proofs.Ytcocmabhbahiaaa.numA Go.Proofs.Ytcocmabhbahiaaa.numF Go.Proofs.Ytcocmabhbahiaaa.numG Go.Proofs.Ytcocmabhbahiaaa.pacA
set_option linter.unusedVariables false

/-- A packet: version, beginning, whole, where the addresses stand, and how long they are. -/
structure Pk (l : List UInt8) (v b wh s d z : Nat) : Prop where
  eq : lk l = .tuple #[form v b wh s d z, .int .i64 0]
  ne : l ≠ []
  b1 : b ≤ wh
  w1 : wh ≤ l.length
  s1 : s + z = d
  d1 : d + z ≤ b
  ver : (v = 4 ∧ bt l 0 / 16 = 4 ∧ 20 ≤ l.length ∧ b = 4 * (bt l 0 % 16) ∧ wh = 256 * bt l 2 + bt l 3 ∧ s = 12 ∧ z = 4) ∨ (v = 6 ∧ bt l 0 / 16 = 6 ∧ 40 ≤ l.length ∧ b = 40 ∧ wh = 40 + (256 * bt l 4 + bt l 5) ∧ s = 8 ∧ z = 16)

theorem lk_cases (l : List UInt8) : (∃ c : Int, c ≠ 0 ∧ lk l = .tuple #[form 0 0 0 0 0 0, .int .i64 c]) ∨ ∃ v b wh s d z, Pk l v b wh s d z := by
  by_cases h0 : l = []
  · exact .inl ⟨4, by decide, by rw [lk, if_pos h0]⟩
  by_cases q4 : bt l 0 / 16 = 4
  · have E : lk l = lk4 l := by rw [lk, if_neg h0, if_pos q4]
    by_cases a1 : l.length < 20
    · exact .inl ⟨4, by decide, by rw [E, lk4, if_pos a1]⟩
    by_cases a2 : 4 * (bt l 0 % 16) < 20 ∨ 256 * bt l 2 + bt l 3 < 4 * (bt l 0 % 16)
    · exact .inl ⟨3, by decide, by rw [E, lk4, if_neg a1, if_pos a2]⟩
    by_cases a3 : l.length < 256 * bt l 2 + bt l 3
    · exact .inl ⟨4, by decide, by rw [E, lk4, if_neg a1, if_neg a2, if_pos a3]⟩
    · exact .inr ⟨4, 4 * (bt l 0 % 16), 256 * bt l 2 + bt l 3, 12, 16, 4, by rw [E, lk4, if_neg a1, if_neg a2, if_neg a3]; rfl, h0, by omega, by omega, rfl, by omega, .inl ⟨rfl, q4, by omega, rfl, rfl, rfl, rfl⟩⟩
  · by_cases q6 : bt l 0 / 16 = 6
    · have E : lk l = lk6 l := by rw [lk, if_neg h0, if_neg q4, if_pos q6]
      by_cases a1 : l.length < 40
      · exact .inl ⟨4, by decide, by rw [E, lk6, if_pos a1]⟩
      by_cases a3 : l.length < 40 + (256 * bt l 4 + bt l 5)
      · exact .inl ⟨4, by decide, by rw [E, lk6, if_neg a1, if_pos a3]⟩
      · exact .inr ⟨6, 40, 40 + (256 * bt l 4 + bt l 5), 8, 24, 16, by rw [E, lk6, if_neg a1, if_neg a3]; rfl, h0, by omega, by omega, rfl, by omega, .inr ⟨rfl, q6, by omega, rfl, rfl, rfl, rfl⟩⟩
    · exact .inl ⟨3, by decide, by rw [lk, if_neg h0, if_neg q4, if_neg q6]⟩

/-- A list of bytes and a code. -/
def Got (w : World) (l : List UInt8) (c : Int) (e : Ending) (w' : World) : Prop := ∃ r, e = .returned (.tuple #[r, .int .i64 c]) ∧ By w' r l ∧ Only (fun _ => False) w w'

set_option maxRecDepth 100000 in
theorem trim_bad (x : Value) (l : List UInt8) (w : World) (h : By w x l) (c : Int) (hc : c ≠ 0) (hk : lk l = .tuple #[form 0 0 0 0 0 0, .int .i64 c]) : Calls Try.prog 26 #[x] w (Got w [] c) := by
  have L := pacC.look_any x l w h
  rw [hk] at L
  obtain ⟨a, cap, rfl, -⟩ := h
  have hc1 : (c != 0) = true := by simpa using hc
  clear hk hc
  go_enter Try.func26, Try.ntmps26
  go_wp2_with fail
  refine L.mono ?_
  rintro e w3 ⟨rfl, o3⟩
  have HO := Lib.hid o3
  clear o3
  go_wp2_with fail
  go_ret2
  exact ⟨_, rfl, By.empty none 0 (Nat.zero_le _), HO.out.alloc _⟩

set_option maxRecDepth 100000 in
theorem data_bad (x : Value) (l : List UInt8) (w : World) (h : By w x l) (c : Int) (hc : c ≠ 0) (hk : lk l = .tuple #[form 0 0 0 0 0 0, .int .i64 c]) : Calls Try.prog 27 #[x] w (Got w [] c) := by
  have L := pacC.look_any x l w h
  rw [hk] at L
  obtain ⟨a, cap, rfl, -⟩ := h
  have hc1 : (c != 0) = true := by simpa using hc
  clear hk hc
  go_enter Try.func27, Try.ntmps27
  go_wp2_with fail
  refine L.mono ?_
  rintro e w3 ⟨rfl, o3⟩
  have HO := Lib.hid o3
  clear o3
  go_wp2_with fail
  go_ret2
  exact ⟨_, rfl, By.empty none 0 (Nat.zero_le _), HO.out.alloc _⟩

set_option maxRecDepth 100000 in
theorem trim_ok (x : Value) (l : List UInt8) (w : World) (h : By w x l) (hm5 : l.length ≤ 100000000) (v b wh s d z : Nat) (P : Pk l v b wh s d z) : Calls Try.prog 26 #[x] w (Got w (l.take wh) 0) := by
  have L := pacC.look_any x l w h
  rw [P.eq] at L
  obtain ⟨g, o, cap, rfl, hc, hm, hg, hcell⟩ := h.some (List.length_pos_iff.2 P.ne)
  have hw := P.w1
  have hS : By w (.slice (some ⟨g, o, none⟩) wh cap) (l.take wh) := by
    have := h.sub 0 wh (Nat.zero_le _) hw
    simpa using this
  have hsl : (l.take wh).length = wh := by rw [List.length_take]; omega
  have HS := Lib.hid hS
  have w0 : (0 : Int) ≤ (wh : Int) := by omega
  have w1 : (wh : Int) ≤ (cap : Int) := by omega
  unfold maxLen at hm
  clear hS hcell h P
  go_enter Try.func26, Try.ntmps26
  go_wp2_with fail
  refine L.mono ?_
  rintro e w3 ⟨rfl, o3⟩
  have O4 := o3.alloc (.cells #[.int .i64 (v : Int), .int .i64 (b : Int), .int .i64 (wh : Int), .int .i64 (s : Int), .int .i64 (d : Int), .int .i64 (z : Int)] 100)
  have C := clone_any _ _ _ (HS.out.keep O4) (by rw [hsl]; omega)
  have HO := Lib.hid O4
  clear o3 O4
  go_wp2_with fail
  refine C.mono ?_
  rintro e w5 ⟨r, rfl, hr, o5⟩
  go_wp2_with fail
  go_ret2
  exact ⟨r, rfl, hr, HO.out.trans o5⟩

set_option maxRecDepth 100000 in
theorem data_ok (x : Value) (l : List UInt8) (w : World) (h : By w x l) (hm5 : l.length ≤ 100000000) (v b wh s d z : Nat) (P : Pk l v b wh s d z) : Calls Try.prog 27 #[x] w (Got w ((l.take wh).drop b) 0) := by
  have L := pacC.look_any x l w h
  rw [P.eq] at L
  obtain ⟨g, o, cap, rfl, hc, hm, hg, hcell⟩ := h.some (List.length_pos_iff.2 P.ne)
  have hw := P.w1
  have hb := P.b1
  have hsl : ((l.take wh).drop b).length = wh - b := by rw [List.length_drop, List.length_take]; omega
  have w0 : (0 : Int) ≤ (b : Int) := by omega
  have w1 : (wh : Int) ≤ (cap : Int) := by omega
  have w2 : (b : Int) ≤ (wh : Int) := by omega
  unfold maxLen at hm
  by_cases hbc : cap = b
  · obtain rfl : wh = b := by omega
    subst hbc
    have hS : By w (.slice (some ⟨g, o, none⟩) 0 0) ((l.take cap).drop cap) := by
      have : (l.take cap).drop cap = [] := List.eq_nil_of_length_eq_zero (by rw [hsl]; omega)
      rw [this]
      exact By.empty _ 0 (Nat.zero_le _)
    have HS := Lib.hid hS
    generalize hwq : cap = wh at *
    clear hS hcell h P hwq
    have hsl0 := hsl
    go_enter Try.func27, Try.ntmps27
    go_wp2_with fail
    refine L.mono ?_
    rintro e w3 ⟨rfl, o3⟩
    have O4 := o3.alloc (.cells #[.int .i64 (v : Int), .int .i64 (wh : Int), .int .i64 (wh : Int), .int .i64 (s : Int), .int .i64 (d : Int), .int .i64 (z : Int)] 100)
    have C := clone_any _ _ _ (HS.out.keep O4) (by rw [hsl]; omega)
    have HO := Lib.hid O4
    clear o3 O4
    go_wp2_with fail
    refine C.mono ?_
    rintro e w5 ⟨r, rfl, hr, o5⟩
    go_wp2_with fail
    go_ret2
    exact ⟨r, rfl, hr, HO.out.trans o5⟩
  · have hS : By w (.slice (some ⟨g, o + b, none⟩) (wh - b) (cap - b)) ((l.take wh).drop b) := h.sub b wh hb hw
    have HS := Lib.hid hS
    have hbc' : (b : Int) < (cap : Int) := by omega
    clear hS hcell h P
    go_enter Try.func27, Try.ntmps27
    go_wp2_with fail
    refine L.mono ?_
    rintro e w3 ⟨rfl, o3⟩
    have O4 := o3.alloc (.cells #[.int .i64 (v : Int), .int .i64 (b : Int), .int .i64 (wh : Int), .int .i64 (s : Int), .int .i64 (d : Int), .int .i64 (z : Int)] 100)
    have C := clone_any _ _ _ (HS.out.keep O4) (by rw [hsl]; omega)
    have HO := Lib.hid O4
    clear o3 O4
    go_wp2_with fail
    refine C.mono ?_
    rintro e w5 ⟨r, rfl, hr, o5⟩
    go_wp2_with fail
    go_ret2
    exact ⟨r, rfl, hr, HO.out.trans o5⟩
end Go.Proofs.Ytcocmabhbahiaaa.pacD
