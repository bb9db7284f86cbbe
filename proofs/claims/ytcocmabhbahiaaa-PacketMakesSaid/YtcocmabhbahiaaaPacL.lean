/- packet.Make and the document's Make where they refuse; what a made packet reads as. -/
import Derived.Test.YtcocmabhbahiaaaPacK
namespace Go.Proofs.Ytcocmabhbahiaaa.pacL
open Go.RowKit Go.Lib Go.Proofs.Ytcocmabhbahiaaa.kit Go.Proofs.Ytcocmabhbahiaaa.numA Go.Proofs.Ytcocmabhbahiaaa.numF Go.Proofs.Ytcocmabhbahiaaa.numG Go.Proofs.Ytcocmabhbahiaaa.pacA Go.Proofs.Ytcocmabhbahiaaa.pacD Go.Proofs.Ytcocmabhbahiaaa.pacG Go.Proofs.Ytcocmabhbahiaaa.pacI Go.Proofs.Ytcocmabhbahiaaa.pacK
set_option linter.unusedVariables false
set_option linter.unusedSimpArgs false

theorem got_nil {w w' : World} {c : Int} (o : Only (fun _ => False) w w') : Got w [] c (.returned (.tuple #[.slice none 0 0, .int .i64 c])) w' :=
  ⟨_, rfl, By.empty none 0 (Nat.zero_le _), o⟩

theorem int_eq (a b : Nat) : ((a : Int) = (b : Int)) ↔ a = b := by omega

set_option maxRecDepth 100000 in
theorem make_form1 (a1 a2 a3 : Option Addr) (n1 n2 n3 c1 c2 c3 : Nat) (w : World) (h : n1 ≠ n2) : Calls Try.prog 30 #[.slice a1 n1 c1, .slice a2 n2 c2, .slice a3 n3 c3] w (Got w [] 3) := by
  have hb : ((n1 : Int) != (n2 : Int)) = true := by rw [bne_iff_ne]; omega
  go_enter Try.func30, Try.ntmps30
  go_wp2_with fail
  exact bodyPost_ret (by simp [results, Try.results30, go_sem]) rfl (got_nil (Only.refl _ _))

set_option maxRecDepth 100000 in
theorem make_form2 (a1 a2 a3 : Option Addr) (n1 n3 c1 c2 c3 : Nat) (w : World) (h4 : n1 ≠ 4) (h16 : n1 ≠ 16) : Calls Try.prog 30 #[.slice a1 n1 c1, .slice a2 n1 c2, .slice a3 n3 c3] w (Got w [] 3) := by
  have hb : ((n1 : Int) != 4) = true := by rw [bne_iff_ne]; omega
  have hc : ((n1 : Int) != 16) = true := by rw [bne_iff_ne]; omega
  go_enter Try.func30, Try.ntmps30
  go_wp2_with fail
  exact bodyPost_ret (by simp [results, Try.results30, go_sem]) rfl (got_nil (Only.refl _ _))

set_option maxRecDepth 100000 in
theorem make_long4 (a1 a2 a3 : Option Addr) (n3 c1 c2 c3 : Nat) (w : World) (h : 1980 < n3) (hm : n3 ≤ 10000) : Calls Try.prog 30 #[.slice a1 4 c1, .slice a2 4 c2, .slice a3 n3 c3] w (Got w [] 5) := by
  have t3 : (1980 : Int) < (n3 : Int) := by omega
  have t4 : (2000 : Int) < (n3 : Int) + 20 := by omega
  have w4 : IntKind.i64.wrap ((n3 : Int) + 20) = (n3 : Int) + 20 := IntWalk.i64_in _ (by omega)
  have d1 : (n3 : Int) / 256 < 256 := by omega
  have d2 : 0 ≤ (n3 : Int) / 256 := by omega
  have d3 : ((n3 : Int) + 20) / 256 < 256 := by omega
  have d4 : 0 ≤ ((n3 : Int) + 20) / 256 := by omega
  have d5 : 0 ≤ (n3 : Int) := by omega
  have d6 : 0 ≤ (n3 : Int) + 20 := by omega
  go_enter Try.func30, Try.ntmps30
  go_wp2_with fail
  exact bodyPost_ret (by simp [results, Try.results30, go_sem]) rfl (got_nil (Only.refl _ _))

set_option maxRecDepth 100000 in
theorem make_long16 (a1 a2 a3 : Option Addr) (n3 c1 c2 c3 : Nat) (w : World) (h : 1960 < n3) (hm : n3 ≤ 10000) : Calls Try.prog 30 #[.slice a1 16 c1, .slice a2 16 c2, .slice a3 n3 c3] w (Got w [] 5) := by
  have t3 : (1960 : Int) < (n3 : Int) := by omega
  have t4 : (2000 : Int) < (n3 : Int) + 40 := by omega
  have w4 : IntKind.i64.wrap ((n3 : Int) + 40) = (n3 : Int) + 40 := IntWalk.i64_in _ (by omega)
  have d1 : (n3 : Int) / 256 < 256 := by omega
  have d2 : 0 ≤ (n3 : Int) / 256 := by omega
  have d3 : ((n3 : Int) + 40) / 256 < 256 := by omega
  have d4 : 0 ≤ ((n3 : Int) + 40) / 256 := by omega
  have d5 : 0 ≤ (n3 : Int) := by omega
  have d6 : 0 ≤ (n3 : Int) + 40 := by omega
  go_enter Try.func30, Try.ntmps30
  go_wp2_with fail
  exact bodyPost_ret (by simp [results, Try.results30, go_sem]) rfl (got_nil (Only.refl _ _))

set_option maxRecDepth 100000 in
theorem ref_form1 (a1 a2 a3 : Option Addr) (n1 n2 n3 c1 c2 c3 : Nat) (w : World) (h : n1 ≠ n2) : Calls Try.prog 31 #[.slice a1 n1 c1, .slice a2 n2 c2, .slice a3 n3 c3] w (Got w [] 3) := by
  have hb : ((n1 : Int) != (n2 : Int)) = true := by rw [bne_iff_ne]; omega
  go_enter Try.func31, Try.ntmps31
  go_wp2_with fail
  exact bodyPost_ret (by simp [results, Try.results31, go_sem]) rfl (got_nil (Only.refl _ _))

set_option maxRecDepth 100000 in
theorem ref_form2 (a1 a2 a3 : Option Addr) (n1 n3 c1 c2 c3 : Nat) (w : World) (h4 : n1 ≠ 4) (h16 : n1 ≠ 16) : Calls Try.prog 31 #[.slice a1 n1 c1, .slice a2 n1 c2, .slice a3 n3 c3] w (Got w [] 3) := by
  have hb : ((n1 : Int) != 4) = true := by rw [bne_iff_ne]; omega
  have hc : ((n1 : Int) != 16) = true := by rw [bne_iff_ne]; omega
  go_enter Try.func31, Try.ntmps31
  go_wp2_with fail
  exact bodyPost_ret (by simp [results, Try.results31, go_sem]) rfl (got_nil (Only.refl _ _))

set_option maxRecDepth 100000 in
theorem ref_long4 (a1 a2 a3 : Option Addr) (n3 c1 c2 c3 : Nat) (w : World) (h : 1980 < n3) (hm : n3 ≤ 10000) : Calls Try.prog 31 #[.slice a1 4 c1, .slice a2 4 c2, .slice a3 n3 c3] w (Got w [] 5) := by
  have t3 : (1980 : Int) < (n3 : Int) := by omega
  have t4 : (2000 : Int) < (n3 : Int) + 20 := by omega
  have w4 : IntKind.i64.wrap ((n3 : Int) + 20) = (n3 : Int) + 20 := IntWalk.i64_in _ (by omega)
  have d1 : (n3 : Int) / 256 < 256 := by omega
  have d2 : 0 ≤ (n3 : Int) / 256 := by omega
  have d3 : ((n3 : Int) + 20) / 256 < 256 := by omega
  have d4 : 0 ≤ ((n3 : Int) + 20) / 256 := by omega
  have d5 : 0 ≤ (n3 : Int) := by omega
  have d6 : 0 ≤ (n3 : Int) + 20 := by omega
  go_enter Try.func31, Try.ntmps31
  go_wp2_with fail
  exact bodyPost_ret (by simp [results, Try.results31, go_sem]) rfl (got_nil (((Only.refl _ _).alloc _).alloc _))

set_option maxRecDepth 100000 in
theorem ref_long16 (a1 a2 a3 : Option Addr) (n3 c1 c2 c3 : Nat) (w : World) (h : 1960 < n3) (hm : n3 ≤ 10000) : Calls Try.prog 31 #[.slice a1 16 c1, .slice a2 16 c2, .slice a3 n3 c3] w (Got w [] 5) := by
  have t3 : (1960 : Int) < (n3 : Int) := by omega
  have t4 : (2000 : Int) < (n3 : Int) + 40 := by omega
  have w4 : IntKind.i64.wrap ((n3 : Int) + 40) = (n3 : Int) + 40 := IntWalk.i64_in _ (by omega)
  have d1 : (n3 : Int) / 256 < 256 := by omega
  have d2 : 0 ≤ (n3 : Int) / 256 := by omega
  have d3 : ((n3 : Int) + 40) / 256 < 256 := by omega
  have d4 : 0 ≤ ((n3 : Int) + 40) / 256 := by omega
  have d5 : 0 ≤ (n3 : Int) := by omega
  have d6 : 0 ≤ (n3 : Int) + 40 := by omega
  go_enter Try.func31, Try.ntmps31
  go_wp2_with fail
  exact bodyPost_ret (by simp [results, Try.results31, go_sem]) rfl (got_nil ((Only.refl _ _).alloc _))

/-- WHAT IS MADE IS READ. -/
theorem made4 (ls ld lt : List UInt8) (k : Nat) (e1 : ls.length = 4) (e2 : ld.length = 4) (e3 : lt.length ≤ 1980) :
    Pk ([69, 0, UInt8.ofNat ((20 + lt.length) / 256), UInt8.ofNat ((20 + lt.length) % 256), 0, 0, 0, 0, 0, 0, 0, 0] ++ ls ++ ld ++ lt ++ List.replicate k 0) 4 20 (20 + lt.length) 12 16 4 := by
  obtain ⟨p, hp⟩ : ∃ p, p = [69, 0, UInt8.ofNat ((20 + lt.length) / 256), UInt8.ofNat ((20 + lt.length) % 256), 0, 0, 0, 0, 0, 0, 0, 0] ++ ls ++ ld ++ lt ++ List.replicate k 0 := ⟨_, rfl⟩
  have b0 : bt p 0 = 69 := by rw [hp]; rfl
  have b2 : bt p 2 = (20 + lt.length) / 256 := by
    have : bt p 2 = (UInt8.ofNat ((20 + lt.length) / 256)).toNat := by rw [hp]; rfl
    rw [this, u8_of _ (by omega)]
  have b3 : bt p 3 = (20 + lt.length) % 256 := by
    have : bt p 3 = (UInt8.ofNat ((20 + lt.length) % 256)).toNat := by rw [hp]; rfl
    rw [this, u8_of _ (by omega)]
  have hl : p.length = 20 + lt.length + k := by rw [hp]; simp; omega
  have hne : p ≠ [] := by intro e; rw [e] at hl; simp at hl; omega
  rw [← hp]
  have hd : 20 + lt.length = 256 * ((20 + lt.length) / 256) + (20 + lt.length) % 256 := by omega
  refine ⟨?_, hne, by omega, by omega, rfl, by omega, .inl ⟨rfl, by omega, by omega, by omega, by omega, rfl, rfl⟩⟩
  rw [lk, if_neg hne, if_pos (by omega), lk4, if_neg (by omega), if_neg (by omega), if_neg (by omega), b0, b2, b3, ← hd]
  rfl

/-- WHAT IS MADE IS READ. -/
theorem made16 (ls ld lt : List UInt8) (k : Nat) (e1 : ls.length = 16) (e2 : ld.length = 16) (e3 : lt.length ≤ 1960) :
    Pk ([96, 0, 0, 0, UInt8.ofNat (lt.length / 256), UInt8.ofNat (lt.length % 256), 0, 0] ++ ls ++ ld ++ lt ++ List.replicate k 0) 6 40 (40 + lt.length) 8 24 16 := by
  obtain ⟨p, hp⟩ : ∃ p, p = [96, 0, 0, 0, UInt8.ofNat (lt.length / 256), UInt8.ofNat (lt.length % 256), 0, 0] ++ ls ++ ld ++ lt ++ List.replicate k 0 := ⟨_, rfl⟩
  have b0 : bt p 0 = 96 := by rw [hp]; rfl
  have b2 : bt p 4 = (lt.length) / 256 := by
    have : bt p 4 = (UInt8.ofNat ((lt.length) / 256)).toNat := by rw [hp]; rfl
    rw [this, u8_of _ (by omega)]
  have b3 : bt p 5 = (lt.length) % 256 := by
    have : bt p 5 = (UInt8.ofNat ((lt.length) % 256)).toNat := by rw [hp]; rfl
    rw [this, u8_of _ (by omega)]
  have hl : p.length = 40 + lt.length + k := by rw [hp]; simp; omega
  have hne : p ≠ [] := by intro e; rw [e] at hl; simp at hl; omega
  rw [← hp]
  have hd : lt.length = 256 * ((lt.length) / 256) + (lt.length) % 256 := by omega
  refine ⟨?_, hne, by omega, by omega, rfl, by omega, .inr ⟨rfl, by omega, by omega, rfl, by omega, rfl, rfl⟩⟩
  rw [lk, if_neg hne, if_neg (by omega), if_pos (by omega), lk6, if_neg (by omega), if_neg (by omega), b2, b3, ← hd]
  rfl

/-- The parts of H, A, B, C, Z. -/
theorem parts (H A B C Z : List UInt8) (s z : Nat) (hs : H.length = s) (ha : A.length = z) (hb : B.length = z) :
    ((H ++ A ++ B ++ C ++ Z).take (s + z)).drop s = A ∧ ((H ++ A ++ B ++ C ++ Z).take (s + z + z)).drop (s + z) = B ∧ (H ++ A ++ B ++ C ++ Z).take (s + z + z + C.length) = H ++ A ++ B ++ C ∧ ((H ++ A ++ B ++ C ++ Z).take (s + z + z + C.length)).drop (s + z + z) = C := by
  subst hs
  have h3 : (H ++ A ++ B ++ C ++ Z).take (H.length + z + z + C.length) = H ++ A ++ B ++ C := List.take_left' (by simp; omega)
  refine ⟨?_, ?_, h3, ?_⟩
  · have : (H ++ A ++ B ++ C ++ Z).take (H.length + z) = H ++ A := by
      rw [show H ++ A ++ B ++ C ++ Z = (H ++ A) ++ (B ++ C ++ Z) by simp]
      exact List.take_left' (by simp; omega)
    rw [this]
    exact List.drop_left' rfl
  · have : (H ++ A ++ B ++ C ++ Z).take (H.length + z + z) = (H ++ A) ++ B := by
      rw [show H ++ A ++ B ++ C ++ Z = (H ++ A ++ B) ++ (C ++ Z) by simp]
      exact List.take_left' (by simp; omega)
    rw [this]
    exact List.drop_left' (by simp; omega)
  · rw [h3]
    exact List.drop_left' (by simp; omega)
end Go.Proofs.Ytcocmabhbahiaaa.pacL
