/- Wire: the reader's number. -/
import Derived.Test.YtbjnejnjlidiaaaWrR
import Derived.Laws.ShiftsVar
import Derived.Laws.Bits64b
namespace Go.Proofs.Ytbjnejnjlidiaaa.wrS
open Go.RowKit kit numA numB numC numD numE numF tmA tmD trA trB prR prS prW prX wrA wrB wrC wrD wrE wrF wrR
set_option linter.unusedVariables false
set_option linter.unusedSimpArgs false

/-- The number of bytes, the lowest first. -/
def vb : Txt → Nat
  | [] => 0
  | b :: l => b.toNat + 256 * vb l
theorem vb_lt : ∀ l : Txt, vb l < 256 ^ l.length
  | [] => by simp [vb]
  | b :: l => by
    have h := vb_lt l
    have hb : b.toNat < 256 := b.toNat_lt
    rw [vb, List.length_cons, Nat.pow_succ]
    omega
theorem vb_snoc : ∀ (l : Txt) (b : UInt8), vb (l ++ [b]) = vb l + b.toNat * 256 ^ l.length
  | [], b => by simp [vb]
  | a :: l, b => by
    rw [List.cons_append, vb, vb, vb_snoc l b, List.length_cons, Nat.pow_succ]
    have : 256 * (b.toNat * 256 ^ l.length) = b.toNat * (256 ^ l.length * 256) := by rw [Nat.mul_comm 256, Nat.mul_assoc]
    omega
theorem take_more (l : Txt) (j : Nat) (h : j < l.length) : l.take (j + 1) = l.take j ++ [l.getD j 0] := take_snoc l j h 0
theorem vb_or {u b j : Nat} (hu : u < 256 ^ j) : u ||| (b * 256 ^ j) = u + b * 256 ^ j := by
  have e : (256 : Nat) ^ j = 2 ^ (8 * j) := by rw [show (256 : Nat) = 2 ^ 8 from rfl, ← Nat.pow_mul]
  rw [e] at hu ⊢
  rw [Nat.or_comm, Nat.mul_comm, ← Nat.two_pow_add_eq_or_of_lt hu]
  omega
theorem sl_u8 {w : World} {S : Nat → Prop} {a : Option Addr} {n cap j : Nat} {l : Txt} (h : Sl w S (.slice a n cap) (U8 l)) (hj : j < l.length) : ∃ g o, a = some ⟨g, o, none⟩ ∧ w.cell? ⟨g, o + j, none⟩ = some (.int .u8 ((l.getD j 0).toNat : Int)) := by
  obtain ⟨-, a', cap', hv, hx⟩ := h
  injection hv with q1 q2 q3
  subst q1
  rcases hx with hx | ⟨g, o, rfl, -, -, hc⟩
  · have : l = [] := by simpa [U8] using hx
    subst this
    simp at hj
  · exact ⟨g, o, rfl, by rw [hc j (by rw [U8_len]; exact hj), u8_get _ _ hj]⟩
theorem or_shift {u b j : Nat} (hu : u < 256 ^ j) (hb : b < 256) (hj : j < 8) : bits .or .u64 (u : Int) (IntKind.u64.wrap ((b : Int) * 2 ^ (8 * j))) = ((u ||| b * 256 ^ j : Nat) : Int) := by
  have e : (256 : Nat) ^ j = 2 ^ (8 * j) := by rw [show (256 : Nat) = 2 ^ 8 from rfl, ← Nat.pow_mul]
  have h1 : (256 : Nat) ^ (j + 1) ≤ 256 ^ 8 := Nat.pow_le_pow_right (by decide) (by omega)
  have h2 : b * 256 ^ j < 256 ^ (j + 1) := by rw [Nat.pow_succ, Nat.mul_comm _ 256]; exact Nat.mul_lt_mul_of_pos_right hb (Nat.pow_pos (by decide))
  have h3 : (256 : Nat) ^ j ≤ 256 ^ 8 := Nat.pow_le_pow_right (by decide) (by omega)
  have h4 : (256 : Nat) ^ 8 = 18446744073709551616 := by decide
  have e2 : ((b : Int) * 2 ^ (8 * j)) = ((b * 256 ^ j : Nat) : Int) := by rw [e]; simp
  rw [e2]
  generalize b * 256 ^ j = m at h2 ⊢
  rw [IntWalk.u64_in _ (by omega), bits_or_u64_nat _ _ (by omega) (by omega)]
structure NmP (w : World) (R : Nat) (S : Nat → Prop) (r : Txt × Txt × Nat) (e : Ending) (w' : World) : Prop where
  val : e = .returned (.int .u64 (vb r.1 : Nat))
  rd : RdAt w' R S r.2.1 r.2.2
  only : Only (fun q => q = R) w w'
theorem take_le (l : Txt) (c n : Nat) : (takeR l c n).1.length ≤ n := by
  unfold takeR
  split
  · exact Nat.zero_le _
  · split
    · rw [List.length_take]; omega
    · exact Nat.zero_le _
set_option maxRecDepth 100000 in
theorem number_any (R : Nat) (S : Nat → Prop) (l : Txt) (c n : Nat) (w : World) (h : RdAt w R S l c) (hS : ¬ S R) (hn : n ≤ 8) : Calls Try.prog 120 #[.pointer (some ⟨R, 0, none⟩), .int .i64 (n : Nat)] w (NmP w R S (takeR l c n)) := by
  have CT := Lib.hid (take_any R S l c n w h hS)
  obtain ⟨r, hr⟩ : ∃ r, r = takeR l c n := ⟨_, rfl⟩
  have HR8 := Lib.hid (show r.1.length ≤ 8 by have := take_le l c n; rw [← hr] at this; omega)
  rw [← hr] at CT ⊢
  have HS := Lib.hid hS
  clear h hS hn hr
  go_enter Try.func120, Try.ntmps120
  go_wp2_with fail
  (with_reducible refine CT.out.mono ?_)
  rintro e w2 ⟨⟨a, cap, rfl, sl, hc, hm⟩, hrd, o⟩
  have HSL := Lib.hid sl
  have HRD := Lib.hid hrd
  have O := Lib.hid o
  clear sl hc hm hrd o CT
  go_wp2_with fail
  go_loopw [5, 12] (fun u i wr => ∃ j : Nat, i = .int .i64 j ∧ j ≤ r.1.length ∧ u = .int .u64 (vb (r.1.take j) : Nat) ∧ Only (fun _ => False) w2 wr) (fun _ i _ => r.1.length - (Lib.intOf i).toNat)
  case atStart => exact ⟨0, rfl, Nat.zero_le _, rfl, Only.refl _ _⟩
  case round =>
    obtain ⟨j, rfl, hj, rfl, ho⟩ := hrel
    by_cases hlt : j < r.1.length
    · obtain ⟨g, q, rfl, x0⟩ := sl_u8 (HSL.out.keep ho fun _ _ h => h) hlt
      obtain ⟨b, hb⟩ : ∃ b : Nat, b = (r.1.getD j 0).toNat := ⟨_, rfl⟩
      rw [← hb] at x0
      have b256 : b < 256 := by rw [hb]; exact UInt8.toNat_lt _
      have HL8 : j < 8 := by have := HR8.out; omega
      obtain ⟨u, hu⟩ : ∃ u : Nat, u = vb (r.1.take j) := ⟨_, rfl⟩
      have ult : u < 256 ^ j := by rw [hu]; have := vb_lt (r.1.take j); rw [len_take hj] at this; exact this
      have HNEXT := Lib.hid (show vb (r.1.take (j + 1)) = u ||| b * 256 ^ j from by rw [vb_or ult, take_more _ _ hlt, vb_snoc, ← hu, hb, len_take hj])
      have HO := Lib.hid ho
      rw [← hu]
      have k0 : (0 : Int) ≤ (j : Int) := by omega
      have k1 : (j : Int) < (r.1.length : Int) := by omega
      have k1' : ((j : Int) < (r.1.length : Int)) = True := eq_true k1
      have wj : wrap64 ((j : Int) + 1) = (j : Int) + 1 := IntWalk.wrap64_in _ (by omega)
      have w8 : wrap64 (8 * (j : Int)) = 8 * (j : Int) := IntWalk.wrap64_in _ (by omega)
      have HJ := Lib.hid hlt
      clear hj hlt ho hb hu
      go_wp2_with fail
      go_roundw
      case rel =>
        refine ⟨j + 1, rfl, HJ.out, ?_, HO.out⟩
        rw [HNEXT.out, or_shift ult b256 HL8]
      case measure =>
        have := HJ.out
        simp only [Lib.intOf]
        omega
    · obtain rfl : j = r.1.length := by omega
      have k1 : ((r.1.length : Int) < (r.1.length : Int)) = False := eq_false (by omega)
      have HO := Lib.hid ho
      have HV := Lib.hid (show vb (r.1.take r.1.length) = vb r.1 from by rw [List.take_length])
      clear hj hlt ho
      go_wp2_with fail
      go_ret
      exact ⟨by rw [HV.out]; rfl, HRD.out.keep HO.out id (fun _ _ h => h), O.out.trans (HO.out.mono fun _ h => h.elim)⟩


end Go.Proofs.Ytbjnejnjlidiaaa.wrS
