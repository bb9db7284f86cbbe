/- PacketReads, whole: the law as the frame tells it of its argument. -/
import Derived.Test.YtcocmabhbahiaaaPacR
import Derived.Test.YtcocmabhbahiaaaArgs
import Derived.OpenShut
import Derived.Below
namespace Go.Proofs.Ytcocmabhbahiaaa.pacS
open Go.RowKit Go.Lib Go.ChangeShapes Go.WideShapes Go.ChangeAt Go.Proofs.Ytcocmabhbahiaaa.kit Go.Proofs.Ytcocmabhbahiaaa.args Go.Proofs.Ytcocmabhbahiaaa.numA Go.Proofs.Ytcocmabhbahiaaa.numF Go.Proofs.Ytcocmabhbahiaaa.numG Go.Proofs.Ytcocmabhbahiaaa.pacA Go.Proofs.Ytcocmabhbahiaaa.pacD Go.Proofs.Ytcocmabhbahiaaa.pacE Go.Proofs.Ytcocmabhbahiaaa.pacF Go.Proofs.Ytcocmabhbahiaaa.pacG Go.Proofs.Ytcocmabhbahiaaa.pacR
set_option linter.unusedVariables false
set_option linter.unusedSimpArgs false

/-- An argument that is a slice of bytes. -/
theorem bytes_by {H : Type} {enc : TypeId × Value → H} {P : Program} {w : World} {base : Nat} {spare : Nat → Bool} {held : Bool} {t e : TypeId} {a : Option Addr} {len cap : Nat} {d : DataW H} {p : List MemPlace}
    (ht : P.underlying t = some (.slice e)) (he : P.underlying e = some (.int .u8)) (ce : P.cellsOf e = 1) (h : DataW.Trod enc P w base spare held t (.slice a len cap) d p) (hlt : ∀ x ∈ p, x.block < w.heap.size) : ∃ l : List UInt8, len = l.length ∧ By w (.slice a len cap) l := by
  obtain ⟨zs, -, hl, hw, hc⟩ := ints_row ht he ce h hlt
  obtain ⟨fuel, hf⟩ := h
  have hcap : len ≤ cap ∧ cap ≤ maxLen := by
    rcases open_ints ht he ce hf with ⟨hcs, _⟩ | ⟨x, l, c, zs, hcs, _, hl, hm, hz, _, hcell, hwz⟩
    · simp [Value.cells] at hcs
      obtain ⟨rfl, rfl, rfl⟩ := hcs
      exact ⟨Nat.le_refl _, Nat.zero_le _⟩
    · simp [Value.cells] at hcs
      obtain ⟨rfl, rfl, rfl⟩ := hcs
      exact ⟨hl, hm⟩
  have hb : ∀ z ∈ zs, z = (((UInt8.ofNat z.toNat).toNat : Nat) : Int) := by
    intro z hz
    have := bounds_u8 (hw z hz)
    rw [UInt8.toNat_ofNat']
    omega
  have hlen : (zs.map fun z => UInt8.ofNat z.toNat).length = len := by simpa using hl
  refine ⟨zs.map fun z => UInt8.ofNat z.toNat, hlen.symm, ?_⟩
  rw [← hlen]
  refine ⟨a, cap, rfl, by omega, hcap.2, ?_⟩
  rcases hc with h0 | ⟨b, o, ha, hb', hcell⟩
  · left
    exact List.eq_nil_of_length_eq_zero (by omega)
  · refine .inr ⟨b, o, ha, hb', fun i hi => ?_⟩
    have hi' : i < zs.length := by simpa using hi
    rw [hcell i (by omega)]
    have e1 := hb (zs[i]) (List.getElem_mem hi')
    have e2 : zs.getD i 0 = zs[i] := by simp [hi']
    have e3 : (zs.map fun z => UInt8.ofNat z.toNat).getD i 0 = UInt8.ofNat (zs[i]).toNat := by simp [hi']
    rw [e2, e3, ← e1]

variable {w : World}

set_option maxRecDepth 100000 in
theorem law_ok (x : Value) (l : List UInt8) (w : World) (h : By w x l) (hl : l.length ≤ 3000) (v b wh s d z : Nat) (P : Pk l v b wh s d z) : Calls Try.prog 5 #[x] w (numA.Told w (.bool true)) := by
  have hx := h
  obtain ⟨g, o, cap, rfl, hc, hm, hg, hcell⟩ := h.some (List.length_pos_iff.2 P.ne)
  have b1 := P.b1
  have w1 := P.w1
  have s1 := P.s1
  have d1 := P.d1
  have lz1 : ((l.take (s + z)).drop s).length = z := by simp; omega
  have lz2 : ((l.take (d + z)).drop d).length = z := by simp; omega
  have lt1 : (l.take wh).length = wh := by simp; omega
  have lu1 : ((l.take wh).drop b).length = wh - b := by simp; omega
  have hT : By w (.slice (some ⟨g, o, none⟩) wh cap) (l.take wh) := by simpa using h.sub 0 wh (Nat.zero_le _) w1
  have R1 := fun (W : World) (k : Only (fun _ => False) w W) => (pacH.read_ok _ l W (hx.keep k) (by omega) v b wh s d z P).mono fun e W' q => Head.z lz1 lz2 q
  have R2 := fun (W : World) (k : Only (fun _ => False) w W) => (trim_ok _ l W (hx.keep k) (by omega) v b wh s d z P).mono fun e W' q => Got.z lt1 q
  have R3 := fun (W : World) (k : Only (fun _ => False) w W) => (data_ok _ l W (hx.keep k) (by omega) v b wh s d z P).mono fun e W' q => Got.z lu1 q
  have R4 := fun (W : World) (k : Only (fun _ => False) w W) => (pacJ.ref_ok _ l W (hx.keep k) v b wh s d z P).mono fun e W' q => RefHead.z lz1 lz2 q
  by_cases hbc : b = cap
  · have hU : By w (.slice (some ⟨g, o, none⟩) 0 0) ((l.take wh).drop b) := by
      have : (l.take wh).drop b = [] := List.eq_nil_of_length_eq_zero (by rw [lu1]; omega)
      rw [this]
      exact By.empty _ 0 (Nat.zero_le _)
    obtain rfl : wh = b := by omega
    have hq : l.length = wh := by omega
    refine walk_ok g o l.length cap w hl v wh wh z (wh - wh) _ _ _ _ R1 R2 R3 R4 (by omega) (by omega) hT _ ?_ hU
    intro W
    have i1 : (0 : Int) ≤ (wh : Int) := by omega
    unfold maxLen at hm
    rw [← hbc]
    simp [Instr.sliceAt, go_sem, Try.underlying27, i1]
  · have hU : By w (.slice (some ⟨g, o + b, none⟩) (wh - b) (cap - b)) ((l.take wh).drop b) := h.sub b wh b1 w1
    refine walk_ok g o l.length cap w hl v b wh z (wh - b) _ _ _ _ R1 R2 R3 R4 (by omega) (by omega) hT _ ?_ hU
    intro W
    have i1 : (0 : Int) ≤ (b : Int) := by omega
    have i2 : (b : Int) ≤ (wh : Int) := by omega
    have i3 : (wh : Int) ≤ (cap : Int) := by omega
    have i4 : (b : Int) < (cap : Int) := by omega
    have i5 : ¬ (cap = b) := by omega
    unfold maxLen at hm
    simp [Instr.sliceAt, go_sem, Try.underlying27, i1, i2, i3, i4, i5]

theorem law_long (a : Option Addr) (n cap : Nat) (w : World) (hl : 3000 < n) : Calls Try.prog 5 #[.slice a n cap] w (numA.Told w (.bool true)) := by
  have A := pacJ.awake_true w
  have t1 : (3000 : Int) < (n : Int) := by omega
  go_enter Try.func5, Try.ntmps5
  go_wp2_with fail
  refine A.mono ?_
  rintro e w1 ⟨rfl, o1⟩
  go_wp2_with fail
  go_ret
  exact ⟨rfl, o1⟩


theorem reads_walk (a : Option Addr) (len cap : Nat) (l : List UInt8) (h : len = l.length ∧ By w (.slice a len cap) l) : Calls Try.prog 5 #[.slice a len cap] w fun e W' => e = .returned (.bool true) ∧ Below w.heap.size w W' := by
  obtain ⟨rfl, h⟩ := h
  have K : Calls Try.prog 5 #[.slice a l.length cap] w (numA.Told w (.bool true)) := by
    by_cases hl : 3000 < l.length
    · exact law_long a l.length cap w hl
    · rcases lk_cases l with ⟨c, hc, hk⟩ | ⟨v, b, wh, s, d, z, P⟩
      · exact law_bad _ l w h (by omega) c hc hk
      · exact law_ok _ l w h (by omega) v b wh s d z P
  exact K.mono fun e W' q => ⟨q.1, q.2.below (fun _ h => h.elim) (Nat.le_refl _)⟩
end Go.Proofs.Ytcocmabhbahiaaa.pacS
