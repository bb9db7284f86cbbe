/- The walk of NumPrints, and both laws' walks as the frame tells them of their arguments. -/
import Derived.Test.YtcocmabhbahiaaaNumJ
import Derived.OpenShut
namespace Go.Proofs.Ytcocmabhbahiaaa.numK
open Go.RowKit Go.ChangeShapes Go.Proofs.Ytcocmabhbahiaaa.kit Go.Proofs.Ytcocmabhbahiaaa.args Go.Proofs.Ytcocmabhbahiaaa.numA Go.Proofs.Ytcocmabhbahiaaa.numB Go.Proofs.Ytcocmabhbahiaaa.numC Go.Proofs.Ytcocmabhbahiaaa.numE Go.Proofs.Ytcocmabhbahiaaa.numF Go.Proofs.Ytcocmabhbahiaaa.numG Go.Proofs.Ytcocmabhbahiaaa.numJ
set_option linter.unusedVariables false

/-- An argument that is a slice of bytes reads as a list of bytes. -/
theorem bytes_sl {w : World} {a : Option Addr} {len cap : Nat} {zs : List Int} (h : Row .u8 w a len zs) : ∃ l : List UInt8, l.length = len ∧ Sl w (fun j => j < w.heap.size) (.slice a len cap) (U8 l) := by
  obtain ⟨hm, hl, hw, hc⟩ := h
  have hb : ∀ z ∈ zs, z = (((UInt8.ofNat z.toNat).toNat : Nat) : Int) := by
    intro z hz
    have := bounds_u8 (hw z hz)
    rw [UInt8.toNat_ofNat']
    omega
  have e : U8 (zs.map fun z => UInt8.ofNat z.toNat) = zs.map (Value.int .u8) := by
    simp only [U8, List.map_map]
    exact List.map_congr_left fun z hz => by
      show Value.int .u8 _ = Value.int .u8 z
      rw [← hb z hz]
  refine ⟨zs.map fun z => UInt8.ofNat z.toNat, by simpa using hl, ?_⟩
  rw [e]
  have el : (zs.map (Value.int .u8)).length = len := by simpa using hl
  refine ⟨by omega, a, cap, by rw [el], ?_⟩
  rcases hc with h0 | ⟨b, o, ha, hb, hcell⟩
  · left
    have : zs = [] := List.eq_nil_of_length_eq_zero (by omega)
    rw [this]
    rfl
  · exact .inr ⟨b, o, ha, hb, hb, fun i hi => by
      rw [hcell i (by omega)]
      have : i < zs.length := by omega
      simp [this]⟩

theorem rd_dec (u : Nat) (hu : u ≤ most) : rd (dec u) = .tuple #[.int .u64 u, .int .i64 0] := by
  rw [rd, if_pos (isNum_dec u), if_pos (by rw [val_dec]; exact hu), val_dec]

set_option maxRecDepth 100000 in
set_option maxHeartbeats 2000000 in
theorem prints_core (u : Nat) (v : Value) (l : List UInt8) (w : World) (a : Option Addr) (cap : Nat) (hv : v = .slice a l.length cap) (hu : u ≤ most) (hl : Sl w (fun j => j < w.heap.size) v (U8 l)) : Calls Try.prog 4 #[.int .u64 u, v] w (Done w) := by
  have A := awake_any w
  by_cases h500 : 500 < l.length
  · subst hv
    clear hl
    go_enter Try.func4, Try.ntmps4
    go_wp2_with fail
    refine A.mono ?_
    rintro e w1 ⟨rfl, o1⟩
    go_wp2_with fail
    go_ret
    exact ⟨rfl, done_of o1⟩
  · have h5 : l.length ≤ 500 := by omega
    have dl : (dec u).length ≤ 20 := dec_len 19 u (by unfold most at hu; omega)
    have P1 := fun W => numD.print_any u W hu
    have P2 := fun W => numD.print_ref u W hu
    have R := fun W => read_any ⟨(dec u).toArray⟩ W (by show (dec u).toArray.size ≤ _; simp; omega)
    have ed : (ByteArray.mk (dec u).toArray).data.toList = dec u := by simp
    rw [ed, rd_dec u hu] at R
    have X := hex_res fun W => readHex_any ⟨(hexs l).toArray⟩ W (by show (hexs l).toArray.size ≤ _; simp [hexs_len]; omega)
    have eh : (ByteArray.mk (hexs l).toArray).data.toList = hexs l := by simp
    rw [eh, if_pos ⟨hexs_all l, by rw [hexs_len]; omega⟩, if_pos (hexs_all l), if_pos (by rw [hexs_len]; omega), unhex_hexs] at X
    clear ed eh h500 dl
    have HX1 := fun (W : World) (h : Sl W (fun j => j < w.heap.size) v (U8 l)) => numH.hex_any _ v l W h (by omega)
    have HX2 := fun (W : World) (h : Sl W (fun j => j < w.heap.size) v (U8 l)) => numI.hex_ref _ v l W h (by omega)
    have HS := Lib.hid hl
    clear hl
    generalize dec u = du at *
    generalize hexs l = hl at *
    have HV := Lib.hid hv
    subst hv
    go_enter Try.func4, Try.ntmps4
    go_wp2_with fail
    refine A.mono ?_
    rintro e w1 ⟨rfl, o1⟩
    have S1 := HS.out.keep o1 fun _ _ h => h
    go_wp2_with fail
    refine (P1 _).mono ?_
    rintro e w2 ⟨rfl, o2⟩
    go_wp2_with fail
    refine (R _).mono ?_
    rintro e w3 ⟨rfl, o3⟩
    have S3 := (S1.keep o2 fun _ _ h => h).keep o3 fun _ _ h => h
    have Q := HX1 w3 S3
    have O3 := (o1.trans o2).trans o3
    clear o1 o2 o3 S1
    go_wp2_with fail
    refine Q.mono ?_
    rintro e w4 ⟨rfl, o4⟩
    go_wp2_with fail
    refine (X _).mono ?_
    rintro e w5 ⟨c, rfl, lc, o5⟩
    have S5 := (S3.keep o4 fun _ _ h => h).keep o5 fun _ _ h => h
    have LC := Sl.of_lst lc
    have O5 := (O3.trans o4).trans o5
    clear o4 o5 S3 lc O3 Q
    go_wp2_with fail
    refine (P1 _).mono ?_
    rintro e w6 ⟨rfl, o6⟩
    go_wp2_with fail
    refine (P2 _).mono ?_
    rintro e w7 ⟨rfl, o7⟩
    have S7 := (S5.keep o6 fun _ _ h => h).keep o7 fun _ _ h => h
    have LC7 := (LC.keep o6 fun _ _ h => h).keep o7 fun _ _ h => h
    have Q := HX1 w7 S7
    have O7 := (O5.trans o6).trans o7
    clear o6 o7 S5 LC O5
    go_wp2_with fail
    refine Q.mono ?_
    rintro e w8 ⟨rfl, o8⟩
    have S8 := S7.keep o8 fun _ _ h => h
    have LC8 := LC7.keep o8 fun _ _ h => h
    have Q2 := HX2 w8 S8
    have O8 := O7.trans o8
    clear o8 S7 LC7 O7 Q
    go_wp2_with fail
    refine Q2.mono ?_
    rintro e w9 ⟨rfl, o9⟩
    have SM := same_true (S8.keep o9 fun _ _ h => h) (LC8.keep o9 fun _ _ h => h)
    have O9 := O8.trans o9
    clear o9 S8 LC8 O8 Q2
    go_wp2_with fail
    refine SM.mono ?_
    rintro e w10 ⟨rfl, rfl⟩
    go_wp2_with fail
    go_ret
    exact ⟨rfl, done_of O9⟩

theorem prints (u : Int) (hw : (Lit.int .u64 u).wf = true) (a : Option Addr) (len cap : Nat) (zs : List Int) (w : World) (h : Row .u8 w a len zs) : Calls Try.prog 4 #[.int .u64 u, .slice a len cap] w (Done w) := by
  obtain ⟨l, hl, hs⟩ := bytes_sl (cap := cap) h
  have := bounds_u64 hw
  obtain ⟨n, rfl⟩ := Int.eq_ofNat_of_zero_le this.1
  exact prints_core n _ l w a cap (by rw [hl]) (by unfold most; omega) hs
end Go.Proofs.Ytcocmabhbahiaaa.numK
