/- Pair: times. -/
import Derived.Test.YtbjnejnjlidiaaaWiA
import Derived.Test.YtbjnejnjlidiaaaPrRb
import Derived.Test.YtbjnejnjlidiaaaWrE
namespace Go.Proofs.Ytbjnejnjlidiaaa.ppA
open Go.RowKit kit numA numB numC numD numE tmA tmB tmC tmD tmE trA trB prR prRb prS prW prX tsA wrA wrB wrC wrD wrE winA winB winC winD winH
set_option linter.unusedVariables false
set_option linter.unusedSimpArgs false

abbrev pairV (ks kr : ByteArray) (lo re : Int) (bg : Bool) (made : Int) (sent : Nat) (G : Nat) : Array Value := #[.string ks, .string kr, .int .u32 lo, .int .u32 re, .bool bg, .int .i64 made, .int .u64 (sent : Nat), .pointer (some ⟨G, 0, none⟩)]
/-- A pair's block. -/
def PB (w : World) (B : Nat) (c : Array Value) : Prop := w.heap[B]? = some (.cells c 183 (0, 0))
theorem PB.keep {w w' : World} {B : Nat} {c : Array Value} {T : Nat → Prop} (h : PB w B c) (o : Only T w w') (hT : ¬ T B) : PB w' B c := Only.keep o h hT
theorem PB.cell {w : World} {B : Nat} {c : Array Value} (h : PB w B c) (i : Nat) : w.cell? ⟨B, i, none⟩ = c[i]? := cell_of h
theorem PB.free {w : World} {B : Nat} {c : Array Value} (h : PB w B c) (i : Nat) : w.frozen? ⟨B, i, none⟩ = false := free_of h
theorem PB.lt {w : World} {B : Nat} {c : Array Value} (h : PB w B c) : B < w.heap.size := lt_of h
def isTm (n : Int) : Bool := decide (0 ≤ n) && decide (n ≤ 1125899906842624)
theorem isTm_iff {n : Int} : isTm n = true ↔ 0 ≤ n ∧ n ≤ 1125899906842624 := by simp [isTm]
set_option maxRecDepth 100000 in
theorem time_any (n : Int) (w : World) : Calls Try.prog 150 #[.int .i64 n] w (numA.Told w (.bool (isTm n))) := by
  by_cases h1 : 0 ≤ n
  · by_cases h2 : n ≤ 1125899906842624
    · have H := Lib.hid (show isTm n = true from isTm_iff.2 ⟨h1, h2⟩)
      go_enter Try.func150, Try.ntmps150
      go_wp2_with fail
      go_ret
      exact ⟨by rw [H.out]; rfl, Only.refl _ _⟩
    · have H := Lib.hid (show isTm n = false from by rw [← Bool.not_eq_true, isTm_iff]; omega)
      go_enter Try.func150, Try.ntmps150
      go_wp2_with fail
      go_ret
      exact ⟨by rw [H.out]; rfl, Only.refl _ _⟩
  · have H := Lib.hid (show isTm n = false from by rw [← Bool.not_eq_true, isTm_iff]; omega)
    have g : (0 ≤ n) = False := eq_false h1
    go_enter Try.func150, Try.ntmps150
    go_wp2_with fail
    go_ret
    exact ⟨by rw [H.out]; rfl, Only.refl _ _⟩

def ageOf (now made : Int) : Int := if made ≤ now then now - made else 0
set_option maxRecDepth 100000 in
theorem age_any (B : Nat) (ks kr : ByteArray) (lo re : Int) (bg : Bool) (made : Int) (sent G : Nat) (now : Int) (w : World) (h : PB w B (pairV ks kr lo re bg made sent G)) (hn : isTm now = true) (hm : isTm made = true) : Calls Try.prog 155 #[.pointer (some ⟨B, 0, none⟩), .int .i64 now] w (numA.Told w (.int .i64 (ageOf now made))) := by
  rw [isTm_iff] at hn hm
  have c5 : w.cell? ⟨B, 5, none⟩ = some (.int .i64 made) := h.cell 5
  have e1 : wrap64 (now - made) = now - made := IntWalk.wrap64_in _ (by omega)
  by_cases hk : made ≤ now
  · have H := Lib.hid (show ageOf now made = now - made from if_pos hk)
    have e2 : max (now - made) 0 = now - made := by omega
    clear h
    go_enter Try.func155, Try.ntmps155
    go_wp2_with fail
    go_ret
    exact ⟨by rw [H.out]; rfl, Only.refl _ _⟩
  · have H := Lib.hid (show ageOf now made = 0 from if_neg hk)
    have e2 : max (now - made) 0 = 0 := by omega
    clear h
    go_enter Try.func155, Try.ntmps155
    go_wp2_with fail
    go_ret
    exact ⟨by rw [H.out]; rfl, Only.refl _ _⟩

set_option maxRecDepth 100000 in
theorem old_any (B : Nat) (ks kr : ByteArray) (lo re : Int) (bg : Bool) (made : Int) (sent G : Nat) (now : Int) (w : World) (h : PB w B (pairV ks kr lo re bg made sent G)) (hn : isTm now = true) (hm : isTm made = true) : Calls Try.prog 152 #[.pointer (some ⟨B, 0, none⟩), .int .i64 now] w (numA.Told w (.bool (decide (180000 ≤ ageOf now made)))) := by
  have C := Lib.hid (age_any B ks kr lo re bg made sent G now w h hn hm)
  clear h hn hm
  go_enter Try.func152, Try.ntmps152
  go_wp2_with fail
  (with_reducible refine C.out.mono ?_)
  rintro e w2 ⟨rfl, o⟩
  have O := Lib.hid o
  clear o C
  go_wp2_with fail
  go_ret
  exact ⟨rfl, O.out⟩

/-- Could it seal? -/
def freshP (made : Int) (sent : Nat) (now : Int) : Bool := isTm now && (!decide (180000 ≤ ageOf now made) && decide (sent < 18446744073709543423))
set_option maxRecDepth 100000 in
theorem fresh_any (B : Nat) (ks kr : ByteArray) (lo re : Int) (bg : Bool) (made : Int) (sent G : Nat) (now : Int) (w : World) (h : PB w B (pairV ks kr lo re bg made sent G)) (hm : isTm made = true) : Calls Try.prog 96 #[.pointer (some ⟨B, 0, none⟩), .int .i64 now] w (numA.Told w (.bool (freshP made sent now))) := by
  have C1 := Lib.hid (fun W => time_any now W)
  have H := Lib.hid h
  cases hn : isTm now
  · have HV := Lib.hid (show freshP made sent now = false from by rw [freshP, hn]; rfl)
    rw [hn] at C1
    clear h hm hn
    go_enter Try.func96, Try.ntmps96
    go_wp2_with fail
    (with_reducible refine (C1.out _).mono ?_)
    rintro e w2 ⟨rfl, o⟩
    have O := Lib.hid o
    clear o
    go_wp2_with fail
    go_ret
    exact ⟨by rw [HV.out]; rfl, O.out⟩
  · have C2 := Lib.hid (fun W (hW : PB W B (pairV ks kr lo re bg made sent G)) => old_any B ks kr lo re bg made sent G now W hW hn hm)
    rw [hn] at C1
    obtain ⟨b, hb⟩ : ∃ b, b = decide (180000 ≤ ageOf now made) := ⟨_, rfl⟩
    have HV := Lib.hid (show freshP made sent now = (!b && decide (sent < 18446744073709543423)) from by rw [freshP, hn, hb]; rfl)
    rw [← hb] at C2
    clear h hm hn hb
    go_enter Try.func96, Try.ntmps96
    go_wp2_with fail
    (with_reducible refine (C1.out _).mono ?_)
    rintro e w2 ⟨rfl, o⟩
    have O := Lib.hid o
    replace H := Lib.hid (H.out.keep o id)
    clear o
    go_wp2_with fail
    (with_reducible refine (C2.out _ H.out).mono ?_)
    rintro e w3 ⟨rfl, o⟩
    replace O := Lib.hid (O.out.trans o)
    replace H := Lib.hid (H.out.keep o id)
    clear o C1 C2
    cases b
    · have c6 : w3.cell? ⟨B, 6, none⟩ = some (.int .u64 (sent : Nat)) := H.out.cell 6
      by_cases hs : sent < 18446744073709543423
      · have g : ((sent : Int) < 18446744073709543423) = True := eq_true (by omega)
        replace HV := Lib.hid (show freshP made sent now = true from by rw [HV.out, decide_eq_true hs]; rfl)
        clear hs
        go_wp2_with fail
        go_ret
        exact ⟨by rw [HV.out]; rfl, O.out⟩
      · have g : ((sent : Int) < 18446744073709543423) = False := eq_false (by omega)
        replace HV := Lib.hid (show freshP made sent now = false from by rw [HV.out, decide_eq_false hs]; rfl)
        clear hs
        go_wp2_with fail
        go_ret
        exact ⟨by rw [HV.out]; rfl, O.out⟩
    · go_wp2_with fail
      go_ret
      exact ⟨by rw [HV.out]; rfl, O.out⟩

set_option maxRecDepth 100000 in
theorem sent_any (B : Nat) (ks kr : ByteArray) (lo re : Int) (bg : Bool) (made : Int) (sent G : Nat) (w : World) (h : PB w B (pairV ks kr lo re bg made sent G)) : Calls Try.prog 97 #[.pointer (some ⟨B, 0, none⟩)] w (numA.Told w (.int .u64 (sent : Nat))) := by
  have c6 : w.cell? ⟨B, 6, none⟩ = some (.int .u64 (sent : Nat)) := h.cell 6
  clear h
  go_enter Try.func97, Try.ntmps97
  go_wp2_with fail
  go_ret
  exact ⟨rfl, Only.refl _ _⟩

theorem pair_set {w : World} {B : Nat} {ks kr : ByteArray} {lo re : Int} {bg : Bool} {made : Int} {sent G : Nat} (h : PB w B (pairV ks kr lo re bg made sent G)) (n : Nat) : PB (w.setCell ⟨B, 6, none⟩ (.int .u64 (n : Nat))) B (pairV ks kr lo re bg made n G) := heap_set (o := 6) (v := .int .u64 (n : Nat)) h
set_option maxRecDepth 100000 in
theorem skip_ok (B : Nat) (ks kr : ByteArray) (lo re : Int) (bg : Bool) (made : Int) (sent G : Nat) (n : Nat) (w : World) (h : PB w B (pairV ks kr lo re bg made sent G)) (hn : sent ≤ n) : Calls Try.prog 94 #[.pointer (some ⟨B, 0, none⟩), .int .u64 n] w (fun e w' => e = .returned (.int .i64 0) ∧ PB w' B (pairV ks kr lo re bg made n G) ∧ Only (fun k => k = B) w w') := by
  have c6 : w.cell? ⟨B, 6, none⟩ = some (.int .u64 (sent : Nat)) := h.cell 6
  have f6 := h.free 6
  have g : ((n : Int) < (sent : Int)) = False := eq_false (by omega)
  have H := Lib.hid h
  clear h hn
  go_enter Try.func94, Try.ntmps94
  go_wp2_with fail
  go_ret
  exact ⟨rfl, pair_set H.out n, (Only.refl _ _).set rfl⟩

set_option maxRecDepth 100000 in
theorem skip_nil (n : Int) (w : World) : Calls Try.prog 94 #[.pointer none, .int .u64 n] w (numA.Told w (.int .i64 1)) := by
  go_enter Try.func94, Try.ntmps94
  go_wp2_with fail
  go_ret
  exact ⟨rfl, Only.refl _ _⟩

set_option maxRecDepth 100000 in
theorem local_nil (n : Int) (w : World) : Calls Try.prog 99 #[.pointer none] w (numA.Told w (.int .u32 0)) := by
  go_enter Try.func99, Try.ntmps99
  go_wp2_with fail
  go_ret
  exact ⟨rfl, Only.refl _ _⟩

set_option maxRecDepth 100000 in
theorem remote_nil (n : Int) (w : World) : Calls Try.prog 100 #[.pointer none] w (numA.Told w (.int .u32 0)) := by
  go_enter Try.func100, Try.ntmps100
  go_wp2_with fail
  go_ret
  exact ⟨rfl, Only.refl _ _⟩

set_option maxRecDepth 100000 in
theorem beginner_nil (n : Int) (w : World) : Calls Try.prog 101 #[.pointer none] w (numA.Told w (.bool false)) := by
  go_enter Try.func101, Try.ntmps101
  go_wp2_with fail
  go_ret
  exact ⟨rfl, Only.refl _ _⟩

set_option maxRecDepth 100000 in
theorem made_nil (n : Int) (w : World) : Calls Try.prog 102 #[.pointer none] w (numA.Told w (.int .i64 0)) := by
  go_enter Try.func102, Try.ntmps102
  go_wp2_with fail
  go_ret
  exact ⟨rfl, Only.refl _ _⟩

set_option maxRecDepth 100000 in
theorem sent_nil (n : Int) (w : World) : Calls Try.prog 97 #[.pointer none] w (numA.Told w (.int .u64 0)) := by
  go_enter Try.func97, Try.ntmps97
  go_wp2_with fail
  go_ret
  exact ⟨rfl, Only.refl _ _⟩

set_option maxRecDepth 100000 in
theorem fresh_nil (n : Int) (w : World) : Calls Try.prog 96 #[.pointer none, .int .i64 n] w (numA.Told w (.bool false)) := by
  go_enter Try.func96, Try.ntmps96
  go_wp2_with fail
  go_ret
  exact ⟨rfl, Only.refl _ _⟩

set_option maxRecDepth 100000 in
theorem tired_nil (n : Int) (w : World) : Calls Try.prog 103 #[.pointer none, .int .i64 n, .int .i64 0] w (numA.Told w (.bool false)) := by
  go_enter Try.func103, Try.ntmps103
  go_wp2_with fail
  go_ret
  exact ⟨rfl, Only.refl _ _⟩


end Go.Proofs.Ytbjnejnjlidiaaa.ppA
