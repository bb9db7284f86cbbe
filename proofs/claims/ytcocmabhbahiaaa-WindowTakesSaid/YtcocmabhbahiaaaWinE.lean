/- The document's window: Top, Has, Would, Missing over a list. -/
import Derived.Test.YtcocmabhbahiaaaWinD
namespace Go.Proofs.Ytcocmabhbahiaaa.winE
open Go.RowKit Go.Lib Go.Proofs.Ytcocmabhbahiaaa.kit Go.Proofs.Ytcocmabhbahiaaa.numA Go.Proofs.Ytcocmabhbahiaaa.winA Go.Proofs.Ytcocmabhbahiaaa.winC
set_option linter.unusedVariables false
set_option linter.unusedSimpArgs false

def Q (l : List Nat) : List Value := l.map fun (n : Nat) => Value.int .u64 (n : Int)

/-- A slice of counters. -/
def Us (w : World) (v : Value) (l : List Nat) : Prop :=
  ∃ a cap, v = .slice a l.length cap ∧ l.length ≤ cap ∧ cap ≤ maxLen ∧ (l = [] ∨ ∃ g o, a = some ⟨g, o, none⟩ ∧ g < w.heap.size ∧ ∀ i, i < l.length → w.cell? ⟨g, o + i, none⟩ = some (.int .u64 (l.getD i 0 : Nat)))

theorem Us.keep {w w' : World} {v : Value} {l : List Nat} (h : Us w v l) (k : Only (fun _ => False) w w') : Us w' v l := by
  obtain ⟨a, cap, hv, hc, hm, h⟩ := h
  refine ⟨a, cap, hv, hc, hm, ?_⟩
  rcases h with h | ⟨g, o, ha, hg, hcell⟩
  · exact .inl h
  · exact .inr ⟨g, o, ha, Nat.lt_of_lt_of_le hg k.size, fun i hi => (World.cell?_of_block (w := w) (a := ⟨g, o + i, none⟩) (k.block g hg id)).trans (hcell i hi)⟩

theorem Us.at {w : World} {a : Option Addr} {n cap i : Nat} {l : List Nat} (h : Us w (.slice a n cap) l) (hi : i < l.length) : ∃ g o, a = some ⟨g, o, none⟩ ∧ w.cell? ⟨g, o + i, none⟩ = some (.int .u64 (l.getD i 0 : Nat)) := by
  obtain ⟨a', cap', hv, hc, hm, h⟩ := h
  injection hv with q1 q2 q3
  subst q1
  rcases h with h | ⟨g, o, ha, hg, hcell⟩
  · subst h; simp at hi
  · exact ⟨g, o, ha, hcell i hi⟩

theorem Us.empty {w : World} (a : Option Addr) (cap : Nat) (h : cap ≤ maxLen) : Us w (.slice a 0 cap) [] := ⟨a, cap, rfl, Nat.zero_le _, h, .inl rfl⟩

theorem take_at (l : List Nat) (k : Nat) (h : k < l.length) : l.take (k + 1) = l.take k ++ [l.getD k 0] := take_snoc l k h 0

abbrev box (x : Value) : Obj := .cells #[x] 51

set_option maxRecDepth 100000 in
theorem top_ref (v : Value) (l : List Nat) (w : World) (h : Us w v l) (hlen : l.length ≤ 100000) : Calls Try.prog 41 #[.agg #[v]] w fun e w' => e = .returned (.int .u64 (mx l : Nat)) ∧ Only (fun _ => False) w w' := by
  obtain ⟨a, cap, rfl, hc, hm, -⟩ := id h
  have O0 : Only (fun _ => False) w (w.alloc (.cells #[.slice a l.length cap] 51)) := (Only.refl _ w).alloc _
  have HU := Lib.hid (h.keep O0)
  clear h hc hm
  go_enter Try.func41, Try.ntmps41
  go_wp2_with fail
  go_loop [3, 4] (fun t i => ∃ k : Nat, k ≤ l.length ∧ i = .int .i64 k ∧ t = .int .u64 (mx (l.take k) : Nat)) (fun _ i => l.length - (intOf i).toNat)
  case atStart => exact ⟨0, Nat.zero_le _, rfl, rfl⟩
  case round =>
    obtain ⟨k, hk, rfl, rfl⟩ := hrel
    by_cases hlt : k < l.length
    · have k1 : (k : Int) < (l.length : Int) := by omega
      obtain ⟨g, o, rfl, hcell⟩ := HU.out.at hlt
      have e1 : mx (l.take (k + 1)) = max (mx (l.take k)) (l.getD k 0) := by rw [take_at l k hlt, mx_snoc]
      have HE := Lib.hid e1
      clear e1
      generalize mx (l.take k) = m at HE ⊢
      generalize l.getD k 0 = x at HE hcell
      by_cases hx : m < x
      · have x1 : (m : Int) < (x : Int) := by omega
        have HX := Lib.hid hx
        clear hx
        go_wp2_with fail
        go_round
        case rel =>
          refine ⟨k + 1, by omega, by go_num, ?_⟩
          have := HX.out
          rw [HE.out, show max m x = x by omega]
        case measure => simp [intOf]; omega
      · have x1 : ¬ (m : Int) < (x : Int) := by omega
        have HX := Lib.hid hx
        clear hx
        go_wp2_with fail
        go_round
        case rel =>
          refine ⟨k + 1, by omega, by go_num, ?_⟩
          have := HX.out
          rw [HE.out, show max m x = m by omega]
        case measure => simp [intOf]; omega
    · obtain rfl : k = l.length := by omega
      rw [List.take_length]
      go_wp2_with fail
      go_ret
      exact ⟨rfl, O0⟩

set_option maxRecDepth 100000 in
theorem has_ref (v : Value) (l : List Nat) (c : Nat) (w : World) (h : Us w v l) (hlen : l.length ≤ 100000) : Calls Try.prog 75 #[.agg #[v], .int .u64 c] w fun e w' => e = .returned (.bool (decide (c ∈ l))) ∧ Only (fun _ => False) w w' := by
  obtain ⟨a, cap, rfl, hc, hm, -⟩ := id h
  have O0 : Only (fun _ => False) w (w.alloc (.cells #[.slice a l.length cap] 51)) := (Only.refl _ w).alloc _
  have HU := Lib.hid (h.keep O0)
  clear h hc hm
  go_enter Try.func75, Try.ntmps75
  go_wp2_with fail
  go_loop [5] (fun i => ∃ k : Nat, k ≤ l.length ∧ i = .int .i64 k ∧ Hid (c ∉ l.take k)) (fun i => l.length - (intOf i).toNat)
  case atStart => exact ⟨0, Nat.zero_le _, rfl, by show c ∉ l.take 0; simp⟩
  case round =>
    obtain ⟨k, hk, rfl, HA⟩ := hrel
    by_cases hlt : k < l.length
    · have k1 : (k : Int) < (l.length : Int) := by omega
      obtain ⟨g, o, rfl, hcell⟩ := HU.out.at hlt
      have e1 := take_at l k hlt
      have HE := Lib.hid e1
      have hmem : l.getD k 0 ∈ l := by
        rw [List.getD_eq_getElem?_getD, List.getElem?_eq_getElem hlt]
        exact List.getElem_mem hlt
      have HD := Lib.hid hmem
      clear e1 hmem
      generalize l.getD k 0 = x at HE HD hcell
      by_cases hx : x = c
      · subst hx
        have e2 : decide (x ∈ l) = true := by simpa using HD.out
        have H2 := Lib.hid e2
        have x1 : ((x : Int) == (x : Int)) = true := by simp
        clear e2
        go_wp2_with fail
        go_ret
        exact ⟨by rw [H2.out]; rfl, O0⟩
      · have x1 : ((x : Int) == (c : Int)) = false := by rw [beq_eq_false_iff_ne]; omega
        have HX := Lib.hid hx
        clear hx
        go_wp2_with fail
        go_round
        case rel =>
          refine ⟨k + 1, by omega, by go_num, ?_⟩
          show c ∉ l.take (k + 1)
          rw [HE.out, List.mem_append]
          rintro (q | q)
          · exact HA.out q
          · exact HX.out (List.mem_singleton.1 q).symm
        case measure => simp [intOf]; omega
    · obtain rfl : k = l.length := by omega
      have e2 : decide (c ∈ l) = false := by
        have := HA.out
        rw [List.take_length] at this
        simpa using this
      have H2 := Lib.hid e2
      clear e2
      go_wp2_with fail
      go_ret
      exact ⟨by rw [H2.out]; rfl, O0⟩
end Go.Proofs.Ytcocmabhbahiaaa.winE
