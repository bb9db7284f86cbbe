/- The document's window: Would, Missing. -/
import Derived.Test.YtcocmabhbahiaaaWinE
namespace Go.Proofs.Ytcocmabhbahiaaa.winF
open Go.RowKit Go.Lib Go.Proofs.Ytcocmabhbahiaaa.kit Go.Proofs.Ytcocmabhbahiaaa.numA Go.Proofs.Ytcocmabhbahiaaa.winA Go.Proofs.Ytcocmabhbahiaaa.winC Go.Proofs.Ytcocmabhbahiaaa.winE
set_option linter.unusedVariables false
set_option linter.unusedSimpArgs false

theorem us_size {w : World} {v : Value} {l : List Nat} (h : Us w v l) : ∃ a cap, v = .slice a l.length cap := by
  obtain ⟨a, cap, rfl, _⟩ := h
  exact ⟨a, cap, rfl⟩

def Says (w : World) (v : Value) (e : Ending) (w' : World) : Prop := e = .returned v ∧ Only (fun _ => False) w w'

set_option maxRecDepth 100000 in
theorem would_ref (v : Value) (l : List Nat) (c : Nat) (w : World) (h : Us w v l) (hlen : l.length ≤ 100000) (hl : ∀ x ∈ l, x < 18446744073709543423) : Calls Try.prog 36 #[.agg #[v], .int .u64 c] w (Says w (.int .i64 (rwd l c))) := by
  obtain ⟨a, cap, rfl, hc0, hm, -⟩ := id h
  have O0 : Only (fun _ => False) w (w.alloc (.cells #[.slice a l.length cap] 51)) := (Only.refl _ w).alloc _
  have hU := h.keep O0
  have hb := heap_alloc_new w (.cells #[.slice a l.length cap] 51)
  have HT := Lib.hid (top_ref _ l _ hU hlen)
  have HH := Lib.hid (fun (W : World) (o : Only (fun _ => False) w W) => has_ref _ l c W (h.keep o) hlen)
  have HB := Lib.hid hb
  have HO := Lib.hid O0
  have hmx : mx l < 18446744073709551616 := by
    have : ∀ l : List Nat, (∀ x ∈ l, x < 18446744073709543423) → mx l < 18446744073709551616 := by
      intro l
      induction l with
      | nil => intro _; simp [mx]
      | cons x l ih =>
        intro q
        rw [mx_cons]
        have a1 := ih (fun y hy => q y (by simp [hy]))
        have a2 := q x (by simp)
        omega
    exact this l hl
  by_cases h1 : 18446744073709543423 ≤ c
  · have k1 : (18446744073709543423 : Int) ≤ (c : Int) := by omega
    have e : rwd l c = 10 := by rw [rwd, if_pos h1]
    rw [e]
    clear e h1 h hU hb O0
    go_enter Try.func36, Try.ntmps36
    go_wp2_with fail
    go_ret
    exact ⟨rfl, HO.out⟩
  have k1 : ¬ (18446744073709543423 : Int) ≤ (c : Int) := by omega
  by_cases hne : l = []
  · have e : rwd l c = 0 := by rw [rwd, if_neg h1, if_neg (by simp [hne])]
    rw [e]
    have h0 : l.length = 0 := by rw [hne]; rfl
    rw [h0] at HT HB HO ⊢
    clear e h1 h hU hb O0 HH
    go_enter Try.func36, Try.ntmps36
    go_wp2_with fail
    refine HT.out.mono ?_
    rintro e w1 ⟨rfl, o1⟩
    have hb1 := (o1.block _ (lt_of HB.out) id).trans HB.out
    have z0 : w1.cell? ⟨w.heap.size, 0, none⟩ = some (.slice a 0 cap) := cell_of hb1
    have O1 := Lib.hid (HO.out.trans o1)
    clear o1 hb1
    go_wp2_with fail
    go_ret
    exact ⟨rfl, O1.out⟩
  have hpos : 0 < l.length := List.length_pos_iff.2 hne
  have k0 : (0 : Int) < (l.length : Int) := by omega
  by_cases hin : c ∈ l
  · have e : rwd l c = 9 := by rw [rwd, if_neg h1, if_pos ⟨hne, .inl hin⟩]
    rw [e]
    have e2 : decide (c ∈ l) = true := by simpa using hin
    rw [e2] at HH
    clear e h1 h hU hb O0 e2
    go_enter Try.func36, Try.ntmps36
    go_wp2_with fail
    refine HT.out.mono ?_
    rintro e w1 ⟨rfl, o1⟩
    have hb1 := (o1.block _ (lt_of HB.out) id).trans HB.out
    have z0 : w1.cell? ⟨w.heap.size, 0, none⟩ = some (.slice a l.length cap) := cell_of hb1
    have O1 := Lib.hid (HO.out.trans o1)
    have H2 := Lib.hid (HH.out w1 O1.out)
    clear o1 hb1
    go_wp2_with fail
    refine H2.out.mono ?_
    rintro e w2 ⟨rfl, o2⟩
    have O2 := Lib.hid (O1.out.trans o2)
    clear o2
    go_wp2_with fail
    go_ret
    exact ⟨rfl, O2.out⟩
  have e2 : decide (c ∈ l) = false := by simpa using hin
  rw [e2] at HH
  by_cases h4 : c < mx l
  · have k4 : (c : Int) < (mx l : Int) := by omega
    have k5 : IntKind.u64.wrap ((mx l : Int) - (c : Int)) = ((mx l - c : Nat) : Int) := by
      have : (mx l : Int) - (c : Int) = ((mx l - c : Nat) : Int) := by omega
      rw [this]; exact IntWalk.u64_in _ (by omega)
    by_cases h5 : 2048 ≤ mx l - c
    · have k6 : (2048 : Int) ≤ ((mx l - c : Nat) : Int) := by omega
      have e : rwd l c = 9 := by rw [rwd, if_neg h1, if_pos ⟨hne, .inr ⟨h4, h5⟩⟩]
      rw [e]
      clear e h1 h hU hb O0 e2 hin hne hl hmx
      generalize mx l - c = d at k5 k6 h5
      generalize mx l = t at *
      go_enter Try.func36, Try.ntmps36
      go_wp2_with fail
      refine HT.out.mono ?_
      rintro e w1 ⟨rfl, o1⟩
      have hb1 := (o1.block _ (lt_of HB.out) id).trans HB.out
      have z0 : w1.cell? ⟨w.heap.size, 0, none⟩ = some (.slice a l.length cap) := cell_of hb1
      have O1 := Lib.hid (HO.out.trans o1)
      have H2 := Lib.hid (HH.out w1 O1.out)
      clear o1 hb1
      go_wp2_with fail
      refine H2.out.mono ?_
      rintro e w2 ⟨rfl, o2⟩
      have O2 := Lib.hid (O1.out.trans o2)
      clear o2
      go_wp2_with fail
      go_ret
      exact ⟨rfl, O2.out⟩
    · have k6 : ((mx l - c : Nat) : Int) < 2048 := by omega
      have h6 : mx l - c < 2048 := by omega
      have e : rwd l c = 0 := by rw [rwd, if_neg h1, if_neg (by rintro ⟨-, q | q⟩; exact hin q; exact h5 q.2)]
      rw [e]
      clear e h1 h hU hb O0 e2 hin hne hl hmx
      generalize mx l - c = d at k5 k6 h5 h6
      have k7 : ((2048 : Int) ≤ (d : Int)) = False := eq_false (by omega)
      clear h5 h6 k6
      generalize mx l = t at *
      go_enter Try.func36, Try.ntmps36
      go_wp2_with fail
      refine HT.out.mono ?_
      rintro e w1 ⟨rfl, o1⟩
      have hb1 := (o1.block _ (lt_of HB.out) id).trans HB.out
      have z0 : w1.cell? ⟨w.heap.size, 0, none⟩ = some (.slice a l.length cap) := cell_of hb1
      have O1 := Lib.hid (HO.out.trans o1)
      have H2 := Lib.hid (HH.out w1 O1.out)
      clear o1 hb1
      go_wp2_with fail
      refine H2.out.mono ?_
      rintro e w2 ⟨rfl, o2⟩
      have O2 := Lib.hid (O1.out.trans o2)
      clear o2
      go_wp2_with fail
      go_ret
      exact ⟨rfl, O2.out⟩
  · have k4 : ¬ (c : Int) < (mx l : Int) := by omega
    have e : rwd l c = 0 := by rw [rwd, if_neg h1, if_neg (by rintro ⟨-, q | q⟩; exact hin q; exact h4 q.1)]
    rw [e]
    clear e h1 h hU hb O0 e2 hin hne hl hmx
    generalize mx l = t at *
    go_enter Try.func36, Try.ntmps36
    go_wp2_with fail
    refine HT.out.mono ?_
    rintro e w1 ⟨rfl, o1⟩
    have hb1 := (o1.block _ (lt_of HB.out) id).trans HB.out
    have z0 : w1.cell? ⟨w.heap.size, 0, none⟩ = some (.slice a l.length cap) := cell_of hb1
    have O1 := Lib.hid (HO.out.trans o1)
    have H2 := Lib.hid (HH.out w1 O1.out)
    clear o1 hb1
    go_wp2_with fail
    refine H2.out.mono ?_
    rintro e w2 ⟨rfl, o2⟩
    have O2 := Lib.hid (O1.out.trans o2)
    clear o2
    go_wp2_with fail
    go_ret
    exact ⟨rfl, O2.out⟩

def inWin (t : Nat) (l : List Nat) : Nat := (l.filter (fun x => decide (t - x < 2048))).length

theorem inWin_snoc (t : Nat) (l : List Nat) (x : Nat) : inWin t (l ++ [x]) = inWin t l + if t - x < 2048 then 1 else 0 := by
  rw [inWin, inWin, List.filter_append, List.length_append]
  by_cases h : t - x < 2048 <;> simp [h]

theorem inWin_le (t : Nat) (l : List Nat) : inWin t l ≤ l.length := List.length_filter_le _ _

set_option maxRecDepth 100000 in
theorem missing_ref (v : Value) (l : List Nat) (w : World) (h : Us w v l) (hlen : l.length ≤ 100000) (hl : ∀ x ∈ l, x < 18446744073709543423) (hw : inWin (mx l) l ≤ (if mx l < 2048 then mx l + 1 else 2048)) : Calls Try.prog 43 #[.agg #[v]] w (Says w (.int .i64 (rmiss l : Nat))) := by
  obtain ⟨a, cap, rfl, hc0, hm, -⟩ := id h
  have O0 : Only (fun _ => False) w (w.alloc (.cells #[.slice a l.length cap] 51)) := (Only.refl _ w).alloc _
  have hU := h.keep O0
  have hb := heap_alloc_new w (.cells #[.slice a l.length cap] 51)
  have HT := Lib.hid (top_ref _ l _ hU hlen)
  have HB := Lib.hid hb
  have HO := Lib.hid O0
  by_cases hne : l = []
  · have e : rmiss l = 0 := by rw [rmiss, if_pos hne]
    rw [e]
    have h0 : l.length = 0 := by rw [hne]; rfl
    rw [h0] at HT HB HO ⊢
    clear e h hU hb O0
    go_enter Try.func43, Try.ntmps43
    go_wp2_with fail
    go_ret
    exact ⟨rfl, HO.out⟩
  have hpos : 0 < l.length := List.length_pos_iff.2 hne
  have k0 : ((l.length : Int) == 0) = false := by rw [beq_eq_false_iff_ne]; omega
  have er : rmiss l = (if mx l < 2048 then mx l + 1 else 2048) - inWin (mx l) l := by rw [rmiss, if_neg hne]; rfl
  have hle : ∀ x ∈ l, x ≤ mx l := fun x hx => le_mx hx
  have hmx : mx l < 18446744073709551616 := by
    have : ∀ l : List Nat, (∀ x ∈ l, x < 18446744073709543423) → mx l < 18446744073709551616 := by
      intro l
      induction l with
      | nil => intro _; simp [mx]
      | cons x l ih =>
        intro q
        rw [mx_cons]
        have a1 := ih (fun y hy => q y (by simp [hy]))
        have a2 := q x (by simp)
        omega
    exact this l hl
  have HU := Lib.hid h
  have HE := Lib.hid er
  have HL := Lib.hid hle
  have HW := Lib.hid hw
  clear h hU hb O0 er hle hw hl
  generalize mx l = t at *
  go_enter Try.func43, Try.ntmps43
  go_wp2_with fail
  refine HT.out.mono ?_
  rintro e w1 ⟨rfl, o1⟩
  have hb1 := (o1.block _ (lt_of HB.out) id).trans HB.out
  have z0 : w1.cell? ⟨w.heap.size, 0, none⟩ = some (.slice a l.length cap) := cell_of hb1
  have O1 := Lib.hid (HO.out.trans o1)
  have HU1 := Lib.hid (HU.out.keep O1.out)
  clear o1 hb1
  go_wp2_with fail
  go_loop [4, 6] (fun n i => ∃ k : Nat, k ≤ l.length ∧ i = .int .i64 k ∧ n = .int .i64 (inWin t (l.take k) : Nat)) (fun _ i => l.length - (intOf i).toNat)
  case atStart => exact ⟨0, Nat.zero_le _, rfl, rfl⟩
  case round =>
    obtain ⟨k, hk, rfl, rfl⟩ := hrel
    by_cases hlt : k < l.length
    · have k1 : (k : Int) < (l.length : Int) := by omega
      obtain ⟨g, o, rfl, hcell⟩ := HU1.out.at hlt
      have e1 : inWin t (l.take (k + 1)) = inWin t (l.take k) + if t - l.getD k 0 < 2048 then 1 else 0 := by rw [take_at l k hlt, inWin_snoc]
      have hmem : l.getD k 0 ∈ l := by
        rw [List.getD_eq_getElem?_getD, List.getElem?_eq_getElem hlt]
        exact List.getElem_mem hlt
      have hx := HL.out _ hmem
      have hn := inWin_le t (l.take k)
      rw [List.length_take] at hn
      have HE1 := Lib.hid e1
      clear e1 hmem
      generalize l.getD k 0 = x at HE1 hcell hx
      generalize inWin t (l.take k) = n at HE1 hn ⊢
      have k5 : IntKind.u64.wrap ((t : Int) - (x : Int)) = ((t - x : Nat) : Int) := by
        have : (t : Int) - (x : Int) = ((t - x : Nat) : Int) := by omega
        rw [this]; exact IntWalk.u64_in _ (by omega)
      generalize t - x = d at HE1 k5
      have hn2 : n ≤ 100000 := by omega
      clear hn hx
      by_cases hd : d < 2048
      · have k6 : (d : Int) < 2048 := by omega
        have HD := Lib.hid hd
        clear hd
        go_wp2_with fail
        go_round
        case rel =>
          refine ⟨k + 1, by omega, by go_num, ?_⟩
          rw [HE1.out, if_pos HD.out]
          go_num
        case measure => simp [intOf]; omega
      · have k6 : ¬ (d : Int) < 2048 := by omega
        have HD := Lib.hid hd
        clear hd
        go_wp2_with fail
        go_round
        case rel =>
          refine ⟨k + 1, by omega, by go_num, ?_⟩
          rw [HE1.out, if_neg HD.out]
          rfl
        case measure => simp [intOf]; omega
    · obtain rfl : k = l.length := by omega
      rw [List.take_length]
      have hw := HW.out
      by_cases ht : t < 2048
      · have k7 : (t : Int) < 2048 := by omega
        have HF : Hid (rmiss l = (t + 1) - inWin t l) := by
          have := HE.out
          rw [if_pos ht] at this
          exact this
        rw [if_pos ht] at hw
        generalize inWin t l = n at hw HF ⊢
        have HX := Lib.hid hw
        have w1 : IntKind.i64.wrap ((t : Int) + 1) = (t : Int) + 1 := IntWalk.i64_in _ (by omega)
        have w2 : IntKind.i64.wrap ((t : Int) + 1 - (n : Int)) = (t : Int) + 1 - (n : Int) := IntWalk.i64_in _ (by omega)
        clear hw ht
        go_wp2_with fail
        go_ret
        refine ⟨?_, O1.out⟩
        rw [HF.out]
        have := HX.out
        rw [show ((t + 1 - n : Nat) : Int) = (t : Int) + 1 - (n : Int) by omega]
        rfl
      · have k7 : ¬ (t : Int) < 2048 := by omega
        have HF : Hid (rmiss l = 2048 - inWin t l) := by
          have := HE.out
          rw [if_neg ht] at this
          exact this
        rw [if_neg ht] at hw
        generalize inWin t l = n at hw HF ⊢
        have HX := Lib.hid hw
        have w2 : IntKind.i64.wrap (2048 - (n : Int)) = 2048 - (n : Int) := IntWalk.i64_in _ (by omega)
        clear hw ht
        go_wp2_with fail
        go_ret
        refine ⟨?_, O1.out⟩
        rw [HF.out]
        have := HX.out
        rw [show ((2048 - n : Nat) : Int) = 2048 - (n : Int) by omega]
        rfl
end Go.Proofs.Ytcocmabhbahiaaa.winF
