/- The law WindowNever. -/
import Derived.Test.YtcocmabhbahiaaaWinH
namespace Go.Proofs.Ytcocmabhbahiaaa.winI
open Go.RowKit Go.Lib Go.ChangeShapes Go.WideShapes Go.ChangeAt Go.Proofs.Ytcocmabhbahiaaa.args Go.Proofs.Ytcocmabhbahiaaa.kit Go.Proofs.Ytcocmabhbahiaaa.numA Go.Proofs.Ytcocmabhbahiaaa.winA Go.Proofs.Ytcocmabhbahiaaa.winB Go.Proofs.Ytcocmabhbahiaaa.winC Go.Proofs.Ytcocmabhbahiaaa.winD Go.Proofs.Ytcocmabhbahiaaa.winE Go.Proofs.Ytcocmabhbahiaaa.winF Go.Proofs.Ytcocmabhbahiaaa.winH
set_option linter.unusedVariables false
set_option linter.unusedSimpArgs false

theorem bounds_u64 {z : Int} (h : (Lit.int .u64 z).wf = true) : 0 ≤ z ∧ z < 18446744073709551616 := by
  simp only [Lit.wf, Bool.and_eq_true, decide_eq_true_eq] at h
  have h1 := h.1
  have h2 := h.2
  have e1 : IntKind.u64.min = 0 := rfl
  have e2 : IntKind.u64.max = 18446744073709551615 := rfl
  omega

/-- An argument that is a slice of counters. -/
theorem us_arg {H : Type} {enc : TypeId × Value → H} {P : Program} {w : World} {base : Nat} {spare : Nat → Bool} {held : Bool} {t e : TypeId} {a : Option Addr} {len cap : Nat} {d : DataW H} {p : List MemPlace}
    (ht : P.underlying t = some (.slice e)) (he : P.underlying e = some (.int .u64)) (ce : P.cellsOf e = 1) (h : DataW.Trod enc P w base spare held t (.slice a len cap) d p) (hlt : ∀ x ∈ p, x.block < w.heap.size) : ∃ l : List Nat, len = l.length ∧ (∀ x ∈ l, x < 18446744073709551616) ∧ Us w (.slice a len cap) l := by
  obtain ⟨zs, -, hl, hw, hc⟩ := ints_row ht he ce h hlt
  obtain ⟨fuel, hf⟩ := h
  have hcap : len ≤ cap ∧ cap ≤ maxLen := by
    rcases open_ints ht he ce hf with ⟨hcs, _⟩ | ⟨x, l, c, zs, hcs, _, hl, hm, hz, _, hcell, hwz⟩
    · simp [Value.cells] at hcs
      obtain ⟨rfl, rfl, rfl⟩ := hcs
      exact ⟨Nat.le_refl _, Nat.zero_le _⟩
    · simp [Value.cells] at hcs
      obtain ⟨rfl, rfl, rfl⟩ := hcs
      exact ⟨hl, hm⟩
  have hb : ∀ z ∈ zs, z = ((z.toNat : Nat) : Int) ∧ z.toNat < 18446744073709551616 := by
    intro z hz
    have := bounds_u64 (hw z hz)
    omega
  have hlen : (zs.map fun z => z.toNat).length = len := by simpa using hl
  refine ⟨zs.map fun z => z.toNat, hlen.symm, ?_, ?_⟩
  · intro x hx
    obtain ⟨z, hz, rfl⟩ := List.mem_map.1 hx
    exact (hb z hz).2
  rw [← hlen]
  refine ⟨a, cap, rfl, by omega, hcap.2, ?_⟩
  rcases hc with h0 | ⟨b, o, ha, hb', hcell⟩
  · left
    exact List.eq_nil_of_length_eq_zero (by omega)
  · refine .inr ⟨b, o, ha, hb', fun i hi => ?_⟩
    have hi' : i < zs.length := by simpa using hi
    rw [hcell i (by omega)]
    have e1 := (hb (zs[i]) (List.getElem_mem hi')).1
    have e2 : zs.getD i 0 = zs[i] := by simp [hi']
    have e3 : (zs.map fun z => z.toNat).getD i 0 = (zs[i]).toNat := by simp [hi']
    rw [e2, e3, ← e1]

theorem _root_.Go.Proofs.Ytcocmabhbahiaaa.winE.Us.cell {w : World} {g o n cap i : Nat} {l : List Nat} (h : Us w (.slice (some ⟨g, o, none⟩) n cap) l) (hi : i < l.length) : w.cell? ⟨g, o + i, none⟩ = some (.int .u64 (l.getD i 0 : Nat)) := by
  obtain ⟨g', o', e, hc⟩ := h.at hi
  injection e with e
  injection e with e1 e2
  subst e1 e2
  exact hc

/-- What came too late, or twice, is refused ever after. -/
theorem stale_snoc {l : List Nat} {c : Nat} (x : Nat) (h : rwd l c = 9) : rwd (l ++ [x]) c = 9 := by
  rw [rwd] at h ⊢
  by_cases h1 : 18446744073709543423 ≤ c
  · rw [if_pos h1] at h; exact absurd h (by decide)
  rw [if_neg h1] at h ⊢
  by_cases h2 : l ≠ [] ∧ (c ∈ l ∨ c < mx l ∧ 2048 ≤ mx l - c)
  · rw [if_pos]
    refine ⟨by simp, ?_⟩
    rw [mx_snoc]
    rcases h2.2 with q | q
    · exact .inl (by simp [q])
    · exact .inr (by omega)
  · rw [if_neg h2] at h; exact absurd h (by decide)

theorem stale_now {l : List Nat} {c : Nat} (h : rwd l c = 0) : rwd (l ++ [c]) c = 9 := by
  rw [rwd] at h ⊢
  by_cases h1 : 18446744073709543423 ≤ c
  · rw [if_pos h1] at h; exact absurd h (by decide)
  rw [if_neg h1, if_pos]
  exact ⟨by simp, .inl (by simp)⟩

set_option maxRecDepth 100000 in
theorem never_long (a : Option Addr) (n cap : Nat) (c : Int) (w : World) (hl : 200 < n) : Calls Try.prog 8 #[.slice a n cap, .int .u64 c] w (numA.Told w (.bool true)) := by
  have A := awake_true w
  have t1 : (200 : Int) < (n : Int) := by omega
  go_enter Try.func8, Try.ntmps8
  go_wp2_with fail
  refine A.mono ?_
  rintro e w1 ⟨rfl, o1⟩
  go_wp2_with fail
  go_ret
  exact ⟨rfl, o1⟩

set_option maxRecDepth 100000 in
set_option maxHeartbeats 1000000 in
theorem never (a : Option Addr) (cap : Nat) (l : List Nat) (c : Nat) (w : World) (h : Us w (.slice a l.length cap) l) (hx : ∀ x ∈ l, x < 18446744073709551616) (hl : l.length ≤ 200) (hc : c < 18446744073709551616) :
    Calls Try.prog 8 #[.slice a l.length cap, .int .u64 c] w (numA.Told w (.bool true)) := by
  have HA := Lib.hid (awake_true w)
  have t1 : ¬ ((200 : Int) < (l.length : Int)) := by omega
  have HU := Lib.hid h
  have HX := Lib.hid hx
  have HC := Lib.hid hc
  have HL := Lib.hid hl
  clear h hx hc hl
  go_enter Try.func8, Try.ntmps8
  go_wp2_with fail
  refine HA.out.mono ?_
  rintro e w1 ⟨rfl, o1⟩
  have N := new_at w1
  obtain ⟨B, hB⟩ : ∃ B, B = w1.heap.size := ⟨_, rfl⟩
  rw [← hB] at N
  have HB := Lib.hid (show w.heap.size ≤ B from hB ▸ o1.size)
  have O1 := Lib.hid o1
  clear o1 hB
  go_wp2_with fail
  refine N.mono ?_
  rintro e w2 ⟨rfl, h2, o2⟩
  have O2 := Lib.hid (O1.out.trans o2)
  have A2 := Lib.hid h2
  clear h2 o2
  go_wp2_with fail
  go_loopw [6, 7] (fun g i wr => ∃ (k : Nat) (ls : List Nat), k ≤ l.length ∧ i = .int .i64 k ∧ g = .bool (decide (rwd ls c = 9)) ∧ At wr B ls ∧ Only (fun _ => False) w wr) (fun _ i _ => l.length - (intOf i).toNat)
  case atStart =>
    refine ⟨0, [], Nat.zero_le _, rfl, ?_, A2.out, O2.out⟩
    have : rwd [] c ≠ 9 := by rw [rwd]; split <;> simp
    simp [this]
  case round =>
    obtain ⟨k, ls, hk, rfl, rfl, hA, o⟩ := hrel
    have HO := Lib.hid o
    have HA1 := Lib.hid hA
    clear o hA
    by_cases hlt : k < l.length
    · have k1 : (k : Int) < (l.length : Int) := by omega
      have hlen := HL.out
      obtain ⟨g, o, rfl, hcell⟩ := (HU.out.keep HO.out).at hlt
      have hmem : l.getD k 0 ∈ l := by
        rw [List.getD_eq_getElem?_getD, List.getElem?_eq_getElem hlt]
        exact List.getElem_mem hlt
      have hxl := HX.out _ hmem
      obtain ⟨x, hxe⟩ : ∃ x, x = l.getD k 0 := ⟨_, rfl⟩
      rw [← hxe] at hcell hxl
      have HC3 := Lib.hid (fun (W : World) (q : Only (fun _ => False) w W) => (show W.cell? ⟨g, o + k, none⟩ = some (.int .u64 x) by rw [hxe]; exact (HU.out.keep q).cell hlt))
      clear hmem hxe
      have HT := take_at B x ls wr hxl HA1.out
      have HCm := Lib.hid (fun W (h : At W B ls) => would_at B c ls W HC.out h)
      obtain ⟨ls', hls⟩ : ∃ ls', ls' = (if rwd ls x = 0 then ls ++ [x] else ls) := ⟨_, rfl⟩
      rw [← hls] at HT
      have HW := Lib.hid (fun W (h : At W B ls') => would_at B c ls' W HC.out h)
      have mono : rwd ls c = 9 → rwd ls' c = 9 := by
        intro q
        rw [hls]
        split
        · exact stale_snoc x q
        · exact q
      by_cases h9 : rwd ls c = 9
      · have h9' := mono h9
        have d1 : decide (rwd ls c = 9) = true := by simpa using h9
        rw [d1]
        rw [h9'] at HW
        have G := Lib.hid (show Value.bool true = .bool (decide (rwd ls' c = 9)) by rw [h9']; rfl)
        by_cases hxc : x = c
        · subst hxc
          rw [h9] at HT
          have b1 : ((x : Int) == (x : Int)) = true := by simp
          clear hls mono h9 h9' d1 HCm
          go_wp2_with fail
          refine HT.mono ?_
          rintro e w3 ⟨rfl, h3, o3⟩
          have A3 := Lib.hid h3
          have O3 := Lib.hid (Only.own HO.out o3 HB.out)
          have hc3 := HC3.out w3 O3.out
          clear h3 o3
          go_wp2_with fail
          refine (HW.out _ A3.out).mono ?_
          rintro e w4 ⟨rfl, rfl⟩
          go_wp2_with fail
          go_roundw
          case rel => exact ⟨k + 1, ls', by omega, by go_num, G.out, A3.out, O3.out⟩
          case measure => simp [intOf]; omega
        · have b1 : ((x : Int) == (c : Int)) = false := by rw [beq_eq_false_iff_ne]; omega
          generalize rwd ls x = r at HT
          clear hls mono h9 h9' hxc HCm
          go_wp2_with fail
          refine HT.mono ?_
          rintro e w3 ⟨rfl, h3, o3⟩
          have A3 := Lib.hid h3
          have O3 := Lib.hid (Only.own HO.out o3 HB.out)
          have hc3 := HC3.out w3 O3.out
          clear h3 o3
          go_wp2_with fail
          refine (HW.out _ A3.out).mono ?_
          rintro e w4 ⟨rfl, rfl⟩
          go_wp2_with fail
          go_roundw
          case rel => exact ⟨k + 1, ls', by omega, by go_num, G.out, A3.out, O3.out⟩
          case measure => simp [intOf]; omega
      · have d1 : decide (rwd ls c = 9) = false := by simpa using h9
        rw [d1]
        by_cases hxc : x = c
        · subst hxc
          have b1 : ((x : Int) == (x : Int)) = true := by simp
          by_cases h0 : rwd ls x = 0
          · have h9' : rwd ls' x = 9 := by rw [hls, if_pos h0]; exact stale_now h0
            rw [h0] at HT
            rw [h9'] at HW
            have G := Lib.hid (show Value.bool true = .bool (decide (rwd ls' x = 9)) by rw [h9']; rfl)
            clear hls mono h9 h9' h0 HCm
            go_wp2_with fail
            refine HT.mono ?_
            rintro e w3 ⟨rfl, h3, o3⟩
            have A3 := Lib.hid h3
            have O3 := Lib.hid (Only.own HO.out o3 HB.out)
            have hc3 := HC3.out w3 O3.out
            clear h3 o3
            go_wp2_with fail
            refine (HW.out _ A3.out).mono ?_
            rintro e w4 ⟨rfl, rfl⟩
            go_wp2_with fail
            go_roundw
            case rel => exact ⟨k + 1, ls', by omega, by go_num, G.out, A3.out, O3.out⟩
            case measure => simp [intOf]; omega
          · have b2 : (rwd ls x == 0) = false := by rw [beq_eq_false_iff_ne]; exact h0
            generalize rwd ls x = r at HT b2
            by_cases h9' : rwd ls' x = 9
            · rw [h9'] at HW
              have G := Lib.hid (show Value.bool true = .bool (decide (rwd ls' x = 9)) by rw [h9']; rfl)
              clear hls mono h9 h9' h0 HCm
              go_wp2_with fail
              refine HT.mono ?_
              rintro e w3 ⟨rfl, h3, o3⟩
              have A3 := Lib.hid h3
              have O3 := Lib.hid (Only.own HO.out o3 HB.out)
              have hc3 := HC3.out w3 O3.out
              clear h3 o3
              go_wp2_with fail
              refine (HW.out _ A3.out).mono ?_
              rintro e w4 ⟨rfl, rfl⟩
              go_wp2_with fail
              refine (HW.out _ A3.out).mono ?_
              rintro e w4 ⟨rfl, rfl⟩
              go_wp2_with fail
              go_roundw
              case rel => exact ⟨k + 1, ls', by omega, by go_num, G.out, A3.out, O3.out⟩
              case measure => simp [intOf]; omega
            · have b3 : (rwd ls' x == 9) = false := by rw [beq_eq_false_iff_ne]; exact h9'
              have G := Lib.hid (show Value.bool false = .bool (decide (rwd ls' x = 9)) by simp [h9'])
              generalize hv : rwd ls' x = v at HW b3
              clear hls mono h9 h9' h0 HCm hv
              go_wp2_with fail
              refine HT.mono ?_
              rintro e w3 ⟨rfl, h3, o3⟩
              have A3 := Lib.hid h3
              have O3 := Lib.hid (Only.own HO.out o3 HB.out)
              have hc3 := HC3.out w3 O3.out
              clear h3 o3
              go_wp2_with fail
              refine (HW.out _ A3.out).mono ?_
              rintro e w4 ⟨rfl, rfl⟩
              go_wp2_with fail
              go_roundw
              case rel => exact ⟨k + 1, ls', by omega, by go_num, G.out, A3.out, O3.out⟩
              case measure => simp [intOf]; omega
        · have b1 : ((x : Int) == (c : Int)) = false := by rw [beq_eq_false_iff_ne]; omega
          generalize rwd ls x = r at HT
          by_cases h9' : rwd ls' c = 9
          · rw [h9'] at HW
            have G := Lib.hid (show Value.bool true = .bool (decide (rwd ls' c = 9)) by rw [h9']; rfl)
            clear hls mono h9 h9' hxc HCm
            go_wp2_with fail
            refine HT.mono ?_
            rintro e w3 ⟨rfl, h3, o3⟩
            have A3 := Lib.hid h3
            have O3 := Lib.hid (Only.own HO.out o3 HB.out)
            have hc3 := HC3.out w3 O3.out
            clear h3 o3
            go_wp2_with fail
            refine (HW.out _ A3.out).mono ?_
            rintro e w4 ⟨rfl, rfl⟩
            go_wp2_with fail
            refine (HW.out _ A3.out).mono ?_
            rintro e w4 ⟨rfl, rfl⟩
            go_wp2_with fail
            go_roundw
            case rel => exact ⟨k + 1, ls', by omega, by go_num, G.out, A3.out, O3.out⟩
            case measure => simp [intOf]; omega
          · have b3 : (rwd ls' c == 9) = false := by rw [beq_eq_false_iff_ne]; exact h9'
            have G := Lib.hid (show Value.bool false = .bool (decide (rwd ls' c = 9)) by simp [h9'])
            generalize hv : rwd ls' c = v at HW b3
            clear hls mono h9 h9' hxc HCm hv
            go_wp2_with fail
            refine HT.mono ?_
            rintro e w3 ⟨rfl, h3, o3⟩
            have A3 := Lib.hid h3
            have O3 := Lib.hid (Only.own HO.out o3 HB.out)
            have hc3 := HC3.out w3 O3.out
            clear h3 o3
            go_wp2_with fail
            refine (HW.out _ A3.out).mono ?_
            rintro e w4 ⟨rfl, rfl⟩
            go_wp2_with fail
            go_roundw
            case rel => exact ⟨k + 1, ls', by omega, by go_num, G.out, A3.out, O3.out⟩
            case measure => simp [intOf]; omega
    · obtain rfl : k = l.length := by omega
      have Z1 := take_nil (c : Int)
      have Z2 := would_nil (c : Int)
      have Z3 := top_nil
      have Z4 := missing_nil
      have Z5 := clone_nil
      have HZ := Lib.hid (⟨Z1, Z2, Z3, Z4, Z5⟩ : _ ∧ _ ∧ _ ∧ _ ∧ _)
      clear Z1 Z2 Z3 Z4 Z5
      go_wp2_with fail
      refine (HZ.out.2.2.1 _).mono ?_
      rintro e w3 ⟨rfl, rfl⟩
      go_wp2_with fail
      refine (HZ.out.1 _).mono ?_
      rintro e w3 ⟨rfl, rfl⟩
      go_wp2_with fail
      refine (HZ.out.2.1 _).mono ?_
      rintro e w3 ⟨rfl, rfl⟩
      go_wp2_with fail
      refine (HZ.out.2.2.2.1 _).mono ?_
      rintro e w3 ⟨rfl, rfl⟩
      go_wp2_with fail
      refine (HZ.out.2.2.2.2 _).mono ?_
      rintro e w3 ⟨rfl, rfl⟩
      go_wp2_with fail
      go_ret
      exact ⟨rfl, HO.out⟩

variable {w : World}

theorem never_walk (a : Option Addr) (len cap : Nat) (l : List Nat) (h : len = l.length ∧ (∀ x ∈ l, x < 18446744073709551616) ∧ Us w (.slice a len cap) l) (c : Int) (hc : (Lit.int IntKind.u64 c).wf = true) :
    Calls Try.prog 8 #[.slice a len cap, .int .u64 c] w fun e W' => e = .returned (.bool true) ∧ Below w.heap.size w W' := by
  obtain ⟨rfl, hx, h⟩ := h
  have hc2 := bounds_u64 hc
  obtain ⟨c, rfl⟩ : ∃ n : Nat, c = (n : Int) := ⟨c.toNat, by omega⟩
  have K : Calls Try.prog 8 #[.slice a l.length cap, .int .u64 c] w (numA.Told w (.bool true)) := by
    by_cases hl : 200 < l.length
    · exact never_long a _ cap _ w hl
    · exact never a cap l c w h hx (by omega) (by omega)
  exact K.mono fun e W' q => ⟨q.1, q.2.below (fun _ h => h.elim) (Nat.le_refl _)⟩
end Go.Proofs.Ytcocmabhbahiaaa.winI
