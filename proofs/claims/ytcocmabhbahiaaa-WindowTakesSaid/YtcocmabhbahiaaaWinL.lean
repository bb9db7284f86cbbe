/- The law WindowTakes. -/
import Derived.Test.YtcocmabhbahiaaaWinK
import Derived.Deep.RegionHeld3
import Derived.StillTailTactics
namespace Go.Proofs.Ytcocmabhbahiaaa.winL
open Go.RowKit Go.Lib Go.Proofs.Ytcocmabhbahiaaa.kit Go.Proofs.Ytcocmabhbahiaaa.numA Go.Proofs.Ytcocmabhbahiaaa.winA Go.Proofs.Ytcocmabhbahiaaa.winB Go.Proofs.Ytcocmabhbahiaaa.winC Go.Proofs.Ytcocmabhbahiaaa.winD Go.Proofs.Ytcocmabhbahiaaa.winE Go.Proofs.Ytcocmabhbahiaaa.winF Go.Proofs.Ytcocmabhbahiaaa.winG Go.Proofs.Ytcocmabhbahiaaa.winH Go.Proofs.Ytcocmabhbahiaaa.winI Go.Proofs.Ytcocmabhbahiaaa.winK
set_option linter.unusedVariables false
set_option linter.unusedSimpArgs false

def OldAt (w wr : World) (B : Nat) (old : Value) (lz : List Nat) : Prop := old = .pointer none ∨ ∃ D, old = ptr D ∧ D ≠ B ∧ w.heap.size ≤ D ∧ At wr D lz

theorem OldAt.step {w wr w' : World} {B : Nat} {old : Value} {lz : List Nat} (h : OldAt w wr B old lz) (o : Only (fun _ => False) wr w') : OldAt w w' B old lz := by
  rcases h with h | ⟨D, h1, h2, h3, h4⟩
  · exact .inl h
  · exact .inr ⟨D, h1, h2, h3, h4.keep o id⟩

theorem OldAt.take {w wr w' : World} {B : Nat} {old : Value} {lz : List Nat} (h : OldAt w wr B old lz) (o : Only (fun i => i = B) wr w') : OldAt w w' B old lz := by
  rcases h with h | ⟨D, h1, h2, h3, h4⟩
  · exact .inl h
  · exact .inr ⟨D, h1, h2, h3, h4.keep o h2⟩

theorem OldAt.setM {w wr : World} {B M : Nat} {v v' old : Value} {lz : List Nat} (h : OldAt w wr B old lz) (k : Var wr M v) : OldAt w (wr.setCell ⟨M, 0, none⟩ v') B old lz := by
  rcases h with h | ⟨D, h1, h2, h3, h4⟩
  · exact .inl h
  · exact .inr ⟨D, h1, h2, h3, h4.keep (only_set wr M v') (fun e => at_ne h4 k e.symm)⟩

theorem Rel.start {w w2 : World} {B : Nat} (h : At w2 B []) (o : Only (fun _ => False) w w2) (hB : w.heap.size ≤ B) :
    Rel w ((w2.alloc (.cells #[.slice none 0 0] 51)).alloc (.cells #[.slice none 0 0] 51)) B w2.heap.size (w2.heap.size + 1) (.slice none 0 0) (.slice none 0 0) [] [] [] := by
  have o2 := (((Only.refl (fun _ => False) w2).alloc (.cells #[.slice none 0 0] 51)).alloc (.cells #[.slice none 0 0] 51))
  refine ⟨h.keep o2 id, ?_, .inl ⟨rfl, rfl⟩, ?_, .inl ⟨rfl, rfl⟩, by omega, o.trans o2, hB, o.size, by have := o.size; omega⟩
  · have := heap_alloc_new w2 (.cells #[.slice none 0 0] 51)
    exact (Below.heap_alloc _ _ _ (lt_of this)).trans this
  · have := heap_alloc_new (w2.alloc (.cells #[.slice none 0 0] 51)) (.cells #[.slice none 0 0] 51)
    rwa [World.size_alloc] at this

theorem rel_takeD {w wr w' : World} {B M Z D : Nat} {vm vz : Value} {lw lm lz l' : List Nat} (h : Rel w wr B M Z vm vz lw lm lz) (k : At wr D l') (hD : D ≠ B) (hw : w.heap.size ≤ D) (o : Only (fun i => i = D) wr w') : Rel w w' B M Z vm vz lw lm lz :=
  ⟨h.win.keep o (fun e => hD e.symm), o.keep h.m (at_ne k h.m), h.ml.keep o (at_no23 k), o.keep h.z (at_ne k h.z), h.zl.keep o (at_no23 k), h.ne, Only.own h.only o hw, h.hB, h.hM, h.hZ⟩

theorem keep1 {W W' : World} {M : Nat} {v : Value} (o : Only (fun _ => False) W W') (m0 : W.cell? ⟨M, 0, none⟩ = some v) : W'.cell? ⟨M, 0, none⟩ = some v :=
  (World.cell?_of_block (w := W) (a := ⟨M, 0, none⟩) (o.block M (World.block_lt_of_cell? W _ m0) id)).trans m0

theorem keep2 {w W W' : World} {M g j : Nat} {v x : Value} (o : Only (fun _ => False) W W') (m0 : W.cell? ⟨M, 0, none⟩ = some v) (x0 : W.cell? ⟨g, j, none⟩ = some x) : W'.cell? ⟨M, 0, none⟩ = some v ∧ W'.cell? ⟨g, j, none⟩ = some x := by
  have lM := World.block_lt_of_cell? W _ m0
  have lg := World.block_lt_of_cell? W _ x0
  exact ⟨(World.cell?_of_block (w := W) (a := ⟨M, 0, none⟩) (o.block M lM id)).trans m0, (World.cell?_of_block (w := W) (a := ⟨g, j, none⟩) (o.block g lg id)).trans x0⟩

set_option maxRecDepth 100000 in
theorem takes_long (a : Option Addr) (n cap : Nat) (at_ : Int) (w : World) (hl : 300 < n) : Calls Try.prog 7 #[.slice a n cap, .int .i64 at_] w (numA.Told w (.bool true)) := by
  have A := awake_true w
  have t1 : (300 : Int) < (n : Int) := by omega
  go_enter Try.func7, Try.ntmps7
  go_wp2_with fail
  refine A.mono ?_
  rintro e w1 ⟨rfl, o1⟩
  go_wp2_with fail
  go_ret
  exact ⟨rfl, o1⟩

set_option maxRecDepth 100000 in
set_option maxHeartbeats 4000000 in
theorem takes (a : Option Addr) (cap : Nat) (l : List Nat) (at_ : Int) (w : World) (h : Us w (.slice a l.length cap) l) (hx : ∀ x ∈ l, x < 18446744073709551616) (hl : l.length ≤ 300) :
    Calls Try.prog 7 #[.slice a l.length cap, .int .i64 at_] w (numA.Told w (.bool true)) := by
  have HA := Lib.hid (awake_true w)
  have t1 : ¬ ((300 : Int) < (l.length : Int)) := by omega
  have HU := Lib.hid h
  have HX := Lib.hid hx
  have HL := Lib.hid hl
  clear h hx hl
  go_enter Try.func7, Try.ntmps7
  go_wp2_with fail
  refine HA.out.mono ?_
  rintro e w1 ⟨rfl, o1⟩
  have N := new_at w1
  obtain ⟨B, hB⟩ : ∃ B, B = w1.heap.size := ⟨_, rfl⟩
  rw [← hB] at N
  have HB := Lib.hid (show w.heap.size ≤ B from hB ▸ o1.size)
  have O1 := Lib.hid o1
  clear o1 hB
  go_wp2_with fail
  refine N.mono ?_
  rintro e w2 ⟨rfl, h2, o2⟩
  have R0 := Lib.hid (Rel.start h2 (O1.out.trans o2) HB.out)
  clear h2 o2 N
  go_wp2_with fail
  generalize (w2.alloc (.cells #[.slice none 0 0] 51)).alloc (.cells #[.slice none 0 0] 51) = W4 at R0 ⊢
  generalize w2.heap.size + 1 = Z at R0 ⊢
  generalize w2.heap.size = M at R0 ⊢
  go_loopw [7, 9] (fun old i wr => ∃ (k : Nat) (am az : Option Addr) (cm cz : Nat) (ls lz : List Nat), k ≤ l.length ∧ i = .int .i64 k ∧ Rel w wr B M Z (.slice am ls.length cm) (.slice az lz.length cz) ls ls lz ∧ ls.length ≤ k ∧ lz.length ≤ k ∧ OldAt w wr B old lz) (fun _ i _ => l.length - (intOf i).toNat)
  case atStart => exact ⟨0, none, none, 0, 0, [], [], Nat.zero_le _, rfl, R0.out, Nat.le_refl _, Nat.le_refl _, .inl rfl⟩
  case round =>
    obtain ⟨k, am, az, cm, cz, ls, lz, hk, rfl, R, hls, hlz, HD⟩ := hrel
    have HR := Lib.hid R
    have HO := Lib.hid HD
    have HLS := Lib.hid hls
    have HLZ := Lib.hid hlz
    clear R HD hls hlz
    by_cases hlt : k < l.length
    · have k1 : (k : Int) < (l.length : Int) := by omega
      have hlen := HL.out
      obtain ⟨g, o, rfl, hcell⟩ := (HU.out.keep HR.out.only).at hlt
      have hmem : l.getD k 0 ∈ l := by
        rw [List.getD_eq_getElem?_getD, List.getElem?_eq_getElem hlt]
        exact List.getElem_mem hlt
      have hxl := HX.out _ hmem
      obtain ⟨x, hxe⟩ : ∃ x, x = l.getD k 0 := ⟨_, rfl⟩
      rw [← hxe] at hcell hxl
      have HC := Lib.hid (fun (W : World) (q : Only (fun _ => False) w W) => (show W.cell? ⟨g, o + k, none⟩ = some (.int .u64 x) by rw [hxe]; exact (HU.out.keep q).cell hlt))
      have HXL := Lib.hid hxl
      clear hmem hxe hxl
      by_cases hat : (k : Int) = at_
      · have b1 : ((k : Int) == at_) = true := by rw [beq_iff_eq]; exact hat
        clear hat
        have mW := HR.out.m.cell
        have zW := HR.out.z.cell
        have fW : wr.frozen? ⟨Z, 0, none⟩ = false := free_of HR.out.z
        obtain ⟨D, hD⟩ : ∃ D, D = wr.heap.size := ⟨_, rfl⟩
        have HCl : Hid (Calls Try.prog 35 #[ptr B] wr.drew fun e w' => e = .returned (ptr D) ∧ At w' D ls ∧ Only (fun _ => False) wr.drew w') := by
          rw [hD]
          exact (clone_at B ls wr.drew (HR.out.step (Only.refl _ wr).drew).win : _)
        have HDB : Hid (D ≠ B ∧ w.heap.size ≤ D) := ⟨by have := HR.out.win.lt; omega, by rw [hD]; exact HR.out.only.size⟩
        clear hD hcell
        go_wp2_with fail
        go_region_with (first | (go_at_call 35; (with_reducible refine Calls.mono HCl.out ?_); rintro e w10 ⟨rfl, hD, oD⟩; have R10 := Lib.hid (HR.out.step ((Only.refl _ wr).drew.trans oD)); have m10 := R10.out.m.cell; have z10 := R10.out.z.cell; have f10 : w10.frozen? ⟨Z, 0, none⟩ = false := free_of R10.out.z))
        all_goals
          have R11 := Lib.hid (R10.out.setZ R10.out.ml)
          have O11 : Hid (OldAt w (w10.setCell ⟨Z, 0, none⟩ (.slice am ls.length cm)) B (ptr D) ls) := .inr ⟨D, rfl, HDB.out.1, HDB.out.2, hD.keep (only_set w10 Z (.slice am ls.length cm)) (fun e => at_ne hD R10.out.z e.symm)⟩
          generalize w10.setCell ⟨Z, 0, none⟩ (.slice am ls.length cm) = w11 at R11 O11 ⊢
          have hc11 := HC.out w11 R11.out.only
          clear hD oD R10 m10 z10 f10 mW zW fW HCl
          by_cases hr : rwd ls x = 0
          · have m0 := R11.out.m.cell
            have hc1 := HC.out w11 R11.out.only
            have HQ := Lib.hid (fun (W : World) (q : Only (fun _ => False) w11 W) => would_ref (.slice am ls.length cm) ls x W (R11.out.step q).ml.us (by first | (simp; done) | (have := HLS.out; have := HL.out; omega)) (at_mem R11.out.win).1)
            have HWo := Lib.hid (fun (W : World) (q : At W B ls) => would_at B x ls W HXL.out q)
            have HTa := Lib.hid (fun (W : World) (q : At W B ls) => taken HXL.out q hr (if_pos rfl))
            rw [hr] at HQ HWo
            go_wp2_with fail
            go_region_held3 (fun w' => w'.cell? ⟨M, 0, none⟩ = some (.slice am ls.length cm) ∧ w'.cell? ⟨g, o + k, none⟩ = some (.int .u64 x)) (first | exact keep2 (w := w11) (W := w11) (Only.refl _ w11).drew m0 hc1 | exact keep2 (w := w11) (W := w11) ((Only.refl _ w11).drew.trans o3) m0 hc1) (first | (go_at_call 36; (with_reducible refine Calls.mono (HQ.out _ (Only.refl _ w11).drew) ?_); rintro e w3 ⟨rfl, o3⟩))
            have R3 := Lib.hid (R11.out.step ((Only.refl _ w11).drew.trans o3))
            have O3 := Lib.hid (O11.out.step ((Only.refl _ w11).drew.trans o3))
            have hc3 := HC.out w3 R3.out.only
            clear o3 m0 hc1
            go_wp2_with fail
            refine (HWo.out _ R3.out.win).mono ?_
            rintro e w4 ⟨rfl, rfl⟩
            go_wp2_with fail
            refine (HTa.out _ R3.out.win).mono ?_
            rintro e w4 ⟨rfl, hA4, o4⟩
            have R4 := Lib.hid (R3.out.take hA4 o4)
            have O4 := Lib.hid (O3.out.take o4)
            have hc4 := HC.out w4 R4.out.only
            clear hA4 o4 hc3 R3 O3
            have m4 := R4.out.m.cell
            have f4 : w4.frozen? ⟨M, 0, none⟩ = false := free_of R4.out.m
            have HG := Lib.hid (fun (W : World) (q : Only (fun _ => False) w4 W) => take_refT (.slice am ls.length cm) ls x W (R4.out.step q).ml.us (by have := HLS.out; omega))
            obtain ⟨n2, hn2⟩ : ∃ n2, n2 = (ls ++ [x]).length := ⟨_, rfl⟩
            rw [← hn2] at HG
            have HN := Lib.hid hn2
            clear hn2
            go_wp2_with fail
            go_region_with (first | (go_at_call 39; (with_reducible refine Calls.mono (HG.out _ (Only.refl _ w4).drew) ?_); rintro e w5 ⟨am2, cm2, rfl, hL5, o5⟩; have R5 := Lib.hid (R4.out.step ((Only.refl _ w4).drew.trans o5)); have m5 := R5.out.m.cell; have f5 : w5.frozen? ⟨M, 0, none⟩ = false := free_of R5.out.m))
            all_goals
              have R6 := Lib.hid (R5.out.setM hL5)
              have O6 := Lib.hid ((O4.out.step ((Only.refl _ w4).drew.trans o5)).setM (v' := .slice am2 n2 cm2) R5.out.m)
              generalize w5.setCell ⟨M, 0, none⟩ (.slice am2 n2 cm2) = w6 at R6 O6 ⊢
              obtain ⟨ls2, hls2⟩ : ∃ ls2, ls2 = ls ++ [x] := ⟨_, rfl⟩
              rw [← hls2] at R6 HN
              have HK : Hid (ls2.length ≤ k + 1) := by have := HLS.out; rw [hls2, List.length_append, List.length_singleton]; exact (by omega : ls.length + 1 ≤ k + 1)
              have hpos : 0 < n2 := by rw [HN.out, hls2, List.length_append, List.length_singleton]; omega
              have hem : ls2.isEmpty = false := by rw [hls2]; cases ls <;> rfl
              clear hls2 hL5 o5 m5 f5 R5 O4 R4 m4 f4 HG hc4
              have hp2 : (0 : Int) < (n2 : Int) := by omega
              have HT6 := Lib.hid (top_at B ls2 w6 R6.out.win)
              rw [hem] at HT6
              have HT7 := Lib.hid (fun (W : World) (q : Only (fun _ => False) w6 W) => top_ref (.slice am2 n2 cm2) ls2 W (R6.out.step q).ml.us (by first | (simp; done) | (have := HK.out; have := HL.out; omega)))
              have HM7 := Lib.hid (fun (W : World) (q : Only (fun _ => False) w6 W) => missing_at B ls2 W (R6.out.step q).win)
              have HM8 := Lib.hid (fun (W : World) (q : Only (fun _ => False) w6 W) => missing_ref (.slice am2 n2 cm2) ls2 W (R6.out.step q).ml.us (by first | (simp; done) | (have := HK.out; have := HL.out; omega)) (at_mem R6.out.win).1 (at_mem R6.out.win).2)
              generalize mx ls2 = t at HT6 HT7
              generalize rmiss ls2 = q at HM7 HM8
              clear hem
              go_wp2_with fail
              refine HT6.out.mono ?_
              rintro e w7 ⟨rfl, o7⟩
              have m7 := (R6.out.step o7).m.cell
              go_wp2_with fail
              go_region_held3 (fun w' => w'.cell? ⟨M, 0, none⟩ = some (.slice am2 n2 cm2)) (first | exact keep1 (Only.refl _ w7).drew m7 | exact keep1 ((Only.refl _ w7).drew.trans o8) m7 | exact keep1 (((Only.refl _ w7).drew.trans o8).trans o9) m7 | exact keep1 ((((Only.refl _ w7).drew.trans o8).trans o9).trans o10) m7)
                (first | (go_at_call 41; (with_reducible refine Calls.mono (HT7.out _ (o7.trans (Only.refl _ w7).drew)) ?_); rintro e w8 ⟨rfl, o8⟩) | (go_at_call 42; (with_reducible refine Calls.mono (HM7.out _ (o7.trans ((Only.refl _ w7).drew.trans o8))) ?_); rintro e w9 ⟨rfl, o9⟩) | (go_at_call 43; (with_reducible refine Calls.mono (HM8.out _ (o7.trans (((Only.refl _ w7).drew.trans o8).trans o9))) ?_); rintro e w10 ⟨rfl, o10⟩))
              all_goals
                have oF := o7.trans ((((Only.refl _ w7).drew.trans o8).trans o9).trans o10)
                have RF := Lib.hid (R6.out.step oF)
                have OF := Lib.hid (O6.out.step oF)
                clear oF o7 o8 o9 o10 m7
                go_wp2_with fail
                go_roundw
                case rel => exact ⟨k + 1, am2, am, cm2, cm, ls2, ls, by omega, by go_num, by have := RF.out; rw [HN.out] at this; exact this, HK.out, by have := HLS.out; omega, OF.out⟩
                case measure => simp [intOf]; omega
          · have HK : Hid (ls.length ≤ k + 1) := by have := HLS.out; exact (by omega : ls.length ≤ k + 1)
            have hb0 : (rwd ls x == 0) = false := by rw [beq_eq_false_iff_ne]; exact hr
            by_cases hne : ls = []
            · subst hne
              simp only [List.length_nil] at R11 HK HLS ⊢
              have m0 := R11.out.m.cell
              have hc1 := HC.out w11 R11.out.only
              have HQ := Lib.hid (fun (W : World) (q : Only (fun _ => False) w11 W) => would_ref (.slice am 0 cm) ([] : List Nat) x W (R11.out.step q).ml.us (by first | (simp; done) | (have := HLS.out; have := HL.out; omega)) (at_mem R11.out.win).1)
              have HWo := Lib.hid (fun (W : World) (q : At W B ([] : List Nat)) => would_at B x ([] : List Nat) W HXL.out q)
              have HTa := Lib.hid (fun (W : World) (q : At W B ([] : List Nat)) => taken HXL.out q rfl (if_neg hr))
              generalize hrr : rwd ([] : List Nat) x = r at HQ HWo HTa hr hb0
              go_wp2_with fail
              go_region_held3 (fun w' => w'.cell? ⟨M, 0, none⟩ = some (.slice am 0 cm) ∧ w'.cell? ⟨g, o + k, none⟩ = some (.int .u64 x)) (first | exact keep2 (w := w11) (W := w11) (Only.refl _ w11).drew m0 hc1 | exact keep2 (w := w11) (W := w11) ((Only.refl _ w11).drew.trans o3) m0 hc1) (first | (go_at_call 36; (with_reducible refine Calls.mono (HQ.out _ (Only.refl _ w11).drew) ?_); rintro e w3 ⟨rfl, o3⟩))
              have R3 := Lib.hid (R11.out.step ((Only.refl _ w11).drew.trans o3))
              have O3 := Lib.hid (O11.out.step ((Only.refl _ w11).drew.trans o3))
              have hc3 := HC.out w3 R3.out.only
              clear o3 m0 hc1
              go_wp2_with fail
              refine (HWo.out _ R3.out.win).mono ?_
              rintro e w4 ⟨rfl, rfl⟩
              go_wp2_with fail
              refine (HTa.out _ R3.out.win).mono ?_
              rintro e w4 ⟨rfl, hA4, o4⟩
              have R4 := Lib.hid (R3.out.take hA4 o4)
              have O4 := Lib.hid (O3.out.take o4)
              have hc4 := HC.out w4 R4.out.only
              clear hA4 o4 hc3 R3 O3

              skip
              have HT6 := Lib.hid (top_at B ([] : List Nat) w4 R4.out.win)
              simp only [List.isEmpty_nil, Bool.not_true] at HT6
              have HT7 := Lib.hid (fun (W : World) (q : Only (fun _ => False) w4 W) => top_ref (.slice am 0 cm) ([] : List Nat) W (R4.out.step q).ml.us (by first | (simp; done) | (have := HK.out; have := HL.out; omega)))
              have HM7 := Lib.hid (fun (W : World) (q : Only (fun _ => False) w4 W) => missing_at B ([] : List Nat) W (R4.out.step q).win)
              have HM8 := Lib.hid (fun (W : World) (q : Only (fun _ => False) w4 W) => missing_ref (.slice am 0 cm) ([] : List Nat) W (R4.out.step q).ml.us (by first | (simp; done) | (have := HK.out; have := HL.out; omega)) (at_mem R4.out.win).1 (at_mem R4.out.win).2)
              generalize mx ([] : List Nat) = t at HT6 HT7
              generalize rmiss ([] : List Nat) = q at HM7 HM8
              skip
              go_wp2_with fail
              refine HT6.out.mono ?_
              rintro e w7 ⟨rfl, o7⟩
              have m7 := (R4.out.step o7).m.cell
              go_wp2_with fail
              go_region_held3 (fun w' => w'.cell? ⟨M, 0, none⟩ = some (.slice am 0 cm)) (first | exact keep1 (Only.refl _ w7).drew m7 | exact keep1 ((Only.refl _ w7).drew.trans o8) m7 | exact keep1 (((Only.refl _ w7).drew.trans o8).trans o9) m7 | exact keep1 ((((Only.refl _ w7).drew.trans o8).trans o9).trans o10) m7)
                (first | (go_at_call 41; (with_reducible refine Calls.mono (HT7.out _ (o7.trans (Only.refl _ w7).drew)) ?_); rintro e w8 ⟨rfl, o8⟩) | (go_at_call 42; (with_reducible refine Calls.mono (HM7.out _ (o7.trans ((Only.refl _ w7).drew.trans o8))) ?_); rintro e w9 ⟨rfl, o9⟩) | (go_at_call 43; (with_reducible refine Calls.mono (HM8.out _ (o7.trans (((Only.refl _ w7).drew.trans o8).trans o9))) ?_); rintro e w10 ⟨rfl, o10⟩))
              all_goals
                have oF := o7.trans ((((Only.refl _ w7).drew.trans o8).trans o9).trans o10)
                have RF := Lib.hid (R4.out.step oF)
                have OF := Lib.hid (O4.out.step oF)
                clear oF o7 o8 o9 o10 m7
                go_wp2_with fail
                go_roundw
                case rel => exact ⟨k + 1, am, am, cm, cm, [], [], by omega, by go_num, RF.out, HK.out, by first | (simp; done) | (have := HLS.out; omega), OF.out⟩
                case measure => simp [intOf]; omega
            · have hpos : 0 < ls.length := List.length_pos_iff.2 hne
              have hem : ls.isEmpty = false := by
                cases hq : ls with
                | nil => exact absurd hq hne
                | cons => rfl
              clear hne

              have m0 := R11.out.m.cell
              have hc1 := HC.out w11 R11.out.only
              have HQ := Lib.hid (fun (W : World) (q : Only (fun _ => False) w11 W) => would_ref (.slice am ls.length cm) ls x W (R11.out.step q).ml.us (by first | (simp; done) | (have := HLS.out; have := HL.out; omega)) (at_mem R11.out.win).1)
              have HWo := Lib.hid (fun (W : World) (q : At W B ls) => would_at B x ls W HXL.out q)
              have HTa := Lib.hid (fun (W : World) (q : At W B ls) => taken HXL.out q rfl (if_neg hr))
              generalize hrr : rwd ls x = r at HQ HWo HTa hr hb0
              go_wp2_with fail
              go_region_held3 (fun w' => w'.cell? ⟨M, 0, none⟩ = some (.slice am ls.length cm) ∧ w'.cell? ⟨g, o + k, none⟩ = some (.int .u64 x)) (first | exact keep2 (w := w11) (W := w11) (Only.refl _ w11).drew m0 hc1 | exact keep2 (w := w11) (W := w11) ((Only.refl _ w11).drew.trans o3) m0 hc1) (first | (go_at_call 36; (with_reducible refine Calls.mono (HQ.out _ (Only.refl _ w11).drew) ?_); rintro e w3 ⟨rfl, o3⟩))
              have R3 := Lib.hid (R11.out.step ((Only.refl _ w11).drew.trans o3))
              have O3 := Lib.hid (O11.out.step ((Only.refl _ w11).drew.trans o3))
              have hc3 := HC.out w3 R3.out.only
              clear o3 m0 hc1
              go_wp2_with fail
              refine (HWo.out _ R3.out.win).mono ?_
              rintro e w4 ⟨rfl, rfl⟩
              go_wp2_with fail
              refine (HTa.out _ R3.out.win).mono ?_
              rintro e w4 ⟨rfl, hA4, o4⟩
              have R4 := Lib.hid (R3.out.take hA4 o4)
              have O4 := Lib.hid (O3.out.take o4)
              have hc4 := HC.out w4 R4.out.only
              clear hA4 o4 hc3 R3 O3

              have hp2 : (0 : Int) < (ls.length : Int) := by omega
              have HT6 := Lib.hid (top_at B ls w4 R4.out.win)
              rw [hem] at HT6
              have HT7 := Lib.hid (fun (W : World) (q : Only (fun _ => False) w4 W) => top_ref (.slice am ls.length cm) ls W (R4.out.step q).ml.us (by first | (simp; done) | (have := HK.out; have := HL.out; omega)))
              have HM7 := Lib.hid (fun (W : World) (q : Only (fun _ => False) w4 W) => missing_at B ls W (R4.out.step q).win)
              have HM8 := Lib.hid (fun (W : World) (q : Only (fun _ => False) w4 W) => missing_ref (.slice am ls.length cm) ls W (R4.out.step q).ml.us (by first | (simp; done) | (have := HK.out; have := HL.out; omega)) (at_mem R4.out.win).1 (at_mem R4.out.win).2)
              generalize mx ls = t at HT6 HT7
              generalize rmiss ls = q at HM7 HM8
              clear hem
              go_wp2_with fail
              refine HT6.out.mono ?_
              rintro e w7 ⟨rfl, o7⟩
              have m7 := (R4.out.step o7).m.cell
              go_wp2_with fail
              go_region_held3 (fun w' => w'.cell? ⟨M, 0, none⟩ = some (.slice am ls.length cm)) (first | exact keep1 (Only.refl _ w7).drew m7 | exact keep1 ((Only.refl _ w7).drew.trans o8) m7 | exact keep1 (((Only.refl _ w7).drew.trans o8).trans o9) m7 | exact keep1 ((((Only.refl _ w7).drew.trans o8).trans o9).trans o10) m7)
                (first | (go_at_call 41; (with_reducible refine Calls.mono (HT7.out _ (o7.trans (Only.refl _ w7).drew)) ?_); rintro e w8 ⟨rfl, o8⟩) | (go_at_call 42; (with_reducible refine Calls.mono (HM7.out _ (o7.trans ((Only.refl _ w7).drew.trans o8))) ?_); rintro e w9 ⟨rfl, o9⟩) | (go_at_call 43; (with_reducible refine Calls.mono (HM8.out _ (o7.trans (((Only.refl _ w7).drew.trans o8).trans o9))) ?_); rintro e w10 ⟨rfl, o10⟩))
              all_goals
                have oF := o7.trans ((((Only.refl _ w7).drew.trans o8).trans o9).trans o10)
                have RF := Lib.hid (R4.out.step oF)
                have OF := Lib.hid (O4.out.step oF)
                clear oF o7 o8 o9 o10 m7
                go_wp2_with fail
                go_roundw
                case rel => exact ⟨k + 1, am, am, cm, cm, ls, ls, by omega, by go_num, RF.out, HK.out, by have := HLS.out; omega, OF.out⟩
                case measure => simp [intOf]; omega
      · have b1 : ((k : Int) == at_) = false := by rw [beq_eq_false_iff_ne]; exact hat
        clear hat
        by_cases hr : rwd ls x = 0
        · have m0 := HR.out.m.cell
          have hc1 := HC.out wr HR.out.only
          have HQ := Lib.hid (fun (W : World) (q : Only (fun _ => False) wr W) => would_ref (.slice am ls.length cm) ls x W (HR.out.step q).ml.us (by first | (simp; done) | (have := HLS.out; have := HL.out; omega)) (at_mem HR.out.win).1)
          have HWo := Lib.hid (fun (W : World) (q : At W B ls) => would_at B x ls W HXL.out q)
          have HTa := Lib.hid (fun (W : World) (q : At W B ls) => taken HXL.out q hr (if_pos rfl))
          rw [hr] at HQ HWo
          go_wp2_with fail
          go_region_held3 (fun w' => w'.cell? ⟨M, 0, none⟩ = some (.slice am ls.length cm) ∧ w'.cell? ⟨g, o + k, none⟩ = some (.int .u64 x)) (first | exact keep2 (w := wr) (W := wr) (Only.refl _ wr).drew m0 hc1 | exact keep2 (w := wr) (W := wr) ((Only.refl _ wr).drew.trans o3) m0 hc1) (first | (go_at_call 36; (with_reducible refine Calls.mono (HQ.out _ (Only.refl _ wr).drew) ?_); rintro e w3 ⟨rfl, o3⟩))
          have R3 := Lib.hid (HR.out.step ((Only.refl _ wr).drew.trans o3))
          have O3 := Lib.hid (HO.out.step ((Only.refl _ wr).drew.trans o3))
          have hc3 := HC.out w3 R3.out.only
          clear o3 m0 hc1
          go_wp2_with fail
          refine (HWo.out _ R3.out.win).mono ?_
          rintro e w4 ⟨rfl, rfl⟩
          go_wp2_with fail
          refine (HTa.out _ R3.out.win).mono ?_
          rintro e w4 ⟨rfl, hA4, o4⟩
          have R4 := Lib.hid (R3.out.take hA4 o4)
          have O4 := Lib.hid (O3.out.take o4)
          have hc4 := HC.out w4 R4.out.only
          clear hA4 o4 hc3 R3 O3
          have m4 := R4.out.m.cell
          have f4 : w4.frozen? ⟨M, 0, none⟩ = false := free_of R4.out.m
          have HG := Lib.hid (fun (W : World) (q : Only (fun _ => False) w4 W) => take_refT (.slice am ls.length cm) ls x W (R4.out.step q).ml.us (by have := HLS.out; omega))
          obtain ⟨n2, hn2⟩ : ∃ n2, n2 = (ls ++ [x]).length := ⟨_, rfl⟩
          rw [← hn2] at HG
          have HN := Lib.hid hn2
          clear hn2
          go_wp2_with fail
          go_region_with (first | (go_at_call 39; (with_reducible refine Calls.mono (HG.out _ (Only.refl _ w4).drew) ?_); rintro e w5 ⟨am2, cm2, rfl, hL5, o5⟩; have R5 := Lib.hid (R4.out.step ((Only.refl _ w4).drew.trans o5)); have m5 := R5.out.m.cell; have f5 : w5.frozen? ⟨M, 0, none⟩ = false := free_of R5.out.m))
          all_goals
            have R6 := Lib.hid (R5.out.setM hL5)
            have O6 := Lib.hid ((O4.out.step ((Only.refl _ w4).drew.trans o5)).setM (v' := .slice am2 n2 cm2) R5.out.m)
            generalize w5.setCell ⟨M, 0, none⟩ (.slice am2 n2 cm2) = w6 at R6 O6 ⊢
            obtain ⟨ls2, hls2⟩ : ∃ ls2, ls2 = ls ++ [x] := ⟨_, rfl⟩
            rw [← hls2] at R6 HN
            have HK : Hid (ls2.length ≤ k + 1) := by have := HLS.out; rw [hls2, List.length_append, List.length_singleton]; exact (by omega : ls.length + 1 ≤ k + 1)
            have hpos : 0 < n2 := by rw [HN.out, hls2, List.length_append, List.length_singleton]; omega
            have hem : ls2.isEmpty = false := by rw [hls2]; cases ls <;> rfl
            clear hls2 hL5 o5 m5 f5 R5 O4 R4 m4 f4 HG hc4
            have hp2 : (0 : Int) < (n2 : Int) := by omega
            have HT6 := Lib.hid (top_at B ls2 w6 R6.out.win)
            rw [hem] at HT6
            have HT7 := Lib.hid (fun (W : World) (q : Only (fun _ => False) w6 W) => top_ref (.slice am2 n2 cm2) ls2 W (R6.out.step q).ml.us (by first | (simp; done) | (have := HK.out; have := HL.out; omega)))
            have HM7 := Lib.hid (fun (W : World) (q : Only (fun _ => False) w6 W) => missing_at B ls2 W (R6.out.step q).win)
            have HM8 := Lib.hid (fun (W : World) (q : Only (fun _ => False) w6 W) => missing_ref (.slice am2 n2 cm2) ls2 W (R6.out.step q).ml.us (by first | (simp; done) | (have := HK.out; have := HL.out; omega)) (at_mem R6.out.win).1 (at_mem R6.out.win).2)
            generalize mx ls2 = t at HT6 HT7
            generalize rmiss ls2 = q at HM7 HM8
            clear hem
            go_wp2_with fail
            refine HT6.out.mono ?_
            rintro e w7 ⟨rfl, o7⟩
            have m7 := (R6.out.step o7).m.cell
            go_wp2_with fail
            go_region_held3 (fun w' => w'.cell? ⟨M, 0, none⟩ = some (.slice am2 n2 cm2)) (first | exact keep1 (Only.refl _ w7).drew m7 | exact keep1 ((Only.refl _ w7).drew.trans o8) m7 | exact keep1 (((Only.refl _ w7).drew.trans o8).trans o9) m7 | exact keep1 ((((Only.refl _ w7).drew.trans o8).trans o9).trans o10) m7)
              (first | (go_at_call 41; (with_reducible refine Calls.mono (HT7.out _ (o7.trans (Only.refl _ w7).drew)) ?_); rintro e w8 ⟨rfl, o8⟩) | (go_at_call 42; (with_reducible refine Calls.mono (HM7.out _ (o7.trans ((Only.refl _ w7).drew.trans o8))) ?_); rintro e w9 ⟨rfl, o9⟩) | (go_at_call 43; (with_reducible refine Calls.mono (HM8.out _ (o7.trans (((Only.refl _ w7).drew.trans o8).trans o9))) ?_); rintro e w10 ⟨rfl, o10⟩))
            all_goals
              have oF := o7.trans ((((Only.refl _ w7).drew.trans o8).trans o9).trans o10)
              have RF := Lib.hid (R6.out.step oF)
              have OF := Lib.hid (O6.out.step oF)
              clear oF o7 o8 o9 o10 m7
              go_wp2_with fail
              go_roundw
              case rel => exact ⟨k + 1, am2, az, cm2, cz, ls2, lz, by omega, by go_num, by have := RF.out; rw [HN.out] at this; exact this, HK.out, by have := HLZ.out; omega, OF.out⟩
              case measure => simp [intOf]; omega
        · have HK : Hid (ls.length ≤ k + 1) := by have := HLS.out; exact (by omega : ls.length ≤ k + 1)
          have hb0 : (rwd ls x == 0) = false := by rw [beq_eq_false_iff_ne]; exact hr
          by_cases hne : ls = []
          · subst hne
            simp only [List.length_nil] at HR HK HLS ⊢
            have m0 := HR.out.m.cell
            have hc1 := HC.out wr HR.out.only
            have HQ := Lib.hid (fun (W : World) (q : Only (fun _ => False) wr W) => would_ref (.slice am 0 cm) ([] : List Nat) x W (HR.out.step q).ml.us (by first | (simp; done) | (have := HLS.out; have := HL.out; omega)) (at_mem HR.out.win).1)
            have HWo := Lib.hid (fun (W : World) (q : At W B ([] : List Nat)) => would_at B x ([] : List Nat) W HXL.out q)
            have HTa := Lib.hid (fun (W : World) (q : At W B ([] : List Nat)) => taken HXL.out q rfl (if_neg hr))
            generalize hrr : rwd ([] : List Nat) x = r at HQ HWo HTa hr hb0
            go_wp2_with fail
            go_region_held3 (fun w' => w'.cell? ⟨M, 0, none⟩ = some (.slice am 0 cm) ∧ w'.cell? ⟨g, o + k, none⟩ = some (.int .u64 x)) (first | exact keep2 (w := wr) (W := wr) (Only.refl _ wr).drew m0 hc1 | exact keep2 (w := wr) (W := wr) ((Only.refl _ wr).drew.trans o3) m0 hc1) (first | (go_at_call 36; (with_reducible refine Calls.mono (HQ.out _ (Only.refl _ wr).drew) ?_); rintro e w3 ⟨rfl, o3⟩))
            have R3 := Lib.hid (HR.out.step ((Only.refl _ wr).drew.trans o3))
            have O3 := Lib.hid (HO.out.step ((Only.refl _ wr).drew.trans o3))
            have hc3 := HC.out w3 R3.out.only
            clear o3 m0 hc1
            go_wp2_with fail
            refine (HWo.out _ R3.out.win).mono ?_
            rintro e w4 ⟨rfl, rfl⟩
            go_wp2_with fail
            refine (HTa.out _ R3.out.win).mono ?_
            rintro e w4 ⟨rfl, hA4, o4⟩
            have R4 := Lib.hid (R3.out.take hA4 o4)
            have O4 := Lib.hid (O3.out.take o4)
            have hc4 := HC.out w4 R4.out.only
            clear hA4 o4 hc3 R3 O3

            skip
            have HT6 := Lib.hid (top_at B ([] : List Nat) w4 R4.out.win)
            simp only [List.isEmpty_nil, Bool.not_true] at HT6
            have HT7 := Lib.hid (fun (W : World) (q : Only (fun _ => False) w4 W) => top_ref (.slice am 0 cm) ([] : List Nat) W (R4.out.step q).ml.us (by first | (simp; done) | (have := HK.out; have := HL.out; omega)))
            have HM7 := Lib.hid (fun (W : World) (q : Only (fun _ => False) w4 W) => missing_at B ([] : List Nat) W (R4.out.step q).win)
            have HM8 := Lib.hid (fun (W : World) (q : Only (fun _ => False) w4 W) => missing_ref (.slice am 0 cm) ([] : List Nat) W (R4.out.step q).ml.us (by first | (simp; done) | (have := HK.out; have := HL.out; omega)) (at_mem R4.out.win).1 (at_mem R4.out.win).2)
            generalize mx ([] : List Nat) = t at HT6 HT7
            generalize rmiss ([] : List Nat) = q at HM7 HM8
            skip
            go_wp2_with fail
            refine HT6.out.mono ?_
            rintro e w7 ⟨rfl, o7⟩
            have m7 := (R4.out.step o7).m.cell
            go_wp2_with fail
            go_region_held3 (fun w' => w'.cell? ⟨M, 0, none⟩ = some (.slice am 0 cm)) (first | exact keep1 (Only.refl _ w7).drew m7 | exact keep1 ((Only.refl _ w7).drew.trans o8) m7 | exact keep1 (((Only.refl _ w7).drew.trans o8).trans o9) m7 | exact keep1 ((((Only.refl _ w7).drew.trans o8).trans o9).trans o10) m7)
              (first | (go_at_call 41; (with_reducible refine Calls.mono (HT7.out _ (o7.trans (Only.refl _ w7).drew)) ?_); rintro e w8 ⟨rfl, o8⟩) | (go_at_call 42; (with_reducible refine Calls.mono (HM7.out _ (o7.trans ((Only.refl _ w7).drew.trans o8))) ?_); rintro e w9 ⟨rfl, o9⟩) | (go_at_call 43; (with_reducible refine Calls.mono (HM8.out _ (o7.trans (((Only.refl _ w7).drew.trans o8).trans o9))) ?_); rintro e w10 ⟨rfl, o10⟩))
            all_goals
              have oF := o7.trans ((((Only.refl _ w7).drew.trans o8).trans o9).trans o10)
              have RF := Lib.hid (R4.out.step oF)
              have OF := Lib.hid (O4.out.step oF)
              clear oF o7 o8 o9 o10 m7
              go_wp2_with fail
              go_roundw
              case rel => exact ⟨k + 1, am, az, cm, cz, [], lz, by omega, by go_num, RF.out, HK.out, by first | (simp; done) | (have := HLZ.out; omega), OF.out⟩
              case measure => simp [intOf]; omega
          · have hpos : 0 < ls.length := List.length_pos_iff.2 hne
            have hem : ls.isEmpty = false := by
              cases hq : ls with
              | nil => exact absurd hq hne
              | cons => rfl
            clear hne

            have m0 := HR.out.m.cell
            have hc1 := HC.out wr HR.out.only
            have HQ := Lib.hid (fun (W : World) (q : Only (fun _ => False) wr W) => would_ref (.slice am ls.length cm) ls x W (HR.out.step q).ml.us (by first | (simp; done) | (have := HLS.out; have := HL.out; omega)) (at_mem HR.out.win).1)
            have HWo := Lib.hid (fun (W : World) (q : At W B ls) => would_at B x ls W HXL.out q)
            have HTa := Lib.hid (fun (W : World) (q : At W B ls) => taken HXL.out q rfl (if_neg hr))
            generalize hrr : rwd ls x = r at HQ HWo HTa hr hb0
            go_wp2_with fail
            go_region_held3 (fun w' => w'.cell? ⟨M, 0, none⟩ = some (.slice am ls.length cm) ∧ w'.cell? ⟨g, o + k, none⟩ = some (.int .u64 x)) (first | exact keep2 (w := wr) (W := wr) (Only.refl _ wr).drew m0 hc1 | exact keep2 (w := wr) (W := wr) ((Only.refl _ wr).drew.trans o3) m0 hc1) (first | (go_at_call 36; (with_reducible refine Calls.mono (HQ.out _ (Only.refl _ wr).drew) ?_); rintro e w3 ⟨rfl, o3⟩))
            have R3 := Lib.hid (HR.out.step ((Only.refl _ wr).drew.trans o3))
            have O3 := Lib.hid (HO.out.step ((Only.refl _ wr).drew.trans o3))
            have hc3 := HC.out w3 R3.out.only
            clear o3 m0 hc1
            go_wp2_with fail
            refine (HWo.out _ R3.out.win).mono ?_
            rintro e w4 ⟨rfl, rfl⟩
            go_wp2_with fail
            refine (HTa.out _ R3.out.win).mono ?_
            rintro e w4 ⟨rfl, hA4, o4⟩
            have R4 := Lib.hid (R3.out.take hA4 o4)
            have O4 := Lib.hid (O3.out.take o4)
            have hc4 := HC.out w4 R4.out.only
            clear hA4 o4 hc3 R3 O3

            have hp2 : (0 : Int) < (ls.length : Int) := by omega
            have HT6 := Lib.hid (top_at B ls w4 R4.out.win)
            rw [hem] at HT6
            have HT7 := Lib.hid (fun (W : World) (q : Only (fun _ => False) w4 W) => top_ref (.slice am ls.length cm) ls W (R4.out.step q).ml.us (by first | (simp; done) | (have := HK.out; have := HL.out; omega)))
            have HM7 := Lib.hid (fun (W : World) (q : Only (fun _ => False) w4 W) => missing_at B ls W (R4.out.step q).win)
            have HM8 := Lib.hid (fun (W : World) (q : Only (fun _ => False) w4 W) => missing_ref (.slice am ls.length cm) ls W (R4.out.step q).ml.us (by first | (simp; done) | (have := HK.out; have := HL.out; omega)) (at_mem R4.out.win).1 (at_mem R4.out.win).2)
            generalize mx ls = t at HT6 HT7
            generalize rmiss ls = q at HM7 HM8
            clear hem
            go_wp2_with fail
            refine HT6.out.mono ?_
            rintro e w7 ⟨rfl, o7⟩
            have m7 := (R4.out.step o7).m.cell
            go_wp2_with fail
            go_region_held3 (fun w' => w'.cell? ⟨M, 0, none⟩ = some (.slice am ls.length cm)) (first | exact keep1 (Only.refl _ w7).drew m7 | exact keep1 ((Only.refl _ w7).drew.trans o8) m7 | exact keep1 (((Only.refl _ w7).drew.trans o8).trans o9) m7 | exact keep1 ((((Only.refl _ w7).drew.trans o8).trans o9).trans o10) m7)
              (first | (go_at_call 41; (with_reducible refine Calls.mono (HT7.out _ (o7.trans (Only.refl _ w7).drew)) ?_); rintro e w8 ⟨rfl, o8⟩) | (go_at_call 42; (with_reducible refine Calls.mono (HM7.out _ (o7.trans ((Only.refl _ w7).drew.trans o8))) ?_); rintro e w9 ⟨rfl, o9⟩) | (go_at_call 43; (with_reducible refine Calls.mono (HM8.out _ (o7.trans (((Only.refl _ w7).drew.trans o8).trans o9))) ?_); rintro e w10 ⟨rfl, o10⟩))
            all_goals
              have oF := o7.trans ((((Only.refl _ w7).drew.trans o8).trans o9).trans o10)
              have RF := Lib.hid (R4.out.step oF)
              have OF := Lib.hid (O4.out.step oF)
              clear oF o7 o8 o9 o10 m7
              go_wp2_with fail
              go_roundw
              case rel => exact ⟨k + 1, am, az, cm, cz, ls, lz, by omega, by go_num, RF.out, HK.out, by have := HLZ.out; omega, OF.out⟩
              case measure => simp [intOf]; omega
    · obtain rfl : k = l.length := by omega
      have hlen := HL.out
      rcases HO.out with hnil | ⟨D, hD1, hD2, hD3, hD4⟩
      · subst hnil
        go_wp2_with fail
        go_ret
        exact ⟨rfl, HR.out.only⟩
      · subst hD1
        have HDB := Lib.hid (⟨hD2, hD3⟩ : D ≠ B ∧ w.heap.size ≤ D)
        have HD0 := Lib.hid hD4
        have w9 : IntKind.i64.wrap ((l.length : Int) - 1) = (l.length : Int) - 1 := IntWalk.i64_in _ (by omega)
        clear hD2 hD3 hD4 hlt
        go_wp2_with fail
        go_loopw [13] (fun i wr => ∃ (j : Nat) (az : Option Addr) (cz : Nat) (lz : List Nat), j ≤ l.length ∧ i = .int .i64 ((j : Int) - 1) ∧ Rel w wr B M Z (.slice am ls.length cm) (.slice az lz.length cz) ls ls lz ∧ At wr D lz ∧ lz.length + j ≤ 600) (fun i _ => ((intOf i) + 1).toNat)
        case atStart => exact ⟨l.length, az, cz, lz, Nat.le_refl _, rfl, HR.out, HD0.out, by have := HLZ.out; omega⟩
        case round =>
          obtain ⟨j0, az, cz, lz, hj, rfl, R2, D2, hsum⟩ := hrel
          have HR2 := Lib.hid R2
          have HD2 := Lib.hid D2
          clear R2 D2
          by_cases hj0 : j0 = 0
          · subst hj0
            have HS := Lib.hid hsum
            have HFM := Lib.hid (fun (W : World) (q : Only (fun _ => False) wr W) => missing_at D lz W (HD2.out.keep q id))
            have HFN := Lib.hid (fun (W : World) (q : Only (fun _ => False) wr W) => missing_ref (.slice az lz.length cz) lz W (HR2.out.step q).zl.us (by have := HS.out; omega) (at_mem HD2.out).1 (at_mem HD2.out).2)
            have HGM := Lib.hid (fun (W : World) (q : Only (fun _ => False) wr W) => missing_at B ls W (HR2.out.step q).win)
            have HGN := Lib.hid (fun (W : World) (q : Only (fun _ => False) wr W) => missing_ref (.slice am ls.length cm) ls W (HR2.out.step q).ml.us (by have := HLS.out; omega) (at_mem HR2.out.win).1 (at_mem HR2.out.win).2)
            generalize rmiss lz = q1 at HFM HFN
            generalize rmiss ls = q2 at HGM HGN
            have z0 := HR2.out.z.cell
            have m0 := HR2.out.m.cell
            have d0 := (Only.refl (fun _ => False) wr).drew
            clear hsum
            go_wp2_with fail
            go_region_held3 (fun w' => w'.cell? ⟨Z, 0, none⟩ = some (.slice az lz.length cz) ∧ w'.cell? ⟨M, 0, none⟩ = some (.slice am ls.length cm)) (first | exact keep2 (w := wr) (W := wr) d0 z0 m0 | exact keep2 (w := wr) (W := wr) (d0.trans o3) z0 m0 | exact keep2 (w := wr) (W := wr) ((d0.trans o3).trans o4) z0 m0 | exact keep2 (w := wr) (W := wr) (((d0.trans o3).trans o4).trans o5) z0 m0 | exact keep2 (w := wr) (W := wr) ((((d0.trans o3).trans o4).trans o5).trans o6) z0 m0)
              (first | (go_at_call 42; (with_reducible refine Calls.mono (HFM.out _ d0) ?_); rintro e w3 ⟨rfl, o3⟩) | (go_at_call 43; (with_reducible refine Calls.mono (HFN.out _ (d0.trans o3)) ?_); rintro e w4 ⟨rfl, o4⟩) | (go_at_call 42; (with_reducible refine Calls.mono (HGM.out _ ((d0.trans o3).trans o4)) ?_); rintro e w5 ⟨rfl, o5⟩) | (go_at_call 43; (with_reducible refine Calls.mono (HGN.out _ (((d0.trans o3).trans o4).trans o5)) ?_); rintro e w6 ⟨rfl, o6⟩))
            all_goals
              go_wp2_with fail
              go_ret
              exact ⟨rfl, HR2.out.only.trans ((((d0.trans o3).trans o4).trans o5).trans o6)⟩
          · obtain ⟨j, rfl⟩ : ∃ j, j0 = j + 1 := ⟨j0 - 1, by omega⟩
            have e1 : (((j + 1 : Nat) : Int) - 1) = (j : Int) := by omega
            rw [e1]
            have HSum := Lib.hid hsum
            have hlt : j < l.length := by omega
            have k1 : (j : Int) < (l.length : Int) := by omega
            have k2 : (0 : Int) ≤ (j : Int) := by omega
            have w8 : IntKind.i64.wrap ((j : Int) - 1) = (j : Int) - 1 := IntWalk.i64_in _ (by omega)
            obtain ⟨g, o, rfl, hcell⟩ := (HU.out.keep HR2.out.only).at hlt
            have hmem : l.getD j 0 ∈ l := by
              rw [List.getD_eq_getElem?_getD, List.getElem?_eq_getElem hlt]
              exact List.getElem_mem hlt
            have hxl := HX.out _ hmem
            obtain ⟨x, hxe⟩ : ∃ x, x = l.getD j 0 := ⟨_, rfl⟩
            rw [← hxe] at hcell hxl
            have HC := Lib.hid (fun (W : World) (q : Only (fun _ => False) w W) => (show W.cell? ⟨g, o + j, none⟩ = some (.int .u64 x) by rw [hxe]; exact (HU.out.keep q).cell hlt))
            have HXL := Lib.hid hxl
            clear hmem hxe hxl hsum e1 hj0
            by_cases hr : rwd lz x = 0
            · have m0 := HR2.out.z.cell
              have hc1 := HC.out wr HR2.out.only
              have HQ := Lib.hid (fun (W : World) (q : Only (fun _ => False) wr W) => would_ref (.slice az lz.length cz) lz x W (HR2.out.step q).zl.us (by have := HSum.out; omega) (at_mem HD2.out).1)
              have HTa := Lib.hid (fun (W : World) (q : At W D lz) => taken HXL.out q hr (if_pos rfl))
              rw [hr] at HQ
              go_wp2_with fail
              go_region_held3 (fun w' => w'.cell? ⟨Z, 0, none⟩ = some (.slice az lz.length cz) ∧ w'.cell? ⟨g, o + j, none⟩ = some (.int .u64 x)) (first | exact keep2 (w := wr) (W := wr) (Only.refl _ wr).drew m0 hc1 | exact keep2 (w := wr) (W := wr) ((Only.refl _ wr).drew.trans o3) m0 hc1) (first | (go_at_call 36; (with_reducible refine Calls.mono (HQ.out _ (Only.refl _ wr).drew) ?_); rintro e w3 ⟨rfl, o3⟩))
              have R3 := Lib.hid (HR2.out.step ((Only.refl _ wr).drew.trans o3))
              have D3 := Lib.hid (HD2.out.keep ((Only.refl _ wr).drew.trans o3) id)
              have hc3 := HC.out w3 R3.out.only
              clear o3 m0 hc1
              go_wp2_with fail
              refine (HTa.out _ D3.out).mono ?_
              rintro e w4 ⟨rfl, hA4, o4⟩
              have R4 := Lib.hid (rel_takeD R3.out D3.out HDB.out.1 HDB.out.2 o4)
              have D4 := Lib.hid hA4
              have hc4 := HC.out w4 R4.out.only
              clear hA4 o4 hc3 R3 D3

              have m4 := R4.out.z.cell
              have f4 : w4.frozen? ⟨Z, 0, none⟩ = false := free_of R4.out.z
              have HG := Lib.hid (fun (W : World) (q : Only (fun _ => False) w4 W) => take_refT (.slice az lz.length cz) lz x W (R4.out.step q).zl.us (by have := HSum.out; omega))
              obtain ⟨n2, hn2⟩ : ∃ n2, n2 = (lz ++ [x]).length := ⟨_, rfl⟩
              rw [← hn2] at HG
              have HN := Lib.hid hn2
              clear hn2
              go_wp2_with fail
              go_region_with (first | (go_at_call 39; (with_reducible refine Calls.mono (HG.out _ (Only.refl _ w4).drew) ?_); rintro e w5 ⟨az2, cz2, rfl, hL5, o5⟩; have R5 := Lib.hid (R4.out.step ((Only.refl _ w4).drew.trans o5)); have m5 := R5.out.z.cell; have f5 : w5.frozen? ⟨Z, 0, none⟩ = false := free_of R5.out.z))
              all_goals
                have R6 := Lib.hid (R5.out.setZ hL5)
                have D6 := Lib.hid ((D4.out.keep ((Only.refl _ w4).drew.trans o5) id).keep (only_set w5 Z (.slice az2 n2 cz2)) (fun e => at_ne (D4.out.keep ((Only.refl _ w4).drew.trans o5) id) R5.out.z e.symm))
                generalize w5.setCell ⟨Z, 0, none⟩ (.slice az2 n2 cz2) = w6 at R6 D6 ⊢
                clear hL5 o5 m5 f5 R5 D4 R4 m4 f4 HG hc4
                go_wp2_with fail
                go_roundw
                case rel => exact ⟨j, az2, cz2, lz ++ [x], by omega, by go_num, by have := R6.out; rw [HN.out] at this; exact this, D6.out, by have := HSum.out; rw [List.length_append, List.length_singleton]; omega⟩
                case measure => first | (simp [intOf]; done) | (simp [intOf]; omega)
            · have hb0 : (rwd lz x == 0) = false := by rw [beq_eq_false_iff_ne]; exact hr
              have m0 := HR2.out.z.cell
              have hc1 := HC.out wr HR2.out.only
              have HQ := Lib.hid (fun (W : World) (q : Only (fun _ => False) wr W) => would_ref (.slice az lz.length cz) lz x W (HR2.out.step q).zl.us (by have := HSum.out; omega) (at_mem HD2.out).1)
              have HTa := Lib.hid (fun (W : World) (q : At W D lz) => taken HXL.out q rfl (if_neg hr))
              generalize hrr : rwd lz x = r at HQ HTa hr hb0
              go_wp2_with fail
              go_region_held3 (fun w' => w'.cell? ⟨Z, 0, none⟩ = some (.slice az lz.length cz) ∧ w'.cell? ⟨g, o + j, none⟩ = some (.int .u64 x)) (first | exact keep2 (w := wr) (W := wr) (Only.refl _ wr).drew m0 hc1 | exact keep2 (w := wr) (W := wr) ((Only.refl _ wr).drew.trans o3) m0 hc1) (first | (go_at_call 36; (with_reducible refine Calls.mono (HQ.out _ (Only.refl _ wr).drew) ?_); rintro e w3 ⟨rfl, o3⟩))
              have R3 := Lib.hid (HR2.out.step ((Only.refl _ wr).drew.trans o3))
              have D3 := Lib.hid (HD2.out.keep ((Only.refl _ wr).drew.trans o3) id)
              have hc3 := HC.out w3 R3.out.only
              clear o3 m0 hc1
              go_wp2_with fail
              refine (HTa.out _ D3.out).mono ?_
              rintro e w4 ⟨rfl, hA4, o4⟩
              have R4 := Lib.hid (rel_takeD R3.out D3.out HDB.out.1 HDB.out.2 o4)
              have D4 := Lib.hid hA4
              have hc4 := HC.out w4 R4.out.only
              clear hA4 o4 hc3 R3 D3

              go_wp2_with fail
              go_roundw
              case rel => exact ⟨j, az, cz, lz, by omega, by go_num, R4.out, D4.out, by have := HSum.out; omega⟩
              case measure => first | (simp [intOf]; done) | (simp [intOf]; omega)

variable {w : World}

theorem takes_walk (a : Option Addr) (len cap : Nat) (l : List Nat) (h : len = l.length ∧ (∀ x ∈ l, x < 18446744073709551616) ∧ Us w (.slice a len cap) l) (at_ : Int) (hat : (Lit.int IntKind.i64 at_).wf = true) :
    Calls Try.prog 7 #[.slice a len cap, .int .i64 at_] w fun e W' => e = .returned (.bool true) ∧ Below w.heap.size w W' := by
  obtain ⟨rfl, hx, h⟩ := h
  have K : Calls Try.prog 7 #[.slice a l.length cap, .int .i64 at_] w (numA.Told w (.bool true)) := by
    by_cases hl : 300 < l.length
    · exact takes_long a _ cap _ w hl
    · exact takes a cap l at_ w h hx (by omega)
  exact K.mono fun e W' q => ⟨q.1, q.2.below (fun _ h => h.elim) (Nat.le_refl _)⟩
end Go.Proofs.Ytcocmabhbahiaaa.winL
