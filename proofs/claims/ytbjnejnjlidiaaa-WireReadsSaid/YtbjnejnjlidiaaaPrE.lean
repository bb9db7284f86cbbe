/- Term: the program's reader: what stands in brackets. -/
import Derived.Test.YtbjnejnjlidiaaaPrA
import Derived.Lib.AppendZeros
namespace Go.Proofs.Ytbjnejnjlidiaaa.prD
open Go.RowKit kit numA numB numC numD numE numF tmA tmB tmC srcA trA trB trD trE prA prB prC
set_option linter.unusedVariables false
set_option linter.unusedSimpArgs false

set_option maxRecDepth 100000 in
set_option maxHeartbeats 3200000 in
theorem inside_6 (s : ByteArray) (N : Nat) (ih : IHT s N) (R p f k : Nat) (w : World) (hm : s.size ≤ 100000000) (hp : p ≤ s.size) (hN : s.size - p ≤ N + 1) (hf : 2 * (s.size - p) + 1 ≤ f) (hr : RS w R s p) (h5 : k = 6) : Calls Try.prog 198 #[ptr R, shv k, .pointer none] w (IC w R s (insC f k (s.data.toList.drop p))) := by
  obtain ⟨M, hr1, hr2⟩ := hr
  have hRlt := lt_of hr1
  obtain ⟨f, rfl⟩ : ∃ g, f = g + 1 := ⟨f - 1, by omega⟩
  obtain ⟨W1, hW1⟩ : ∃ W, W = w.alloc (.cells #[.int .i64 (least k : Nat), .int .i64 (mostk k : Nat), .bool (numbered k), .int .u64 (lowk k : Nat), .int .u64 (highk k : Nat), .bool (k == 6)] 134) := ⟨_, rfl⟩
  have o1 : Only (fun _ => False) w W1 := by rw [hW1]; exact (Only.refl _ w).alloc _
  have HB := Lib.hid (show Box6 W1 w.heap.size k from by rw [hW1]; exact heap_alloc_new w _)
  have O1 := Lib.hid (o1.mono (T := fun q => q = R) fun _ q => q.elim)
  have HR := Lib.hid (hr1.keep o1)
  have HM2 := Lib.hid (show M = .map none ∨ ∃ b, M = .map (some b) ∧ W1.heap[b]? = some (.map table 7) from by
    rcases hr2 with h | ⟨b, h, h3⟩
    · exact .inl h
    · exact .inr ⟨b, h, o1.keep h3 id⟩)
  have SG := Lib.hid (sign_lit 40 40 rfl R s p M W1 (by omega) hp HR.out (by decide))
  have HBR := Lib.hid (show w.heap.size ≠ R by omega)
  have RtoS : ∀ q, q = R → (fun q => q = R) q := fun _ e => e
  have RTS := Lib.hid RtoS
  have HS := Lib.hid hm
  have HP := Lib.hid hp
  have HN := Lib.hid hN
  have HFu := Lib.hid hf
  have IHH := Lib.hid ih
  have KN := Lib.hid (show numbered k = false from by obtain rfl := h5 <;> rfl)
  have KL := Lib.hid (show ((least k : Int) == 0) = false from by obtain rfl := h5 <;> rfl)
  have K6 := Lib.hid (show (k == 6) = true from by obtain rfl := h5 <;> rfl)
  have H5 := Lib.hid h5
  have HW := Lib.hid hW1
  rw [hW1] at SG
  clear hr1 hr2 o1 hm hp hN hf ih h5 hRlt hW1 RtoS
  unfold shv
  go_enter Try.func198, Try.ntmps198
  go_wp2_with fail
  rw [← HW.out] at SG ⊢
  obtain ⟨B, hB⟩ : ∃ B, B = w.heap.size := ⟨_, rfl⟩
  rw [← hB] at HB HBR ⊢
  have HBB := Lib.hid hB
  clear hB
  refine scope_jumps 0 (fun a' w' => ∃ (j g n : Nat) (acc : List Txt), a' = { tmps := List.toArray (ptr R :: a'.tmps.getD 1 undef :: (.pointer none) :: a'.tmps.getD 3 undef :: (.pointer (some ⟨B, 0, none⟩)) :: a'.tmps.getD 5 undef :: a'.tmps.getD 6 undef :: (.int .u64 (n : Nat)) :: (.string (lastOf acc)) :: (.int .i64 (acc.length : Nat)) :: a'.tmps.getD 10 undef :: a'.tmps.getD 11 undef :: a'.tmps.getD 12 undef :: a'.tmps.getD 13 undef :: a'.tmps.getD 14 undef :: a'.tmps.getD 15 undef :: a'.tmps.getD 16 undef :: a'.tmps.getD 17 undef :: a'.tmps.getD 18 undef :: a'.tmps.getD 19 undef :: a'.tmps.getD 20 undef :: a'.tmps.getD 21 undef :: a'.tmps.getD 22 undef :: a'.tmps.getD 23 undef :: a'.tmps.getD 24 undef :: a'.tmps.getD 25 undef :: a'.tmps.getD 26 undef :: a'.tmps.getD 27 undef :: a'.tmps.getD 28 undef :: a'.tmps.getD 29 undef :: a'.tmps.getD 30 undef :: a'.tmps.getD 31 undef :: a'.tmps.getD 32 undef :: a'.tmps.getD 33 undef :: a'.tmps.getD 34 undef :: a'.tmps.getD 35 undef :: a'.tmps.getD 36 undef :: a'.tmps.getD 37 undef :: a'.tmps.getD 38 undef :: a'.tmps.getD 39 undef :: a'.tmps.getD 40 undef :: a'.tmps.getD 41 undef :: a'.tmps.getD 42 undef :: a'.tmps.getD 43 undef :: a'.tmps.getD 44 undef :: a'.tmps.getD 45 undef :: a'.tmps.getD 46 undef :: a'.tmps.getD 47 undef :: a'.tmps.getD 48 undef :: a'.tmps.getD 49 undef :: a'.tmps.getD 50 undef :: a'.tmps.getD 51 undef :: a'.tmps.getD 52 undef :: a'.tmps.getD 53 undef :: a'.tmps.getD 54 undef :: a'.tmps.getD 55 undef :: a'.tmps.getD 56 undef :: a'.tmps.getD 57 undef :: a'.tmps.getD 58 undef :: a'.tmps.getD 59 undef :: a'.tmps.getD 60 undef :: a'.tmps.getD 61 undef :: a'.tmps.getD 62 undef :: a'.tmps.getD 63 undef :: a'.tmps.getD 64 undef :: a'.tmps.getD 65 undef :: a'.tmps.getD 66 undef :: a'.tmps.getD 67 undef :: a'.tmps.getD 68 undef :: a'.tmps.getD 69 undef :: a'.tmps.getD 70 undef :: a'.tmps.getD 71 undef :: a'.tmps.getD 72 undef :: a'.tmps.getD 73 undef :: a'.tmps.getD 74 undef :: a'.tmps.getD 75 undef :: a'.tmps.getD 76 undef :: a'.tmps.getD 77 undef :: a'.tmps.getD 78 undef :: a'.tmps.getD 79 undef :: a'.tmps.getD 80 undef :: a'.tmps.getD 81 undef :: a'.tmps.getD 82 undef :: a'.tmps.getD 83 undef :: a'.tmps.getD 84 undef :: a'.tmps.getD 85 undef :: a'.tmps.getD 86 undef :: a'.tmps.getD 87 undef :: a'.tmps.getD 88 undef :: a'.tmps.getD 89 undef :: a'.tmps.getD 90 undef :: []), defers := [] } ∧ LC (fun q => q = R) w s R B p (f + 1) k n j g acc w') (fun _ w' => s.size - atOf R w') rfl ?_ ?_
  · rintro a' w' ⟨j, g, n, acc, ha, lc⟩
    obtain ⟨u, ha2⟩ : ∃ u : Nat → Value, a' = { tmps := List.toArray (ptr R :: u 1 :: (.pointer none) :: u 3 :: (.pointer (some ⟨B, 0, none⟩)) :: u 5 :: u 6 :: (.int .u64 (n : Nat)) :: (.string (lastOf acc)) :: (.int .i64 (acc.length : Nat)) :: u 10 :: u 11 :: u 12 :: u 13 :: u 14 :: u 15 :: u 16 :: u 17 :: u 18 :: u 19 :: u 20 :: u 21 :: u 22 :: u 23 :: u 24 :: u 25 :: u 26 :: u 27 :: u 28 :: u 29 :: u 30 :: u 31 :: u 32 :: u 33 :: u 34 :: u 35 :: u 36 :: u 37 :: u 38 :: u 39 :: u 40 :: u 41 :: u 42 :: u 43 :: u 44 :: u 45 :: u 46 :: u 47 :: u 48 :: u 49 :: u 50 :: u 51 :: u 52 :: u 53 :: u 54 :: u 55 :: u 56 :: u 57 :: u 58 :: u 59 :: u 60 :: u 61 :: u 62 :: u 63 :: u 64 :: u 65 :: u 66 :: u 67 :: u 68 :: u 69 :: u 70 :: u 71 :: u 72 :: u 73 :: u 74 :: u 75 :: u 76 :: u 77 :: u 78 :: u 79 :: u 80 :: u 81 :: u 82 :: u 83 :: u 84 :: u 85 :: u 86 :: u 87 :: u 88 :: u 89 :: u 90 :: []), defers := [] } := ⟨fun i => a'.tmps.getD i undef, ha⟩
    clear ha
    subst ha2
    have LCH := Lib.hid lc
    obtain ⟨M1, hrd, hm1⟩ := lc.rs
    have RD1 := Lib.hid hrd
    have y1 : w'.cell? ⟨R, 1, none⟩ = some (.int .i64 j) := cell_of hrd
    obtain ⟨g, rfl⟩ : ∃ g', g = g' + 1 := ⟨g - 1, by have := lc.fuel; omega⟩
    have RC := Lib.hid (IHH.out R j g w' lc.le (by have := lc.ge; have := HN.out; omega) (by have := lc.fuel; omega) lc.rs)
    obtain ⟨q, hq⟩ : ∃ q, q = tmC g (s.data.toList.drop j) := ⟨_, rfl⟩
    rw [← hq] at RC
    have HQ := Lib.hid hq
    clear hrd hm1 lc hq SG
    go_hide hQ
    go_wp2_with fail
    (with_reducible refine RC.out.mono ?_)
    rintro e w3 ⟨o, hr⟩
    have O3 := Lib.hid (LCH.out.only.trans (o.mono RTS.out))
    cases q with
    | none =>
      obtain ⟨v, rfl⟩ := hr
      have HF := Lib.hid (show insC (f + 1) k (s.data.toList.drop p) = none from by rw [LCH.out.eq, noneC HQ.out.symm])
      clear o RC y1
      go_wp2_with fail
      subst hQ
      simp only [Exit.jump]
      exact ⟨rfl, O3.out, by rw [HF.out]; exact ⟨_, rfl⟩⟩
    | some dd =>
      obtain ⟨k1, n1, ps1, rest⟩ := dd
      obtain ⟨rfl, hrs⟩ := hr
      obtain ⟨e1, hlt, hle, ept⟩ := partC LCH.out.le HQ.out.symm
      obtain ⟨jn, hjn⟩ : ∃ x, x = behind s rest := ⟨_, rfl⟩
      rw [← hjn] at e1 hlt hle ept hrs
      obtain ⟨part, hpart⟩ : ∃ x, x = (s.data.toList.drop j).take (jn - j) := ⟨_, rfl⟩
      have ST := Lib.hid (stepC (k := k) (acc := acc) LCH.out.le HQ.out.symm hjn hpart)
      have HJ := Lib.hid (And.intro hjn (And.intro hlt (And.intro hle hpart)))
      have SVE := Lib.hid (show s.extract j jn = ⟨part.toArray⟩ from by
        have := sv_extract s j jn hle
        rw [← hpart] at this
        injection this)
      have RS3 := Lib.hid hrs
      have BX := Lib.hid (LCH.out.box.keepS o (T := fun q => q = R) HBR.out)
      obtain ⟨M3, hrd, hm3⟩ := hrs
      have RD3 := Lib.hid hrd
      have HM3 := Lib.hid hm3
      have y0 : w3.cell? ⟨R, 0, none⟩ = some (.string s) := cell_of hrd
      have y1' : w3.cell? ⟨R, 1, none⟩ = some (.int .i64 jn) := cell_of hrd
      have b1 : (0 : Int) ≤ (j : Int) := by omega
      have b2 : (j : Int) ≤ (jn : Int) := by omega
      have b3 : (jn : Int) ≤ (s.size : Int) := by omega
      clear e1 hlt hle ept hjn hpart hrd hm3 o RC y1
      go_wp2_with fail
      have wl : wrap64 ((acc.length : Int) + 1) = (acc.length : Int) + 1 := IntWalk.wrap64_in _ (by have := LCH.out.cnt; have := LCH.out.le; have := HS.out; omega)
      go_quiet (fail)
      have OW5 : Only (fun q => q = R) w (w3.drewN nq) := O3.out.drewN nq
      have RD5 := Lib.hid (show Rd (w3.drewN nq) R s jn M3 from RD3.out)
      have HM5 := Lib.hid (show M3 = Value.map none ∨ ∃ b, M3 = Value.map (some b) ∧ (w3.drewN nq).heap[b]? = some (Obj.map table 7) from HM3.out)
      have BX5 := Lib.hid (show Box6 (w3.drewN nq) B k from BX.out)
      have O5 := Lib.hid OW5
      clear OW5 y0 y1' b1 b2 b3
      generalize w3.drewN nq = W5 at RD5 HM5 BX5 O5 ⊢
      by_cases ha0 : acc.length = 0
      · have s0 : ((0 : Int) < (acc.length : Int)) = False := eq_false (by omega)
        have s0n : (0 < acc.length) = False := eq_false (by omega)
        have HA0 := Lib.hid ha0
        clear ha0
        obtain ⟨-, -, -, -, -, c5⟩ := BX5.out.cells
        rw [K6.out] at c5
        obtain ⟨c0, c1, -, -, -, -⟩ := BX5.out.cells
        have NXC := Lib.hid (next_lit 44 44 rfl R s jn M3 W5 (by have := HS.out; omega) HJ.out.2.2.1 RD5.out (by decide))
        by_cases hmo : acc.length + 1 < mostk k
        · have m1 : ((acc.length : Int) + 1 < (mostk k : Int)) = True := eq_true (by omega)
          have HMO := Lib.hid hmo
          clear hmo
          go_wp2_with fail
          (with_reducible refine NXC.out.mono ?_)
          cases h44 : (cb s jn == 44)
          · rintro e w6 ⟨rfl, hr6, o6, o6'⟩
            have h44' : ¬ cb s jn = 44 := by simpa using h44
            have H44 := Lib.hid h44'
            have RD6 := Lib.hid hr6
            have O6 := Lib.hid (O5.out.trans (o6.mono RTS.out))
            have HM6 := Lib.hid (show M3 = Value.map none ∨ ∃ b, M3 = Value.map (some b) ∧ w6.heap[b]? = some (Obj.map table 7) from by
              rcases HM5.out with h | ⟨b, h, h3⟩
              · exact .inl h
              · exact .inr ⟨b, h, (o6' rfl).keep h3 id⟩)
            have BX6 := Lib.hid (BX5.out.keepS (o6' rfl) id)
            clear c0 c1 c5
            obtain ⟨c0, c1, -, -, -, -⟩ := BX6.out.cells
            clear h44 h44' o6 o6' hr6 NXC
            by_cases hle : acc.length + 1 < least k
            · have z1 : ((acc.length : Int) + 1 < (least k : Int)) = True := eq_true (by omega)
              have HF := Lib.hid (show insC (f + 1) k (s.data.toList.drop p) = none from by
                rw [LCH.out.eq, ST.out, if_neg (fun q => by have := q.2.1; have := HA0.out; omega), if_neg (fun q => H44.out q.2), if_pos hle])
              clear hle
              go_wp2_with fail
              subst hQ
              simp only [Exit.jump]
              exact ⟨rfl, O6.out, by rw [HF.out]; exact ⟨_, rfl⟩⟩
            have z1 : ((acc.length : Int) + 1 < (least k : Int)) = False := eq_false (by omega)
            have SGN := Lib.hid (sign_lit 41 41 rfl R s jn M3 w6 (by have := HS.out; omega) HJ.out.2.2.1 RD6.out (by decide))
            have HL2 := Lib.hid hle
            clear hle
            go_wp2_with fail
            (with_reducible refine SGN.out.mono ?_)
            cases h41 : (cb s jn == 41)
            · rintro e w7 ⟨o7, v, rfl⟩
              have HF := Lib.hid (show insC (f + 1) k (s.data.toList.drop p) = none from by
                rw [LCH.out.eq, ST.out, if_neg (fun q => by have := q.2.1; have := HA0.out; omega), if_neg (fun q => H44.out q.2), if_neg HL2.out, if_neg (by simpa using h41)])
              have HO7 := Lib.hid (O6.out.trans (o7.mono RTS.out))
              clear h41 o7 SGN
              go_wp2_with fail
              subst hQ
              simp only [Exit.jump]
              exact ⟨rfl, HO7.out, by rw [HF.out]; exact ⟨_, rfl⟩⟩
            · rintro e w7 ⟨o7, rfl, hr7⟩
              have h41' : cb s jn = 41 := by simpa using h41
              have HF := Lib.hid (show insC (f + 1) k (s.data.toList.drop p) = some (n, acc ++ [part], s.data.toList.drop (jn + 1)) from by
                rw [LCH.out.eq, ST.out, if_neg (fun q => by have := q.2.1; have := HA0.out; omega), if_neg (fun q => H44.out q.2), if_neg HL2.out, if_pos h41'])
              have HO7 := Lib.hid (O6.out.trans (o7.mono RTS.out))
              have R7 := Lib.hid (show RS w7 R s (behind s (s.data.toList.drop (jn + 1))) from by
                rw [behind, List.length_drop, tl_size, show s.size - (s.size - (jn + 1)) = jn + 1 by have := cb_lt (by decide) h41'; omega]
                exact RS.move HM6.out RD6.out o7 hr7)
              clear h41 h41' o7 hr7 SGN
              go_wp2_with fail
              subst hQ
              simp only [Exit.jump]
              go_ret
              exact ⟨HO7.out, by rw [HF.out]; exact ⟨rfl, R7.out⟩⟩
          · rintro e w6 ⟨rfl, hr6, o6, -⟩
            have h44' : cb s jn = 44 := by simpa using h44
            have NX6 := Lib.hid (show LC (fun q => q = R) w s R B p (f + 1) k n (jn + 1) g (acc ++ [part]) w6 from
              ⟨RS.move HM5.out RD5.out o6 hr6, cb_lt (by decide) h44', by have := LCH.out.ge; have := HJ.out.2.1; omega, by
                rw [LCH.out.eq, ST.out, if_neg (fun q => by have := q.2.1; have := HA0.out; omega), if_pos ⟨HMO.out, h44'⟩], by have := LCH.out.fuel; have := HJ.out.2.1; have := HJ.out.2.2.1; omega,
                by have := LCH.out.cnt; have := HJ.out.2.1; simp; omega, by simpa using HMO.out, BX5.out.keepS o6 HBR.out, O5.out.trans (o6.mono RTS.out)⟩)
            have HLA := Lib.hid (show (⟨part.toArray⟩ : ByteArray) = lastOf (acc ++ [part]) from by simp [lastOf])
            clear h44 h44' o6 hr6 NXC
            go_wp2_with fail
            go_step3
            subst hQ
            have HLEN : ((acc.length : Int) + 1) = (((acc ++ [part]).length : Nat) : Int) := by simp
            rw [SVE.out, HLA.out, HLEN]
            refine ⟨rfl, ⟨jn + 1, g, n, acc ++ [part], rfl, NX6.out⟩, ?_⟩
            show s.size - atOf R w6 < s.size - atOf R w'
            rw [atOf_rs LCH.out.rs, atOf_rs NX6.out.rs]
            have := HJ.out.2.1
            have := NX6.out.le
            omega
        · have m1 : ((acc.length : Int) + 1 < (mostk k : Int)) = False := eq_false (by omega)
          have m2 : ((mostk k : Int) ≤ (acc.length : Int) + 1) := by omega
          have HMO := Lib.hid hmo
          clear hmo
          by_cases hle : acc.length + 1 < least k
          · have z1 : ((acc.length : Int) + 1 < (least k : Int)) = True := eq_true (by omega)
            have HF := Lib.hid (show insC (f + 1) k (s.data.toList.drop p) = none from by
              rw [LCH.out.eq, ST.out, if_neg (fun q => by have := q.2.1; have := HA0.out; omega), if_neg (fun q => HMO.out q.1), if_pos hle])
            clear hle
            go_wp2_with fail
            subst hQ
            simp only [Exit.jump]
            exact ⟨rfl, O5.out, by rw [HF.out]; exact ⟨_, rfl⟩⟩
          have z1 : ((acc.length : Int) + 1 < (least k : Int)) = False := eq_false (by omega)
          have SGN := Lib.hid (sign_lit 41 41 rfl R s jn M3 W5 (by have := HS.out; omega) HJ.out.2.2.1 RD5.out (by decide))
          have HL2 := Lib.hid hle
          clear hle
          go_wp2_with fail
          (with_reducible refine SGN.out.mono ?_)
          cases h41 : (cb s jn == 41)
          · rintro e w7 ⟨o7, v, rfl⟩
            have HF := Lib.hid (show insC (f + 1) k (s.data.toList.drop p) = none from by
              rw [LCH.out.eq, ST.out, if_neg (fun q => by have := q.2.1; have := HA0.out; omega), if_neg (fun q => HMO.out q.1), if_neg HL2.out, if_neg (by simpa using h41)])
            have HO7 := Lib.hid (O5.out.trans (o7.mono RTS.out))
            clear h41 o7 SGN
            go_wp2_with fail
            subst hQ
            simp only [Exit.jump]
            exact ⟨rfl, HO7.out, by rw [HF.out]; exact ⟨_, rfl⟩⟩
          · rintro e w7 ⟨o7, rfl, hr7⟩
            have h41' : cb s jn = 41 := by simpa using h41
            have HF := Lib.hid (show insC (f + 1) k (s.data.toList.drop p) = some (n, acc ++ [part], s.data.toList.drop (jn + 1)) from by
              rw [LCH.out.eq, ST.out, if_neg (fun q => by have := q.2.1; have := HA0.out; omega), if_neg (fun q => HMO.out q.1), if_neg HL2.out, if_pos h41'])
            have HO7 := Lib.hid (O5.out.trans (o7.mono RTS.out))
            have R7 := Lib.hid (show RS w7 R s (behind s (s.data.toList.drop (jn + 1))) from by
              rw [behind, List.length_drop, tl_size, show s.size - (s.size - (jn + 1)) = jn + 1 by have := cb_lt (by decide) h41'; omega]
              exact RS.move HM5.out RD5.out o7 hr7)
            clear h41 h41' o7 hr7 SGN
            go_wp2_with fail
            subst hQ
            simp only [Exit.jump]
            go_ret
            exact ⟨HO7.out, by rw [HF.out]; exact ⟨rfl, R7.out⟩⟩
      have s0 : ((0 : Int) < (acc.length : Int)) = True := eq_true (by omega)
      have s0n : (0 < acc.length) = True := eq_true (by omega)
      have SPOS := Lib.hid (show 0 < acc.length by omega)
      clear ha0
      have HGT := Lib.hid (show gt (acc.getLastD []) part = !(Op.bytesLess (lastOf acc).toList (s.extract j jn).toList || (lastOf acc).toList == (s.extract j jn).toList) from by
        rw [SVE.out, byteArray_toList, byteArray_toList]
        rfl)
      cases hA : Op.bytesLess (lastOf acc).toList (s.extract j jn).toList
      · cases hB : ((lastOf acc).toList == (s.extract j jn).toList)
        · have HG := Lib.hid (show gt (acc.getLastD []) part = true from by rw [HGT.out, hA, hB]; rfl)
          have HF := Lib.hid (show insC (f + 1) k (s.data.toList.drop p) = none from by
            rw [LCH.out.eq, ST.out, if_pos ⟨H5.out, SPOS.out, HG.out⟩])
          obtain ⟨-, -, -, -, -, c5⟩ := BX5.out.cells
          rw [K6.out] at c5
          go_wp2_with fail
          subst hQ
          simp only [Exit.jump]
          exact ⟨rfl, O5.out, by rw [HF.out]; exact ⟨_, rfl⟩⟩
        · have HG := Lib.hid (show gt (acc.getLastD []) part = false from by rw [HGT.out, hA, hB]; rfl)
          obtain ⟨-, -, -, -, -, c5⟩ := BX5.out.cells
          rw [K6.out] at c5
          obtain ⟨c0, c1, -, -, -, -⟩ := BX5.out.cells
          have NXC := Lib.hid (next_lit 44 44 rfl R s jn M3 W5 (by have := HS.out; omega) HJ.out.2.2.1 RD5.out (by decide))
          by_cases hmo : acc.length + 1 < mostk k
          · have m1 : ((acc.length : Int) + 1 < (mostk k : Int)) = True := eq_true (by omega)
            have HMO := Lib.hid hmo
            clear hmo
            go_wp2_with fail
            (with_reducible refine NXC.out.mono ?_)
            cases h44 : (cb s jn == 44)
            · rintro e w6 ⟨rfl, hr6, o6, o6'⟩
              have h44' : ¬ cb s jn = 44 := by simpa using h44
              have H44 := Lib.hid h44'
              have RD6 := Lib.hid hr6
              have O6 := Lib.hid (O5.out.trans (o6.mono RTS.out))
              have HM6 := Lib.hid (show M3 = Value.map none ∨ ∃ b, M3 = Value.map (some b) ∧ w6.heap[b]? = some (Obj.map table 7) from by
                rcases HM5.out with h | ⟨b, h, h3⟩
                · exact .inl h
                · exact .inr ⟨b, h, (o6' rfl).keep h3 id⟩)
              have BX6 := Lib.hid (BX5.out.keepS (o6' rfl) id)
              clear c0 c1 c5
              obtain ⟨c0, c1, -, -, -, -⟩ := BX6.out.cells
              clear h44 h44' o6 o6' hr6 NXC
              by_cases hle : acc.length + 1 < least k
              · have z1 : ((acc.length : Int) + 1 < (least k : Int)) = True := eq_true (by omega)
                have HF := Lib.hid (show insC (f + 1) k (s.data.toList.drop p) = none from by
                  rw [LCH.out.eq, ST.out, if_neg (fun q => by rw [HG.out] at q; exact absurd q.2.2 (by decide)), if_neg (fun q => H44.out q.2), if_pos hle])
                clear hle
                go_wp2_with fail
                subst hQ
                simp only [Exit.jump]
                exact ⟨rfl, O6.out, by rw [HF.out]; exact ⟨_, rfl⟩⟩
              have z1 : ((acc.length : Int) + 1 < (least k : Int)) = False := eq_false (by omega)
              have SGN := Lib.hid (sign_lit 41 41 rfl R s jn M3 w6 (by have := HS.out; omega) HJ.out.2.2.1 RD6.out (by decide))
              have HL2 := Lib.hid hle
              clear hle
              go_wp2_with fail
              (with_reducible refine SGN.out.mono ?_)
              cases h41 : (cb s jn == 41)
              · rintro e w7 ⟨o7, v, rfl⟩
                have HF := Lib.hid (show insC (f + 1) k (s.data.toList.drop p) = none from by
                  rw [LCH.out.eq, ST.out, if_neg (fun q => by rw [HG.out] at q; exact absurd q.2.2 (by decide)), if_neg (fun q => H44.out q.2), if_neg HL2.out, if_neg (by simpa using h41)])
                have HO7 := Lib.hid (O6.out.trans (o7.mono RTS.out))
                clear h41 o7 SGN
                go_wp2_with fail
                subst hQ
                simp only [Exit.jump]
                exact ⟨rfl, HO7.out, by rw [HF.out]; exact ⟨_, rfl⟩⟩
              · rintro e w7 ⟨o7, rfl, hr7⟩
                have h41' : cb s jn = 41 := by simpa using h41
                have HF := Lib.hid (show insC (f + 1) k (s.data.toList.drop p) = some (n, acc ++ [part], s.data.toList.drop (jn + 1)) from by
                  rw [LCH.out.eq, ST.out, if_neg (fun q => by rw [HG.out] at q; exact absurd q.2.2 (by decide)), if_neg (fun q => H44.out q.2), if_neg HL2.out, if_pos h41'])
                have HO7 := Lib.hid (O6.out.trans (o7.mono RTS.out))
                have R7 := Lib.hid (show RS w7 R s (behind s (s.data.toList.drop (jn + 1))) from by
                  rw [behind, List.length_drop, tl_size, show s.size - (s.size - (jn + 1)) = jn + 1 by have := cb_lt (by decide) h41'; omega]
                  exact RS.move HM6.out RD6.out o7 hr7)
                clear h41 h41' o7 hr7 SGN
                go_wp2_with fail
                subst hQ
                simp only [Exit.jump]
                go_ret
                exact ⟨HO7.out, by rw [HF.out]; exact ⟨rfl, R7.out⟩⟩
            · rintro e w6 ⟨rfl, hr6, o6, -⟩
              have h44' : cb s jn = 44 := by simpa using h44
              have NX6 := Lib.hid (show LC (fun q => q = R) w s R B p (f + 1) k n (jn + 1) g (acc ++ [part]) w6 from
                ⟨RS.move HM5.out RD5.out o6 hr6, cb_lt (by decide) h44', by have := LCH.out.ge; have := HJ.out.2.1; omega, by
                  rw [LCH.out.eq, ST.out, if_neg (fun q => by rw [HG.out] at q; exact absurd q.2.2 (by decide)), if_pos ⟨HMO.out, h44'⟩], by have := LCH.out.fuel; have := HJ.out.2.1; have := HJ.out.2.2.1; omega,
                  by have := LCH.out.cnt; have := HJ.out.2.1; simp; omega, by simpa using HMO.out, BX5.out.keepS o6 HBR.out, O5.out.trans (o6.mono RTS.out)⟩)
              have HLA := Lib.hid (show (⟨part.toArray⟩ : ByteArray) = lastOf (acc ++ [part]) from by simp [lastOf])
              clear h44 h44' o6 hr6 NXC
              go_wp2_with fail
              go_step3
              subst hQ
              have HLEN : ((acc.length : Int) + 1) = (((acc ++ [part]).length : Nat) : Int) := by simp
              rw [SVE.out, HLA.out, HLEN]
              refine ⟨rfl, ⟨jn + 1, g, n, acc ++ [part], rfl, NX6.out⟩, ?_⟩
              show s.size - atOf R w6 < s.size - atOf R w'
              rw [atOf_rs LCH.out.rs, atOf_rs NX6.out.rs]
              have := HJ.out.2.1
              have := NX6.out.le
              omega
          · have m1 : ((acc.length : Int) + 1 < (mostk k : Int)) = False := eq_false (by omega)
            have m2 : ((mostk k : Int) ≤ (acc.length : Int) + 1) := by omega
            have HMO := Lib.hid hmo
            clear hmo
            by_cases hle : acc.length + 1 < least k
            · have z1 : ((acc.length : Int) + 1 < (least k : Int)) = True := eq_true (by omega)
              have HF := Lib.hid (show insC (f + 1) k (s.data.toList.drop p) = none from by
                rw [LCH.out.eq, ST.out, if_neg (fun q => by rw [HG.out] at q; exact absurd q.2.2 (by decide)), if_neg (fun q => HMO.out q.1), if_pos hle])
              clear hle
              go_wp2_with fail
              subst hQ
              simp only [Exit.jump]
              exact ⟨rfl, O5.out, by rw [HF.out]; exact ⟨_, rfl⟩⟩
            have z1 : ((acc.length : Int) + 1 < (least k : Int)) = False := eq_false (by omega)
            have SGN := Lib.hid (sign_lit 41 41 rfl R s jn M3 W5 (by have := HS.out; omega) HJ.out.2.2.1 RD5.out (by decide))
            have HL2 := Lib.hid hle
            clear hle
            go_wp2_with fail
            (with_reducible refine SGN.out.mono ?_)
            cases h41 : (cb s jn == 41)
            · rintro e w7 ⟨o7, v, rfl⟩
              have HF := Lib.hid (show insC (f + 1) k (s.data.toList.drop p) = none from by
                rw [LCH.out.eq, ST.out, if_neg (fun q => by rw [HG.out] at q; exact absurd q.2.2 (by decide)), if_neg (fun q => HMO.out q.1), if_neg HL2.out, if_neg (by simpa using h41)])
              have HO7 := Lib.hid (O5.out.trans (o7.mono RTS.out))
              clear h41 o7 SGN
              go_wp2_with fail
              subst hQ
              simp only [Exit.jump]
              exact ⟨rfl, HO7.out, by rw [HF.out]; exact ⟨_, rfl⟩⟩
            · rintro e w7 ⟨o7, rfl, hr7⟩
              have h41' : cb s jn = 41 := by simpa using h41
              have HF := Lib.hid (show insC (f + 1) k (s.data.toList.drop p) = some (n, acc ++ [part], s.data.toList.drop (jn + 1)) from by
                rw [LCH.out.eq, ST.out, if_neg (fun q => by rw [HG.out] at q; exact absurd q.2.2 (by decide)), if_neg (fun q => HMO.out q.1), if_neg HL2.out, if_pos h41'])
              have HO7 := Lib.hid (O5.out.trans (o7.mono RTS.out))
              have R7 := Lib.hid (show RS w7 R s (behind s (s.data.toList.drop (jn + 1))) from by
                rw [behind, List.length_drop, tl_size, show s.size - (s.size - (jn + 1)) = jn + 1 by have := cb_lt (by decide) h41'; omega]
                exact RS.move HM5.out RD5.out o7 hr7)
              clear h41 h41' o7 hr7 SGN
              go_wp2_with fail
              subst hQ
              simp only [Exit.jump]
              go_ret
              exact ⟨HO7.out, by rw [HF.out]; exact ⟨rfl, R7.out⟩⟩
      · have HG := Lib.hid (show gt (acc.getLastD []) part = false from by rw [HGT.out, hA]; rfl)
        cases hB : ((lastOf acc).toList == (s.extract j jn).toList)
        · skip
          obtain ⟨-, -, -, -, -, c5⟩ := BX5.out.cells
          rw [K6.out] at c5
          obtain ⟨c0, c1, -, -, -, -⟩ := BX5.out.cells
          have NXC := Lib.hid (next_lit 44 44 rfl R s jn M3 W5 (by have := HS.out; omega) HJ.out.2.2.1 RD5.out (by decide))
          by_cases hmo : acc.length + 1 < mostk k
          · have m1 : ((acc.length : Int) + 1 < (mostk k : Int)) = True := eq_true (by omega)
            have HMO := Lib.hid hmo
            clear hmo
            go_wp2_with fail
            (with_reducible refine NXC.out.mono ?_)
            cases h44 : (cb s jn == 44)
            · rintro e w6 ⟨rfl, hr6, o6, o6'⟩
              have h44' : ¬ cb s jn = 44 := by simpa using h44
              have H44 := Lib.hid h44'
              have RD6 := Lib.hid hr6
              have O6 := Lib.hid (O5.out.trans (o6.mono RTS.out))
              have HM6 := Lib.hid (show M3 = Value.map none ∨ ∃ b, M3 = Value.map (some b) ∧ w6.heap[b]? = some (Obj.map table 7) from by
                rcases HM5.out with h | ⟨b, h, h3⟩
                · exact .inl h
                · exact .inr ⟨b, h, (o6' rfl).keep h3 id⟩)
              have BX6 := Lib.hid (BX5.out.keepS (o6' rfl) id)
              clear c0 c1 c5
              obtain ⟨c0, c1, -, -, -, -⟩ := BX6.out.cells
              clear h44 h44' o6 o6' hr6 NXC
              by_cases hle : acc.length + 1 < least k
              · have z1 : ((acc.length : Int) + 1 < (least k : Int)) = True := eq_true (by omega)
                have HF := Lib.hid (show insC (f + 1) k (s.data.toList.drop p) = none from by
                  rw [LCH.out.eq, ST.out, if_neg (fun q => by rw [HG.out] at q; exact absurd q.2.2 (by decide)), if_neg (fun q => H44.out q.2), if_pos hle])
                clear hle
                go_wp2_with fail
                subst hQ
                simp only [Exit.jump]
                exact ⟨rfl, O6.out, by rw [HF.out]; exact ⟨_, rfl⟩⟩
              have z1 : ((acc.length : Int) + 1 < (least k : Int)) = False := eq_false (by omega)
              have SGN := Lib.hid (sign_lit 41 41 rfl R s jn M3 w6 (by have := HS.out; omega) HJ.out.2.2.1 RD6.out (by decide))
              have HL2 := Lib.hid hle
              clear hle
              go_wp2_with fail
              (with_reducible refine SGN.out.mono ?_)
              cases h41 : (cb s jn == 41)
              · rintro e w7 ⟨o7, v, rfl⟩
                have HF := Lib.hid (show insC (f + 1) k (s.data.toList.drop p) = none from by
                  rw [LCH.out.eq, ST.out, if_neg (fun q => by rw [HG.out] at q; exact absurd q.2.2 (by decide)), if_neg (fun q => H44.out q.2), if_neg HL2.out, if_neg (by simpa using h41)])
                have HO7 := Lib.hid (O6.out.trans (o7.mono RTS.out))
                clear h41 o7 SGN
                go_wp2_with fail
                subst hQ
                simp only [Exit.jump]
                exact ⟨rfl, HO7.out, by rw [HF.out]; exact ⟨_, rfl⟩⟩
              · rintro e w7 ⟨o7, rfl, hr7⟩
                have h41' : cb s jn = 41 := by simpa using h41
                have HF := Lib.hid (show insC (f + 1) k (s.data.toList.drop p) = some (n, acc ++ [part], s.data.toList.drop (jn + 1)) from by
                  rw [LCH.out.eq, ST.out, if_neg (fun q => by rw [HG.out] at q; exact absurd q.2.2 (by decide)), if_neg (fun q => H44.out q.2), if_neg HL2.out, if_pos h41'])
                have HO7 := Lib.hid (O6.out.trans (o7.mono RTS.out))
                have R7 := Lib.hid (show RS w7 R s (behind s (s.data.toList.drop (jn + 1))) from by
                  rw [behind, List.length_drop, tl_size, show s.size - (s.size - (jn + 1)) = jn + 1 by have := cb_lt (by decide) h41'; omega]
                  exact RS.move HM6.out RD6.out o7 hr7)
                clear h41 h41' o7 hr7 SGN
                go_wp2_with fail
                subst hQ
                simp only [Exit.jump]
                go_ret
                exact ⟨HO7.out, by rw [HF.out]; exact ⟨rfl, R7.out⟩⟩
            · rintro e w6 ⟨rfl, hr6, o6, -⟩
              have h44' : cb s jn = 44 := by simpa using h44
              have NX6 := Lib.hid (show LC (fun q => q = R) w s R B p (f + 1) k n (jn + 1) g (acc ++ [part]) w6 from
                ⟨RS.move HM5.out RD5.out o6 hr6, cb_lt (by decide) h44', by have := LCH.out.ge; have := HJ.out.2.1; omega, by
                  rw [LCH.out.eq, ST.out, if_neg (fun q => by rw [HG.out] at q; exact absurd q.2.2 (by decide)), if_pos ⟨HMO.out, h44'⟩], by have := LCH.out.fuel; have := HJ.out.2.1; have := HJ.out.2.2.1; omega,
                  by have := LCH.out.cnt; have := HJ.out.2.1; simp; omega, by simpa using HMO.out, BX5.out.keepS o6 HBR.out, O5.out.trans (o6.mono RTS.out)⟩)
              have HLA := Lib.hid (show (⟨part.toArray⟩ : ByteArray) = lastOf (acc ++ [part]) from by simp [lastOf])
              clear h44 h44' o6 hr6 NXC
              go_wp2_with fail
              go_step3
              subst hQ
              have HLEN : ((acc.length : Int) + 1) = (((acc ++ [part]).length : Nat) : Int) := by simp
              rw [SVE.out, HLA.out, HLEN]
              refine ⟨rfl, ⟨jn + 1, g, n, acc ++ [part], rfl, NX6.out⟩, ?_⟩
              show s.size - atOf R w6 < s.size - atOf R w'
              rw [atOf_rs LCH.out.rs, atOf_rs NX6.out.rs]
              have := HJ.out.2.1
              have := NX6.out.le
              omega
          · have m1 : ((acc.length : Int) + 1 < (mostk k : Int)) = False := eq_false (by omega)
            have m2 : ((mostk k : Int) ≤ (acc.length : Int) + 1) := by omega
            have HMO := Lib.hid hmo
            clear hmo
            by_cases hle : acc.length + 1 < least k
            · have z1 : ((acc.length : Int) + 1 < (least k : Int)) = True := eq_true (by omega)
              have HF := Lib.hid (show insC (f + 1) k (s.data.toList.drop p) = none from by
                rw [LCH.out.eq, ST.out, if_neg (fun q => by rw [HG.out] at q; exact absurd q.2.2 (by decide)), if_neg (fun q => HMO.out q.1), if_pos hle])
              clear hle
              go_wp2_with fail
              subst hQ
              simp only [Exit.jump]
              exact ⟨rfl, O5.out, by rw [HF.out]; exact ⟨_, rfl⟩⟩
            have z1 : ((acc.length : Int) + 1 < (least k : Int)) = False := eq_false (by omega)
            have SGN := Lib.hid (sign_lit 41 41 rfl R s jn M3 W5 (by have := HS.out; omega) HJ.out.2.2.1 RD5.out (by decide))
            have HL2 := Lib.hid hle
            clear hle
            go_wp2_with fail
            (with_reducible refine SGN.out.mono ?_)
            cases h41 : (cb s jn == 41)
            · rintro e w7 ⟨o7, v, rfl⟩
              have HF := Lib.hid (show insC (f + 1) k (s.data.toList.drop p) = none from by
                rw [LCH.out.eq, ST.out, if_neg (fun q => by rw [HG.out] at q; exact absurd q.2.2 (by decide)), if_neg (fun q => HMO.out q.1), if_neg HL2.out, if_neg (by simpa using h41)])
              have HO7 := Lib.hid (O5.out.trans (o7.mono RTS.out))
              clear h41 o7 SGN
              go_wp2_with fail
              subst hQ
              simp only [Exit.jump]
              exact ⟨rfl, HO7.out, by rw [HF.out]; exact ⟨_, rfl⟩⟩
            · rintro e w7 ⟨o7, rfl, hr7⟩
              have h41' : cb s jn = 41 := by simpa using h41
              have HF := Lib.hid (show insC (f + 1) k (s.data.toList.drop p) = some (n, acc ++ [part], s.data.toList.drop (jn + 1)) from by
                rw [LCH.out.eq, ST.out, if_neg (fun q => by rw [HG.out] at q; exact absurd q.2.2 (by decide)), if_neg (fun q => HMO.out q.1), if_neg HL2.out, if_pos h41'])
              have HO7 := Lib.hid (O5.out.trans (o7.mono RTS.out))
              have R7 := Lib.hid (show RS w7 R s (behind s (s.data.toList.drop (jn + 1))) from by
                rw [behind, List.length_drop, tl_size, show s.size - (s.size - (jn + 1)) = jn + 1 by have := cb_lt (by decide) h41'; omega]
                exact RS.move HM5.out RD5.out o7 hr7)
              clear h41 h41' o7 hr7 SGN
              go_wp2_with fail
              subst hQ
              simp only [Exit.jump]
              go_ret
              exact ⟨HO7.out, by rw [HF.out]; exact ⟨rfl, R7.out⟩⟩
        · skip
          obtain ⟨-, -, -, -, -, c5⟩ := BX5.out.cells
          rw [K6.out] at c5
          obtain ⟨c0, c1, -, -, -, -⟩ := BX5.out.cells
          have NXC := Lib.hid (next_lit 44 44 rfl R s jn M3 W5 (by have := HS.out; omega) HJ.out.2.2.1 RD5.out (by decide))
          by_cases hmo : acc.length + 1 < mostk k
          · have m1 : ((acc.length : Int) + 1 < (mostk k : Int)) = True := eq_true (by omega)
            have HMO := Lib.hid hmo
            clear hmo
            go_wp2_with fail
            (with_reducible refine NXC.out.mono ?_)
            cases h44 : (cb s jn == 44)
            · rintro e w6 ⟨rfl, hr6, o6, o6'⟩
              have h44' : ¬ cb s jn = 44 := by simpa using h44
              have H44 := Lib.hid h44'
              have RD6 := Lib.hid hr6
              have O6 := Lib.hid (O5.out.trans (o6.mono RTS.out))
              have HM6 := Lib.hid (show M3 = Value.map none ∨ ∃ b, M3 = Value.map (some b) ∧ w6.heap[b]? = some (Obj.map table 7) from by
                rcases HM5.out with h | ⟨b, h, h3⟩
                · exact .inl h
                · exact .inr ⟨b, h, (o6' rfl).keep h3 id⟩)
              have BX6 := Lib.hid (BX5.out.keepS (o6' rfl) id)
              clear c0 c1 c5
              obtain ⟨c0, c1, -, -, -, -⟩ := BX6.out.cells
              clear h44 h44' o6 o6' hr6 NXC
              by_cases hle : acc.length + 1 < least k
              · have z1 : ((acc.length : Int) + 1 < (least k : Int)) = True := eq_true (by omega)
                have HF := Lib.hid (show insC (f + 1) k (s.data.toList.drop p) = none from by
                  rw [LCH.out.eq, ST.out, if_neg (fun q => by rw [HG.out] at q; exact absurd q.2.2 (by decide)), if_neg (fun q => H44.out q.2), if_pos hle])
                clear hle
                go_wp2_with fail
                subst hQ
                simp only [Exit.jump]
                exact ⟨rfl, O6.out, by rw [HF.out]; exact ⟨_, rfl⟩⟩
              have z1 : ((acc.length : Int) + 1 < (least k : Int)) = False := eq_false (by omega)
              have SGN := Lib.hid (sign_lit 41 41 rfl R s jn M3 w6 (by have := HS.out; omega) HJ.out.2.2.1 RD6.out (by decide))
              have HL2 := Lib.hid hle
              clear hle
              go_wp2_with fail
              (with_reducible refine SGN.out.mono ?_)
              cases h41 : (cb s jn == 41)
              · rintro e w7 ⟨o7, v, rfl⟩
                have HF := Lib.hid (show insC (f + 1) k (s.data.toList.drop p) = none from by
                  rw [LCH.out.eq, ST.out, if_neg (fun q => by rw [HG.out] at q; exact absurd q.2.2 (by decide)), if_neg (fun q => H44.out q.2), if_neg HL2.out, if_neg (by simpa using h41)])
                have HO7 := Lib.hid (O6.out.trans (o7.mono RTS.out))
                clear h41 o7 SGN
                go_wp2_with fail
                subst hQ
                simp only [Exit.jump]
                exact ⟨rfl, HO7.out, by rw [HF.out]; exact ⟨_, rfl⟩⟩
              · rintro e w7 ⟨o7, rfl, hr7⟩
                have h41' : cb s jn = 41 := by simpa using h41
                have HF := Lib.hid (show insC (f + 1) k (s.data.toList.drop p) = some (n, acc ++ [part], s.data.toList.drop (jn + 1)) from by
                  rw [LCH.out.eq, ST.out, if_neg (fun q => by rw [HG.out] at q; exact absurd q.2.2 (by decide)), if_neg (fun q => H44.out q.2), if_neg HL2.out, if_pos h41'])
                have HO7 := Lib.hid (O6.out.trans (o7.mono RTS.out))
                have R7 := Lib.hid (show RS w7 R s (behind s (s.data.toList.drop (jn + 1))) from by
                  rw [behind, List.length_drop, tl_size, show s.size - (s.size - (jn + 1)) = jn + 1 by have := cb_lt (by decide) h41'; omega]
                  exact RS.move HM6.out RD6.out o7 hr7)
                clear h41 h41' o7 hr7 SGN
                go_wp2_with fail
                subst hQ
                simp only [Exit.jump]
                go_ret
                exact ⟨HO7.out, by rw [HF.out]; exact ⟨rfl, R7.out⟩⟩
            · rintro e w6 ⟨rfl, hr6, o6, -⟩
              have h44' : cb s jn = 44 := by simpa using h44
              have NX6 := Lib.hid (show LC (fun q => q = R) w s R B p (f + 1) k n (jn + 1) g (acc ++ [part]) w6 from
                ⟨RS.move HM5.out RD5.out o6 hr6, cb_lt (by decide) h44', by have := LCH.out.ge; have := HJ.out.2.1; omega, by
                  rw [LCH.out.eq, ST.out, if_neg (fun q => by rw [HG.out] at q; exact absurd q.2.2 (by decide)), if_pos ⟨HMO.out, h44'⟩], by have := LCH.out.fuel; have := HJ.out.2.1; have := HJ.out.2.2.1; omega,
                  by have := LCH.out.cnt; have := HJ.out.2.1; simp; omega, by simpa using HMO.out, BX5.out.keepS o6 HBR.out, O5.out.trans (o6.mono RTS.out)⟩)
              have HLA := Lib.hid (show (⟨part.toArray⟩ : ByteArray) = lastOf (acc ++ [part]) from by simp [lastOf])
              clear h44 h44' o6 hr6 NXC
              go_wp2_with fail
              go_step3
              subst hQ
              have HLEN : ((acc.length : Int) + 1) = (((acc ++ [part]).length : Nat) : Int) := by simp
              rw [SVE.out, HLA.out, HLEN]
              refine ⟨rfl, ⟨jn + 1, g, n, acc ++ [part], rfl, NX6.out⟩, ?_⟩
              show s.size - atOf R w6 < s.size - atOf R w'
              rw [atOf_rs LCH.out.rs, atOf_rs NX6.out.rs]
              have := HJ.out.2.1
              have := NX6.out.le
              omega
          · have m1 : ((acc.length : Int) + 1 < (mostk k : Int)) = False := eq_false (by omega)
            have m2 : ((mostk k : Int) ≤ (acc.length : Int) + 1) := by omega
            have HMO := Lib.hid hmo
            clear hmo
            by_cases hle : acc.length + 1 < least k
            · have z1 : ((acc.length : Int) + 1 < (least k : Int)) = True := eq_true (by omega)
              have HF := Lib.hid (show insC (f + 1) k (s.data.toList.drop p) = none from by
                rw [LCH.out.eq, ST.out, if_neg (fun q => by rw [HG.out] at q; exact absurd q.2.2 (by decide)), if_neg (fun q => HMO.out q.1), if_pos hle])
              clear hle
              go_wp2_with fail
              subst hQ
              simp only [Exit.jump]
              exact ⟨rfl, O5.out, by rw [HF.out]; exact ⟨_, rfl⟩⟩
            have z1 : ((acc.length : Int) + 1 < (least k : Int)) = False := eq_false (by omega)
            have SGN := Lib.hid (sign_lit 41 41 rfl R s jn M3 W5 (by have := HS.out; omega) HJ.out.2.2.1 RD5.out (by decide))
            have HL2 := Lib.hid hle
            clear hle
            go_wp2_with fail
            (with_reducible refine SGN.out.mono ?_)
            cases h41 : (cb s jn == 41)
            · rintro e w7 ⟨o7, v, rfl⟩
              have HF := Lib.hid (show insC (f + 1) k (s.data.toList.drop p) = none from by
                rw [LCH.out.eq, ST.out, if_neg (fun q => by rw [HG.out] at q; exact absurd q.2.2 (by decide)), if_neg (fun q => HMO.out q.1), if_neg HL2.out, if_neg (by simpa using h41)])
              have HO7 := Lib.hid (O5.out.trans (o7.mono RTS.out))
              clear h41 o7 SGN
              go_wp2_with fail
              subst hQ
              simp only [Exit.jump]
              exact ⟨rfl, HO7.out, by rw [HF.out]; exact ⟨_, rfl⟩⟩
            · rintro e w7 ⟨o7, rfl, hr7⟩
              have h41' : cb s jn = 41 := by simpa using h41
              have HF := Lib.hid (show insC (f + 1) k (s.data.toList.drop p) = some (n, acc ++ [part], s.data.toList.drop (jn + 1)) from by
                rw [LCH.out.eq, ST.out, if_neg (fun q => by rw [HG.out] at q; exact absurd q.2.2 (by decide)), if_neg (fun q => HMO.out q.1), if_neg HL2.out, if_pos h41'])
              have HO7 := Lib.hid (O5.out.trans (o7.mono RTS.out))
              have R7 := Lib.hid (show RS w7 R s (behind s (s.data.toList.drop (jn + 1))) from by
                rw [behind, List.length_drop, tl_size, show s.size - (s.size - (jn + 1)) = jn + 1 by have := cb_lt (by decide) h41'; omega]
                exact RS.move HM5.out RD5.out o7 hr7)
              clear h41 h41' o7 hr7 SGN
              go_wp2_with fail
              subst hQ
              simp only [Exit.jump]
              go_ret
              exact ⟨HO7.out, by rw [HF.out]; exact ⟨rfl, R7.out⟩⟩
  · intro hrest
    have HRE := Lib.hid hrest
    clear hrest
    go_wp2_with fail
    (with_reducible refine SG.out.mono ?_)
    cases hc : (cb s p == 40)
    · rintro e w2 ⟨o, v, rfl⟩
      have HF := Lib.hid (ins_no (f := f + 1) (k := k) hc)
      have HO := Lib.hid (O1.out.trans (o.mono RTS.out))
      clear o hc SG
      go_wp2_with fail
      exact ⟨rfl, HO.out, by rw [HF.out]; exact ⟨_, rfl⟩⟩
    · rintro e w2 ⟨o, rfl, hr⟩
      obtain ⟨_, hlt⟩ := head_of hc
      have HY := Lib.hid (ins_yes (f := f) (k := k) hc)
      have HLT := Lib.hid hlt
      have HO := Lib.hid (O1.out.trans (o.mono RTS.out))
      have H2 := Lib.hid (RS.move HM2.out HR.out o hr)
      have RD2 := Lib.hid hr
      have HMM := Lib.hid (show M = Value.map none ∨ ∃ b, M = Value.map (some b) ∧ w2.heap[b]? = some (Obj.map table 7) from by
        obtain ⟨M', q1, q2⟩ := H2.out
        have e := hr.symm.trans q1
        injection e with e
        injection e with e
        injection e with e
        injection e with e e'
        injection e' with e' e''
        injection e'' with e''
        rw [e'']
        exact q2)
      have B6 := Lib.hid (HB.out.keepS o (T := fun q => q = R) HBR.out)
      obtain ⟨c0, c1, c2, c3, c4, c5⟩ := B6.out.cells
      rw [KN.out] at c2
      rw [K6.out] at c5
      have kl := KL.out
      clear o hr hlt hc SG
      go_wp2_with fail
      go_step3
      go_step
      go_step
      refine HRE.out _ _ ⟨p + 1, f, 0, [], rfl, ⟨H2.out, HLT.out, Nat.le_refl _, ?_, by have := HFu.out; have := HLT.out; omega, Nat.zero_le _, by obtain rfl := H5.out <;> decide, B6.out, HO.out⟩⟩
      rw [HY.out, headOf, if_neg (by rw [KN.out]; decide)]
      simp only
      rw [if_neg (by obtain rfl := H5.out <;> simp)]

end Go.Proofs.Ytbjnejnjlidiaaa.prD
namespace Go.Proofs.Ytbjnejnjlidiaaa.prD
open Go.RowKit kit numA numB numC numD numE numF tmA tmB tmC srcA trA trB trD trE prA prB prC
set_option linter.unusedVariables false
set_option linter.unusedSimpArgs false

set_option maxRecDepth 100000 in
set_option maxHeartbeats 3200000 in
theorem inside_n (s : ByteArray) (N : Nat) (ih : IHT s N) (R p f k : Nat) (w : World) (hm : s.size ≤ 100000000) (hp : p ≤ s.size) (hN : s.size - p ≤ N + 1) (hf : 2 * (s.size - p) + 1 ≤ f) (hr : RS w R s p) (h5 : k = 8 ∨ k = 10) : Calls Try.prog 198 #[ptr R, shv k, .pointer none] w (IC w R s (insC f k (s.data.toList.drop p))) := by
  obtain ⟨M, hr1, hr2⟩ := hr
  have hRlt := lt_of hr1
  obtain ⟨f, rfl⟩ : ∃ g, f = g + 1 := ⟨f - 1, by omega⟩
  obtain ⟨W1, hW1⟩ : ∃ W, W = w.alloc (.cells #[.int .i64 (least k : Nat), .int .i64 (mostk k : Nat), .bool (numbered k), .int .u64 (lowk k : Nat), .int .u64 (highk k : Nat), .bool (k == 6)] 134) := ⟨_, rfl⟩
  have o1 : Only (fun _ => False) w W1 := by rw [hW1]; exact (Only.refl _ w).alloc _
  have HB := Lib.hid (show Box6 W1 w.heap.size k from by rw [hW1]; exact heap_alloc_new w _)
  have O1 := Lib.hid (o1.mono (T := fun q => q = R) fun _ q => q.elim)
  have HR := Lib.hid (hr1.keep o1)
  have HM2 := Lib.hid (show M = .map none ∨ ∃ b, M = .map (some b) ∧ W1.heap[b]? = some (.map table 7) from by
    rcases hr2 with h | ⟨b, h, h3⟩
    · exact .inl h
    · exact .inr ⟨b, h, o1.keep h3 id⟩)
  have SG := Lib.hid (sign_lit 40 40 rfl R s p M W1 (by omega) hp HR.out (by decide))
  have HBR := Lib.hid (show w.heap.size ≠ R by omega)
  have RtoS : ∀ q, q = R → (fun q => q = R) q := fun _ e => e
  have RTS := Lib.hid RtoS
  have HS := Lib.hid hm
  have HP := Lib.hid hp
  have HN := Lib.hid hN
  have HFu := Lib.hid hf
  have IHH := Lib.hid ih
  have KN := Lib.hid (show numbered k = true from by rcases h5 with rfl | rfl <;> rfl)
  have KL := Lib.hid (show ((least k : Int) == 0) = false from by rcases h5 with rfl | rfl <;> rfl)
  have K6 := Lib.hid (show (k == 6) = false from by rcases h5 with rfl | rfl <;> rfl)
  have H5 := Lib.hid h5
  have HW := Lib.hid hW1
  rw [hW1] at SG
  clear hr1 hr2 o1 hm hp hN hf ih h5 hRlt hW1 RtoS
  unfold shv
  go_enter Try.func198, Try.ntmps198
  go_wp2_with fail
  rw [← HW.out] at SG ⊢
  obtain ⟨B, hB⟩ : ∃ B, B = w.heap.size := ⟨_, rfl⟩
  rw [← hB] at HB HBR ⊢
  have HBB := Lib.hid hB
  clear hB
  refine scope_jumps 0 (fun a' w' => ∃ (j g n : Nat) (acc : List Txt), a' = { tmps := List.toArray (ptr R :: a'.tmps.getD 1 undef :: (.pointer none) :: a'.tmps.getD 3 undef :: (.pointer (some ⟨B, 0, none⟩)) :: a'.tmps.getD 5 undef :: a'.tmps.getD 6 undef :: (.int .u64 (n : Nat)) :: (.string (lastOf acc)) :: (.int .i64 (acc.length : Nat)) :: a'.tmps.getD 10 undef :: a'.tmps.getD 11 undef :: a'.tmps.getD 12 undef :: a'.tmps.getD 13 undef :: a'.tmps.getD 14 undef :: a'.tmps.getD 15 undef :: a'.tmps.getD 16 undef :: a'.tmps.getD 17 undef :: a'.tmps.getD 18 undef :: a'.tmps.getD 19 undef :: a'.tmps.getD 20 undef :: a'.tmps.getD 21 undef :: a'.tmps.getD 22 undef :: a'.tmps.getD 23 undef :: a'.tmps.getD 24 undef :: a'.tmps.getD 25 undef :: a'.tmps.getD 26 undef :: a'.tmps.getD 27 undef :: a'.tmps.getD 28 undef :: a'.tmps.getD 29 undef :: a'.tmps.getD 30 undef :: a'.tmps.getD 31 undef :: a'.tmps.getD 32 undef :: a'.tmps.getD 33 undef :: a'.tmps.getD 34 undef :: a'.tmps.getD 35 undef :: a'.tmps.getD 36 undef :: a'.tmps.getD 37 undef :: a'.tmps.getD 38 undef :: a'.tmps.getD 39 undef :: a'.tmps.getD 40 undef :: a'.tmps.getD 41 undef :: a'.tmps.getD 42 undef :: a'.tmps.getD 43 undef :: a'.tmps.getD 44 undef :: a'.tmps.getD 45 undef :: a'.tmps.getD 46 undef :: a'.tmps.getD 47 undef :: a'.tmps.getD 48 undef :: a'.tmps.getD 49 undef :: a'.tmps.getD 50 undef :: a'.tmps.getD 51 undef :: a'.tmps.getD 52 undef :: a'.tmps.getD 53 undef :: a'.tmps.getD 54 undef :: a'.tmps.getD 55 undef :: a'.tmps.getD 56 undef :: a'.tmps.getD 57 undef :: a'.tmps.getD 58 undef :: a'.tmps.getD 59 undef :: a'.tmps.getD 60 undef :: a'.tmps.getD 61 undef :: a'.tmps.getD 62 undef :: a'.tmps.getD 63 undef :: a'.tmps.getD 64 undef :: a'.tmps.getD 65 undef :: a'.tmps.getD 66 undef :: a'.tmps.getD 67 undef :: a'.tmps.getD 68 undef :: a'.tmps.getD 69 undef :: a'.tmps.getD 70 undef :: a'.tmps.getD 71 undef :: a'.tmps.getD 72 undef :: a'.tmps.getD 73 undef :: a'.tmps.getD 74 undef :: a'.tmps.getD 75 undef :: a'.tmps.getD 76 undef :: a'.tmps.getD 77 undef :: a'.tmps.getD 78 undef :: a'.tmps.getD 79 undef :: a'.tmps.getD 80 undef :: a'.tmps.getD 81 undef :: a'.tmps.getD 82 undef :: a'.tmps.getD 83 undef :: a'.tmps.getD 84 undef :: a'.tmps.getD 85 undef :: a'.tmps.getD 86 undef :: a'.tmps.getD 87 undef :: a'.tmps.getD 88 undef :: a'.tmps.getD 89 undef :: a'.tmps.getD 90 undef :: []), defers := [] } ∧ LC (fun q => q = R) w s R B p (f + 1) k n j g acc w') (fun _ w' => s.size - atOf R w') rfl ?_ ?_
  · rintro a' w' ⟨j, g, n, acc, ha, lc⟩
    obtain ⟨u, ha2⟩ : ∃ u : Nat → Value, a' = { tmps := List.toArray (ptr R :: u 1 :: (.pointer none) :: u 3 :: (.pointer (some ⟨B, 0, none⟩)) :: u 5 :: u 6 :: (.int .u64 (n : Nat)) :: (.string (lastOf acc)) :: (.int .i64 (acc.length : Nat)) :: u 10 :: u 11 :: u 12 :: u 13 :: u 14 :: u 15 :: u 16 :: u 17 :: u 18 :: u 19 :: u 20 :: u 21 :: u 22 :: u 23 :: u 24 :: u 25 :: u 26 :: u 27 :: u 28 :: u 29 :: u 30 :: u 31 :: u 32 :: u 33 :: u 34 :: u 35 :: u 36 :: u 37 :: u 38 :: u 39 :: u 40 :: u 41 :: u 42 :: u 43 :: u 44 :: u 45 :: u 46 :: u 47 :: u 48 :: u 49 :: u 50 :: u 51 :: u 52 :: u 53 :: u 54 :: u 55 :: u 56 :: u 57 :: u 58 :: u 59 :: u 60 :: u 61 :: u 62 :: u 63 :: u 64 :: u 65 :: u 66 :: u 67 :: u 68 :: u 69 :: u 70 :: u 71 :: u 72 :: u 73 :: u 74 :: u 75 :: u 76 :: u 77 :: u 78 :: u 79 :: u 80 :: u 81 :: u 82 :: u 83 :: u 84 :: u 85 :: u 86 :: u 87 :: u 88 :: u 89 :: u 90 :: []), defers := [] } := ⟨fun i => a'.tmps.getD i undef, ha⟩
    clear ha
    subst ha2
    have LCH := Lib.hid lc
    obtain ⟨M1, hrd, hm1⟩ := lc.rs
    have RD1 := Lib.hid hrd
    have y1 : w'.cell? ⟨R, 1, none⟩ = some (.int .i64 j) := cell_of hrd
    obtain ⟨g, rfl⟩ : ∃ g', g = g' + 1 := ⟨g - 1, by have := lc.fuel; omega⟩
    have RC := Lib.hid (IHH.out R j g w' lc.le (by have := lc.ge; have := HN.out; omega) (by have := lc.fuel; omega) lc.rs)
    obtain ⟨q, hq⟩ : ∃ q, q = tmC g (s.data.toList.drop j) := ⟨_, rfl⟩
    rw [← hq] at RC
    have HQ := Lib.hid hq
    clear hrd hm1 lc hq SG
    go_hide hQ
    go_wp2_with fail
    (with_reducible refine RC.out.mono ?_)
    rintro e w3 ⟨o, hr⟩
    have O3 := Lib.hid (LCH.out.only.trans (o.mono RTS.out))
    cases q with
    | none =>
      obtain ⟨v, rfl⟩ := hr
      have HF := Lib.hid (show insC (f + 1) k (s.data.toList.drop p) = none from by rw [LCH.out.eq, noneC HQ.out.symm])
      clear o RC y1
      go_wp2_with fail
      subst hQ
      simp only [Exit.jump]
      exact ⟨rfl, O3.out, by rw [HF.out]; exact ⟨_, rfl⟩⟩
    | some dd =>
      obtain ⟨k1, n1, ps1, rest⟩ := dd
      obtain ⟨rfl, hrs⟩ := hr
      obtain ⟨e1, hlt, hle, ept⟩ := partC LCH.out.le HQ.out.symm
      obtain ⟨jn, hjn⟩ : ∃ x, x = behind s rest := ⟨_, rfl⟩
      rw [← hjn] at e1 hlt hle ept hrs
      obtain ⟨part, hpart⟩ : ∃ x, x = (s.data.toList.drop j).take (jn - j) := ⟨_, rfl⟩
      have ST := Lib.hid (stepC (k := k) (acc := acc) LCH.out.le HQ.out.symm hjn hpart)
      have HJ := Lib.hid (And.intro hjn (And.intro hlt (And.intro hle hpart)))
      have SVE := Lib.hid (show s.extract j jn = ⟨part.toArray⟩ from by
        have := sv_extract s j jn hle
        rw [← hpart] at this
        injection this)
      have RS3 := Lib.hid hrs
      have BX := Lib.hid (LCH.out.box.keepS o (T := fun q => q = R) HBR.out)
      obtain ⟨M3, hrd, hm3⟩ := hrs
      have RD3 := Lib.hid hrd
      have HM3 := Lib.hid hm3
      have y0 : w3.cell? ⟨R, 0, none⟩ = some (.string s) := cell_of hrd
      have y1' : w3.cell? ⟨R, 1, none⟩ = some (.int .i64 jn) := cell_of hrd
      have b1 : (0 : Int) ≤ (j : Int) := by omega
      have b2 : (j : Int) ≤ (jn : Int) := by omega
      have b3 : (jn : Int) ≤ (s.size : Int) := by omega
      clear e1 hlt hle ept hjn hpart hrd hm3 o RC y1
      go_wp2_with fail
      have wl : wrap64 ((acc.length : Int) + 1) = (acc.length : Int) + 1 := IntWalk.wrap64_in _ (by have := LCH.out.cnt; have := LCH.out.le; have := HS.out; omega)
      go_quiet (fail)
      have OW5 : Only (fun q => q = R) w (w3.drewN nq) := O3.out.drewN nq
      have RD5 := Lib.hid (show Rd (w3.drewN nq) R s jn M3 from RD3.out)
      have HM5 := Lib.hid (show M3 = Value.map none ∨ ∃ b, M3 = Value.map (some b) ∧ (w3.drewN nq).heap[b]? = some (Obj.map table 7) from HM3.out)
      have BX5 := Lib.hid (show Box6 (w3.drewN nq) B k from BX.out)
      have O5 := Lib.hid OW5
      clear OW5 y0 y1' b1 b2 b3
      generalize w3.drewN nq = W5 at RD5 HM5 BX5 O5 ⊢
      have KQ := Lib.hid (show k ≠ 6 from by have := K6.out; simpa using this)
      obtain ⟨-, -, -, -, -, c5⟩ := BX5.out.cells
      rw [K6.out] at c5
      obtain ⟨c0, c1, -, -, -, -⟩ := BX5.out.cells
      have NXC := Lib.hid (next_lit 44 44 rfl R s jn M3 W5 (by have := HS.out; omega) HJ.out.2.2.1 RD5.out (by decide))
      by_cases hmo : acc.length + 1 < mostk k
      · have m1 : ((acc.length : Int) + 1 < (mostk k : Int)) = True := eq_true (by omega)
        have HMO := Lib.hid hmo
        clear hmo
        go_wp2_with fail
        (with_reducible refine NXC.out.mono ?_)
        cases h44 : (cb s jn == 44)
        · rintro e w6 ⟨rfl, hr6, o6, o6'⟩
          have h44' : ¬ cb s jn = 44 := by simpa using h44
          have H44 := Lib.hid h44'
          have RD6 := Lib.hid hr6
          have O6 := Lib.hid (O5.out.trans (o6.mono RTS.out))
          have HM6 := Lib.hid (show M3 = Value.map none ∨ ∃ b, M3 = Value.map (some b) ∧ w6.heap[b]? = some (Obj.map table 7) from by
            rcases HM5.out with h | ⟨b, h, h3⟩
            · exact .inl h
            · exact .inr ⟨b, h, (o6' rfl).keep h3 id⟩)
          have BX6 := Lib.hid (BX5.out.keepS (o6' rfl) id)
          clear c0 c1 c5
          obtain ⟨c0, c1, -, -, -, -⟩ := BX6.out.cells
          clear h44 h44' o6 o6' hr6 NXC
          by_cases hle : acc.length + 1 < least k
          · have z1 : ((acc.length : Int) + 1 < (least k : Int)) = True := eq_true (by omega)
            have HF := Lib.hid (show insC (f + 1) k (s.data.toList.drop p) = none from by
              rw [LCH.out.eq, ST.out, if_neg (fun q => KQ.out q.1), if_neg (fun q => H44.out q.2), if_pos hle])
            clear hle
            go_wp2_with fail
            subst hQ
            simp only [Exit.jump]
            exact ⟨rfl, O6.out, by rw [HF.out]; exact ⟨_, rfl⟩⟩
          have z1 : ((acc.length : Int) + 1 < (least k : Int)) = False := eq_false (by omega)
          have SGN := Lib.hid (sign_lit 41 41 rfl R s jn M3 w6 (by have := HS.out; omega) HJ.out.2.2.1 RD6.out (by decide))
          have HL2 := Lib.hid hle
          clear hle
          go_wp2_with fail
          (with_reducible refine SGN.out.mono ?_)
          cases h41 : (cb s jn == 41)
          · rintro e w7 ⟨o7, v, rfl⟩
            have HF := Lib.hid (show insC (f + 1) k (s.data.toList.drop p) = none from by
              rw [LCH.out.eq, ST.out, if_neg (fun q => KQ.out q.1), if_neg (fun q => H44.out q.2), if_neg HL2.out, if_neg (by simpa using h41)])
            have HO7 := Lib.hid (O6.out.trans (o7.mono RTS.out))
            clear h41 o7 SGN
            go_wp2_with fail
            subst hQ
            simp only [Exit.jump]
            exact ⟨rfl, HO7.out, by rw [HF.out]; exact ⟨_, rfl⟩⟩
          · rintro e w7 ⟨o7, rfl, hr7⟩
            have h41' : cb s jn = 41 := by simpa using h41
            have HF := Lib.hid (show insC (f + 1) k (s.data.toList.drop p) = some (n, acc ++ [part], s.data.toList.drop (jn + 1)) from by
              rw [LCH.out.eq, ST.out, if_neg (fun q => KQ.out q.1), if_neg (fun q => H44.out q.2), if_neg HL2.out, if_pos h41'])
            have HO7 := Lib.hid (O6.out.trans (o7.mono RTS.out))
            have R7 := Lib.hid (show RS w7 R s (behind s (s.data.toList.drop (jn + 1))) from by
              rw [behind, List.length_drop, tl_size, show s.size - (s.size - (jn + 1)) = jn + 1 by have := cb_lt (by decide) h41'; omega]
              exact RS.move HM6.out RD6.out o7 hr7)
            clear h41 h41' o7 hr7 SGN
            go_wp2_with fail
            subst hQ
            simp only [Exit.jump]
            go_ret
            exact ⟨HO7.out, by rw [HF.out]; exact ⟨rfl, R7.out⟩⟩
        · rintro e w6 ⟨rfl, hr6, o6, -⟩
          have h44' : cb s jn = 44 := by simpa using h44
          have NX6 := Lib.hid (show LC (fun q => q = R) w s R B p (f + 1) k n (jn + 1) g (acc ++ [part]) w6 from
            ⟨RS.move HM5.out RD5.out o6 hr6, cb_lt (by decide) h44', by have := LCH.out.ge; have := HJ.out.2.1; omega, by
              rw [LCH.out.eq, ST.out, if_neg (fun q => KQ.out q.1), if_pos ⟨HMO.out, h44'⟩], by have := LCH.out.fuel; have := HJ.out.2.1; have := HJ.out.2.2.1; omega,
              by have := LCH.out.cnt; have := HJ.out.2.1; simp; omega, by simpa using HMO.out, BX5.out.keepS o6 HBR.out, O5.out.trans (o6.mono RTS.out)⟩)
          have HLA := Lib.hid (show (⟨part.toArray⟩ : ByteArray) = lastOf (acc ++ [part]) from by simp [lastOf])
          clear h44 h44' o6 hr6 NXC
          go_wp2_with fail
          go_step3
          subst hQ
          have HLEN : ((acc.length : Int) + 1) = (((acc ++ [part]).length : Nat) : Int) := by simp
          rw [SVE.out, HLA.out, HLEN]
          refine ⟨rfl, ⟨jn + 1, g, n, acc ++ [part], rfl, NX6.out⟩, ?_⟩
          show s.size - atOf R w6 < s.size - atOf R w'
          rw [atOf_rs LCH.out.rs, atOf_rs NX6.out.rs]
          have := HJ.out.2.1
          have := NX6.out.le
          omega
      · have m1 : ((acc.length : Int) + 1 < (mostk k : Int)) = False := eq_false (by omega)
        have m2 : ((mostk k : Int) ≤ (acc.length : Int) + 1) := by omega
        have HMO := Lib.hid hmo
        clear hmo
        by_cases hle : acc.length + 1 < least k
        · have z1 : ((acc.length : Int) + 1 < (least k : Int)) = True := eq_true (by omega)
          have HF := Lib.hid (show insC (f + 1) k (s.data.toList.drop p) = none from by
            rw [LCH.out.eq, ST.out, if_neg (fun q => KQ.out q.1), if_neg (fun q => HMO.out q.1), if_pos hle])
          clear hle
          go_wp2_with fail
          subst hQ
          simp only [Exit.jump]
          exact ⟨rfl, O5.out, by rw [HF.out]; exact ⟨_, rfl⟩⟩
        have z1 : ((acc.length : Int) + 1 < (least k : Int)) = False := eq_false (by omega)
        have SGN := Lib.hid (sign_lit 41 41 rfl R s jn M3 W5 (by have := HS.out; omega) HJ.out.2.2.1 RD5.out (by decide))
        have HL2 := Lib.hid hle
        clear hle
        go_wp2_with fail
        (with_reducible refine SGN.out.mono ?_)
        cases h41 : (cb s jn == 41)
        · rintro e w7 ⟨o7, v, rfl⟩
          have HF := Lib.hid (show insC (f + 1) k (s.data.toList.drop p) = none from by
            rw [LCH.out.eq, ST.out, if_neg (fun q => KQ.out q.1), if_neg (fun q => HMO.out q.1), if_neg HL2.out, if_neg (by simpa using h41)])
          have HO7 := Lib.hid (O5.out.trans (o7.mono RTS.out))
          clear h41 o7 SGN
          go_wp2_with fail
          subst hQ
          simp only [Exit.jump]
          exact ⟨rfl, HO7.out, by rw [HF.out]; exact ⟨_, rfl⟩⟩
        · rintro e w7 ⟨o7, rfl, hr7⟩
          have h41' : cb s jn = 41 := by simpa using h41
          have HF := Lib.hid (show insC (f + 1) k (s.data.toList.drop p) = some (n, acc ++ [part], s.data.toList.drop (jn + 1)) from by
            rw [LCH.out.eq, ST.out, if_neg (fun q => KQ.out q.1), if_neg (fun q => HMO.out q.1), if_neg HL2.out, if_pos h41'])
          have HO7 := Lib.hid (O5.out.trans (o7.mono RTS.out))
          have R7 := Lib.hid (show RS w7 R s (behind s (s.data.toList.drop (jn + 1))) from by
            rw [behind, List.length_drop, tl_size, show s.size - (s.size - (jn + 1)) = jn + 1 by have := cb_lt (by decide) h41'; omega]
            exact RS.move HM5.out RD5.out o7 hr7)
          clear h41 h41' o7 hr7 SGN
          go_wp2_with fail
          subst hQ
          simp only [Exit.jump]
          go_ret
          exact ⟨HO7.out, by rw [HF.out]; exact ⟨rfl, R7.out⟩⟩
  · intro hrest
    have HRE := Lib.hid hrest
    clear hrest
    go_wp2_with fail
    (with_reducible refine SG.out.mono ?_)
    cases hc : (cb s p == 40)
    · rintro e w2 ⟨o, v, rfl⟩
      have HF := Lib.hid (ins_no (f := f + 1) (k := k) hc)
      have HO := Lib.hid (O1.out.trans (o.mono RTS.out))
      clear o hc SG
      go_wp2_with fail
      exact ⟨rfl, HO.out, by rw [HF.out]; exact ⟨_, rfl⟩⟩
    · rintro e w2 ⟨o, rfl, hr⟩
      obtain ⟨_, hlt⟩ := head_of hc
      have HY := Lib.hid (ins_yes (f := f) (k := k) hc)
      have HLT := Lib.hid hlt
      have HO := Lib.hid (O1.out.trans (o.mono RTS.out))
      have H2 := Lib.hid (RS.move HM2.out HR.out o hr)
      have RD2 := Lib.hid hr
      have HMM := Lib.hid (show M = Value.map none ∨ ∃ b, M = Value.map (some b) ∧ w2.heap[b]? = some (Obj.map table 7) from by
        obtain ⟨M', q1, q2⟩ := H2.out
        have e := hr.symm.trans q1
        injection e with e
        injection e with e
        injection e with e
        injection e with e e'
        injection e' with e' e''
        injection e'' with e''
        rw [e'']
        exact q2)
      have B6 := Lib.hid (HB.out.keepS o (T := fun q => q = R) HBR.out)
      obtain ⟨c0, c1, c2, c3, c4, c5⟩ := B6.out.cells
      rw [KN.out] at c2
      rw [K6.out] at c5
      have kl := KL.out
      clear o hr hlt hc SG
      have NUM := Lib.hid (number_any R s (p + 1) (lowk k) (highk k) M w2 (by have := HS.out; omega) HLT.out RD2.out)
      have HHD := Lib.hid (show headOf k (s.data.toList.drop (p + 1)) = (match numOf (lowk k) (highk k) (s.data.toList.drop (p + 1)) with
          | none => none
          | some (n, r) => (match r with
            | [] => none
            | c :: r' => if c = 44 then some (n, r') else none)) from by
        rw [headOf, if_pos KN.out]
        rfl)
      obtain ⟨q, hq⟩ : ∃ q, q = numOf (lowk k) (highk k) (s.data.toList.drop (p + 1)) := ⟨_, rfl⟩
      rw [← hq] at NUM HHD
      have HQ := Lib.hid hq
      clear hq
      go_wp2_with fail
      (with_reducible refine NUM.out.mono ?_)
      rintro e w6 ⟨o6, hr6⟩
      cases q with
      | none =>
        obtain ⟨v, rfl⟩ := hr6
        have HF := Lib.hid (show insC (f + 1) k (s.data.toList.drop p) = none from by rw [HY.out, HHD.out])
        have HO6 := Lib.hid (HO.out.trans (o6.mono RTS.out))
        clear o6 NUM c0 c1 c2 c3 c4 c5
        go_wp2_with fail
        exact ⟨rfl, HO6.out, by rw [HF.out]; exact ⟨_, rfl⟩⟩
      | some dd =>
        obtain ⟨nv, rest⟩ := dd
        obtain ⟨rfl, hr6⟩ := hr6
        obtain ⟨tt, ett⟩ := num_suf HQ.out.symm
        obtain ⟨re1, re2, re3⟩ := behind_drop HLT.out ett
        obtain ⟨nx, hnx⟩ : ∃ x, x = behind s rest := ⟨_, rfl⟩
        rw [← hnx] at re1 re2 re3 hr6
        have HX := Lib.hid (And.intro re1 (And.intro (show p + 1 ≤ nx by omega) re3))
        have RD6 := Lib.hid hr6
        have B66 := Lib.hid (B6.out.keepS o6 (T := fun q => q = R) HBR.out)
        have HM6 := Lib.hid (show M = Value.map none ∨ ∃ b, M = Value.map (some b) ∧ w6.heap[b]? = some (Obj.map table 7) from by
          rcases HMM.out with h | ⟨b, h, h3⟩
          · exact .inl h
          · refine .inr ⟨b, h, o6.keep h3 fun q => ?_⟩
            subst q
            have := RD2.out
            unfold prA.Rd at this
            rw [h3] at this
            cases this)
        have HO6 := Lib.hid (HO.out.trans (o6.mono RTS.out))
        have SG2 := Lib.hid (sign_lit 44 44 rfl R s nx M w6 (by have := HS.out; omega) re3 hr6 (by decide))
        clear re1 re2 re3 ett hnx hr6 o6 NUM c0 c1 c2 c3 c4 c5
        obtain ⟨c0, c1, c2, c3, c4, c5⟩ := B66.out.cells
        go_wp2_with fail
        (with_reducible refine SG2.out.mono ?_)
        cases h44 : (cb s nx == 44)
        · rintro e w7 ⟨o7, v, rfl⟩
          have HF := Lib.hid (show insC (f + 1) k (s.data.toList.drop p) = none from by
            rw [HY.out, HHD.out]
            try simp only
            rcases Nat.lt_or_ge nx s.size with g1 | g1
            · rw [HX.out.1, cb_in s nx g1]
              try simp only
              rw [if_neg (by simpa using h44)]
            · rw [HX.out.1, (cb_out s nx g1).2])
          have HO7 := Lib.hid (HO6.out.trans (o7.mono RTS.out))
          clear o7 h44 SG2 c0 c1 c2 c3 c4 c5
          go_wp2_with fail
          exact ⟨rfl, HO7.out, by rw [HF.out]; exact ⟨_, rfl⟩⟩
        · rintro e w7 ⟨o7, rfl, hr7⟩
          have h44' : cb s nx = 44 := by simpa using h44
          have hxs := cb_lt (by decide) h44'
          have B7 := Lib.hid (B66.out.keepS o7 (T := fun q => q = R) HBR.out)
          have H7 := Lib.hid (RS.move HM6.out RD6.out o7 hr7)
          have HO7 := Lib.hid (HO6.out.trans (o7.mono RTS.out))
          have HXS := Lib.hid hxs
          have HEQ := Lib.hid (show insC (f + 1) k (s.data.toList.drop p) = (match lpC f k [] (s.data.toList.drop (nx + 1)) with | none => none | some (ps, rest) => some (nv, ps, rest)) from by
            rw [HY.out, HHD.out]
            try simp only
            rw [HX.out.1, cb_in s nx hxs, h44']
            simp only [↓reduceIte]
            rw [if_neg (by rcases H5.out with rfl | rfl <;> simp)]
            try rfl)
          clear h44 h44' hxs o7 hr7 SG2 c0 c1 c2 c3 c4 c5
          obtain ⟨c0, c1, c2, c3, c4, c5⟩ := B7.out.cells
          go_wp2_with fail
          go_step3
          go_step
          go_step
          exact HRE.out _ _ ⟨nx + 1, f, nv, [], rfl, ⟨H7.out, HXS.out, by have := HX.out.2.1; omega, HEQ.out, by have := HFu.out; have := HX.out.2.1; have := HXS.out; omega, Nat.zero_le _, by rcases H5.out with rfl | rfl <;> decide, B7.out, HO7.out⟩⟩

end Go.Proofs.Ytbjnejnjlidiaaa.prD
namespace Go.Proofs.Ytbjnejnjlidiaaa.prD
open Go.RowKit kit numA numB numC numD numE numF tmA tmB tmC srcA trA trB trD trE prA prB prC
set_option linter.unusedVariables false
set_option linter.unusedSimpArgs false

set_option maxRecDepth 100000 in
set_option maxHeartbeats 3200000 in
theorem inside_11 (s : ByteArray) (N : Nat) (ih : IHT s N) (R p f k : Nat) (w : World) (hm : s.size ≤ 100000000) (hp : p ≤ s.size) (hN : s.size - p ≤ N + 1) (hf : 2 * (s.size - p) + 1 ≤ f) (hr : RS w R s p) (h5 : k = 11) : Calls Try.prog 198 #[ptr R, shv k, .pointer none] w (IC w R s (insC f k (s.data.toList.drop p))) := by
  obtain ⟨M, hr1, hr2⟩ := hr
  have hRlt := lt_of hr1
  obtain ⟨f, rfl⟩ : ∃ g, f = g + 1 := ⟨f - 1, by omega⟩
  obtain ⟨W1, hW1⟩ : ∃ W, W = w.alloc (.cells #[.int .i64 (least k : Nat), .int .i64 (mostk k : Nat), .bool (numbered k), .int .u64 (lowk k : Nat), .int .u64 (highk k : Nat), .bool (k == 6)] 134) := ⟨_, rfl⟩
  have o1 : Only (fun _ => False) w W1 := by rw [hW1]; exact (Only.refl _ w).alloc _
  have HB := Lib.hid (show Box6 W1 w.heap.size k from by rw [hW1]; exact heap_alloc_new w _)
  have O1 := Lib.hid (o1.mono (T := fun q => q = R) fun _ q => q.elim)
  have HR := Lib.hid (hr1.keep o1)
  have HM2 := Lib.hid (show M = .map none ∨ ∃ b, M = .map (some b) ∧ W1.heap[b]? = some (.map table 7) from by
    rcases hr2 with h | ⟨b, h, h3⟩
    · exact .inl h
    · exact .inr ⟨b, h, o1.keep h3 id⟩)
  have SG := Lib.hid (sign_lit 40 40 rfl R s p M W1 (by omega) hp HR.out (by decide))
  have HBR := Lib.hid (show w.heap.size ≠ R by omega)
  have RtoS : ∀ q, q = R → (fun q => q = R) q := fun _ e => e
  have RTS := Lib.hid RtoS
  have HS := Lib.hid hm
  have HP := Lib.hid hp
  have HN := Lib.hid hN
  have HFu := Lib.hid hf
  have IHH := Lib.hid ih
  have KN := Lib.hid (show numbered k = false from by obtain rfl := h5 <;> rfl)
  have KL := Lib.hid (show ((least k : Int) == 0) = true from by obtain rfl := h5 <;> rfl)
  have K6 := Lib.hid (show (k == 6) = false from by obtain rfl := h5 <;> rfl)
  have H5 := Lib.hid h5
  have HW := Lib.hid hW1
  rw [hW1] at SG
  clear hr1 hr2 o1 hm hp hN hf ih h5 hRlt hW1 RtoS
  unfold shv
  go_enter Try.func198, Try.ntmps198
  go_wp2_with fail
  rw [← HW.out] at SG ⊢
  obtain ⟨B, hB⟩ : ∃ B, B = w.heap.size := ⟨_, rfl⟩
  rw [← hB] at HB HBR ⊢
  have HBB := Lib.hid hB
  clear hB
  refine scope_jumps 0 (fun a' w' => ∃ (j g n : Nat) (acc : List Txt), a' = { tmps := List.toArray (ptr R :: a'.tmps.getD 1 undef :: (.pointer none) :: a'.tmps.getD 3 undef :: (.pointer (some ⟨B, 0, none⟩)) :: a'.tmps.getD 5 undef :: a'.tmps.getD 6 undef :: (.int .u64 (n : Nat)) :: (.string (lastOf acc)) :: (.int .i64 (acc.length : Nat)) :: a'.tmps.getD 10 undef :: a'.tmps.getD 11 undef :: a'.tmps.getD 12 undef :: a'.tmps.getD 13 undef :: a'.tmps.getD 14 undef :: a'.tmps.getD 15 undef :: a'.tmps.getD 16 undef :: a'.tmps.getD 17 undef :: a'.tmps.getD 18 undef :: a'.tmps.getD 19 undef :: a'.tmps.getD 20 undef :: a'.tmps.getD 21 undef :: a'.tmps.getD 22 undef :: a'.tmps.getD 23 undef :: a'.tmps.getD 24 undef :: a'.tmps.getD 25 undef :: a'.tmps.getD 26 undef :: a'.tmps.getD 27 undef :: a'.tmps.getD 28 undef :: a'.tmps.getD 29 undef :: a'.tmps.getD 30 undef :: a'.tmps.getD 31 undef :: a'.tmps.getD 32 undef :: a'.tmps.getD 33 undef :: a'.tmps.getD 34 undef :: a'.tmps.getD 35 undef :: a'.tmps.getD 36 undef :: a'.tmps.getD 37 undef :: a'.tmps.getD 38 undef :: a'.tmps.getD 39 undef :: a'.tmps.getD 40 undef :: a'.tmps.getD 41 undef :: a'.tmps.getD 42 undef :: a'.tmps.getD 43 undef :: a'.tmps.getD 44 undef :: a'.tmps.getD 45 undef :: a'.tmps.getD 46 undef :: a'.tmps.getD 47 undef :: a'.tmps.getD 48 undef :: a'.tmps.getD 49 undef :: a'.tmps.getD 50 undef :: a'.tmps.getD 51 undef :: a'.tmps.getD 52 undef :: a'.tmps.getD 53 undef :: a'.tmps.getD 54 undef :: a'.tmps.getD 55 undef :: a'.tmps.getD 56 undef :: a'.tmps.getD 57 undef :: a'.tmps.getD 58 undef :: a'.tmps.getD 59 undef :: a'.tmps.getD 60 undef :: a'.tmps.getD 61 undef :: a'.tmps.getD 62 undef :: a'.tmps.getD 63 undef :: a'.tmps.getD 64 undef :: a'.tmps.getD 65 undef :: a'.tmps.getD 66 undef :: a'.tmps.getD 67 undef :: a'.tmps.getD 68 undef :: a'.tmps.getD 69 undef :: a'.tmps.getD 70 undef :: a'.tmps.getD 71 undef :: a'.tmps.getD 72 undef :: a'.tmps.getD 73 undef :: a'.tmps.getD 74 undef :: a'.tmps.getD 75 undef :: a'.tmps.getD 76 undef :: a'.tmps.getD 77 undef :: a'.tmps.getD 78 undef :: a'.tmps.getD 79 undef :: a'.tmps.getD 80 undef :: a'.tmps.getD 81 undef :: a'.tmps.getD 82 undef :: a'.tmps.getD 83 undef :: a'.tmps.getD 84 undef :: a'.tmps.getD 85 undef :: a'.tmps.getD 86 undef :: a'.tmps.getD 87 undef :: a'.tmps.getD 88 undef :: a'.tmps.getD 89 undef :: a'.tmps.getD 90 undef :: []), defers := [] } ∧ LC (fun q => q = R) w s R B p (f + 1) k n j g acc w') (fun _ w' => s.size - atOf R w') rfl ?_ ?_
  · rintro a' w' ⟨j, g, n, acc, ha, lc⟩
    obtain ⟨u, ha2⟩ : ∃ u : Nat → Value, a' = { tmps := List.toArray (ptr R :: u 1 :: (.pointer none) :: u 3 :: (.pointer (some ⟨B, 0, none⟩)) :: u 5 :: u 6 :: (.int .u64 (n : Nat)) :: (.string (lastOf acc)) :: (.int .i64 (acc.length : Nat)) :: u 10 :: u 11 :: u 12 :: u 13 :: u 14 :: u 15 :: u 16 :: u 17 :: u 18 :: u 19 :: u 20 :: u 21 :: u 22 :: u 23 :: u 24 :: u 25 :: u 26 :: u 27 :: u 28 :: u 29 :: u 30 :: u 31 :: u 32 :: u 33 :: u 34 :: u 35 :: u 36 :: u 37 :: u 38 :: u 39 :: u 40 :: u 41 :: u 42 :: u 43 :: u 44 :: u 45 :: u 46 :: u 47 :: u 48 :: u 49 :: u 50 :: u 51 :: u 52 :: u 53 :: u 54 :: u 55 :: u 56 :: u 57 :: u 58 :: u 59 :: u 60 :: u 61 :: u 62 :: u 63 :: u 64 :: u 65 :: u 66 :: u 67 :: u 68 :: u 69 :: u 70 :: u 71 :: u 72 :: u 73 :: u 74 :: u 75 :: u 76 :: u 77 :: u 78 :: u 79 :: u 80 :: u 81 :: u 82 :: u 83 :: u 84 :: u 85 :: u 86 :: u 87 :: u 88 :: u 89 :: u 90 :: []), defers := [] } := ⟨fun i => a'.tmps.getD i undef, ha⟩
    clear ha
    subst ha2
    have LCH := Lib.hid lc
    obtain ⟨M1, hrd, hm1⟩ := lc.rs
    have RD1 := Lib.hid hrd
    have y1 : w'.cell? ⟨R, 1, none⟩ = some (.int .i64 j) := cell_of hrd
    obtain ⟨g, rfl⟩ : ∃ g', g = g' + 1 := ⟨g - 1, by have := lc.fuel; omega⟩
    have RC := Lib.hid (IHH.out R j g w' lc.le (by have := lc.ge; have := HN.out; omega) (by have := lc.fuel; omega) lc.rs)
    obtain ⟨q, hq⟩ : ∃ q, q = tmC g (s.data.toList.drop j) := ⟨_, rfl⟩
    rw [← hq] at RC
    have HQ := Lib.hid hq
    clear hrd hm1 lc hq SG
    go_hide hQ
    go_wp2_with fail
    (with_reducible refine RC.out.mono ?_)
    rintro e w3 ⟨o, hr⟩
    have O3 := Lib.hid (LCH.out.only.trans (o.mono RTS.out))
    cases q with
    | none =>
      obtain ⟨v, rfl⟩ := hr
      have HF := Lib.hid (show insC (f + 1) k (s.data.toList.drop p) = none from by rw [LCH.out.eq, noneC HQ.out.symm])
      clear o RC y1
      go_wp2_with fail
      subst hQ
      simp only [Exit.jump]
      exact ⟨rfl, O3.out, by rw [HF.out]; exact ⟨_, rfl⟩⟩
    | some dd =>
      obtain ⟨k1, n1, ps1, rest⟩ := dd
      obtain ⟨rfl, hrs⟩ := hr
      obtain ⟨e1, hlt, hle, ept⟩ := partC LCH.out.le HQ.out.symm
      obtain ⟨jn, hjn⟩ : ∃ x, x = behind s rest := ⟨_, rfl⟩
      rw [← hjn] at e1 hlt hle ept hrs
      obtain ⟨part, hpart⟩ : ∃ x, x = (s.data.toList.drop j).take (jn - j) := ⟨_, rfl⟩
      have ST := Lib.hid (stepC (k := k) (acc := acc) LCH.out.le HQ.out.symm hjn hpart)
      have HJ := Lib.hid (And.intro hjn (And.intro hlt (And.intro hle hpart)))
      have SVE := Lib.hid (show s.extract j jn = ⟨part.toArray⟩ from by
        have := sv_extract s j jn hle
        rw [← hpart] at this
        injection this)
      have RS3 := Lib.hid hrs
      have BX := Lib.hid (LCH.out.box.keepS o (T := fun q => q = R) HBR.out)
      obtain ⟨M3, hrd, hm3⟩ := hrs
      have RD3 := Lib.hid hrd
      have HM3 := Lib.hid hm3
      have y0 : w3.cell? ⟨R, 0, none⟩ = some (.string s) := cell_of hrd
      have y1' : w3.cell? ⟨R, 1, none⟩ = some (.int .i64 jn) := cell_of hrd
      have b1 : (0 : Int) ≤ (j : Int) := by omega
      have b2 : (j : Int) ≤ (jn : Int) := by omega
      have b3 : (jn : Int) ≤ (s.size : Int) := by omega
      clear e1 hlt hle ept hjn hpart hrd hm3 o RC y1
      go_wp2_with fail
      have wl : wrap64 ((acc.length : Int) + 1) = (acc.length : Int) + 1 := IntWalk.wrap64_in _ (by have := LCH.out.cnt; have := LCH.out.le; have := HS.out; omega)
      go_quiet (fail)
      have OW5 : Only (fun q => q = R) w (w3.drewN nq) := O3.out.drewN nq
      have RD5 := Lib.hid (show Rd (w3.drewN nq) R s jn M3 from RD3.out)
      have HM5 := Lib.hid (show M3 = Value.map none ∨ ∃ b, M3 = Value.map (some b) ∧ (w3.drewN nq).heap[b]? = some (Obj.map table 7) from HM3.out)
      have BX5 := Lib.hid (show Box6 (w3.drewN nq) B k from BX.out)
      have O5 := Lib.hid OW5
      clear OW5 y0 y1' b1 b2 b3
      generalize w3.drewN nq = W5 at RD5 HM5 BX5 O5 ⊢
      have KQ := Lib.hid (show k ≠ 6 from by have := K6.out; simpa using this)
      obtain ⟨-, -, -, -, -, c5⟩ := BX5.out.cells
      rw [K6.out] at c5
      obtain ⟨c0, c1, -, -, -, -⟩ := BX5.out.cells
      have NXC := Lib.hid (next_lit 44 44 rfl R s jn M3 W5 (by have := HS.out; omega) HJ.out.2.2.1 RD5.out (by decide))
      by_cases hmo : acc.length + 1 < mostk k
      · have m1 : ((acc.length : Int) + 1 < (mostk k : Int)) = True := eq_true (by omega)
        have HMO := Lib.hid hmo
        clear hmo
        go_wp2_with fail
        (with_reducible refine NXC.out.mono ?_)
        cases h44 : (cb s jn == 44)
        · rintro e w6 ⟨rfl, hr6, o6, o6'⟩
          have h44' : ¬ cb s jn = 44 := by simpa using h44
          have H44 := Lib.hid h44'
          have RD6 := Lib.hid hr6
          have O6 := Lib.hid (O5.out.trans (o6.mono RTS.out))
          have HM6 := Lib.hid (show M3 = Value.map none ∨ ∃ b, M3 = Value.map (some b) ∧ w6.heap[b]? = some (Obj.map table 7) from by
            rcases HM5.out with h | ⟨b, h, h3⟩
            · exact .inl h
            · exact .inr ⟨b, h, (o6' rfl).keep h3 id⟩)
          have BX6 := Lib.hid (BX5.out.keepS (o6' rfl) id)
          clear c0 c1 c5
          obtain ⟨c0, c1, -, -, -, -⟩ := BX6.out.cells
          clear h44 h44' o6 o6' hr6 NXC
          by_cases hle : acc.length + 1 < least k
          · have z1 : ((acc.length : Int) + 1 < (least k : Int)) = True := eq_true (by omega)
            have HF := Lib.hid (show insC (f + 1) k (s.data.toList.drop p) = none from by
              rw [LCH.out.eq, ST.out, if_neg (fun q => KQ.out q.1), if_neg (fun q => H44.out q.2), if_pos hle])
            clear hle
            go_wp2_with fail
            subst hQ
            simp only [Exit.jump]
            exact ⟨rfl, O6.out, by rw [HF.out]; exact ⟨_, rfl⟩⟩
          have z1 : ((acc.length : Int) + 1 < (least k : Int)) = False := eq_false (by omega)
          have SGN := Lib.hid (sign_lit 41 41 rfl R s jn M3 w6 (by have := HS.out; omega) HJ.out.2.2.1 RD6.out (by decide))
          have HL2 := Lib.hid hle
          clear hle
          go_wp2_with fail
          (with_reducible refine SGN.out.mono ?_)
          cases h41 : (cb s jn == 41)
          · rintro e w7 ⟨o7, v, rfl⟩
            have HF := Lib.hid (show insC (f + 1) k (s.data.toList.drop p) = none from by
              rw [LCH.out.eq, ST.out, if_neg (fun q => KQ.out q.1), if_neg (fun q => H44.out q.2), if_neg HL2.out, if_neg (by simpa using h41)])
            have HO7 := Lib.hid (O6.out.trans (o7.mono RTS.out))
            clear h41 o7 SGN
            go_wp2_with fail
            subst hQ
            simp only [Exit.jump]
            exact ⟨rfl, HO7.out, by rw [HF.out]; exact ⟨_, rfl⟩⟩
          · rintro e w7 ⟨o7, rfl, hr7⟩
            have h41' : cb s jn = 41 := by simpa using h41
            have HF := Lib.hid (show insC (f + 1) k (s.data.toList.drop p) = some (n, acc ++ [part], s.data.toList.drop (jn + 1)) from by
              rw [LCH.out.eq, ST.out, if_neg (fun q => KQ.out q.1), if_neg (fun q => H44.out q.2), if_neg HL2.out, if_pos h41'])
            have HO7 := Lib.hid (O6.out.trans (o7.mono RTS.out))
            have R7 := Lib.hid (show RS w7 R s (behind s (s.data.toList.drop (jn + 1))) from by
              rw [behind, List.length_drop, tl_size, show s.size - (s.size - (jn + 1)) = jn + 1 by have := cb_lt (by decide) h41'; omega]
              exact RS.move HM6.out RD6.out o7 hr7)
            clear h41 h41' o7 hr7 SGN
            go_wp2_with fail
            subst hQ
            simp only [Exit.jump]
            go_ret
            exact ⟨HO7.out, by rw [HF.out]; exact ⟨rfl, R7.out⟩⟩
        · rintro e w6 ⟨rfl, hr6, o6, -⟩
          have h44' : cb s jn = 44 := by simpa using h44
          have NX6 := Lib.hid (show LC (fun q => q = R) w s R B p (f + 1) k n (jn + 1) g (acc ++ [part]) w6 from
            ⟨RS.move HM5.out RD5.out o6 hr6, cb_lt (by decide) h44', by have := LCH.out.ge; have := HJ.out.2.1; omega, by
              rw [LCH.out.eq, ST.out, if_neg (fun q => KQ.out q.1), if_pos ⟨HMO.out, h44'⟩], by have := LCH.out.fuel; have := HJ.out.2.1; have := HJ.out.2.2.1; omega,
              by have := LCH.out.cnt; have := HJ.out.2.1; simp; omega, by simpa using HMO.out, BX5.out.keepS o6 HBR.out, O5.out.trans (o6.mono RTS.out)⟩)
          have HLA := Lib.hid (show (⟨part.toArray⟩ : ByteArray) = lastOf (acc ++ [part]) from by simp [lastOf])
          clear h44 h44' o6 hr6 NXC
          go_wp2_with fail
          go_step3
          subst hQ
          have HLEN : ((acc.length : Int) + 1) = (((acc ++ [part]).length : Nat) : Int) := by simp
          rw [SVE.out, HLA.out, HLEN]
          refine ⟨rfl, ⟨jn + 1, g, n, acc ++ [part], rfl, NX6.out⟩, ?_⟩
          show s.size - atOf R w6 < s.size - atOf R w'
          rw [atOf_rs LCH.out.rs, atOf_rs NX6.out.rs]
          have := HJ.out.2.1
          have := NX6.out.le
          omega
      · have m1 : ((acc.length : Int) + 1 < (mostk k : Int)) = False := eq_false (by omega)
        have m2 : ((mostk k : Int) ≤ (acc.length : Int) + 1) := by omega
        have HMO := Lib.hid hmo
        clear hmo
        by_cases hle : acc.length + 1 < least k
        · have z1 : ((acc.length : Int) + 1 < (least k : Int)) = True := eq_true (by omega)
          have HF := Lib.hid (show insC (f + 1) k (s.data.toList.drop p) = none from by
            rw [LCH.out.eq, ST.out, if_neg (fun q => KQ.out q.1), if_neg (fun q => HMO.out q.1), if_pos hle])
          clear hle
          go_wp2_with fail
          subst hQ
          simp only [Exit.jump]
          exact ⟨rfl, O5.out, by rw [HF.out]; exact ⟨_, rfl⟩⟩
        have z1 : ((acc.length : Int) + 1 < (least k : Int)) = False := eq_false (by omega)
        have SGN := Lib.hid (sign_lit 41 41 rfl R s jn M3 W5 (by have := HS.out; omega) HJ.out.2.2.1 RD5.out (by decide))
        have HL2 := Lib.hid hle
        clear hle
        go_wp2_with fail
        (with_reducible refine SGN.out.mono ?_)
        cases h41 : (cb s jn == 41)
        · rintro e w7 ⟨o7, v, rfl⟩
          have HF := Lib.hid (show insC (f + 1) k (s.data.toList.drop p) = none from by
            rw [LCH.out.eq, ST.out, if_neg (fun q => KQ.out q.1), if_neg (fun q => HMO.out q.1), if_neg HL2.out, if_neg (by simpa using h41)])
          have HO7 := Lib.hid (O5.out.trans (o7.mono RTS.out))
          clear h41 o7 SGN
          go_wp2_with fail
          subst hQ
          simp only [Exit.jump]
          exact ⟨rfl, HO7.out, by rw [HF.out]; exact ⟨_, rfl⟩⟩
        · rintro e w7 ⟨o7, rfl, hr7⟩
          have h41' : cb s jn = 41 := by simpa using h41
          have HF := Lib.hid (show insC (f + 1) k (s.data.toList.drop p) = some (n, acc ++ [part], s.data.toList.drop (jn + 1)) from by
            rw [LCH.out.eq, ST.out, if_neg (fun q => KQ.out q.1), if_neg (fun q => HMO.out q.1), if_neg HL2.out, if_pos h41'])
          have HO7 := Lib.hid (O5.out.trans (o7.mono RTS.out))
          have R7 := Lib.hid (show RS w7 R s (behind s (s.data.toList.drop (jn + 1))) from by
            rw [behind, List.length_drop, tl_size, show s.size - (s.size - (jn + 1)) = jn + 1 by have := cb_lt (by decide) h41'; omega]
            exact RS.move HM5.out RD5.out o7 hr7)
          clear h41 h41' o7 hr7 SGN
          go_wp2_with fail
          subst hQ
          simp only [Exit.jump]
          go_ret
          exact ⟨HO7.out, by rw [HF.out]; exact ⟨rfl, R7.out⟩⟩
  · intro hrest
    have HRE := Lib.hid hrest
    clear hrest
    go_wp2_with fail
    (with_reducible refine SG.out.mono ?_)
    cases hc : (cb s p == 40)
    · rintro e w2 ⟨o, v, rfl⟩
      have HF := Lib.hid (ins_no (f := f + 1) (k := k) hc)
      have HO := Lib.hid (O1.out.trans (o.mono RTS.out))
      clear o hc SG
      go_wp2_with fail
      exact ⟨rfl, HO.out, by rw [HF.out]; exact ⟨_, rfl⟩⟩
    · rintro e w2 ⟨o, rfl, hr⟩
      obtain ⟨_, hlt⟩ := head_of hc
      have HY := Lib.hid (ins_yes (f := f) (k := k) hc)
      have HLT := Lib.hid hlt
      have HO := Lib.hid (O1.out.trans (o.mono RTS.out))
      have H2 := Lib.hid (RS.move HM2.out HR.out o hr)
      have RD2 := Lib.hid hr
      have HMM := Lib.hid (show M = Value.map none ∨ ∃ b, M = Value.map (some b) ∧ w2.heap[b]? = some (Obj.map table 7) from by
        obtain ⟨M', q1, q2⟩ := H2.out
        have e := hr.symm.trans q1
        injection e with e
        injection e with e
        injection e with e
        injection e with e e'
        injection e' with e' e''
        injection e'' with e''
        rw [e'']
        exact q2)
      have B6 := Lib.hid (HB.out.keepS o (T := fun q => q = R) HBR.out)
      obtain ⟨c0, c1, c2, c3, c4, c5⟩ := B6.out.cells
      rw [KN.out] at c2
      rw [K6.out] at c5
      have kl := KL.out
      clear o hr hlt hc SG
      have NX1 := Lib.hid (next_lit 41 41 rfl R s (p + 1) M w2 (by have := HS.out; omega) HLT.out RD2.out (by decide))
      go_wp2_with fail
      (with_reducible refine NX1.out.mono ?_)
      cases h41 : (cb s (p + 1) == 41)
      · rintro e w6 ⟨rfl, hr6, o6, o6'⟩
        have h41' : ¬ cb s (p + 1) = 41 := by simpa using h41
        have H41 := Lib.hid h41'
        have B66 := Lib.hid (B6.out.keepS (o6' rfl) id)
        have H6 := Lib.hid (H2.out.keep (o6' rfl))
        have HO6 := Lib.hid (HO.out.trans (o6.mono RTS.out))
        clear h41 h41' o6 o6' hr6 NX1 c0 c1 c2 c3 c4 c5
        go_wp2_with fail
        go_step3
        go_step
        go_step
        refine HRE.out _ _ ⟨p + 1, f, 0, [], rfl, ⟨H6.out, HLT.out, Nat.le_refl _, ?_, by have := HFu.out; have := HLT.out; omega, Nat.zero_le _, by obtain rfl := H5.out <;> decide, B66.out, HO6.out⟩⟩
        rw [HY.out, headOf, if_neg (by rw [KN.out]; decide)]
        simp only
        rw [if_neg (fun q => H41.out ((drop_head s (p + 1) 41 (by decide)).1 q.2))]
      · rintro e w6 ⟨rfl, hr6, o6, -⟩
        have h41' : cb s (p + 1) = 41 := by simpa using h41
        have HF := Lib.hid (show insC (f + 1) k (s.data.toList.drop p) = some (0, [], s.data.toList.drop (p + 2)) from by
          rw [HY.out, headOf, if_neg (by rw [KN.out]; decide)]
          simp only
          rw [if_pos ⟨H5.out, (drop_head s (p + 1) 41 (by decide)).2 h41'⟩, List.tail_drop])
        have HO6 := Lib.hid (HO.out.trans (o6.mono RTS.out))
        have R6 := Lib.hid (show RS w6 R s (behind s (s.data.toList.drop (p + 2))) from by
          rw [behind, List.length_drop, tl_size, show s.size - (s.size - (p + 2)) = p + 2 by have := cb_lt (by decide) h41'; omega]
          exact RS.move HMM.out RD2.out o6 hr6)
        clear h41 h41' o6 hr6 NX1 c0 c1 c2 c3 c4 c5
        go_wp2_with fail
        go_ret
        exact ⟨HO6.out, by rw [HF.out]; exact ⟨rfl, R6.out⟩⟩

end Go.Proofs.Ytbjnejnjlidiaaa.prD
namespace Go.Proofs.Ytbjnejnjlidiaaa.prD
open Go.RowKit kit numA numB numC numD numE numF tmA tmB tmC srcA trA trB trD trE prA prB prC
set_option linter.unusedVariables false
set_option linter.unusedSimpArgs false

set_option maxRecDepth 100000 in
set_option maxHeartbeats 3200000 in
theorem inside_o_t (s : ByteArray) (N : Nat) (ih : IHT s N) (P R p f k : Nat) (w : World) (hm : s.size ≤ 100000000) (hp : p ≤ s.size) (hN : s.size - p ≤ N + 1) (hf : 2 * (s.size - p) + 1 ≤ f) (hr : RS w R s p) (hPR : P < R) (htp : TP w P R []) (h5 : k = 5 ∨ k = 7 ∨ k = 9) : Calls Try.prog 198 #[ptr R, shv k, .pointer (some ⟨P, 0, none⟩)] w (ICT w P R s (insC f k (s.data.toList.drop p))) := by
  obtain ⟨M, hr1, hr2⟩ := hr
  have hRlt := lt_of hr1
  obtain ⟨f, rfl⟩ : ∃ g, f = g + 1 := ⟨f - 1, by omega⟩
  obtain ⟨W1, hW1⟩ : ∃ W, W = w.alloc (.cells #[.int .i64 (least k : Nat), .int .i64 (mostk k : Nat), .bool (numbered k), .int .u64 (lowk k : Nat), .int .u64 (highk k : Nat), .bool (k == 6)] 134) := ⟨_, rfl⟩
  have o1 : Only (fun _ => False) w W1 := by rw [hW1]; exact (Only.refl _ w).alloc _
  have HB := Lib.hid (show Box6 W1 w.heap.size k from by rw [hW1]; exact heap_alloc_new w _)
  have O1 := Lib.hid (o1.mono (T := fun q => P ≤ q) fun _ q => q.elim)
  have HR := Lib.hid (hr1.keep o1)
  have HM2 := Lib.hid (show M = .map none ∨ ∃ b, M = .map (some b) ∧ W1.heap[b]? = some (.map table 7) from by
    rcases hr2 with h | ⟨b, h, h3⟩
    · exact .inl h
    · exact .inr ⟨b, h, o1.keep h3 id⟩)
  have SG := Lib.hid (sign_lit 40 40 rfl R s p M W1 (by omega) hp HR.out (by decide))
  have HBR := Lib.hid (show w.heap.size ≠ R by omega)
  have HT1 := Lib.hid (htp.keep0 o1)
  have HPR := Lib.hid hPR
  have RtoS : ∀ q, q = R → (fun q => P ≤ q) q := fun q e => by show P ≤ q; omega
  have RTS := Lib.hid RtoS
  have HS := Lib.hid hm
  have HP := Lib.hid hp
  have HN := Lib.hid hN
  have HFu := Lib.hid hf
  have IHH := Lib.hid ih
  have KN := Lib.hid (show numbered k = false from by rcases h5 with rfl | rfl | rfl <;> rfl)
  have KL := Lib.hid (show ((least k : Int) == 0) = false from by rcases h5 with rfl | rfl | rfl <;> rfl)
  have K6 := Lib.hid (show (k == 6) = false from by rcases h5 with rfl | rfl | rfl <;> rfl)
  have H5 := Lib.hid h5
  have HW := Lib.hid hW1
  rw [hW1] at SG
  clear hr1 hr2 o1 hm hp hN hf ih h5 hRlt hW1 RtoS hPR htp
  unfold shv
  go_enter Try.func198, Try.ntmps198
  go_wp2_with fail
  rw [← HW.out] at SG ⊢
  obtain ⟨B, hB⟩ : ∃ B, B = w.heap.size := ⟨_, rfl⟩
  rw [← hB] at HB HBR ⊢
  have HBB := Lib.hid hB
  clear hB
  refine scope_jumps 0 (fun a' w' => ∃ (j g n : Nat) (acc : List Txt), a' = { tmps := List.toArray (ptr R :: a'.tmps.getD 1 undef :: (.pointer (some ⟨P, 0, none⟩)) :: a'.tmps.getD 3 undef :: (.pointer (some ⟨B, 0, none⟩)) :: a'.tmps.getD 5 undef :: a'.tmps.getD 6 undef :: (.int .u64 (n : Nat)) :: (.string (lastOf acc)) :: (.int .i64 (acc.length : Nat)) :: a'.tmps.getD 10 undef :: a'.tmps.getD 11 undef :: a'.tmps.getD 12 undef :: a'.tmps.getD 13 undef :: a'.tmps.getD 14 undef :: a'.tmps.getD 15 undef :: a'.tmps.getD 16 undef :: a'.tmps.getD 17 undef :: a'.tmps.getD 18 undef :: a'.tmps.getD 19 undef :: a'.tmps.getD 20 undef :: a'.tmps.getD 21 undef :: a'.tmps.getD 22 undef :: a'.tmps.getD 23 undef :: a'.tmps.getD 24 undef :: a'.tmps.getD 25 undef :: a'.tmps.getD 26 undef :: a'.tmps.getD 27 undef :: a'.tmps.getD 28 undef :: a'.tmps.getD 29 undef :: a'.tmps.getD 30 undef :: a'.tmps.getD 31 undef :: a'.tmps.getD 32 undef :: a'.tmps.getD 33 undef :: a'.tmps.getD 34 undef :: a'.tmps.getD 35 undef :: a'.tmps.getD 36 undef :: a'.tmps.getD 37 undef :: a'.tmps.getD 38 undef :: a'.tmps.getD 39 undef :: a'.tmps.getD 40 undef :: a'.tmps.getD 41 undef :: a'.tmps.getD 42 undef :: a'.tmps.getD 43 undef :: a'.tmps.getD 44 undef :: a'.tmps.getD 45 undef :: a'.tmps.getD 46 undef :: a'.tmps.getD 47 undef :: a'.tmps.getD 48 undef :: a'.tmps.getD 49 undef :: a'.tmps.getD 50 undef :: a'.tmps.getD 51 undef :: a'.tmps.getD 52 undef :: a'.tmps.getD 53 undef :: a'.tmps.getD 54 undef :: a'.tmps.getD 55 undef :: a'.tmps.getD 56 undef :: a'.tmps.getD 57 undef :: a'.tmps.getD 58 undef :: a'.tmps.getD 59 undef :: a'.tmps.getD 60 undef :: a'.tmps.getD 61 undef :: a'.tmps.getD 62 undef :: a'.tmps.getD 63 undef :: a'.tmps.getD 64 undef :: a'.tmps.getD 65 undef :: a'.tmps.getD 66 undef :: a'.tmps.getD 67 undef :: a'.tmps.getD 68 undef :: a'.tmps.getD 69 undef :: a'.tmps.getD 70 undef :: a'.tmps.getD 71 undef :: a'.tmps.getD 72 undef :: a'.tmps.getD 73 undef :: a'.tmps.getD 74 undef :: a'.tmps.getD 75 undef :: a'.tmps.getD 76 undef :: a'.tmps.getD 77 undef :: a'.tmps.getD 78 undef :: a'.tmps.getD 79 undef :: a'.tmps.getD 80 undef :: a'.tmps.getD 81 undef :: a'.tmps.getD 82 undef :: a'.tmps.getD 83 undef :: a'.tmps.getD 84 undef :: a'.tmps.getD 85 undef :: a'.tmps.getD 86 undef :: a'.tmps.getD 87 undef :: a'.tmps.getD 88 undef :: a'.tmps.getD 89 undef :: a'.tmps.getD 90 undef :: []), defers := [] } ∧ LC (fun q => P ≤ q) w s R B p (f + 1) k n j g acc w' ∧ TP w' P R acc) (fun _ w' => s.size - atOf R w') rfl ?_ ?_
  · rintro a' w' ⟨j, g, n, acc, ha, lc, tp⟩
    obtain ⟨u, ha2⟩ : ∃ u : Nat → Value, a' = { tmps := List.toArray (ptr R :: u 1 :: (.pointer (some ⟨P, 0, none⟩)) :: u 3 :: (.pointer (some ⟨B, 0, none⟩)) :: u 5 :: u 6 :: (.int .u64 (n : Nat)) :: (.string (lastOf acc)) :: (.int .i64 (acc.length : Nat)) :: u 10 :: u 11 :: u 12 :: u 13 :: u 14 :: u 15 :: u 16 :: u 17 :: u 18 :: u 19 :: u 20 :: u 21 :: u 22 :: u 23 :: u 24 :: u 25 :: u 26 :: u 27 :: u 28 :: u 29 :: u 30 :: u 31 :: u 32 :: u 33 :: u 34 :: u 35 :: u 36 :: u 37 :: u 38 :: u 39 :: u 40 :: u 41 :: u 42 :: u 43 :: u 44 :: u 45 :: u 46 :: u 47 :: u 48 :: u 49 :: u 50 :: u 51 :: u 52 :: u 53 :: u 54 :: u 55 :: u 56 :: u 57 :: u 58 :: u 59 :: u 60 :: u 61 :: u 62 :: u 63 :: u 64 :: u 65 :: u 66 :: u 67 :: u 68 :: u 69 :: u 70 :: u 71 :: u 72 :: u 73 :: u 74 :: u 75 :: u 76 :: u 77 :: u 78 :: u 79 :: u 80 :: u 81 :: u 82 :: u 83 :: u 84 :: u 85 :: u 86 :: u 87 :: u 88 :: u 89 :: u 90 :: []), defers := [] } := ⟨fun i => a'.tmps.getD i undef, ha⟩
    clear ha
    subst ha2
    have LCH := Lib.hid lc
    obtain ⟨M1, hrd, hm1⟩ := lc.rs
    have RD1 := Lib.hid hrd
    have y1 : w'.cell? ⟨R, 1, none⟩ = some (.int .i64 j) := cell_of hrd
    obtain ⟨g, rfl⟩ : ∃ g', g = g' + 1 := ⟨g - 1, by have := lc.fuel; omega⟩
    have RC := Lib.hid (IHH.out R j g w' lc.le (by have := lc.ge; have := HN.out; omega) (by have := lc.fuel; omega) lc.rs)
    obtain ⟨q, hq⟩ : ∃ q, q = tmC g (s.data.toList.drop j) := ⟨_, rfl⟩
    rw [← hq] at RC
    have HQ := Lib.hid hq
    have TPH := Lib.hid tp
    clear tp
    clear hrd hm1 lc hq SG
    go_hide hQ
    go_wp2_with fail
    (with_reducible refine RC.out.mono ?_)
    rintro e w3 ⟨o, hr⟩
    have O3 := Lib.hid (LCH.out.only.trans (o.mono RTS.out))
    have TP3 := Lib.hid (TPH.out.keep HPR.out o)
    cases q with
    | none =>
      obtain ⟨v, rfl⟩ := hr
      have HF := Lib.hid (show insC (f + 1) k (s.data.toList.drop p) = none from by rw [LCH.out.eq, noneC HQ.out.symm])
      clear o RC y1
      go_wp2_with fail
      subst hQ
      simp only [Exit.jump]
      exact ⟨rfl, O3.out, by rw [HF.out]; exact ⟨⟨_, rfl⟩, TP3.out.cell⟩⟩
    | some dd =>
      obtain ⟨k1, n1, ps1, rest⟩ := dd
      obtain ⟨rfl, hrs⟩ := hr
      obtain ⟨e1, hlt, hle, ept⟩ := partC LCH.out.le HQ.out.symm
      obtain ⟨jn, hjn⟩ : ∃ x, x = behind s rest := ⟨_, rfl⟩
      rw [← hjn] at e1 hlt hle ept hrs
      obtain ⟨part, hpart⟩ : ∃ x, x = (s.data.toList.drop j).take (jn - j) := ⟨_, rfl⟩
      have ST := Lib.hid (stepC (k := k) (acc := acc) LCH.out.le HQ.out.symm hjn hpart)
      have HJ := Lib.hid (And.intro hjn (And.intro hlt (And.intro hle hpart)))
      have SVE := Lib.hid (show s.extract j jn = ⟨part.toArray⟩ from by
        have := sv_extract s j jn hle
        rw [← hpart] at this
        injection this)
      have RS3 := Lib.hid hrs
      have BX := Lib.hid (LCH.out.box.keepS o (T := fun q => q = R) HBR.out)
      obtain ⟨M3, hrd, hm3⟩ := hrs
      have RD3 := Lib.hid hrd
      have HM3 := Lib.hid hm3
      have y0 : w3.cell? ⟨R, 0, none⟩ = some (.string s) := cell_of hrd
      have y1' : w3.cell? ⟨R, 1, none⟩ = some (.int .i64 jn) := cell_of hrd
      have b1 : (0 : Int) ≤ (j : Int) := by omega
      have b2 : (j : Int) ≤ (jn : Int) := by omega
      have b3 : (jn : Int) ≤ (s.size : Int) := by omega
      clear e1 hlt hle ept hjn hpart hrd hm3 o RC y1
      go_wp2_with fail
      have wl : wrap64 ((acc.length : Int) + 1) = (acc.length : Int) + 1 := IntWalk.wrap64_in _ (by have := LCH.out.cnt; have := LCH.out.le; have := HS.out; omega)
      go_quiet (fail)
      have OW5 : Only (fun q => P ≤ q) w (w3.drewN nq) := O3.out.drewN nq
      have RD5 := Lib.hid (show Rd (w3.drewN nq) R s jn M3 from RD3.out)
      have HM5 := Lib.hid (show M3 = Value.map none ∨ ∃ b, M3 = Value.map (some b) ∧ (w3.drewN nq).heap[b]? = some (Obj.map table 7) from HM3.out)
      have BX5 := Lib.hid (show Box6 (w3.drewN nq) B k from BX.out)
      have O5 := Lib.hid OW5
      have TP5 := Lib.hid (TP3.out.keep0 ((Only.refl (fun _ => False) w3).drewN nq))
      clear OW5 y0 y1' b1 b2 b3
      generalize w3.drewN nq = W5 at RD5 HM5 BX5 O5 TP5 ⊢
      have KQ := Lib.hid (show k ≠ 6 from by have := K6.out; simpa using this)
      obtain ⟨-, -, -, -, -, c5⟩ := BX5.out.cells
      rw [K6.out] at c5
      obtain ⟨tv, tg, tcp, w9, tc, trun, tfz, tce, tput, trd, thm, tbx, ton⟩ := TP5.out.put (part := part) HPR.out RD5.out HM5.out BX5.out (by have := LCH.out.cnt; have := LCH.out.le; have := HS.out; omega)
      rw [show sv part = .string (s.extract j jn) from by rw [SVE.out]; rfl] at trun
      have RDx := Lib.hid trd
      have HMx := Lib.hid thm
      have BXx := Lib.hid tbx
      have Ox := Lib.hid (ton w O5.out)
      have TPx := Lib.hid tput
      have trun9 := trun
      clear trd thm tbx ton tput trun
      obtain ⟨c0, c1, -, -, -, -⟩ := BXx.out.cells
      have NXC := Lib.hid (next_lit 44 44 rfl R s jn M3 (w9.setCell ⟨P, 0, none⟩ (.slice (some ⟨tg, 0, none⟩) (acc.length + 1 : Nat) tcp)) (by have := HS.out; omega) HJ.out.2.2.1 RDx.out (by decide))
      by_cases hmo : acc.length + 1 < mostk k
      · have m1 : ((acc.length : Int) + 1 < (mostk k : Int)) = True := eq_true (by omega)
        have HMO := Lib.hid hmo
        clear hmo
        go_wp2_with (at_builtin; refine Lib.wpList_append_run _ rfl (.tmp 66) (.tmp 68) 25 25 rfl _ _ rfl rfl _ _ trun9 ?_)
        (with_reducible refine NXC.out.mono ?_)
        cases h44 : (cb s jn == 44)
        · rintro e w6 ⟨rfl, hr6, o6, o6'⟩
          have h44' : ¬ cb s jn = 44 := by simpa using h44
          have H44 := Lib.hid h44'
          have RD6 := Lib.hid hr6
          have O6 := Lib.hid (Ox.out.trans (o6.mono RTS.out))
          have HM6 := Lib.hid (show M3 = Value.map none ∨ ∃ b, M3 = Value.map (some b) ∧ w6.heap[b]? = some (Obj.map table 7) from by
            rcases HMx.out with h | ⟨b, h, h3⟩
            · exact .inl h
            · exact .inr ⟨b, h, (o6' rfl).keep h3 id⟩)
          have BX6 := Lib.hid (BXx.out.keepS (o6' rfl) id)
          have TP6 := Lib.hid (TPx.out.keep0 (o6' rfl))
          clear c0 c1 c5
          obtain ⟨c0, c1, -, -, -, -⟩ := BX6.out.cells
          clear h44 h44' o6 o6' hr6 NXC
          by_cases hle : acc.length + 1 < least k
          · have z1 : ((acc.length : Int) + 1 < (least k : Int)) = True := eq_true (by omega)
            have HF := Lib.hid (show insC (f + 1) k (s.data.toList.drop p) = none from by
              rw [LCH.out.eq, ST.out, if_neg (fun q => KQ.out q.1), if_neg (fun q => H44.out q.2), if_pos hle])
            clear hle
            go_wp2_with fail
            subst hQ
            simp only [Exit.jump]
            exact ⟨rfl, O6.out, by rw [HF.out]; exact ⟨⟨_, rfl⟩, TP6.out.cell⟩⟩
          have z1 : ((acc.length : Int) + 1 < (least k : Int)) = False := eq_false (by omega)
          have SGN := Lib.hid (sign_lit 41 41 rfl R s jn M3 w6 (by have := HS.out; omega) HJ.out.2.2.1 RD6.out (by decide))
          have HL2 := Lib.hid hle
          clear hle
          go_wp2_with fail
          (with_reducible refine SGN.out.mono ?_)
          cases h41 : (cb s jn == 41)
          · rintro e w7 ⟨o7, v, rfl⟩
            have HF := Lib.hid (show insC (f + 1) k (s.data.toList.drop p) = none from by
              rw [LCH.out.eq, ST.out, if_neg (fun q => KQ.out q.1), if_neg (fun q => H44.out q.2), if_neg HL2.out, if_neg (by simpa using h41)])
            have HO7 := Lib.hid (O6.out.trans (o7.mono RTS.out))
            have T7 := Lib.hid (TP6.out.keep HPR.out o7)
            clear h41 o7 SGN
            go_wp2_with fail
            subst hQ
            simp only [Exit.jump]
            exact ⟨rfl, HO7.out, by rw [HF.out]; exact ⟨⟨_, rfl⟩, T7.out.cell⟩⟩
          · rintro e w7 ⟨o7, rfl, hr7⟩
            have h41' : cb s jn = 41 := by simpa using h41
            have HF := Lib.hid (show insC (f + 1) k (s.data.toList.drop p) = some (n, acc ++ [part], s.data.toList.drop (jn + 1)) from by
              rw [LCH.out.eq, ST.out, if_neg (fun q => KQ.out q.1), if_neg (fun q => H44.out q.2), if_neg HL2.out, if_pos h41'])
            have HO7 := Lib.hid (O6.out.trans (o7.mono RTS.out))
            have R7 := Lib.hid (show RS w7 R s (behind s (s.data.toList.drop (jn + 1))) from by
              rw [behind, List.length_drop, tl_size, show s.size - (s.size - (jn + 1)) = jn + 1 by have := cb_lt (by decide) h41'; omega]
              exact RS.move HM6.out RD6.out o7 hr7)
            have T7 := Lib.hid (TP6.out.keep HPR.out o7)
            clear h41 h41' o7 hr7 SGN
            go_wp2_with fail
            subst hQ
            simp only [Exit.jump]
            go_ret
            exact ⟨HO7.out, by rw [HF.out]; exact ⟨rfl, R7.out, T7.out⟩⟩
        · rintro e w6 ⟨rfl, hr6, o6, -⟩
          have h44' : cb s jn = 44 := by simpa using h44
          have NX6 := Lib.hid (show LC (fun q => P ≤ q) w s R B p (f + 1) k n (jn + 1) g (acc ++ [part]) w6 from
            ⟨RS.move HMx.out RDx.out o6 hr6, cb_lt (by decide) h44', by have := LCH.out.ge; have := HJ.out.2.1; omega, by
              rw [LCH.out.eq, ST.out, if_neg (fun q => KQ.out q.1), if_pos ⟨HMO.out, h44'⟩], by have := LCH.out.fuel; have := HJ.out.2.1; have := HJ.out.2.2.1; omega,
              by have := LCH.out.cnt; have := HJ.out.2.1; simp; omega, by simpa using HMO.out, BXx.out.keepS o6 HBR.out, Ox.out.trans (o6.mono RTS.out)⟩)
          have TP6 := Lib.hid (TPx.out.keep HPR.out o6)
          have HLA := Lib.hid (show (⟨part.toArray⟩ : ByteArray) = lastOf (acc ++ [part]) from by simp [lastOf])
          clear h44 h44' o6 hr6 NXC
          go_wp2_with fail
          go_step3
          subst hQ
          have HLEN : ((acc.length : Int) + 1) = (((acc ++ [part]).length : Nat) : Int) := by simp
          rw [SVE.out, HLA.out, HLEN]
          refine ⟨rfl, ⟨jn + 1, g, n, acc ++ [part], rfl, NX6.out, TP6.out⟩, ?_⟩
          show s.size - atOf R w6 < s.size - atOf R w'
          rw [atOf_rs LCH.out.rs, atOf_rs NX6.out.rs]
          have := HJ.out.2.1
          have := NX6.out.le
          omega
      · have m1 : ((acc.length : Int) + 1 < (mostk k : Int)) = False := eq_false (by omega)
        have m2 : ((mostk k : Int) ≤ (acc.length : Int) + 1) := by omega
        have HMO := Lib.hid hmo
        clear hmo
        by_cases hle : acc.length + 1 < least k
        · have z1 : ((acc.length : Int) + 1 < (least k : Int)) = True := eq_true (by omega)
          have HF := Lib.hid (show insC (f + 1) k (s.data.toList.drop p) = none from by
            rw [LCH.out.eq, ST.out, if_neg (fun q => KQ.out q.1), if_neg (fun q => HMO.out q.1), if_pos hle])
          clear hle
          go_wp2_with (at_builtin; refine Lib.wpList_append_run _ rfl (.tmp 66) (.tmp 68) 25 25 rfl _ _ rfl rfl _ _ trun9 ?_)
          subst hQ
          simp only [Exit.jump]
          exact ⟨rfl, Ox.out, by rw [HF.out]; exact ⟨⟨_, rfl⟩, TPx.out.cell⟩⟩
        have z1 : ((acc.length : Int) + 1 < (least k : Int)) = False := eq_false (by omega)
        have SGN := Lib.hid (sign_lit 41 41 rfl R s jn M3 (w9.setCell ⟨P, 0, none⟩ (.slice (some ⟨tg, 0, none⟩) (acc.length + 1 : Nat) tcp)) (by have := HS.out; omega) HJ.out.2.2.1 RDx.out (by decide))
        have HL2 := Lib.hid hle
        clear hle
        go_wp2_with (at_builtin; refine Lib.wpList_append_run _ rfl (.tmp 66) (.tmp 68) 25 25 rfl _ _ rfl rfl _ _ trun9 ?_)
        (with_reducible refine SGN.out.mono ?_)
        cases h41 : (cb s jn == 41)
        · rintro e w7 ⟨o7, v, rfl⟩
          have HF := Lib.hid (show insC (f + 1) k (s.data.toList.drop p) = none from by
            rw [LCH.out.eq, ST.out, if_neg (fun q => KQ.out q.1), if_neg (fun q => HMO.out q.1), if_neg HL2.out, if_neg (by simpa using h41)])
          have HO7 := Lib.hid (Ox.out.trans (o7.mono RTS.out))
          have T7 := Lib.hid (TPx.out.keep HPR.out o7)
          clear h41 o7 SGN
          go_wp2_with fail
          subst hQ
          simp only [Exit.jump]
          exact ⟨rfl, HO7.out, by rw [HF.out]; exact ⟨⟨_, rfl⟩, T7.out.cell⟩⟩
        · rintro e w7 ⟨o7, rfl, hr7⟩
          have h41' : cb s jn = 41 := by simpa using h41
          have HF := Lib.hid (show insC (f + 1) k (s.data.toList.drop p) = some (n, acc ++ [part], s.data.toList.drop (jn + 1)) from by
            rw [LCH.out.eq, ST.out, if_neg (fun q => KQ.out q.1), if_neg (fun q => HMO.out q.1), if_neg HL2.out, if_pos h41'])
          have HO7 := Lib.hid (Ox.out.trans (o7.mono RTS.out))
          have R7 := Lib.hid (show RS w7 R s (behind s (s.data.toList.drop (jn + 1))) from by
            rw [behind, List.length_drop, tl_size, show s.size - (s.size - (jn + 1)) = jn + 1 by have := cb_lt (by decide) h41'; omega]
            exact RS.move HMx.out RDx.out o7 hr7)
          have T7 := Lib.hid (TPx.out.keep HPR.out o7)
          clear h41 h41' o7 hr7 SGN
          go_wp2_with fail
          subst hQ
          simp only [Exit.jump]
          go_ret
          exact ⟨HO7.out, by rw [HF.out]; exact ⟨rfl, R7.out, T7.out⟩⟩
  · intro hrest
    have HRE := Lib.hid hrest
    clear hrest
    go_wp2_with fail
    (with_reducible refine SG.out.mono ?_)
    cases hc : (cb s p == 40)
    · rintro e w2 ⟨o, v, rfl⟩
      have HF := Lib.hid (ins_no (f := f + 1) (k := k) hc)
      have HO := Lib.hid (O1.out.trans (o.mono RTS.out))
      have T2 := Lib.hid (HT1.out.keep HPR.out o)
      clear o hc SG
      go_wp2_with fail
      exact ⟨rfl, HO.out, by rw [HF.out]; exact ⟨⟨_, rfl⟩, T2.out.cell⟩⟩
    · rintro e w2 ⟨o, rfl, hr⟩
      obtain ⟨_, hlt⟩ := head_of hc
      have HY := Lib.hid (ins_yes (f := f) (k := k) hc)
      have HLT := Lib.hid hlt
      have HO := Lib.hid (O1.out.trans (o.mono RTS.out))
      have H2 := Lib.hid (RS.move HM2.out HR.out o hr)
      have RD2 := Lib.hid hr
      have HMM := Lib.hid (show M = Value.map none ∨ ∃ b, M = Value.map (some b) ∧ w2.heap[b]? = some (Obj.map table 7) from by
        obtain ⟨M', q1, q2⟩ := H2.out
        have e := hr.symm.trans q1
        injection e with e
        injection e with e
        injection e with e
        injection e with e e'
        injection e' with e' e''
        injection e'' with e''
        rw [e'']
        exact q2)
      have B6 := Lib.hid (HB.out.keepS o (T := fun q => q = R) HBR.out)
      have T2 := Lib.hid (HT1.out.keep HPR.out o)
      obtain ⟨c0, c1, c2, c3, c4, c5⟩ := B6.out.cells
      rw [KN.out] at c2
      rw [K6.out] at c5
      have kl := KL.out
      clear o hr hlt hc SG
      go_wp2_with fail
      go_step3
      go_step
      go_step
      refine HRE.out _ _ ⟨p + 1, f, 0, [], rfl, ⟨H2.out, HLT.out, Nat.le_refl _, ?_, by have := HFu.out; have := HLT.out; omega, Nat.zero_le _, by rcases H5.out with rfl | rfl | rfl <;> decide, B6.out, HO.out⟩, T2.out⟩
      rw [HY.out, headOf, if_neg (by rw [KN.out]; decide)]
      simp only
      rw [if_neg (by rcases H5.out with rfl | rfl | rfl <;> simp)]

end Go.Proofs.Ytbjnejnjlidiaaa.prD
namespace Go.Proofs.Ytbjnejnjlidiaaa.prD
open Go.RowKit kit numA numB numC numD numE numF tmA tmB tmC srcA trA trB trD trE prA prB prC
set_option linter.unusedVariables false
set_option linter.unusedSimpArgs false

set_option maxRecDepth 100000 in
set_option maxHeartbeats 3200000 in
theorem inside_6_t (s : ByteArray) (N : Nat) (ih : IHT s N) (P R p f k : Nat) (w : World) (hm : s.size ≤ 100000000) (hp : p ≤ s.size) (hN : s.size - p ≤ N + 1) (hf : 2 * (s.size - p) + 1 ≤ f) (hr : RS w R s p) (hPR : P < R) (htp : TP w P R []) (h5 : k = 6) : Calls Try.prog 198 #[ptr R, shv k, .pointer (some ⟨P, 0, none⟩)] w (ICT w P R s (insC f k (s.data.toList.drop p))) := by
  obtain ⟨M, hr1, hr2⟩ := hr
  have hRlt := lt_of hr1
  obtain ⟨f, rfl⟩ : ∃ g, f = g + 1 := ⟨f - 1, by omega⟩
  obtain ⟨W1, hW1⟩ : ∃ W, W = w.alloc (.cells #[.int .i64 (least k : Nat), .int .i64 (mostk k : Nat), .bool (numbered k), .int .u64 (lowk k : Nat), .int .u64 (highk k : Nat), .bool (k == 6)] 134) := ⟨_, rfl⟩
  have o1 : Only (fun _ => False) w W1 := by rw [hW1]; exact (Only.refl _ w).alloc _
  have HB := Lib.hid (show Box6 W1 w.heap.size k from by rw [hW1]; exact heap_alloc_new w _)
  have O1 := Lib.hid (o1.mono (T := fun q => P ≤ q) fun _ q => q.elim)
  have HR := Lib.hid (hr1.keep o1)
  have HM2 := Lib.hid (show M = .map none ∨ ∃ b, M = .map (some b) ∧ W1.heap[b]? = some (.map table 7) from by
    rcases hr2 with h | ⟨b, h, h3⟩
    · exact .inl h
    · exact .inr ⟨b, h, o1.keep h3 id⟩)
  have SG := Lib.hid (sign_lit 40 40 rfl R s p M W1 (by omega) hp HR.out (by decide))
  have HBR := Lib.hid (show w.heap.size ≠ R by omega)
  have HT1 := Lib.hid (htp.keep0 o1)
  have HPR := Lib.hid hPR
  have RtoS : ∀ q, q = R → (fun q => P ≤ q) q := fun q e => by show P ≤ q; omega
  have RTS := Lib.hid RtoS
  have HS := Lib.hid hm
  have HP := Lib.hid hp
  have HN := Lib.hid hN
  have HFu := Lib.hid hf
  have IHH := Lib.hid ih
  have KN := Lib.hid (show numbered k = false from by obtain rfl := h5 <;> rfl)
  have KL := Lib.hid (show ((least k : Int) == 0) = false from by obtain rfl := h5 <;> rfl)
  have K6 := Lib.hid (show (k == 6) = true from by obtain rfl := h5 <;> rfl)
  have H5 := Lib.hid h5
  have HW := Lib.hid hW1
  rw [hW1] at SG
  clear hr1 hr2 o1 hm hp hN hf ih h5 hRlt hW1 RtoS hPR htp
  unfold shv
  go_enter Try.func198, Try.ntmps198
  go_wp2_with fail
  rw [← HW.out] at SG ⊢
  obtain ⟨B, hB⟩ : ∃ B, B = w.heap.size := ⟨_, rfl⟩
  rw [← hB] at HB HBR ⊢
  have HBB := Lib.hid hB
  clear hB
  refine scope_jumps 0 (fun a' w' => ∃ (j g n : Nat) (acc : List Txt), a' = { tmps := List.toArray (ptr R :: a'.tmps.getD 1 undef :: (.pointer (some ⟨P, 0, none⟩)) :: a'.tmps.getD 3 undef :: (.pointer (some ⟨B, 0, none⟩)) :: a'.tmps.getD 5 undef :: a'.tmps.getD 6 undef :: (.int .u64 (n : Nat)) :: (.string (lastOf acc)) :: (.int .i64 (acc.length : Nat)) :: a'.tmps.getD 10 undef :: a'.tmps.getD 11 undef :: a'.tmps.getD 12 undef :: a'.tmps.getD 13 undef :: a'.tmps.getD 14 undef :: a'.tmps.getD 15 undef :: a'.tmps.getD 16 undef :: a'.tmps.getD 17 undef :: a'.tmps.getD 18 undef :: a'.tmps.getD 19 undef :: a'.tmps.getD 20 undef :: a'.tmps.getD 21 undef :: a'.tmps.getD 22 undef :: a'.tmps.getD 23 undef :: a'.tmps.getD 24 undef :: a'.tmps.getD 25 undef :: a'.tmps.getD 26 undef :: a'.tmps.getD 27 undef :: a'.tmps.getD 28 undef :: a'.tmps.getD 29 undef :: a'.tmps.getD 30 undef :: a'.tmps.getD 31 undef :: a'.tmps.getD 32 undef :: a'.tmps.getD 33 undef :: a'.tmps.getD 34 undef :: a'.tmps.getD 35 undef :: a'.tmps.getD 36 undef :: a'.tmps.getD 37 undef :: a'.tmps.getD 38 undef :: a'.tmps.getD 39 undef :: a'.tmps.getD 40 undef :: a'.tmps.getD 41 undef :: a'.tmps.getD 42 undef :: a'.tmps.getD 43 undef :: a'.tmps.getD 44 undef :: a'.tmps.getD 45 undef :: a'.tmps.getD 46 undef :: a'.tmps.getD 47 undef :: a'.tmps.getD 48 undef :: a'.tmps.getD 49 undef :: a'.tmps.getD 50 undef :: a'.tmps.getD 51 undef :: a'.tmps.getD 52 undef :: a'.tmps.getD 53 undef :: a'.tmps.getD 54 undef :: a'.tmps.getD 55 undef :: a'.tmps.getD 56 undef :: a'.tmps.getD 57 undef :: a'.tmps.getD 58 undef :: a'.tmps.getD 59 undef :: a'.tmps.getD 60 undef :: a'.tmps.getD 61 undef :: a'.tmps.getD 62 undef :: a'.tmps.getD 63 undef :: a'.tmps.getD 64 undef :: a'.tmps.getD 65 undef :: a'.tmps.getD 66 undef :: a'.tmps.getD 67 undef :: a'.tmps.getD 68 undef :: a'.tmps.getD 69 undef :: a'.tmps.getD 70 undef :: a'.tmps.getD 71 undef :: a'.tmps.getD 72 undef :: a'.tmps.getD 73 undef :: a'.tmps.getD 74 undef :: a'.tmps.getD 75 undef :: a'.tmps.getD 76 undef :: a'.tmps.getD 77 undef :: a'.tmps.getD 78 undef :: a'.tmps.getD 79 undef :: a'.tmps.getD 80 undef :: a'.tmps.getD 81 undef :: a'.tmps.getD 82 undef :: a'.tmps.getD 83 undef :: a'.tmps.getD 84 undef :: a'.tmps.getD 85 undef :: a'.tmps.getD 86 undef :: a'.tmps.getD 87 undef :: a'.tmps.getD 88 undef :: a'.tmps.getD 89 undef :: a'.tmps.getD 90 undef :: []), defers := [] } ∧ LC (fun q => P ≤ q) w s R B p (f + 1) k n j g acc w' ∧ TP w' P R acc) (fun _ w' => s.size - atOf R w') rfl ?_ ?_
  · rintro a' w' ⟨j, g, n, acc, ha, lc, tp⟩
    obtain ⟨u, ha2⟩ : ∃ u : Nat → Value, a' = { tmps := List.toArray (ptr R :: u 1 :: (.pointer (some ⟨P, 0, none⟩)) :: u 3 :: (.pointer (some ⟨B, 0, none⟩)) :: u 5 :: u 6 :: (.int .u64 (n : Nat)) :: (.string (lastOf acc)) :: (.int .i64 (acc.length : Nat)) :: u 10 :: u 11 :: u 12 :: u 13 :: u 14 :: u 15 :: u 16 :: u 17 :: u 18 :: u 19 :: u 20 :: u 21 :: u 22 :: u 23 :: u 24 :: u 25 :: u 26 :: u 27 :: u 28 :: u 29 :: u 30 :: u 31 :: u 32 :: u 33 :: u 34 :: u 35 :: u 36 :: u 37 :: u 38 :: u 39 :: u 40 :: u 41 :: u 42 :: u 43 :: u 44 :: u 45 :: u 46 :: u 47 :: u 48 :: u 49 :: u 50 :: u 51 :: u 52 :: u 53 :: u 54 :: u 55 :: u 56 :: u 57 :: u 58 :: u 59 :: u 60 :: u 61 :: u 62 :: u 63 :: u 64 :: u 65 :: u 66 :: u 67 :: u 68 :: u 69 :: u 70 :: u 71 :: u 72 :: u 73 :: u 74 :: u 75 :: u 76 :: u 77 :: u 78 :: u 79 :: u 80 :: u 81 :: u 82 :: u 83 :: u 84 :: u 85 :: u 86 :: u 87 :: u 88 :: u 89 :: u 90 :: []), defers := [] } := ⟨fun i => a'.tmps.getD i undef, ha⟩
    clear ha
    subst ha2
    have LCH := Lib.hid lc
    obtain ⟨M1, hrd, hm1⟩ := lc.rs
    have RD1 := Lib.hid hrd
    have y1 : w'.cell? ⟨R, 1, none⟩ = some (.int .i64 j) := cell_of hrd
    obtain ⟨g, rfl⟩ : ∃ g', g = g' + 1 := ⟨g - 1, by have := lc.fuel; omega⟩
    have RC := Lib.hid (IHH.out R j g w' lc.le (by have := lc.ge; have := HN.out; omega) (by have := lc.fuel; omega) lc.rs)
    obtain ⟨q, hq⟩ : ∃ q, q = tmC g (s.data.toList.drop j) := ⟨_, rfl⟩
    rw [← hq] at RC
    have HQ := Lib.hid hq
    have TPH := Lib.hid tp
    clear tp
    clear hrd hm1 lc hq SG
    go_hide hQ
    go_wp2_with fail
    (with_reducible refine RC.out.mono ?_)
    rintro e w3 ⟨o, hr⟩
    have O3 := Lib.hid (LCH.out.only.trans (o.mono RTS.out))
    have TP3 := Lib.hid (TPH.out.keep HPR.out o)
    cases q with
    | none =>
      obtain ⟨v, rfl⟩ := hr
      have HF := Lib.hid (show insC (f + 1) k (s.data.toList.drop p) = none from by rw [LCH.out.eq, noneC HQ.out.symm])
      clear o RC y1
      go_wp2_with fail
      subst hQ
      simp only [Exit.jump]
      exact ⟨rfl, O3.out, by rw [HF.out]; exact ⟨⟨_, rfl⟩, TP3.out.cell⟩⟩
    | some dd =>
      obtain ⟨k1, n1, ps1, rest⟩ := dd
      obtain ⟨rfl, hrs⟩ := hr
      obtain ⟨e1, hlt, hle, ept⟩ := partC LCH.out.le HQ.out.symm
      obtain ⟨jn, hjn⟩ : ∃ x, x = behind s rest := ⟨_, rfl⟩
      rw [← hjn] at e1 hlt hle ept hrs
      obtain ⟨part, hpart⟩ : ∃ x, x = (s.data.toList.drop j).take (jn - j) := ⟨_, rfl⟩
      have ST := Lib.hid (stepC (k := k) (acc := acc) LCH.out.le HQ.out.symm hjn hpart)
      have HJ := Lib.hid (And.intro hjn (And.intro hlt (And.intro hle hpart)))
      have SVE := Lib.hid (show s.extract j jn = ⟨part.toArray⟩ from by
        have := sv_extract s j jn hle
        rw [← hpart] at this
        injection this)
      have RS3 := Lib.hid hrs
      have BX := Lib.hid (LCH.out.box.keepS o (T := fun q => q = R) HBR.out)
      obtain ⟨M3, hrd, hm3⟩ := hrs
      have RD3 := Lib.hid hrd
      have HM3 := Lib.hid hm3
      have y0 : w3.cell? ⟨R, 0, none⟩ = some (.string s) := cell_of hrd
      have y1' : w3.cell? ⟨R, 1, none⟩ = some (.int .i64 jn) := cell_of hrd
      have b1 : (0 : Int) ≤ (j : Int) := by omega
      have b2 : (j : Int) ≤ (jn : Int) := by omega
      have b3 : (jn : Int) ≤ (s.size : Int) := by omega
      clear e1 hlt hle ept hjn hpart hrd hm3 o RC y1
      go_wp2_with fail
      have wl : wrap64 ((acc.length : Int) + 1) = (acc.length : Int) + 1 := IntWalk.wrap64_in _ (by have := LCH.out.cnt; have := LCH.out.le; have := HS.out; omega)
      go_quiet (fail)
      have OW5 : Only (fun q => P ≤ q) w (w3.drewN nq) := O3.out.drewN nq
      have RD5 := Lib.hid (show Rd (w3.drewN nq) R s jn M3 from RD3.out)
      have HM5 := Lib.hid (show M3 = Value.map none ∨ ∃ b, M3 = Value.map (some b) ∧ (w3.drewN nq).heap[b]? = some (Obj.map table 7) from HM3.out)
      have BX5 := Lib.hid (show Box6 (w3.drewN nq) B k from BX.out)
      have O5 := Lib.hid OW5
      have TP5 := Lib.hid (TP3.out.keep0 ((Only.refl (fun _ => False) w3).drewN nq))
      clear OW5 y0 y1' b1 b2 b3
      generalize w3.drewN nq = W5 at RD5 HM5 BX5 O5 TP5 ⊢
      by_cases ha0 : acc.length = 0
      · have s0 : ((0 : Int) < (acc.length : Int)) = False := eq_false (by omega)
        have s0n : (0 < acc.length) = False := eq_false (by omega)
        have HA0 := Lib.hid ha0
        clear ha0
        obtain ⟨-, -, -, -, -, c5⟩ := BX5.out.cells
        rw [K6.out] at c5
        obtain ⟨tv, tg, tcp, w9, tc, trun, tfz, tce, tput, trd, thm, tbx, ton⟩ := TP5.out.put (part := part) HPR.out RD5.out HM5.out BX5.out (by have := LCH.out.cnt; have := LCH.out.le; have := HS.out; omega)
        rw [show sv part = .string (s.extract j jn) from by rw [SVE.out]; rfl] at trun
        have RDx := Lib.hid trd
        have HMx := Lib.hid thm
        have BXx := Lib.hid tbx
        have Ox := Lib.hid (ton w O5.out)
        have TPx := Lib.hid tput
        have trun9 := trun
        clear trd thm tbx ton tput trun
        obtain ⟨c0, c1, -, -, -, -⟩ := BXx.out.cells
        have NXC := Lib.hid (next_lit 44 44 rfl R s jn M3 (w9.setCell ⟨P, 0, none⟩ (.slice (some ⟨tg, 0, none⟩) (acc.length + 1 : Nat) tcp)) (by have := HS.out; omega) HJ.out.2.2.1 RDx.out (by decide))
        by_cases hmo : acc.length + 1 < mostk k
        · have m1 : ((acc.length : Int) + 1 < (mostk k : Int)) = True := eq_true (by omega)
          have HMO := Lib.hid hmo
          clear hmo
          go_wp2_with (at_builtin; refine Lib.wpList_append_run _ rfl (.tmp 66) (.tmp 68) 25 25 rfl _ _ rfl rfl _ _ trun9 ?_)
          (with_reducible refine NXC.out.mono ?_)
          cases h44 : (cb s jn == 44)
          · rintro e w6 ⟨rfl, hr6, o6, o6'⟩
            have h44' : ¬ cb s jn = 44 := by simpa using h44
            have H44 := Lib.hid h44'
            have RD6 := Lib.hid hr6
            have O6 := Lib.hid (Ox.out.trans (o6.mono RTS.out))
            have HM6 := Lib.hid (show M3 = Value.map none ∨ ∃ b, M3 = Value.map (some b) ∧ w6.heap[b]? = some (Obj.map table 7) from by
              rcases HMx.out with h | ⟨b, h, h3⟩
              · exact .inl h
              · exact .inr ⟨b, h, (o6' rfl).keep h3 id⟩)
            have BX6 := Lib.hid (BXx.out.keepS (o6' rfl) id)
            have TP6 := Lib.hid (TPx.out.keep0 (o6' rfl))
            clear c0 c1 c5
            obtain ⟨c0, c1, -, -, -, -⟩ := BX6.out.cells
            clear h44 h44' o6 o6' hr6 NXC
            by_cases hle : acc.length + 1 < least k
            · have z1 : ((acc.length : Int) + 1 < (least k : Int)) = True := eq_true (by omega)
              have HF := Lib.hid (show insC (f + 1) k (s.data.toList.drop p) = none from by
                rw [LCH.out.eq, ST.out, if_neg (fun q => by have := q.2.1; have := HA0.out; omega), if_neg (fun q => H44.out q.2), if_pos hle])
              clear hle
              go_wp2_with fail
              subst hQ
              simp only [Exit.jump]
              exact ⟨rfl, O6.out, by rw [HF.out]; exact ⟨⟨_, rfl⟩, TP6.out.cell⟩⟩
            have z1 : ((acc.length : Int) + 1 < (least k : Int)) = False := eq_false (by omega)
            have SGN := Lib.hid (sign_lit 41 41 rfl R s jn M3 w6 (by have := HS.out; omega) HJ.out.2.2.1 RD6.out (by decide))
            have HL2 := Lib.hid hle
            clear hle
            go_wp2_with fail
            (with_reducible refine SGN.out.mono ?_)
            cases h41 : (cb s jn == 41)
            · rintro e w7 ⟨o7, v, rfl⟩
              have HF := Lib.hid (show insC (f + 1) k (s.data.toList.drop p) = none from by
                rw [LCH.out.eq, ST.out, if_neg (fun q => by have := q.2.1; have := HA0.out; omega), if_neg (fun q => H44.out q.2), if_neg HL2.out, if_neg (by simpa using h41)])
              have HO7 := Lib.hid (O6.out.trans (o7.mono RTS.out))
              have T7 := Lib.hid (TP6.out.keep HPR.out o7)
              clear h41 o7 SGN
              go_wp2_with fail
              subst hQ
              simp only [Exit.jump]
              exact ⟨rfl, HO7.out, by rw [HF.out]; exact ⟨⟨_, rfl⟩, T7.out.cell⟩⟩
            · rintro e w7 ⟨o7, rfl, hr7⟩
              have h41' : cb s jn = 41 := by simpa using h41
              have HF := Lib.hid (show insC (f + 1) k (s.data.toList.drop p) = some (n, acc ++ [part], s.data.toList.drop (jn + 1)) from by
                rw [LCH.out.eq, ST.out, if_neg (fun q => by have := q.2.1; have := HA0.out; omega), if_neg (fun q => H44.out q.2), if_neg HL2.out, if_pos h41'])
              have HO7 := Lib.hid (O6.out.trans (o7.mono RTS.out))
              have R7 := Lib.hid (show RS w7 R s (behind s (s.data.toList.drop (jn + 1))) from by
                rw [behind, List.length_drop, tl_size, show s.size - (s.size - (jn + 1)) = jn + 1 by have := cb_lt (by decide) h41'; omega]
                exact RS.move HM6.out RD6.out o7 hr7)
              have T7 := Lib.hid (TP6.out.keep HPR.out o7)
              clear h41 h41' o7 hr7 SGN
              go_wp2_with fail
              subst hQ
              simp only [Exit.jump]
              go_ret
              exact ⟨HO7.out, by rw [HF.out]; exact ⟨rfl, R7.out, T7.out⟩⟩
          · rintro e w6 ⟨rfl, hr6, o6, -⟩
            have h44' : cb s jn = 44 := by simpa using h44
            have NX6 := Lib.hid (show LC (fun q => P ≤ q) w s R B p (f + 1) k n (jn + 1) g (acc ++ [part]) w6 from
              ⟨RS.move HMx.out RDx.out o6 hr6, cb_lt (by decide) h44', by have := LCH.out.ge; have := HJ.out.2.1; omega, by
                rw [LCH.out.eq, ST.out, if_neg (fun q => by have := q.2.1; have := HA0.out; omega), if_pos ⟨HMO.out, h44'⟩], by have := LCH.out.fuel; have := HJ.out.2.1; have := HJ.out.2.2.1; omega,
                by have := LCH.out.cnt; have := HJ.out.2.1; simp; omega, by simpa using HMO.out, BXx.out.keepS o6 HBR.out, Ox.out.trans (o6.mono RTS.out)⟩)
            have TP6 := Lib.hid (TPx.out.keep HPR.out o6)
            have HLA := Lib.hid (show (⟨part.toArray⟩ : ByteArray) = lastOf (acc ++ [part]) from by simp [lastOf])
            clear h44 h44' o6 hr6 NXC
            go_wp2_with fail
            go_step3
            subst hQ
            have HLEN : ((acc.length : Int) + 1) = (((acc ++ [part]).length : Nat) : Int) := by simp
            rw [SVE.out, HLA.out, HLEN]
            refine ⟨rfl, ⟨jn + 1, g, n, acc ++ [part], rfl, NX6.out, TP6.out⟩, ?_⟩
            show s.size - atOf R w6 < s.size - atOf R w'
            rw [atOf_rs LCH.out.rs, atOf_rs NX6.out.rs]
            have := HJ.out.2.1
            have := NX6.out.le
            omega
        · have m1 : ((acc.length : Int) + 1 < (mostk k : Int)) = False := eq_false (by omega)
          have m2 : ((mostk k : Int) ≤ (acc.length : Int) + 1) := by omega
          have HMO := Lib.hid hmo
          clear hmo
          by_cases hle : acc.length + 1 < least k
          · have z1 : ((acc.length : Int) + 1 < (least k : Int)) = True := eq_true (by omega)
            have HF := Lib.hid (show insC (f + 1) k (s.data.toList.drop p) = none from by
              rw [LCH.out.eq, ST.out, if_neg (fun q => by have := q.2.1; have := HA0.out; omega), if_neg (fun q => HMO.out q.1), if_pos hle])
            clear hle
            go_wp2_with (at_builtin; refine Lib.wpList_append_run _ rfl (.tmp 66) (.tmp 68) 25 25 rfl _ _ rfl rfl _ _ trun9 ?_)
            subst hQ
            simp only [Exit.jump]
            exact ⟨rfl, Ox.out, by rw [HF.out]; exact ⟨⟨_, rfl⟩, TPx.out.cell⟩⟩
          have z1 : ((acc.length : Int) + 1 < (least k : Int)) = False := eq_false (by omega)
          have SGN := Lib.hid (sign_lit 41 41 rfl R s jn M3 (w9.setCell ⟨P, 0, none⟩ (.slice (some ⟨tg, 0, none⟩) (acc.length + 1 : Nat) tcp)) (by have := HS.out; omega) HJ.out.2.2.1 RDx.out (by decide))
          have HL2 := Lib.hid hle
          clear hle
          go_wp2_with (at_builtin; refine Lib.wpList_append_run _ rfl (.tmp 66) (.tmp 68) 25 25 rfl _ _ rfl rfl _ _ trun9 ?_)
          (with_reducible refine SGN.out.mono ?_)
          cases h41 : (cb s jn == 41)
          · rintro e w7 ⟨o7, v, rfl⟩
            have HF := Lib.hid (show insC (f + 1) k (s.data.toList.drop p) = none from by
              rw [LCH.out.eq, ST.out, if_neg (fun q => by have := q.2.1; have := HA0.out; omega), if_neg (fun q => HMO.out q.1), if_neg HL2.out, if_neg (by simpa using h41)])
            have HO7 := Lib.hid (Ox.out.trans (o7.mono RTS.out))
            have T7 := Lib.hid (TPx.out.keep HPR.out o7)
            clear h41 o7 SGN
            go_wp2_with fail
            subst hQ
            simp only [Exit.jump]
            exact ⟨rfl, HO7.out, by rw [HF.out]; exact ⟨⟨_, rfl⟩, T7.out.cell⟩⟩
          · rintro e w7 ⟨o7, rfl, hr7⟩
            have h41' : cb s jn = 41 := by simpa using h41
            have HF := Lib.hid (show insC (f + 1) k (s.data.toList.drop p) = some (n, acc ++ [part], s.data.toList.drop (jn + 1)) from by
              rw [LCH.out.eq, ST.out, if_neg (fun q => by have := q.2.1; have := HA0.out; omega), if_neg (fun q => HMO.out q.1), if_neg HL2.out, if_pos h41'])
            have HO7 := Lib.hid (Ox.out.trans (o7.mono RTS.out))
            have R7 := Lib.hid (show RS w7 R s (behind s (s.data.toList.drop (jn + 1))) from by
              rw [behind, List.length_drop, tl_size, show s.size - (s.size - (jn + 1)) = jn + 1 by have := cb_lt (by decide) h41'; omega]
              exact RS.move HMx.out RDx.out o7 hr7)
            have T7 := Lib.hid (TPx.out.keep HPR.out o7)
            clear h41 h41' o7 hr7 SGN
            go_wp2_with fail
            subst hQ
            simp only [Exit.jump]
            go_ret
            exact ⟨HO7.out, by rw [HF.out]; exact ⟨rfl, R7.out, T7.out⟩⟩
      have s0 : ((0 : Int) < (acc.length : Int)) = True := eq_true (by omega)
      have s0n : (0 < acc.length) = True := eq_true (by omega)
      have SPOS := Lib.hid (show 0 < acc.length by omega)
      clear ha0
      have HGT := Lib.hid (show gt (acc.getLastD []) part = !(Op.bytesLess (lastOf acc).toList (s.extract j jn).toList || (lastOf acc).toList == (s.extract j jn).toList) from by
        rw [SVE.out, byteArray_toList, byteArray_toList]
        rfl)
      cases hA : Op.bytesLess (lastOf acc).toList (s.extract j jn).toList
      · cases hB : ((lastOf acc).toList == (s.extract j jn).toList)
        · have HG := Lib.hid (show gt (acc.getLastD []) part = true from by rw [HGT.out, hA, hB]; rfl)
          have HF := Lib.hid (show insC (f + 1) k (s.data.toList.drop p) = none from by
            rw [LCH.out.eq, ST.out, if_pos ⟨H5.out, SPOS.out, HG.out⟩])
          obtain ⟨-, -, -, -, -, c5⟩ := BX5.out.cells
          rw [K6.out] at c5
          go_wp2_with fail
          subst hQ
          simp only [Exit.jump]
          exact ⟨rfl, O5.out, by rw [HF.out]; exact ⟨⟨_, rfl⟩, TP5.out.cell⟩⟩
        · have HG := Lib.hid (show gt (acc.getLastD []) part = false from by rw [HGT.out, hA, hB]; rfl)
          obtain ⟨-, -, -, -, -, c5⟩ := BX5.out.cells
          rw [K6.out] at c5
          obtain ⟨tv, tg, tcp, w9, tc, trun, tfz, tce, tput, trd, thm, tbx, ton⟩ := TP5.out.put (part := part) HPR.out RD5.out HM5.out BX5.out (by have := LCH.out.cnt; have := LCH.out.le; have := HS.out; omega)
          rw [show sv part = .string (s.extract j jn) from by rw [SVE.out]; rfl] at trun
          have RDx := Lib.hid trd
          have HMx := Lib.hid thm
          have BXx := Lib.hid tbx
          have Ox := Lib.hid (ton w O5.out)
          have TPx := Lib.hid tput
          have trun9 := trun
          clear trd thm tbx ton tput trun
          obtain ⟨c0, c1, -, -, -, -⟩ := BXx.out.cells
          have NXC := Lib.hid (next_lit 44 44 rfl R s jn M3 (w9.setCell ⟨P, 0, none⟩ (.slice (some ⟨tg, 0, none⟩) (acc.length + 1 : Nat) tcp)) (by have := HS.out; omega) HJ.out.2.2.1 RDx.out (by decide))
          by_cases hmo : acc.length + 1 < mostk k
          · have m1 : ((acc.length : Int) + 1 < (mostk k : Int)) = True := eq_true (by omega)
            have HMO := Lib.hid hmo
            clear hmo
            go_wp2_with (at_builtin; refine Lib.wpList_append_run _ rfl (.tmp 66) (.tmp 68) 25 25 rfl _ _ rfl rfl _ _ trun9 ?_)
            (with_reducible refine NXC.out.mono ?_)
            cases h44 : (cb s jn == 44)
            · rintro e w6 ⟨rfl, hr6, o6, o6'⟩
              have h44' : ¬ cb s jn = 44 := by simpa using h44
              have H44 := Lib.hid h44'
              have RD6 := Lib.hid hr6
              have O6 := Lib.hid (Ox.out.trans (o6.mono RTS.out))
              have HM6 := Lib.hid (show M3 = Value.map none ∨ ∃ b, M3 = Value.map (some b) ∧ w6.heap[b]? = some (Obj.map table 7) from by
                rcases HMx.out with h | ⟨b, h, h3⟩
                · exact .inl h
                · exact .inr ⟨b, h, (o6' rfl).keep h3 id⟩)
              have BX6 := Lib.hid (BXx.out.keepS (o6' rfl) id)
              have TP6 := Lib.hid (TPx.out.keep0 (o6' rfl))
              clear c0 c1 c5
              obtain ⟨c0, c1, -, -, -, -⟩ := BX6.out.cells
              clear h44 h44' o6 o6' hr6 NXC
              by_cases hle : acc.length + 1 < least k
              · have z1 : ((acc.length : Int) + 1 < (least k : Int)) = True := eq_true (by omega)
                have HF := Lib.hid (show insC (f + 1) k (s.data.toList.drop p) = none from by
                  rw [LCH.out.eq, ST.out, if_neg (fun q => by rw [HG.out] at q; exact absurd q.2.2 (by decide)), if_neg (fun q => H44.out q.2), if_pos hle])
                clear hle
                go_wp2_with fail
                subst hQ
                simp only [Exit.jump]
                exact ⟨rfl, O6.out, by rw [HF.out]; exact ⟨⟨_, rfl⟩, TP6.out.cell⟩⟩
              have z1 : ((acc.length : Int) + 1 < (least k : Int)) = False := eq_false (by omega)
              have SGN := Lib.hid (sign_lit 41 41 rfl R s jn M3 w6 (by have := HS.out; omega) HJ.out.2.2.1 RD6.out (by decide))
              have HL2 := Lib.hid hle
              clear hle
              go_wp2_with fail
              (with_reducible refine SGN.out.mono ?_)
              cases h41 : (cb s jn == 41)
              · rintro e w7 ⟨o7, v, rfl⟩
                have HF := Lib.hid (show insC (f + 1) k (s.data.toList.drop p) = none from by
                  rw [LCH.out.eq, ST.out, if_neg (fun q => by rw [HG.out] at q; exact absurd q.2.2 (by decide)), if_neg (fun q => H44.out q.2), if_neg HL2.out, if_neg (by simpa using h41)])
                have HO7 := Lib.hid (O6.out.trans (o7.mono RTS.out))
                have T7 := Lib.hid (TP6.out.keep HPR.out o7)
                clear h41 o7 SGN
                go_wp2_with fail
                subst hQ
                simp only [Exit.jump]
                exact ⟨rfl, HO7.out, by rw [HF.out]; exact ⟨⟨_, rfl⟩, T7.out.cell⟩⟩
              · rintro e w7 ⟨o7, rfl, hr7⟩
                have h41' : cb s jn = 41 := by simpa using h41
                have HF := Lib.hid (show insC (f + 1) k (s.data.toList.drop p) = some (n, acc ++ [part], s.data.toList.drop (jn + 1)) from by
                  rw [LCH.out.eq, ST.out, if_neg (fun q => by rw [HG.out] at q; exact absurd q.2.2 (by decide)), if_neg (fun q => H44.out q.2), if_neg HL2.out, if_pos h41'])
                have HO7 := Lib.hid (O6.out.trans (o7.mono RTS.out))
                have R7 := Lib.hid (show RS w7 R s (behind s (s.data.toList.drop (jn + 1))) from by
                  rw [behind, List.length_drop, tl_size, show s.size - (s.size - (jn + 1)) = jn + 1 by have := cb_lt (by decide) h41'; omega]
                  exact RS.move HM6.out RD6.out o7 hr7)
                have T7 := Lib.hid (TP6.out.keep HPR.out o7)
                clear h41 h41' o7 hr7 SGN
                go_wp2_with fail
                subst hQ
                simp only [Exit.jump]
                go_ret
                exact ⟨HO7.out, by rw [HF.out]; exact ⟨rfl, R7.out, T7.out⟩⟩
            · rintro e w6 ⟨rfl, hr6, o6, -⟩
              have h44' : cb s jn = 44 := by simpa using h44
              have NX6 := Lib.hid (show LC (fun q => P ≤ q) w s R B p (f + 1) k n (jn + 1) g (acc ++ [part]) w6 from
                ⟨RS.move HMx.out RDx.out o6 hr6, cb_lt (by decide) h44', by have := LCH.out.ge; have := HJ.out.2.1; omega, by
                  rw [LCH.out.eq, ST.out, if_neg (fun q => by rw [HG.out] at q; exact absurd q.2.2 (by decide)), if_pos ⟨HMO.out, h44'⟩], by have := LCH.out.fuel; have := HJ.out.2.1; have := HJ.out.2.2.1; omega,
                  by have := LCH.out.cnt; have := HJ.out.2.1; simp; omega, by simpa using HMO.out, BXx.out.keepS o6 HBR.out, Ox.out.trans (o6.mono RTS.out)⟩)
              have TP6 := Lib.hid (TPx.out.keep HPR.out o6)
              have HLA := Lib.hid (show (⟨part.toArray⟩ : ByteArray) = lastOf (acc ++ [part]) from by simp [lastOf])
              clear h44 h44' o6 hr6 NXC
              go_wp2_with fail
              go_step3
              subst hQ
              have HLEN : ((acc.length : Int) + 1) = (((acc ++ [part]).length : Nat) : Int) := by simp
              rw [SVE.out, HLA.out, HLEN]
              refine ⟨rfl, ⟨jn + 1, g, n, acc ++ [part], rfl, NX6.out, TP6.out⟩, ?_⟩
              show s.size - atOf R w6 < s.size - atOf R w'
              rw [atOf_rs LCH.out.rs, atOf_rs NX6.out.rs]
              have := HJ.out.2.1
              have := NX6.out.le
              omega
          · have m1 : ((acc.length : Int) + 1 < (mostk k : Int)) = False := eq_false (by omega)
            have m2 : ((mostk k : Int) ≤ (acc.length : Int) + 1) := by omega
            have HMO := Lib.hid hmo
            clear hmo
            by_cases hle : acc.length + 1 < least k
            · have z1 : ((acc.length : Int) + 1 < (least k : Int)) = True := eq_true (by omega)
              have HF := Lib.hid (show insC (f + 1) k (s.data.toList.drop p) = none from by
                rw [LCH.out.eq, ST.out, if_neg (fun q => by rw [HG.out] at q; exact absurd q.2.2 (by decide)), if_neg (fun q => HMO.out q.1), if_pos hle])
              clear hle
              go_wp2_with (at_builtin; refine Lib.wpList_append_run _ rfl (.tmp 66) (.tmp 68) 25 25 rfl _ _ rfl rfl _ _ trun9 ?_)
              subst hQ
              simp only [Exit.jump]
              exact ⟨rfl, Ox.out, by rw [HF.out]; exact ⟨⟨_, rfl⟩, TPx.out.cell⟩⟩
            have z1 : ((acc.length : Int) + 1 < (least k : Int)) = False := eq_false (by omega)
            have SGN := Lib.hid (sign_lit 41 41 rfl R s jn M3 (w9.setCell ⟨P, 0, none⟩ (.slice (some ⟨tg, 0, none⟩) (acc.length + 1 : Nat) tcp)) (by have := HS.out; omega) HJ.out.2.2.1 RDx.out (by decide))
            have HL2 := Lib.hid hle
            clear hle
            go_wp2_with (at_builtin; refine Lib.wpList_append_run _ rfl (.tmp 66) (.tmp 68) 25 25 rfl _ _ rfl rfl _ _ trun9 ?_)
            (with_reducible refine SGN.out.mono ?_)
            cases h41 : (cb s jn == 41)
            · rintro e w7 ⟨o7, v, rfl⟩
              have HF := Lib.hid (show insC (f + 1) k (s.data.toList.drop p) = none from by
                rw [LCH.out.eq, ST.out, if_neg (fun q => by rw [HG.out] at q; exact absurd q.2.2 (by decide)), if_neg (fun q => HMO.out q.1), if_neg HL2.out, if_neg (by simpa using h41)])
              have HO7 := Lib.hid (Ox.out.trans (o7.mono RTS.out))
              have T7 := Lib.hid (TPx.out.keep HPR.out o7)
              clear h41 o7 SGN
              go_wp2_with fail
              subst hQ
              simp only [Exit.jump]
              exact ⟨rfl, HO7.out, by rw [HF.out]; exact ⟨⟨_, rfl⟩, T7.out.cell⟩⟩
            · rintro e w7 ⟨o7, rfl, hr7⟩
              have h41' : cb s jn = 41 := by simpa using h41
              have HF := Lib.hid (show insC (f + 1) k (s.data.toList.drop p) = some (n, acc ++ [part], s.data.toList.drop (jn + 1)) from by
                rw [LCH.out.eq, ST.out, if_neg (fun q => by rw [HG.out] at q; exact absurd q.2.2 (by decide)), if_neg (fun q => HMO.out q.1), if_neg HL2.out, if_pos h41'])
              have HO7 := Lib.hid (Ox.out.trans (o7.mono RTS.out))
              have R7 := Lib.hid (show RS w7 R s (behind s (s.data.toList.drop (jn + 1))) from by
                rw [behind, List.length_drop, tl_size, show s.size - (s.size - (jn + 1)) = jn + 1 by have := cb_lt (by decide) h41'; omega]
                exact RS.move HMx.out RDx.out o7 hr7)
              have T7 := Lib.hid (TPx.out.keep HPR.out o7)
              clear h41 h41' o7 hr7 SGN
              go_wp2_with fail
              subst hQ
              simp only [Exit.jump]
              go_ret
              exact ⟨HO7.out, by rw [HF.out]; exact ⟨rfl, R7.out, T7.out⟩⟩
      · have HG := Lib.hid (show gt (acc.getLastD []) part = false from by rw [HGT.out, hA]; rfl)
        cases hB : ((lastOf acc).toList == (s.extract j jn).toList)
        · skip
          obtain ⟨-, -, -, -, -, c5⟩ := BX5.out.cells
          rw [K6.out] at c5
          obtain ⟨tv, tg, tcp, w9, tc, trun, tfz, tce, tput, trd, thm, tbx, ton⟩ := TP5.out.put (part := part) HPR.out RD5.out HM5.out BX5.out (by have := LCH.out.cnt; have := LCH.out.le; have := HS.out; omega)
          rw [show sv part = .string (s.extract j jn) from by rw [SVE.out]; rfl] at trun
          have RDx := Lib.hid trd
          have HMx := Lib.hid thm
          have BXx := Lib.hid tbx
          have Ox := Lib.hid (ton w O5.out)
          have TPx := Lib.hid tput
          have trun9 := trun
          clear trd thm tbx ton tput trun
          obtain ⟨c0, c1, -, -, -, -⟩ := BXx.out.cells
          have NXC := Lib.hid (next_lit 44 44 rfl R s jn M3 (w9.setCell ⟨P, 0, none⟩ (.slice (some ⟨tg, 0, none⟩) (acc.length + 1 : Nat) tcp)) (by have := HS.out; omega) HJ.out.2.2.1 RDx.out (by decide))
          by_cases hmo : acc.length + 1 < mostk k
          · have m1 : ((acc.length : Int) + 1 < (mostk k : Int)) = True := eq_true (by omega)
            have HMO := Lib.hid hmo
            clear hmo
            go_wp2_with (at_builtin; refine Lib.wpList_append_run _ rfl (.tmp 66) (.tmp 68) 25 25 rfl _ _ rfl rfl _ _ trun9 ?_)
            (with_reducible refine NXC.out.mono ?_)
            cases h44 : (cb s jn == 44)
            · rintro e w6 ⟨rfl, hr6, o6, o6'⟩
              have h44' : ¬ cb s jn = 44 := by simpa using h44
              have H44 := Lib.hid h44'
              have RD6 := Lib.hid hr6
              have O6 := Lib.hid (Ox.out.trans (o6.mono RTS.out))
              have HM6 := Lib.hid (show M3 = Value.map none ∨ ∃ b, M3 = Value.map (some b) ∧ w6.heap[b]? = some (Obj.map table 7) from by
                rcases HMx.out with h | ⟨b, h, h3⟩
                · exact .inl h
                · exact .inr ⟨b, h, (o6' rfl).keep h3 id⟩)
              have BX6 := Lib.hid (BXx.out.keepS (o6' rfl) id)
              have TP6 := Lib.hid (TPx.out.keep0 (o6' rfl))
              clear c0 c1 c5
              obtain ⟨c0, c1, -, -, -, -⟩ := BX6.out.cells
              clear h44 h44' o6 o6' hr6 NXC
              by_cases hle : acc.length + 1 < least k
              · have z1 : ((acc.length : Int) + 1 < (least k : Int)) = True := eq_true (by omega)
                have HF := Lib.hid (show insC (f + 1) k (s.data.toList.drop p) = none from by
                  rw [LCH.out.eq, ST.out, if_neg (fun q => by rw [HG.out] at q; exact absurd q.2.2 (by decide)), if_neg (fun q => H44.out q.2), if_pos hle])
                clear hle
                go_wp2_with fail
                subst hQ
                simp only [Exit.jump]
                exact ⟨rfl, O6.out, by rw [HF.out]; exact ⟨⟨_, rfl⟩, TP6.out.cell⟩⟩
              have z1 : ((acc.length : Int) + 1 < (least k : Int)) = False := eq_false (by omega)
              have SGN := Lib.hid (sign_lit 41 41 rfl R s jn M3 w6 (by have := HS.out; omega) HJ.out.2.2.1 RD6.out (by decide))
              have HL2 := Lib.hid hle
              clear hle
              go_wp2_with fail
              (with_reducible refine SGN.out.mono ?_)
              cases h41 : (cb s jn == 41)
              · rintro e w7 ⟨o7, v, rfl⟩
                have HF := Lib.hid (show insC (f + 1) k (s.data.toList.drop p) = none from by
                  rw [LCH.out.eq, ST.out, if_neg (fun q => by rw [HG.out] at q; exact absurd q.2.2 (by decide)), if_neg (fun q => H44.out q.2), if_neg HL2.out, if_neg (by simpa using h41)])
                have HO7 := Lib.hid (O6.out.trans (o7.mono RTS.out))
                have T7 := Lib.hid (TP6.out.keep HPR.out o7)
                clear h41 o7 SGN
                go_wp2_with fail
                subst hQ
                simp only [Exit.jump]
                exact ⟨rfl, HO7.out, by rw [HF.out]; exact ⟨⟨_, rfl⟩, T7.out.cell⟩⟩
              · rintro e w7 ⟨o7, rfl, hr7⟩
                have h41' : cb s jn = 41 := by simpa using h41
                have HF := Lib.hid (show insC (f + 1) k (s.data.toList.drop p) = some (n, acc ++ [part], s.data.toList.drop (jn + 1)) from by
                  rw [LCH.out.eq, ST.out, if_neg (fun q => by rw [HG.out] at q; exact absurd q.2.2 (by decide)), if_neg (fun q => H44.out q.2), if_neg HL2.out, if_pos h41'])
                have HO7 := Lib.hid (O6.out.trans (o7.mono RTS.out))
                have R7 := Lib.hid (show RS w7 R s (behind s (s.data.toList.drop (jn + 1))) from by
                  rw [behind, List.length_drop, tl_size, show s.size - (s.size - (jn + 1)) = jn + 1 by have := cb_lt (by decide) h41'; omega]
                  exact RS.move HM6.out RD6.out o7 hr7)
                have T7 := Lib.hid (TP6.out.keep HPR.out o7)
                clear h41 h41' o7 hr7 SGN
                go_wp2_with fail
                subst hQ
                simp only [Exit.jump]
                go_ret
                exact ⟨HO7.out, by rw [HF.out]; exact ⟨rfl, R7.out, T7.out⟩⟩
            · rintro e w6 ⟨rfl, hr6, o6, -⟩
              have h44' : cb s jn = 44 := by simpa using h44
              have NX6 := Lib.hid (show LC (fun q => P ≤ q) w s R B p (f + 1) k n (jn + 1) g (acc ++ [part]) w6 from
                ⟨RS.move HMx.out RDx.out o6 hr6, cb_lt (by decide) h44', by have := LCH.out.ge; have := HJ.out.2.1; omega, by
                  rw [LCH.out.eq, ST.out, if_neg (fun q => by rw [HG.out] at q; exact absurd q.2.2 (by decide)), if_pos ⟨HMO.out, h44'⟩], by have := LCH.out.fuel; have := HJ.out.2.1; have := HJ.out.2.2.1; omega,
                  by have := LCH.out.cnt; have := HJ.out.2.1; simp; omega, by simpa using HMO.out, BXx.out.keepS o6 HBR.out, Ox.out.trans (o6.mono RTS.out)⟩)
              have TP6 := Lib.hid (TPx.out.keep HPR.out o6)
              have HLA := Lib.hid (show (⟨part.toArray⟩ : ByteArray) = lastOf (acc ++ [part]) from by simp [lastOf])
              clear h44 h44' o6 hr6 NXC
              go_wp2_with fail
              go_step3
              subst hQ
              have HLEN : ((acc.length : Int) + 1) = (((acc ++ [part]).length : Nat) : Int) := by simp
              rw [SVE.out, HLA.out, HLEN]
              refine ⟨rfl, ⟨jn + 1, g, n, acc ++ [part], rfl, NX6.out, TP6.out⟩, ?_⟩
              show s.size - atOf R w6 < s.size - atOf R w'
              rw [atOf_rs LCH.out.rs, atOf_rs NX6.out.rs]
              have := HJ.out.2.1
              have := NX6.out.le
              omega
          · have m1 : ((acc.length : Int) + 1 < (mostk k : Int)) = False := eq_false (by omega)
            have m2 : ((mostk k : Int) ≤ (acc.length : Int) + 1) := by omega
            have HMO := Lib.hid hmo
            clear hmo
            by_cases hle : acc.length + 1 < least k
            · have z1 : ((acc.length : Int) + 1 < (least k : Int)) = True := eq_true (by omega)
              have HF := Lib.hid (show insC (f + 1) k (s.data.toList.drop p) = none from by
                rw [LCH.out.eq, ST.out, if_neg (fun q => by rw [HG.out] at q; exact absurd q.2.2 (by decide)), if_neg (fun q => HMO.out q.1), if_pos hle])
              clear hle
              go_wp2_with (at_builtin; refine Lib.wpList_append_run _ rfl (.tmp 66) (.tmp 68) 25 25 rfl _ _ rfl rfl _ _ trun9 ?_)
              subst hQ
              simp only [Exit.jump]
              exact ⟨rfl, Ox.out, by rw [HF.out]; exact ⟨⟨_, rfl⟩, TPx.out.cell⟩⟩
            have z1 : ((acc.length : Int) + 1 < (least k : Int)) = False := eq_false (by omega)
            have SGN := Lib.hid (sign_lit 41 41 rfl R s jn M3 (w9.setCell ⟨P, 0, none⟩ (.slice (some ⟨tg, 0, none⟩) (acc.length + 1 : Nat) tcp)) (by have := HS.out; omega) HJ.out.2.2.1 RDx.out (by decide))
            have HL2 := Lib.hid hle
            clear hle
            go_wp2_with (at_builtin; refine Lib.wpList_append_run _ rfl (.tmp 66) (.tmp 68) 25 25 rfl _ _ rfl rfl _ _ trun9 ?_)
            (with_reducible refine SGN.out.mono ?_)
            cases h41 : (cb s jn == 41)
            · rintro e w7 ⟨o7, v, rfl⟩
              have HF := Lib.hid (show insC (f + 1) k (s.data.toList.drop p) = none from by
                rw [LCH.out.eq, ST.out, if_neg (fun q => by rw [HG.out] at q; exact absurd q.2.2 (by decide)), if_neg (fun q => HMO.out q.1), if_neg HL2.out, if_neg (by simpa using h41)])
              have HO7 := Lib.hid (Ox.out.trans (o7.mono RTS.out))
              have T7 := Lib.hid (TPx.out.keep HPR.out o7)
              clear h41 o7 SGN
              go_wp2_with fail
              subst hQ
              simp only [Exit.jump]
              exact ⟨rfl, HO7.out, by rw [HF.out]; exact ⟨⟨_, rfl⟩, T7.out.cell⟩⟩
            · rintro e w7 ⟨o7, rfl, hr7⟩
              have h41' : cb s jn = 41 := by simpa using h41
              have HF := Lib.hid (show insC (f + 1) k (s.data.toList.drop p) = some (n, acc ++ [part], s.data.toList.drop (jn + 1)) from by
                rw [LCH.out.eq, ST.out, if_neg (fun q => by rw [HG.out] at q; exact absurd q.2.2 (by decide)), if_neg (fun q => HMO.out q.1), if_neg HL2.out, if_pos h41'])
              have HO7 := Lib.hid (Ox.out.trans (o7.mono RTS.out))
              have R7 := Lib.hid (show RS w7 R s (behind s (s.data.toList.drop (jn + 1))) from by
                rw [behind, List.length_drop, tl_size, show s.size - (s.size - (jn + 1)) = jn + 1 by have := cb_lt (by decide) h41'; omega]
                exact RS.move HMx.out RDx.out o7 hr7)
              have T7 := Lib.hid (TPx.out.keep HPR.out o7)
              clear h41 h41' o7 hr7 SGN
              go_wp2_with fail
              subst hQ
              simp only [Exit.jump]
              go_ret
              exact ⟨HO7.out, by rw [HF.out]; exact ⟨rfl, R7.out, T7.out⟩⟩
        · skip
          obtain ⟨-, -, -, -, -, c5⟩ := BX5.out.cells
          rw [K6.out] at c5
          obtain ⟨tv, tg, tcp, w9, tc, trun, tfz, tce, tput, trd, thm, tbx, ton⟩ := TP5.out.put (part := part) HPR.out RD5.out HM5.out BX5.out (by have := LCH.out.cnt; have := LCH.out.le; have := HS.out; omega)
          rw [show sv part = .string (s.extract j jn) from by rw [SVE.out]; rfl] at trun
          have RDx := Lib.hid trd
          have HMx := Lib.hid thm
          have BXx := Lib.hid tbx
          have Ox := Lib.hid (ton w O5.out)
          have TPx := Lib.hid tput
          have trun9 := trun
          clear trd thm tbx ton tput trun
          obtain ⟨c0, c1, -, -, -, -⟩ := BXx.out.cells
          have NXC := Lib.hid (next_lit 44 44 rfl R s jn M3 (w9.setCell ⟨P, 0, none⟩ (.slice (some ⟨tg, 0, none⟩) (acc.length + 1 : Nat) tcp)) (by have := HS.out; omega) HJ.out.2.2.1 RDx.out (by decide))
          by_cases hmo : acc.length + 1 < mostk k
          · have m1 : ((acc.length : Int) + 1 < (mostk k : Int)) = True := eq_true (by omega)
            have HMO := Lib.hid hmo
            clear hmo
            go_wp2_with (at_builtin; refine Lib.wpList_append_run _ rfl (.tmp 66) (.tmp 68) 25 25 rfl _ _ rfl rfl _ _ trun9 ?_)
            (with_reducible refine NXC.out.mono ?_)
            cases h44 : (cb s jn == 44)
            · rintro e w6 ⟨rfl, hr6, o6, o6'⟩
              have h44' : ¬ cb s jn = 44 := by simpa using h44
              have H44 := Lib.hid h44'
              have RD6 := Lib.hid hr6
              have O6 := Lib.hid (Ox.out.trans (o6.mono RTS.out))
              have HM6 := Lib.hid (show M3 = Value.map none ∨ ∃ b, M3 = Value.map (some b) ∧ w6.heap[b]? = some (Obj.map table 7) from by
                rcases HMx.out with h | ⟨b, h, h3⟩
                · exact .inl h
                · exact .inr ⟨b, h, (o6' rfl).keep h3 id⟩)
              have BX6 := Lib.hid (BXx.out.keepS (o6' rfl) id)
              have TP6 := Lib.hid (TPx.out.keep0 (o6' rfl))
              clear c0 c1 c5
              obtain ⟨c0, c1, -, -, -, -⟩ := BX6.out.cells
              clear h44 h44' o6 o6' hr6 NXC
              by_cases hle : acc.length + 1 < least k
              · have z1 : ((acc.length : Int) + 1 < (least k : Int)) = True := eq_true (by omega)
                have HF := Lib.hid (show insC (f + 1) k (s.data.toList.drop p) = none from by
                  rw [LCH.out.eq, ST.out, if_neg (fun q => by rw [HG.out] at q; exact absurd q.2.2 (by decide)), if_neg (fun q => H44.out q.2), if_pos hle])
                clear hle
                go_wp2_with fail
                subst hQ
                simp only [Exit.jump]
                exact ⟨rfl, O6.out, by rw [HF.out]; exact ⟨⟨_, rfl⟩, TP6.out.cell⟩⟩
              have z1 : ((acc.length : Int) + 1 < (least k : Int)) = False := eq_false (by omega)
              have SGN := Lib.hid (sign_lit 41 41 rfl R s jn M3 w6 (by have := HS.out; omega) HJ.out.2.2.1 RD6.out (by decide))
              have HL2 := Lib.hid hle
              clear hle
              go_wp2_with fail
              (with_reducible refine SGN.out.mono ?_)
              cases h41 : (cb s jn == 41)
              · rintro e w7 ⟨o7, v, rfl⟩
                have HF := Lib.hid (show insC (f + 1) k (s.data.toList.drop p) = none from by
                  rw [LCH.out.eq, ST.out, if_neg (fun q => by rw [HG.out] at q; exact absurd q.2.2 (by decide)), if_neg (fun q => H44.out q.2), if_neg HL2.out, if_neg (by simpa using h41)])
                have HO7 := Lib.hid (O6.out.trans (o7.mono RTS.out))
                have T7 := Lib.hid (TP6.out.keep HPR.out o7)
                clear h41 o7 SGN
                go_wp2_with fail
                subst hQ
                simp only [Exit.jump]
                exact ⟨rfl, HO7.out, by rw [HF.out]; exact ⟨⟨_, rfl⟩, T7.out.cell⟩⟩
              · rintro e w7 ⟨o7, rfl, hr7⟩
                have h41' : cb s jn = 41 := by simpa using h41
                have HF := Lib.hid (show insC (f + 1) k (s.data.toList.drop p) = some (n, acc ++ [part], s.data.toList.drop (jn + 1)) from by
                  rw [LCH.out.eq, ST.out, if_neg (fun q => by rw [HG.out] at q; exact absurd q.2.2 (by decide)), if_neg (fun q => H44.out q.2), if_neg HL2.out, if_pos h41'])
                have HO7 := Lib.hid (O6.out.trans (o7.mono RTS.out))
                have R7 := Lib.hid (show RS w7 R s (behind s (s.data.toList.drop (jn + 1))) from by
                  rw [behind, List.length_drop, tl_size, show s.size - (s.size - (jn + 1)) = jn + 1 by have := cb_lt (by decide) h41'; omega]
                  exact RS.move HM6.out RD6.out o7 hr7)
                have T7 := Lib.hid (TP6.out.keep HPR.out o7)
                clear h41 h41' o7 hr7 SGN
                go_wp2_with fail
                subst hQ
                simp only [Exit.jump]
                go_ret
                exact ⟨HO7.out, by rw [HF.out]; exact ⟨rfl, R7.out, T7.out⟩⟩
            · rintro e w6 ⟨rfl, hr6, o6, -⟩
              have h44' : cb s jn = 44 := by simpa using h44
              have NX6 := Lib.hid (show LC (fun q => P ≤ q) w s R B p (f + 1) k n (jn + 1) g (acc ++ [part]) w6 from
                ⟨RS.move HMx.out RDx.out o6 hr6, cb_lt (by decide) h44', by have := LCH.out.ge; have := HJ.out.2.1; omega, by
                  rw [LCH.out.eq, ST.out, if_neg (fun q => by rw [HG.out] at q; exact absurd q.2.2 (by decide)), if_pos ⟨HMO.out, h44'⟩], by have := LCH.out.fuel; have := HJ.out.2.1; have := HJ.out.2.2.1; omega,
                  by have := LCH.out.cnt; have := HJ.out.2.1; simp; omega, by simpa using HMO.out, BXx.out.keepS o6 HBR.out, Ox.out.trans (o6.mono RTS.out)⟩)
              have TP6 := Lib.hid (TPx.out.keep HPR.out o6)
              have HLA := Lib.hid (show (⟨part.toArray⟩ : ByteArray) = lastOf (acc ++ [part]) from by simp [lastOf])
              clear h44 h44' o6 hr6 NXC
              go_wp2_with fail
              go_step3
              subst hQ
              have HLEN : ((acc.length : Int) + 1) = (((acc ++ [part]).length : Nat) : Int) := by simp
              rw [SVE.out, HLA.out, HLEN]
              refine ⟨rfl, ⟨jn + 1, g, n, acc ++ [part], rfl, NX6.out, TP6.out⟩, ?_⟩
              show s.size - atOf R w6 < s.size - atOf R w'
              rw [atOf_rs LCH.out.rs, atOf_rs NX6.out.rs]
              have := HJ.out.2.1
              have := NX6.out.le
              omega
          · have m1 : ((acc.length : Int) + 1 < (mostk k : Int)) = False := eq_false (by omega)
            have m2 : ((mostk k : Int) ≤ (acc.length : Int) + 1) := by omega
            have HMO := Lib.hid hmo
            clear hmo
            by_cases hle : acc.length + 1 < least k
            · have z1 : ((acc.length : Int) + 1 < (least k : Int)) = True := eq_true (by omega)
              have HF := Lib.hid (show insC (f + 1) k (s.data.toList.drop p) = none from by
                rw [LCH.out.eq, ST.out, if_neg (fun q => by rw [HG.out] at q; exact absurd q.2.2 (by decide)), if_neg (fun q => HMO.out q.1), if_pos hle])
              clear hle
              go_wp2_with (at_builtin; refine Lib.wpList_append_run _ rfl (.tmp 66) (.tmp 68) 25 25 rfl _ _ rfl rfl _ _ trun9 ?_)
              subst hQ
              simp only [Exit.jump]
              exact ⟨rfl, Ox.out, by rw [HF.out]; exact ⟨⟨_, rfl⟩, TPx.out.cell⟩⟩
            have z1 : ((acc.length : Int) + 1 < (least k : Int)) = False := eq_false (by omega)
            have SGN := Lib.hid (sign_lit 41 41 rfl R s jn M3 (w9.setCell ⟨P, 0, none⟩ (.slice (some ⟨tg, 0, none⟩) (acc.length + 1 : Nat) tcp)) (by have := HS.out; omega) HJ.out.2.2.1 RDx.out (by decide))
            have HL2 := Lib.hid hle
            clear hle
            go_wp2_with (at_builtin; refine Lib.wpList_append_run _ rfl (.tmp 66) (.tmp 68) 25 25 rfl _ _ rfl rfl _ _ trun9 ?_)
            (with_reducible refine SGN.out.mono ?_)
            cases h41 : (cb s jn == 41)
            · rintro e w7 ⟨o7, v, rfl⟩
              have HF := Lib.hid (show insC (f + 1) k (s.data.toList.drop p) = none from by
                rw [LCH.out.eq, ST.out, if_neg (fun q => by rw [HG.out] at q; exact absurd q.2.2 (by decide)), if_neg (fun q => HMO.out q.1), if_neg HL2.out, if_neg (by simpa using h41)])
              have HO7 := Lib.hid (Ox.out.trans (o7.mono RTS.out))
              have T7 := Lib.hid (TPx.out.keep HPR.out o7)
              clear h41 o7 SGN
              go_wp2_with fail
              subst hQ
              simp only [Exit.jump]
              exact ⟨rfl, HO7.out, by rw [HF.out]; exact ⟨⟨_, rfl⟩, T7.out.cell⟩⟩
            · rintro e w7 ⟨o7, rfl, hr7⟩
              have h41' : cb s jn = 41 := by simpa using h41
              have HF := Lib.hid (show insC (f + 1) k (s.data.toList.drop p) = some (n, acc ++ [part], s.data.toList.drop (jn + 1)) from by
                rw [LCH.out.eq, ST.out, if_neg (fun q => by rw [HG.out] at q; exact absurd q.2.2 (by decide)), if_neg (fun q => HMO.out q.1), if_neg HL2.out, if_pos h41'])
              have HO7 := Lib.hid (Ox.out.trans (o7.mono RTS.out))
              have R7 := Lib.hid (show RS w7 R s (behind s (s.data.toList.drop (jn + 1))) from by
                rw [behind, List.length_drop, tl_size, show s.size - (s.size - (jn + 1)) = jn + 1 by have := cb_lt (by decide) h41'; omega]
                exact RS.move HMx.out RDx.out o7 hr7)
              have T7 := Lib.hid (TPx.out.keep HPR.out o7)
              clear h41 h41' o7 hr7 SGN
              go_wp2_with fail
              subst hQ
              simp only [Exit.jump]
              go_ret
              exact ⟨HO7.out, by rw [HF.out]; exact ⟨rfl, R7.out, T7.out⟩⟩
  · intro hrest
    have HRE := Lib.hid hrest
    clear hrest
    go_wp2_with fail
    (with_reducible refine SG.out.mono ?_)
    cases hc : (cb s p == 40)
    · rintro e w2 ⟨o, v, rfl⟩
      have HF := Lib.hid (ins_no (f := f + 1) (k := k) hc)
      have HO := Lib.hid (O1.out.trans (o.mono RTS.out))
      have T2 := Lib.hid (HT1.out.keep HPR.out o)
      clear o hc SG
      go_wp2_with fail
      exact ⟨rfl, HO.out, by rw [HF.out]; exact ⟨⟨_, rfl⟩, T2.out.cell⟩⟩
    · rintro e w2 ⟨o, rfl, hr⟩
      obtain ⟨_, hlt⟩ := head_of hc
      have HY := Lib.hid (ins_yes (f := f) (k := k) hc)
      have HLT := Lib.hid hlt
      have HO := Lib.hid (O1.out.trans (o.mono RTS.out))
      have H2 := Lib.hid (RS.move HM2.out HR.out o hr)
      have RD2 := Lib.hid hr
      have HMM := Lib.hid (show M = Value.map none ∨ ∃ b, M = Value.map (some b) ∧ w2.heap[b]? = some (Obj.map table 7) from by
        obtain ⟨M', q1, q2⟩ := H2.out
        have e := hr.symm.trans q1
        injection e with e
        injection e with e
        injection e with e
        injection e with e e'
        injection e' with e' e''
        injection e'' with e''
        rw [e'']
        exact q2)
      have B6 := Lib.hid (HB.out.keepS o (T := fun q => q = R) HBR.out)
      have T2 := Lib.hid (HT1.out.keep HPR.out o)
      obtain ⟨c0, c1, c2, c3, c4, c5⟩ := B6.out.cells
      rw [KN.out] at c2
      rw [K6.out] at c5
      have kl := KL.out
      clear o hr hlt hc SG
      go_wp2_with fail
      go_step3
      go_step
      go_step
      refine HRE.out _ _ ⟨p + 1, f, 0, [], rfl, ⟨H2.out, HLT.out, Nat.le_refl _, ?_, by have := HFu.out; have := HLT.out; omega, Nat.zero_le _, by obtain rfl := H5.out <;> decide, B6.out, HO.out⟩, T2.out⟩
      rw [HY.out, headOf, if_neg (by rw [KN.out]; decide)]
      simp only
      rw [if_neg (by obtain rfl := H5.out <;> simp)]

end Go.Proofs.Ytbjnejnjlidiaaa.prD
namespace Go.Proofs.Ytbjnejnjlidiaaa.prD
open Go.RowKit kit numA numB numC numD numE numF tmA tmB tmC srcA trA trB trD trE prA prB prC
set_option linter.unusedVariables false
set_option linter.unusedSimpArgs false

set_option maxRecDepth 100000 in
set_option maxHeartbeats 3200000 in
theorem inside_n_t (s : ByteArray) (N : Nat) (ih : IHT s N) (P R p f k : Nat) (w : World) (hm : s.size ≤ 100000000) (hp : p ≤ s.size) (hN : s.size - p ≤ N + 1) (hf : 2 * (s.size - p) + 1 ≤ f) (hr : RS w R s p) (hPR : P < R) (htp : TP w P R []) (h5 : k = 8 ∨ k = 10) : Calls Try.prog 198 #[ptr R, shv k, .pointer (some ⟨P, 0, none⟩)] w (ICT w P R s (insC f k (s.data.toList.drop p))) := by
  obtain ⟨M, hr1, hr2⟩ := hr
  have hRlt := lt_of hr1
  obtain ⟨f, rfl⟩ : ∃ g, f = g + 1 := ⟨f - 1, by omega⟩
  obtain ⟨W1, hW1⟩ : ∃ W, W = w.alloc (.cells #[.int .i64 (least k : Nat), .int .i64 (mostk k : Nat), .bool (numbered k), .int .u64 (lowk k : Nat), .int .u64 (highk k : Nat), .bool (k == 6)] 134) := ⟨_, rfl⟩
  have o1 : Only (fun _ => False) w W1 := by rw [hW1]; exact (Only.refl _ w).alloc _
  have HB := Lib.hid (show Box6 W1 w.heap.size k from by rw [hW1]; exact heap_alloc_new w _)
  have O1 := Lib.hid (o1.mono (T := fun q => P ≤ q) fun _ q => q.elim)
  have HR := Lib.hid (hr1.keep o1)
  have HM2 := Lib.hid (show M = .map none ∨ ∃ b, M = .map (some b) ∧ W1.heap[b]? = some (.map table 7) from by
    rcases hr2 with h | ⟨b, h, h3⟩
    · exact .inl h
    · exact .inr ⟨b, h, o1.keep h3 id⟩)
  have SG := Lib.hid (sign_lit 40 40 rfl R s p M W1 (by omega) hp HR.out (by decide))
  have HBR := Lib.hid (show w.heap.size ≠ R by omega)
  have HT1 := Lib.hid (htp.keep0 o1)
  have HPR := Lib.hid hPR
  have RtoS : ∀ q, q = R → (fun q => P ≤ q) q := fun q e => by show P ≤ q; omega
  have RTS := Lib.hid RtoS
  have HS := Lib.hid hm
  have HP := Lib.hid hp
  have HN := Lib.hid hN
  have HFu := Lib.hid hf
  have IHH := Lib.hid ih
  have KN := Lib.hid (show numbered k = true from by rcases h5 with rfl | rfl <;> rfl)
  have KL := Lib.hid (show ((least k : Int) == 0) = false from by rcases h5 with rfl | rfl <;> rfl)
  have K6 := Lib.hid (show (k == 6) = false from by rcases h5 with rfl | rfl <;> rfl)
  have H5 := Lib.hid h5
  have HW := Lib.hid hW1
  rw [hW1] at SG
  clear hr1 hr2 o1 hm hp hN hf ih h5 hRlt hW1 RtoS hPR htp
  unfold shv
  go_enter Try.func198, Try.ntmps198
  go_wp2_with fail
  rw [← HW.out] at SG ⊢
  obtain ⟨B, hB⟩ : ∃ B, B = w.heap.size := ⟨_, rfl⟩
  rw [← hB] at HB HBR ⊢
  have HBB := Lib.hid hB
  clear hB
  refine scope_jumps 0 (fun a' w' => ∃ (j g n : Nat) (acc : List Txt), a' = { tmps := List.toArray (ptr R :: a'.tmps.getD 1 undef :: (.pointer (some ⟨P, 0, none⟩)) :: a'.tmps.getD 3 undef :: (.pointer (some ⟨B, 0, none⟩)) :: a'.tmps.getD 5 undef :: a'.tmps.getD 6 undef :: (.int .u64 (n : Nat)) :: (.string (lastOf acc)) :: (.int .i64 (acc.length : Nat)) :: a'.tmps.getD 10 undef :: a'.tmps.getD 11 undef :: a'.tmps.getD 12 undef :: a'.tmps.getD 13 undef :: a'.tmps.getD 14 undef :: a'.tmps.getD 15 undef :: a'.tmps.getD 16 undef :: a'.tmps.getD 17 undef :: a'.tmps.getD 18 undef :: a'.tmps.getD 19 undef :: a'.tmps.getD 20 undef :: a'.tmps.getD 21 undef :: a'.tmps.getD 22 undef :: a'.tmps.getD 23 undef :: a'.tmps.getD 24 undef :: a'.tmps.getD 25 undef :: a'.tmps.getD 26 undef :: a'.tmps.getD 27 undef :: a'.tmps.getD 28 undef :: a'.tmps.getD 29 undef :: a'.tmps.getD 30 undef :: a'.tmps.getD 31 undef :: a'.tmps.getD 32 undef :: a'.tmps.getD 33 undef :: a'.tmps.getD 34 undef :: a'.tmps.getD 35 undef :: a'.tmps.getD 36 undef :: a'.tmps.getD 37 undef :: a'.tmps.getD 38 undef :: a'.tmps.getD 39 undef :: a'.tmps.getD 40 undef :: a'.tmps.getD 41 undef :: a'.tmps.getD 42 undef :: a'.tmps.getD 43 undef :: a'.tmps.getD 44 undef :: a'.tmps.getD 45 undef :: a'.tmps.getD 46 undef :: a'.tmps.getD 47 undef :: a'.tmps.getD 48 undef :: a'.tmps.getD 49 undef :: a'.tmps.getD 50 undef :: a'.tmps.getD 51 undef :: a'.tmps.getD 52 undef :: a'.tmps.getD 53 undef :: a'.tmps.getD 54 undef :: a'.tmps.getD 55 undef :: a'.tmps.getD 56 undef :: a'.tmps.getD 57 undef :: a'.tmps.getD 58 undef :: a'.tmps.getD 59 undef :: a'.tmps.getD 60 undef :: a'.tmps.getD 61 undef :: a'.tmps.getD 62 undef :: a'.tmps.getD 63 undef :: a'.tmps.getD 64 undef :: a'.tmps.getD 65 undef :: a'.tmps.getD 66 undef :: a'.tmps.getD 67 undef :: a'.tmps.getD 68 undef :: a'.tmps.getD 69 undef :: a'.tmps.getD 70 undef :: a'.tmps.getD 71 undef :: a'.tmps.getD 72 undef :: a'.tmps.getD 73 undef :: a'.tmps.getD 74 undef :: a'.tmps.getD 75 undef :: a'.tmps.getD 76 undef :: a'.tmps.getD 77 undef :: a'.tmps.getD 78 undef :: a'.tmps.getD 79 undef :: a'.tmps.getD 80 undef :: a'.tmps.getD 81 undef :: a'.tmps.getD 82 undef :: a'.tmps.getD 83 undef :: a'.tmps.getD 84 undef :: a'.tmps.getD 85 undef :: a'.tmps.getD 86 undef :: a'.tmps.getD 87 undef :: a'.tmps.getD 88 undef :: a'.tmps.getD 89 undef :: a'.tmps.getD 90 undef :: []), defers := [] } ∧ LC (fun q => P ≤ q) w s R B p (f + 1) k n j g acc w' ∧ TP w' P R acc) (fun _ w' => s.size - atOf R w') rfl ?_ ?_
  · rintro a' w' ⟨j, g, n, acc, ha, lc, tp⟩
    obtain ⟨u, ha2⟩ : ∃ u : Nat → Value, a' = { tmps := List.toArray (ptr R :: u 1 :: (.pointer (some ⟨P, 0, none⟩)) :: u 3 :: (.pointer (some ⟨B, 0, none⟩)) :: u 5 :: u 6 :: (.int .u64 (n : Nat)) :: (.string (lastOf acc)) :: (.int .i64 (acc.length : Nat)) :: u 10 :: u 11 :: u 12 :: u 13 :: u 14 :: u 15 :: u 16 :: u 17 :: u 18 :: u 19 :: u 20 :: u 21 :: u 22 :: u 23 :: u 24 :: u 25 :: u 26 :: u 27 :: u 28 :: u 29 :: u 30 :: u 31 :: u 32 :: u 33 :: u 34 :: u 35 :: u 36 :: u 37 :: u 38 :: u 39 :: u 40 :: u 41 :: u 42 :: u 43 :: u 44 :: u 45 :: u 46 :: u 47 :: u 48 :: u 49 :: u 50 :: u 51 :: u 52 :: u 53 :: u 54 :: u 55 :: u 56 :: u 57 :: u 58 :: u 59 :: u 60 :: u 61 :: u 62 :: u 63 :: u 64 :: u 65 :: u 66 :: u 67 :: u 68 :: u 69 :: u 70 :: u 71 :: u 72 :: u 73 :: u 74 :: u 75 :: u 76 :: u 77 :: u 78 :: u 79 :: u 80 :: u 81 :: u 82 :: u 83 :: u 84 :: u 85 :: u 86 :: u 87 :: u 88 :: u 89 :: u 90 :: []), defers := [] } := ⟨fun i => a'.tmps.getD i undef, ha⟩
    clear ha
    subst ha2
    have LCH := Lib.hid lc
    obtain ⟨M1, hrd, hm1⟩ := lc.rs
    have RD1 := Lib.hid hrd
    have y1 : w'.cell? ⟨R, 1, none⟩ = some (.int .i64 j) := cell_of hrd
    obtain ⟨g, rfl⟩ : ∃ g', g = g' + 1 := ⟨g - 1, by have := lc.fuel; omega⟩
    have RC := Lib.hid (IHH.out R j g w' lc.le (by have := lc.ge; have := HN.out; omega) (by have := lc.fuel; omega) lc.rs)
    obtain ⟨q, hq⟩ : ∃ q, q = tmC g (s.data.toList.drop j) := ⟨_, rfl⟩
    rw [← hq] at RC
    have HQ := Lib.hid hq
    have TPH := Lib.hid tp
    clear tp
    clear hrd hm1 lc hq SG
    go_hide hQ
    go_wp2_with fail
    (with_reducible refine RC.out.mono ?_)
    rintro e w3 ⟨o, hr⟩
    have O3 := Lib.hid (LCH.out.only.trans (o.mono RTS.out))
    have TP3 := Lib.hid (TPH.out.keep HPR.out o)
    cases q with
    | none =>
      obtain ⟨v, rfl⟩ := hr
      have HF := Lib.hid (show insC (f + 1) k (s.data.toList.drop p) = none from by rw [LCH.out.eq, noneC HQ.out.symm])
      clear o RC y1
      go_wp2_with fail
      subst hQ
      simp only [Exit.jump]
      exact ⟨rfl, O3.out, by rw [HF.out]; exact ⟨⟨_, rfl⟩, TP3.out.cell⟩⟩
    | some dd =>
      obtain ⟨k1, n1, ps1, rest⟩ := dd
      obtain ⟨rfl, hrs⟩ := hr
      obtain ⟨e1, hlt, hle, ept⟩ := partC LCH.out.le HQ.out.symm
      obtain ⟨jn, hjn⟩ : ∃ x, x = behind s rest := ⟨_, rfl⟩
      rw [← hjn] at e1 hlt hle ept hrs
      obtain ⟨part, hpart⟩ : ∃ x, x = (s.data.toList.drop j).take (jn - j) := ⟨_, rfl⟩
      have ST := Lib.hid (stepC (k := k) (acc := acc) LCH.out.le HQ.out.symm hjn hpart)
      have HJ := Lib.hid (And.intro hjn (And.intro hlt (And.intro hle hpart)))
      have SVE := Lib.hid (show s.extract j jn = ⟨part.toArray⟩ from by
        have := sv_extract s j jn hle
        rw [← hpart] at this
        injection this)
      have RS3 := Lib.hid hrs
      have BX := Lib.hid (LCH.out.box.keepS o (T := fun q => q = R) HBR.out)
      obtain ⟨M3, hrd, hm3⟩ := hrs
      have RD3 := Lib.hid hrd
      have HM3 := Lib.hid hm3
      have y0 : w3.cell? ⟨R, 0, none⟩ = some (.string s) := cell_of hrd
      have y1' : w3.cell? ⟨R, 1, none⟩ = some (.int .i64 jn) := cell_of hrd
      have b1 : (0 : Int) ≤ (j : Int) := by omega
      have b2 : (j : Int) ≤ (jn : Int) := by omega
      have b3 : (jn : Int) ≤ (s.size : Int) := by omega
      clear e1 hlt hle ept hjn hpart hrd hm3 o RC y1
      go_wp2_with fail
      have wl : wrap64 ((acc.length : Int) + 1) = (acc.length : Int) + 1 := IntWalk.wrap64_in _ (by have := LCH.out.cnt; have := LCH.out.le; have := HS.out; omega)
      go_quiet (fail)
      have OW5 : Only (fun q => P ≤ q) w (w3.drewN nq) := O3.out.drewN nq
      have RD5 := Lib.hid (show Rd (w3.drewN nq) R s jn M3 from RD3.out)
      have HM5 := Lib.hid (show M3 = Value.map none ∨ ∃ b, M3 = Value.map (some b) ∧ (w3.drewN nq).heap[b]? = some (Obj.map table 7) from HM3.out)
      have BX5 := Lib.hid (show Box6 (w3.drewN nq) B k from BX.out)
      have O5 := Lib.hid OW5
      have TP5 := Lib.hid (TP3.out.keep0 ((Only.refl (fun _ => False) w3).drewN nq))
      clear OW5 y0 y1' b1 b2 b3
      generalize w3.drewN nq = W5 at RD5 HM5 BX5 O5 TP5 ⊢
      have KQ := Lib.hid (show k ≠ 6 from by have := K6.out; simpa using this)
      obtain ⟨-, -, -, -, -, c5⟩ := BX5.out.cells
      rw [K6.out] at c5
      obtain ⟨tv, tg, tcp, w9, tc, trun, tfz, tce, tput, trd, thm, tbx, ton⟩ := TP5.out.put (part := part) HPR.out RD5.out HM5.out BX5.out (by have := LCH.out.cnt; have := LCH.out.le; have := HS.out; omega)
      rw [show sv part = .string (s.extract j jn) from by rw [SVE.out]; rfl] at trun
      have RDx := Lib.hid trd
      have HMx := Lib.hid thm
      have BXx := Lib.hid tbx
      have Ox := Lib.hid (ton w O5.out)
      have TPx := Lib.hid tput
      have trun9 := trun
      clear trd thm tbx ton tput trun
      obtain ⟨c0, c1, -, -, -, -⟩ := BXx.out.cells
      have NXC := Lib.hid (next_lit 44 44 rfl R s jn M3 (w9.setCell ⟨P, 0, none⟩ (.slice (some ⟨tg, 0, none⟩) (acc.length + 1 : Nat) tcp)) (by have := HS.out; omega) HJ.out.2.2.1 RDx.out (by decide))
      by_cases hmo : acc.length + 1 < mostk k
      · have m1 : ((acc.length : Int) + 1 < (mostk k : Int)) = True := eq_true (by omega)
        have HMO := Lib.hid hmo
        clear hmo
        go_wp2_with (at_builtin; refine Lib.wpList_append_run _ rfl (.tmp 66) (.tmp 68) 25 25 rfl _ _ rfl rfl _ _ trun9 ?_)
        (with_reducible refine NXC.out.mono ?_)
        cases h44 : (cb s jn == 44)
        · rintro e w6 ⟨rfl, hr6, o6, o6'⟩
          have h44' : ¬ cb s jn = 44 := by simpa using h44
          have H44 := Lib.hid h44'
          have RD6 := Lib.hid hr6
          have O6 := Lib.hid (Ox.out.trans (o6.mono RTS.out))
          have HM6 := Lib.hid (show M3 = Value.map none ∨ ∃ b, M3 = Value.map (some b) ∧ w6.heap[b]? = some (Obj.map table 7) from by
            rcases HMx.out with h | ⟨b, h, h3⟩
            · exact .inl h
            · exact .inr ⟨b, h, (o6' rfl).keep h3 id⟩)
          have BX6 := Lib.hid (BXx.out.keepS (o6' rfl) id)
          have TP6 := Lib.hid (TPx.out.keep0 (o6' rfl))
          clear c0 c1 c5
          obtain ⟨c0, c1, -, -, -, -⟩ := BX6.out.cells
          clear h44 h44' o6 o6' hr6 NXC
          by_cases hle : acc.length + 1 < least k
          · have z1 : ((acc.length : Int) + 1 < (least k : Int)) = True := eq_true (by omega)
            have HF := Lib.hid (show insC (f + 1) k (s.data.toList.drop p) = none from by
              rw [LCH.out.eq, ST.out, if_neg (fun q => KQ.out q.1), if_neg (fun q => H44.out q.2), if_pos hle])
            clear hle
            go_wp2_with fail
            subst hQ
            simp only [Exit.jump]
            exact ⟨rfl, O6.out, by rw [HF.out]; exact ⟨⟨_, rfl⟩, TP6.out.cell⟩⟩
          have z1 : ((acc.length : Int) + 1 < (least k : Int)) = False := eq_false (by omega)
          have SGN := Lib.hid (sign_lit 41 41 rfl R s jn M3 w6 (by have := HS.out; omega) HJ.out.2.2.1 RD6.out (by decide))
          have HL2 := Lib.hid hle
          clear hle
          go_wp2_with fail
          (with_reducible refine SGN.out.mono ?_)
          cases h41 : (cb s jn == 41)
          · rintro e w7 ⟨o7, v, rfl⟩
            have HF := Lib.hid (show insC (f + 1) k (s.data.toList.drop p) = none from by
              rw [LCH.out.eq, ST.out, if_neg (fun q => KQ.out q.1), if_neg (fun q => H44.out q.2), if_neg HL2.out, if_neg (by simpa using h41)])
            have HO7 := Lib.hid (O6.out.trans (o7.mono RTS.out))
            have T7 := Lib.hid (TP6.out.keep HPR.out o7)
            clear h41 o7 SGN
            go_wp2_with fail
            subst hQ
            simp only [Exit.jump]
            exact ⟨rfl, HO7.out, by rw [HF.out]; exact ⟨⟨_, rfl⟩, T7.out.cell⟩⟩
          · rintro e w7 ⟨o7, rfl, hr7⟩
            have h41' : cb s jn = 41 := by simpa using h41
            have HF := Lib.hid (show insC (f + 1) k (s.data.toList.drop p) = some (n, acc ++ [part], s.data.toList.drop (jn + 1)) from by
              rw [LCH.out.eq, ST.out, if_neg (fun q => KQ.out q.1), if_neg (fun q => H44.out q.2), if_neg HL2.out, if_pos h41'])
            have HO7 := Lib.hid (O6.out.trans (o7.mono RTS.out))
            have R7 := Lib.hid (show RS w7 R s (behind s (s.data.toList.drop (jn + 1))) from by
              rw [behind, List.length_drop, tl_size, show s.size - (s.size - (jn + 1)) = jn + 1 by have := cb_lt (by decide) h41'; omega]
              exact RS.move HM6.out RD6.out o7 hr7)
            have T7 := Lib.hid (TP6.out.keep HPR.out o7)
            clear h41 h41' o7 hr7 SGN
            go_wp2_with fail
            subst hQ
            simp only [Exit.jump]
            go_ret
            exact ⟨HO7.out, by rw [HF.out]; exact ⟨rfl, R7.out, T7.out⟩⟩
        · rintro e w6 ⟨rfl, hr6, o6, -⟩
          have h44' : cb s jn = 44 := by simpa using h44
          have NX6 := Lib.hid (show LC (fun q => P ≤ q) w s R B p (f + 1) k n (jn + 1) g (acc ++ [part]) w6 from
            ⟨RS.move HMx.out RDx.out o6 hr6, cb_lt (by decide) h44', by have := LCH.out.ge; have := HJ.out.2.1; omega, by
              rw [LCH.out.eq, ST.out, if_neg (fun q => KQ.out q.1), if_pos ⟨HMO.out, h44'⟩], by have := LCH.out.fuel; have := HJ.out.2.1; have := HJ.out.2.2.1; omega,
              by have := LCH.out.cnt; have := HJ.out.2.1; simp; omega, by simpa using HMO.out, BXx.out.keepS o6 HBR.out, Ox.out.trans (o6.mono RTS.out)⟩)
          have TP6 := Lib.hid (TPx.out.keep HPR.out o6)
          have HLA := Lib.hid (show (⟨part.toArray⟩ : ByteArray) = lastOf (acc ++ [part]) from by simp [lastOf])
          clear h44 h44' o6 hr6 NXC
          go_wp2_with fail
          go_step3
          subst hQ
          have HLEN : ((acc.length : Int) + 1) = (((acc ++ [part]).length : Nat) : Int) := by simp
          rw [SVE.out, HLA.out, HLEN]
          refine ⟨rfl, ⟨jn + 1, g, n, acc ++ [part], rfl, NX6.out, TP6.out⟩, ?_⟩
          show s.size - atOf R w6 < s.size - atOf R w'
          rw [atOf_rs LCH.out.rs, atOf_rs NX6.out.rs]
          have := HJ.out.2.1
          have := NX6.out.le
          omega
      · have m1 : ((acc.length : Int) + 1 < (mostk k : Int)) = False := eq_false (by omega)
        have m2 : ((mostk k : Int) ≤ (acc.length : Int) + 1) := by omega
        have HMO := Lib.hid hmo
        clear hmo
        by_cases hle : acc.length + 1 < least k
        · have z1 : ((acc.length : Int) + 1 < (least k : Int)) = True := eq_true (by omega)
          have HF := Lib.hid (show insC (f + 1) k (s.data.toList.drop p) = none from by
            rw [LCH.out.eq, ST.out, if_neg (fun q => KQ.out q.1), if_neg (fun q => HMO.out q.1), if_pos hle])
          clear hle
          go_wp2_with (at_builtin; refine Lib.wpList_append_run _ rfl (.tmp 66) (.tmp 68) 25 25 rfl _ _ rfl rfl _ _ trun9 ?_)
          subst hQ
          simp only [Exit.jump]
          exact ⟨rfl, Ox.out, by rw [HF.out]; exact ⟨⟨_, rfl⟩, TPx.out.cell⟩⟩
        have z1 : ((acc.length : Int) + 1 < (least k : Int)) = False := eq_false (by omega)
        have SGN := Lib.hid (sign_lit 41 41 rfl R s jn M3 (w9.setCell ⟨P, 0, none⟩ (.slice (some ⟨tg, 0, none⟩) (acc.length + 1 : Nat) tcp)) (by have := HS.out; omega) HJ.out.2.2.1 RDx.out (by decide))
        have HL2 := Lib.hid hle
        clear hle
        go_wp2_with (at_builtin; refine Lib.wpList_append_run _ rfl (.tmp 66) (.tmp 68) 25 25 rfl _ _ rfl rfl _ _ trun9 ?_)
        (with_reducible refine SGN.out.mono ?_)
        cases h41 : (cb s jn == 41)
        · rintro e w7 ⟨o7, v, rfl⟩
          have HF := Lib.hid (show insC (f + 1) k (s.data.toList.drop p) = none from by
            rw [LCH.out.eq, ST.out, if_neg (fun q => KQ.out q.1), if_neg (fun q => HMO.out q.1), if_neg HL2.out, if_neg (by simpa using h41)])
          have HO7 := Lib.hid (Ox.out.trans (o7.mono RTS.out))
          have T7 := Lib.hid (TPx.out.keep HPR.out o7)
          clear h41 o7 SGN
          go_wp2_with fail
          subst hQ
          simp only [Exit.jump]
          exact ⟨rfl, HO7.out, by rw [HF.out]; exact ⟨⟨_, rfl⟩, T7.out.cell⟩⟩
        · rintro e w7 ⟨o7, rfl, hr7⟩
          have h41' : cb s jn = 41 := by simpa using h41
          have HF := Lib.hid (show insC (f + 1) k (s.data.toList.drop p) = some (n, acc ++ [part], s.data.toList.drop (jn + 1)) from by
            rw [LCH.out.eq, ST.out, if_neg (fun q => KQ.out q.1), if_neg (fun q => HMO.out q.1), if_neg HL2.out, if_pos h41'])
          have HO7 := Lib.hid (Ox.out.trans (o7.mono RTS.out))
          have R7 := Lib.hid (show RS w7 R s (behind s (s.data.toList.drop (jn + 1))) from by
            rw [behind, List.length_drop, tl_size, show s.size - (s.size - (jn + 1)) = jn + 1 by have := cb_lt (by decide) h41'; omega]
            exact RS.move HMx.out RDx.out o7 hr7)
          have T7 := Lib.hid (TPx.out.keep HPR.out o7)
          clear h41 h41' o7 hr7 SGN
          go_wp2_with fail
          subst hQ
          simp only [Exit.jump]
          go_ret
          exact ⟨HO7.out, by rw [HF.out]; exact ⟨rfl, R7.out, T7.out⟩⟩
  · intro hrest
    have HRE := Lib.hid hrest
    clear hrest
    go_wp2_with fail
    (with_reducible refine SG.out.mono ?_)
    cases hc : (cb s p == 40)
    · rintro e w2 ⟨o, v, rfl⟩
      have HF := Lib.hid (ins_no (f := f + 1) (k := k) hc)
      have HO := Lib.hid (O1.out.trans (o.mono RTS.out))
      have T2 := Lib.hid (HT1.out.keep HPR.out o)
      clear o hc SG
      go_wp2_with fail
      exact ⟨rfl, HO.out, by rw [HF.out]; exact ⟨⟨_, rfl⟩, T2.out.cell⟩⟩
    · rintro e w2 ⟨o, rfl, hr⟩
      obtain ⟨_, hlt⟩ := head_of hc
      have HY := Lib.hid (ins_yes (f := f) (k := k) hc)
      have HLT := Lib.hid hlt
      have HO := Lib.hid (O1.out.trans (o.mono RTS.out))
      have H2 := Lib.hid (RS.move HM2.out HR.out o hr)
      have RD2 := Lib.hid hr
      have HMM := Lib.hid (show M = Value.map none ∨ ∃ b, M = Value.map (some b) ∧ w2.heap[b]? = some (Obj.map table 7) from by
        obtain ⟨M', q1, q2⟩ := H2.out
        have e := hr.symm.trans q1
        injection e with e
        injection e with e
        injection e with e
        injection e with e e'
        injection e' with e' e''
        injection e'' with e''
        rw [e'']
        exact q2)
      have B6 := Lib.hid (HB.out.keepS o (T := fun q => q = R) HBR.out)
      have T2 := Lib.hid (HT1.out.keep HPR.out o)
      obtain ⟨c0, c1, c2, c3, c4, c5⟩ := B6.out.cells
      rw [KN.out] at c2
      rw [K6.out] at c5
      have kl := KL.out
      clear o hr hlt hc SG
      have NUM := Lib.hid (number_any R s (p + 1) (lowk k) (highk k) M w2 (by have := HS.out; omega) HLT.out RD2.out)
      have HHD := Lib.hid (show headOf k (s.data.toList.drop (p + 1)) = (match numOf (lowk k) (highk k) (s.data.toList.drop (p + 1)) with
          | none => none
          | some (n, r) => (match r with
            | [] => none
            | c :: r' => if c = 44 then some (n, r') else none)) from by
        rw [headOf, if_pos KN.out]
        rfl)
      obtain ⟨q, hq⟩ : ∃ q, q = numOf (lowk k) (highk k) (s.data.toList.drop (p + 1)) := ⟨_, rfl⟩
      rw [← hq] at NUM HHD
      have HQ := Lib.hid hq
      clear hq
      go_wp2_with fail
      (with_reducible refine NUM.out.mono ?_)
      rintro e w6 ⟨o6, hr6⟩
      cases q with
      | none =>
        obtain ⟨v, rfl⟩ := hr6
        have HF := Lib.hid (show insC (f + 1) k (s.data.toList.drop p) = none from by rw [HY.out, HHD.out])
        have HO6 := Lib.hid (HO.out.trans (o6.mono RTS.out))
        have T6 := Lib.hid (T2.out.keep HPR.out o6)
        clear o6 NUM c0 c1 c2 c3 c4 c5
        go_wp2_with fail
        exact ⟨rfl, HO6.out, by rw [HF.out]; exact ⟨⟨_, rfl⟩, T6.out.cell⟩⟩
      | some dd =>
        obtain ⟨nv, rest⟩ := dd
        obtain ⟨rfl, hr6⟩ := hr6
        obtain ⟨tt, ett⟩ := num_suf HQ.out.symm
        obtain ⟨re1, re2, re3⟩ := behind_drop HLT.out ett
        obtain ⟨nx, hnx⟩ : ∃ x, x = behind s rest := ⟨_, rfl⟩
        rw [← hnx] at re1 re2 re3 hr6
        have HX := Lib.hid (And.intro re1 (And.intro (show p + 1 ≤ nx by omega) re3))
        have RD6 := Lib.hid hr6
        have B66 := Lib.hid (B6.out.keepS o6 (T := fun q => q = R) HBR.out)
        have HM6 := Lib.hid (show M = Value.map none ∨ ∃ b, M = Value.map (some b) ∧ w6.heap[b]? = some (Obj.map table 7) from by
          rcases HMM.out with h | ⟨b, h, h3⟩
          · exact .inl h
          · refine .inr ⟨b, h, o6.keep h3 fun q => ?_⟩
            subst q
            have := RD2.out
            unfold prA.Rd at this
            rw [h3] at this
            cases this)
        have HO6 := Lib.hid (HO.out.trans (o6.mono RTS.out))
        have T6 := Lib.hid (T2.out.keep HPR.out o6)
        have SG2 := Lib.hid (sign_lit 44 44 rfl R s nx M w6 (by have := HS.out; omega) re3 hr6 (by decide))
        clear re1 re2 re3 ett hnx hr6 o6 NUM c0 c1 c2 c3 c4 c5
        obtain ⟨c0, c1, c2, c3, c4, c5⟩ := B66.out.cells
        go_wp2_with fail
        (with_reducible refine SG2.out.mono ?_)
        cases h44 : (cb s nx == 44)
        · rintro e w7 ⟨o7, v, rfl⟩
          have HF := Lib.hid (show insC (f + 1) k (s.data.toList.drop p) = none from by
            rw [HY.out, HHD.out]
            try simp only
            rcases Nat.lt_or_ge nx s.size with g1 | g1
            · rw [HX.out.1, cb_in s nx g1]
              try simp only
              rw [if_neg (by simpa using h44)]
            · rw [HX.out.1, (cb_out s nx g1).2])
          have HO7 := Lib.hid (HO6.out.trans (o7.mono RTS.out))
          have T7 := Lib.hid (T6.out.keep HPR.out o7)
          clear o7 h44 SG2 c0 c1 c2 c3 c4 c5
          go_wp2_with fail
          exact ⟨rfl, HO7.out, by rw [HF.out]; exact ⟨⟨_, rfl⟩, T7.out.cell⟩⟩
        · rintro e w7 ⟨o7, rfl, hr7⟩
          have h44' : cb s nx = 44 := by simpa using h44
          have hxs := cb_lt (by decide) h44'
          have B7 := Lib.hid (B66.out.keepS o7 (T := fun q => q = R) HBR.out)
          have H7 := Lib.hid (RS.move HM6.out RD6.out o7 hr7)
          have HO7 := Lib.hid (HO6.out.trans (o7.mono RTS.out))
          have HXS := Lib.hid hxs
          have HEQ := Lib.hid (show insC (f + 1) k (s.data.toList.drop p) = (match lpC f k [] (s.data.toList.drop (nx + 1)) with | none => none | some (ps, rest) => some (nv, ps, rest)) from by
            rw [HY.out, HHD.out]
            try simp only
            rw [HX.out.1, cb_in s nx hxs, h44']
            simp only [↓reduceIte]
            rw [if_neg (by rcases H5.out with rfl | rfl <;> simp)]
            try rfl)
          have T7 := Lib.hid (T6.out.keep HPR.out o7)
          clear h44 h44' hxs o7 hr7 SG2 c0 c1 c2 c3 c4 c5
          obtain ⟨c0, c1, c2, c3, c4, c5⟩ := B7.out.cells
          go_wp2_with fail
          go_step3
          go_step
          go_step
          exact HRE.out _ _ ⟨nx + 1, f, nv, [], rfl, ⟨H7.out, HXS.out, by have := HX.out.2.1; omega, HEQ.out, by have := HFu.out; have := HX.out.2.1; have := HXS.out; omega, Nat.zero_le _, by rcases H5.out with rfl | rfl <;> decide, B7.out, HO7.out⟩, T7.out⟩

end Go.Proofs.Ytbjnejnjlidiaaa.prD
namespace Go.Proofs.Ytbjnejnjlidiaaa.prD
open Go.RowKit kit numA numB numC numD numE numF tmA tmB tmC srcA trA trB trD trE prA prB prC
set_option linter.unusedVariables false
set_option linter.unusedSimpArgs false

set_option maxRecDepth 100000 in
set_option maxHeartbeats 3200000 in
theorem inside_11_t (s : ByteArray) (N : Nat) (ih : IHT s N) (P R p f k : Nat) (w : World) (hm : s.size ≤ 100000000) (hp : p ≤ s.size) (hN : s.size - p ≤ N + 1) (hf : 2 * (s.size - p) + 1 ≤ f) (hr : RS w R s p) (hPR : P < R) (htp : TP w P R []) (h5 : k = 11) : Calls Try.prog 198 #[ptr R, shv k, .pointer (some ⟨P, 0, none⟩)] w (ICT w P R s (insC f k (s.data.toList.drop p))) := by
  obtain ⟨M, hr1, hr2⟩ := hr
  have hRlt := lt_of hr1
  obtain ⟨f, rfl⟩ : ∃ g, f = g + 1 := ⟨f - 1, by omega⟩
  obtain ⟨W1, hW1⟩ : ∃ W, W = w.alloc (.cells #[.int .i64 (least k : Nat), .int .i64 (mostk k : Nat), .bool (numbered k), .int .u64 (lowk k : Nat), .int .u64 (highk k : Nat), .bool (k == 6)] 134) := ⟨_, rfl⟩
  have o1 : Only (fun _ => False) w W1 := by rw [hW1]; exact (Only.refl _ w).alloc _
  have HB := Lib.hid (show Box6 W1 w.heap.size k from by rw [hW1]; exact heap_alloc_new w _)
  have O1 := Lib.hid (o1.mono (T := fun q => P ≤ q) fun _ q => q.elim)
  have HR := Lib.hid (hr1.keep o1)
  have HM2 := Lib.hid (show M = .map none ∨ ∃ b, M = .map (some b) ∧ W1.heap[b]? = some (.map table 7) from by
    rcases hr2 with h | ⟨b, h, h3⟩
    · exact .inl h
    · exact .inr ⟨b, h, o1.keep h3 id⟩)
  have SG := Lib.hid (sign_lit 40 40 rfl R s p M W1 (by omega) hp HR.out (by decide))
  have HBR := Lib.hid (show w.heap.size ≠ R by omega)
  have HT1 := Lib.hid (htp.keep0 o1)
  have HPR := Lib.hid hPR
  have RtoS : ∀ q, q = R → (fun q => P ≤ q) q := fun q e => by show P ≤ q; omega
  have RTS := Lib.hid RtoS
  have HS := Lib.hid hm
  have HP := Lib.hid hp
  have HN := Lib.hid hN
  have HFu := Lib.hid hf
  have IHH := Lib.hid ih
  have KN := Lib.hid (show numbered k = false from by obtain rfl := h5 <;> rfl)
  have KL := Lib.hid (show ((least k : Int) == 0) = true from by obtain rfl := h5 <;> rfl)
  have K6 := Lib.hid (show (k == 6) = false from by obtain rfl := h5 <;> rfl)
  have H5 := Lib.hid h5
  have HW := Lib.hid hW1
  rw [hW1] at SG
  clear hr1 hr2 o1 hm hp hN hf ih h5 hRlt hW1 RtoS hPR htp
  unfold shv
  go_enter Try.func198, Try.ntmps198
  go_wp2_with fail
  rw [← HW.out] at SG ⊢
  obtain ⟨B, hB⟩ : ∃ B, B = w.heap.size := ⟨_, rfl⟩
  rw [← hB] at HB HBR ⊢
  have HBB := Lib.hid hB
  clear hB
  refine scope_jumps 0 (fun a' w' => ∃ (j g n : Nat) (acc : List Txt), a' = { tmps := List.toArray (ptr R :: a'.tmps.getD 1 undef :: (.pointer (some ⟨P, 0, none⟩)) :: a'.tmps.getD 3 undef :: (.pointer (some ⟨B, 0, none⟩)) :: a'.tmps.getD 5 undef :: a'.tmps.getD 6 undef :: (.int .u64 (n : Nat)) :: (.string (lastOf acc)) :: (.int .i64 (acc.length : Nat)) :: a'.tmps.getD 10 undef :: a'.tmps.getD 11 undef :: a'.tmps.getD 12 undef :: a'.tmps.getD 13 undef :: a'.tmps.getD 14 undef :: a'.tmps.getD 15 undef :: a'.tmps.getD 16 undef :: a'.tmps.getD 17 undef :: a'.tmps.getD 18 undef :: a'.tmps.getD 19 undef :: a'.tmps.getD 20 undef :: a'.tmps.getD 21 undef :: a'.tmps.getD 22 undef :: a'.tmps.getD 23 undef :: a'.tmps.getD 24 undef :: a'.tmps.getD 25 undef :: a'.tmps.getD 26 undef :: a'.tmps.getD 27 undef :: a'.tmps.getD 28 undef :: a'.tmps.getD 29 undef :: a'.tmps.getD 30 undef :: a'.tmps.getD 31 undef :: a'.tmps.getD 32 undef :: a'.tmps.getD 33 undef :: a'.tmps.getD 34 undef :: a'.tmps.getD 35 undef :: a'.tmps.getD 36 undef :: a'.tmps.getD 37 undef :: a'.tmps.getD 38 undef :: a'.tmps.getD 39 undef :: a'.tmps.getD 40 undef :: a'.tmps.getD 41 undef :: a'.tmps.getD 42 undef :: a'.tmps.getD 43 undef :: a'.tmps.getD 44 undef :: a'.tmps.getD 45 undef :: a'.tmps.getD 46 undef :: a'.tmps.getD 47 undef :: a'.tmps.getD 48 undef :: a'.tmps.getD 49 undef :: a'.tmps.getD 50 undef :: a'.tmps.getD 51 undef :: a'.tmps.getD 52 undef :: a'.tmps.getD 53 undef :: a'.tmps.getD 54 undef :: a'.tmps.getD 55 undef :: a'.tmps.getD 56 undef :: a'.tmps.getD 57 undef :: a'.tmps.getD 58 undef :: a'.tmps.getD 59 undef :: a'.tmps.getD 60 undef :: a'.tmps.getD 61 undef :: a'.tmps.getD 62 undef :: a'.tmps.getD 63 undef :: a'.tmps.getD 64 undef :: a'.tmps.getD 65 undef :: a'.tmps.getD 66 undef :: a'.tmps.getD 67 undef :: a'.tmps.getD 68 undef :: a'.tmps.getD 69 undef :: a'.tmps.getD 70 undef :: a'.tmps.getD 71 undef :: a'.tmps.getD 72 undef :: a'.tmps.getD 73 undef :: a'.tmps.getD 74 undef :: a'.tmps.getD 75 undef :: a'.tmps.getD 76 undef :: a'.tmps.getD 77 undef :: a'.tmps.getD 78 undef :: a'.tmps.getD 79 undef :: a'.tmps.getD 80 undef :: a'.tmps.getD 81 undef :: a'.tmps.getD 82 undef :: a'.tmps.getD 83 undef :: a'.tmps.getD 84 undef :: a'.tmps.getD 85 undef :: a'.tmps.getD 86 undef :: a'.tmps.getD 87 undef :: a'.tmps.getD 88 undef :: a'.tmps.getD 89 undef :: a'.tmps.getD 90 undef :: []), defers := [] } ∧ LC (fun q => P ≤ q) w s R B p (f + 1) k n j g acc w' ∧ TP w' P R acc) (fun _ w' => s.size - atOf R w') rfl ?_ ?_
  · rintro a' w' ⟨j, g, n, acc, ha, lc, tp⟩
    obtain ⟨u, ha2⟩ : ∃ u : Nat → Value, a' = { tmps := List.toArray (ptr R :: u 1 :: (.pointer (some ⟨P, 0, none⟩)) :: u 3 :: (.pointer (some ⟨B, 0, none⟩)) :: u 5 :: u 6 :: (.int .u64 (n : Nat)) :: (.string (lastOf acc)) :: (.int .i64 (acc.length : Nat)) :: u 10 :: u 11 :: u 12 :: u 13 :: u 14 :: u 15 :: u 16 :: u 17 :: u 18 :: u 19 :: u 20 :: u 21 :: u 22 :: u 23 :: u 24 :: u 25 :: u 26 :: u 27 :: u 28 :: u 29 :: u 30 :: u 31 :: u 32 :: u 33 :: u 34 :: u 35 :: u 36 :: u 37 :: u 38 :: u 39 :: u 40 :: u 41 :: u 42 :: u 43 :: u 44 :: u 45 :: u 46 :: u 47 :: u 48 :: u 49 :: u 50 :: u 51 :: u 52 :: u 53 :: u 54 :: u 55 :: u 56 :: u 57 :: u 58 :: u 59 :: u 60 :: u 61 :: u 62 :: u 63 :: u 64 :: u 65 :: u 66 :: u 67 :: u 68 :: u 69 :: u 70 :: u 71 :: u 72 :: u 73 :: u 74 :: u 75 :: u 76 :: u 77 :: u 78 :: u 79 :: u 80 :: u 81 :: u 82 :: u 83 :: u 84 :: u 85 :: u 86 :: u 87 :: u 88 :: u 89 :: u 90 :: []), defers := [] } := ⟨fun i => a'.tmps.getD i undef, ha⟩
    clear ha
    subst ha2
    have LCH := Lib.hid lc
    obtain ⟨M1, hrd, hm1⟩ := lc.rs
    have RD1 := Lib.hid hrd
    have y1 : w'.cell? ⟨R, 1, none⟩ = some (.int .i64 j) := cell_of hrd
    obtain ⟨g, rfl⟩ : ∃ g', g = g' + 1 := ⟨g - 1, by have := lc.fuel; omega⟩
    have RC := Lib.hid (IHH.out R j g w' lc.le (by have := lc.ge; have := HN.out; omega) (by have := lc.fuel; omega) lc.rs)
    obtain ⟨q, hq⟩ : ∃ q, q = tmC g (s.data.toList.drop j) := ⟨_, rfl⟩
    rw [← hq] at RC
    have HQ := Lib.hid hq
    have TPH := Lib.hid tp
    clear tp
    clear hrd hm1 lc hq SG
    go_hide hQ
    go_wp2_with fail
    (with_reducible refine RC.out.mono ?_)
    rintro e w3 ⟨o, hr⟩
    have O3 := Lib.hid (LCH.out.only.trans (o.mono RTS.out))
    have TP3 := Lib.hid (TPH.out.keep HPR.out o)
    cases q with
    | none =>
      obtain ⟨v, rfl⟩ := hr
      have HF := Lib.hid (show insC (f + 1) k (s.data.toList.drop p) = none from by rw [LCH.out.eq, noneC HQ.out.symm])
      clear o RC y1
      go_wp2_with fail
      subst hQ
      simp only [Exit.jump]
      exact ⟨rfl, O3.out, by rw [HF.out]; exact ⟨⟨_, rfl⟩, TP3.out.cell⟩⟩
    | some dd =>
      obtain ⟨k1, n1, ps1, rest⟩ := dd
      obtain ⟨rfl, hrs⟩ := hr
      obtain ⟨e1, hlt, hle, ept⟩ := partC LCH.out.le HQ.out.symm
      obtain ⟨jn, hjn⟩ : ∃ x, x = behind s rest := ⟨_, rfl⟩
      rw [← hjn] at e1 hlt hle ept hrs
      obtain ⟨part, hpart⟩ : ∃ x, x = (s.data.toList.drop j).take (jn - j) := ⟨_, rfl⟩
      have ST := Lib.hid (stepC (k := k) (acc := acc) LCH.out.le HQ.out.symm hjn hpart)
      have HJ := Lib.hid (And.intro hjn (And.intro hlt (And.intro hle hpart)))
      have SVE := Lib.hid (show s.extract j jn = ⟨part.toArray⟩ from by
        have := sv_extract s j jn hle
        rw [← hpart] at this
        injection this)
      have RS3 := Lib.hid hrs
      have BX := Lib.hid (LCH.out.box.keepS o (T := fun q => q = R) HBR.out)
      obtain ⟨M3, hrd, hm3⟩ := hrs
      have RD3 := Lib.hid hrd
      have HM3 := Lib.hid hm3
      have y0 : w3.cell? ⟨R, 0, none⟩ = some (.string s) := cell_of hrd
      have y1' : w3.cell? ⟨R, 1, none⟩ = some (.int .i64 jn) := cell_of hrd
      have b1 : (0 : Int) ≤ (j : Int) := by omega
      have b2 : (j : Int) ≤ (jn : Int) := by omega
      have b3 : (jn : Int) ≤ (s.size : Int) := by omega
      clear e1 hlt hle ept hjn hpart hrd hm3 o RC y1
      go_wp2_with fail
      have wl : wrap64 ((acc.length : Int) + 1) = (acc.length : Int) + 1 := IntWalk.wrap64_in _ (by have := LCH.out.cnt; have := LCH.out.le; have := HS.out; omega)
      go_quiet (fail)
      have OW5 : Only (fun q => P ≤ q) w (w3.drewN nq) := O3.out.drewN nq
      have RD5 := Lib.hid (show Rd (w3.drewN nq) R s jn M3 from RD3.out)
      have HM5 := Lib.hid (show M3 = Value.map none ∨ ∃ b, M3 = Value.map (some b) ∧ (w3.drewN nq).heap[b]? = some (Obj.map table 7) from HM3.out)
      have BX5 := Lib.hid (show Box6 (w3.drewN nq) B k from BX.out)
      have O5 := Lib.hid OW5
      have TP5 := Lib.hid (TP3.out.keep0 ((Only.refl (fun _ => False) w3).drewN nq))
      clear OW5 y0 y1' b1 b2 b3
      generalize w3.drewN nq = W5 at RD5 HM5 BX5 O5 TP5 ⊢
      have KQ := Lib.hid (show k ≠ 6 from by have := K6.out; simpa using this)
      obtain ⟨-, -, -, -, -, c5⟩ := BX5.out.cells
      rw [K6.out] at c5
      obtain ⟨tv, tg, tcp, w9, tc, trun, tfz, tce, tput, trd, thm, tbx, ton⟩ := TP5.out.put (part := part) HPR.out RD5.out HM5.out BX5.out (by have := LCH.out.cnt; have := LCH.out.le; have := HS.out; omega)
      rw [show sv part = .string (s.extract j jn) from by rw [SVE.out]; rfl] at trun
      have RDx := Lib.hid trd
      have HMx := Lib.hid thm
      have BXx := Lib.hid tbx
      have Ox := Lib.hid (ton w O5.out)
      have TPx := Lib.hid tput
      have trun9 := trun
      clear trd thm tbx ton tput trun
      obtain ⟨c0, c1, -, -, -, -⟩ := BXx.out.cells
      have NXC := Lib.hid (next_lit 44 44 rfl R s jn M3 (w9.setCell ⟨P, 0, none⟩ (.slice (some ⟨tg, 0, none⟩) (acc.length + 1 : Nat) tcp)) (by have := HS.out; omega) HJ.out.2.2.1 RDx.out (by decide))
      by_cases hmo : acc.length + 1 < mostk k
      · have m1 : ((acc.length : Int) + 1 < (mostk k : Int)) = True := eq_true (by omega)
        have HMO := Lib.hid hmo
        clear hmo
        go_wp2_with (at_builtin; refine Lib.wpList_append_run _ rfl (.tmp 66) (.tmp 68) 25 25 rfl _ _ rfl rfl _ _ trun9 ?_)
        (with_reducible refine NXC.out.mono ?_)
        cases h44 : (cb s jn == 44)
        · rintro e w6 ⟨rfl, hr6, o6, o6'⟩
          have h44' : ¬ cb s jn = 44 := by simpa using h44
          have H44 := Lib.hid h44'
          have RD6 := Lib.hid hr6
          have O6 := Lib.hid (Ox.out.trans (o6.mono RTS.out))
          have HM6 := Lib.hid (show M3 = Value.map none ∨ ∃ b, M3 = Value.map (some b) ∧ w6.heap[b]? = some (Obj.map table 7) from by
            rcases HMx.out with h | ⟨b, h, h3⟩
            · exact .inl h
            · exact .inr ⟨b, h, (o6' rfl).keep h3 id⟩)
          have BX6 := Lib.hid (BXx.out.keepS (o6' rfl) id)
          have TP6 := Lib.hid (TPx.out.keep0 (o6' rfl))
          clear c0 c1 c5
          obtain ⟨c0, c1, -, -, -, -⟩ := BX6.out.cells
          clear h44 h44' o6 o6' hr6 NXC
          by_cases hle : acc.length + 1 < least k
          · have z1 : ((acc.length : Int) + 1 < (least k : Int)) = True := eq_true (by omega)
            have HF := Lib.hid (show insC (f + 1) k (s.data.toList.drop p) = none from by
              rw [LCH.out.eq, ST.out, if_neg (fun q => KQ.out q.1), if_neg (fun q => H44.out q.2), if_pos hle])
            clear hle
            go_wp2_with fail
            subst hQ
            simp only [Exit.jump]
            exact ⟨rfl, O6.out, by rw [HF.out]; exact ⟨⟨_, rfl⟩, TP6.out.cell⟩⟩
          have z1 : ((acc.length : Int) + 1 < (least k : Int)) = False := eq_false (by omega)
          have SGN := Lib.hid (sign_lit 41 41 rfl R s jn M3 w6 (by have := HS.out; omega) HJ.out.2.2.1 RD6.out (by decide))
          have HL2 := Lib.hid hle
          clear hle
          go_wp2_with fail
          (with_reducible refine SGN.out.mono ?_)
          cases h41 : (cb s jn == 41)
          · rintro e w7 ⟨o7, v, rfl⟩
            have HF := Lib.hid (show insC (f + 1) k (s.data.toList.drop p) = none from by
              rw [LCH.out.eq, ST.out, if_neg (fun q => KQ.out q.1), if_neg (fun q => H44.out q.2), if_neg HL2.out, if_neg (by simpa using h41)])
            have HO7 := Lib.hid (O6.out.trans (o7.mono RTS.out))
            have T7 := Lib.hid (TP6.out.keep HPR.out o7)
            clear h41 o7 SGN
            go_wp2_with fail
            subst hQ
            simp only [Exit.jump]
            exact ⟨rfl, HO7.out, by rw [HF.out]; exact ⟨⟨_, rfl⟩, T7.out.cell⟩⟩
          · rintro e w7 ⟨o7, rfl, hr7⟩
            have h41' : cb s jn = 41 := by simpa using h41
            have HF := Lib.hid (show insC (f + 1) k (s.data.toList.drop p) = some (n, acc ++ [part], s.data.toList.drop (jn + 1)) from by
              rw [LCH.out.eq, ST.out, if_neg (fun q => KQ.out q.1), if_neg (fun q => H44.out q.2), if_neg HL2.out, if_pos h41'])
            have HO7 := Lib.hid (O6.out.trans (o7.mono RTS.out))
            have R7 := Lib.hid (show RS w7 R s (behind s (s.data.toList.drop (jn + 1))) from by
              rw [behind, List.length_drop, tl_size, show s.size - (s.size - (jn + 1)) = jn + 1 by have := cb_lt (by decide) h41'; omega]
              exact RS.move HM6.out RD6.out o7 hr7)
            have T7 := Lib.hid (TP6.out.keep HPR.out o7)
            clear h41 h41' o7 hr7 SGN
            go_wp2_with fail
            subst hQ
            simp only [Exit.jump]
            go_ret
            exact ⟨HO7.out, by rw [HF.out]; exact ⟨rfl, R7.out, T7.out⟩⟩
        · rintro e w6 ⟨rfl, hr6, o6, -⟩
          have h44' : cb s jn = 44 := by simpa using h44
          have NX6 := Lib.hid (show LC (fun q => P ≤ q) w s R B p (f + 1) k n (jn + 1) g (acc ++ [part]) w6 from
            ⟨RS.move HMx.out RDx.out o6 hr6, cb_lt (by decide) h44', by have := LCH.out.ge; have := HJ.out.2.1; omega, by
              rw [LCH.out.eq, ST.out, if_neg (fun q => KQ.out q.1), if_pos ⟨HMO.out, h44'⟩], by have := LCH.out.fuel; have := HJ.out.2.1; have := HJ.out.2.2.1; omega,
              by have := LCH.out.cnt; have := HJ.out.2.1; simp; omega, by simpa using HMO.out, BXx.out.keepS o6 HBR.out, Ox.out.trans (o6.mono RTS.out)⟩)
          have TP6 := Lib.hid (TPx.out.keep HPR.out o6)
          have HLA := Lib.hid (show (⟨part.toArray⟩ : ByteArray) = lastOf (acc ++ [part]) from by simp [lastOf])
          clear h44 h44' o6 hr6 NXC
          go_wp2_with fail
          go_step3
          subst hQ
          have HLEN : ((acc.length : Int) + 1) = (((acc ++ [part]).length : Nat) : Int) := by simp
          rw [SVE.out, HLA.out, HLEN]
          refine ⟨rfl, ⟨jn + 1, g, n, acc ++ [part], rfl, NX6.out, TP6.out⟩, ?_⟩
          show s.size - atOf R w6 < s.size - atOf R w'
          rw [atOf_rs LCH.out.rs, atOf_rs NX6.out.rs]
          have := HJ.out.2.1
          have := NX6.out.le
          omega
      · have m1 : ((acc.length : Int) + 1 < (mostk k : Int)) = False := eq_false (by omega)
        have m2 : ((mostk k : Int) ≤ (acc.length : Int) + 1) := by omega
        have HMO := Lib.hid hmo
        clear hmo
        by_cases hle : acc.length + 1 < least k
        · have z1 : ((acc.length : Int) + 1 < (least k : Int)) = True := eq_true (by omega)
          have HF := Lib.hid (show insC (f + 1) k (s.data.toList.drop p) = none from by
            rw [LCH.out.eq, ST.out, if_neg (fun q => KQ.out q.1), if_neg (fun q => HMO.out q.1), if_pos hle])
          clear hle
          go_wp2_with (at_builtin; refine Lib.wpList_append_run _ rfl (.tmp 66) (.tmp 68) 25 25 rfl _ _ rfl rfl _ _ trun9 ?_)
          subst hQ
          simp only [Exit.jump]
          exact ⟨rfl, Ox.out, by rw [HF.out]; exact ⟨⟨_, rfl⟩, TPx.out.cell⟩⟩
        have z1 : ((acc.length : Int) + 1 < (least k : Int)) = False := eq_false (by omega)
        have SGN := Lib.hid (sign_lit 41 41 rfl R s jn M3 (w9.setCell ⟨P, 0, none⟩ (.slice (some ⟨tg, 0, none⟩) (acc.length + 1 : Nat) tcp)) (by have := HS.out; omega) HJ.out.2.2.1 RDx.out (by decide))
        have HL2 := Lib.hid hle
        clear hle
        go_wp2_with (at_builtin; refine Lib.wpList_append_run _ rfl (.tmp 66) (.tmp 68) 25 25 rfl _ _ rfl rfl _ _ trun9 ?_)
        (with_reducible refine SGN.out.mono ?_)
        cases h41 : (cb s jn == 41)
        · rintro e w7 ⟨o7, v, rfl⟩
          have HF := Lib.hid (show insC (f + 1) k (s.data.toList.drop p) = none from by
            rw [LCH.out.eq, ST.out, if_neg (fun q => KQ.out q.1), if_neg (fun q => HMO.out q.1), if_neg HL2.out, if_neg (by simpa using h41)])
          have HO7 := Lib.hid (Ox.out.trans (o7.mono RTS.out))
          have T7 := Lib.hid (TPx.out.keep HPR.out o7)
          clear h41 o7 SGN
          go_wp2_with fail
          subst hQ
          simp only [Exit.jump]
          exact ⟨rfl, HO7.out, by rw [HF.out]; exact ⟨⟨_, rfl⟩, T7.out.cell⟩⟩
        · rintro e w7 ⟨o7, rfl, hr7⟩
          have h41' : cb s jn = 41 := by simpa using h41
          have HF := Lib.hid (show insC (f + 1) k (s.data.toList.drop p) = some (n, acc ++ [part], s.data.toList.drop (jn + 1)) from by
            rw [LCH.out.eq, ST.out, if_neg (fun q => KQ.out q.1), if_neg (fun q => HMO.out q.1), if_neg HL2.out, if_pos h41'])
          have HO7 := Lib.hid (Ox.out.trans (o7.mono RTS.out))
          have R7 := Lib.hid (show RS w7 R s (behind s (s.data.toList.drop (jn + 1))) from by
            rw [behind, List.length_drop, tl_size, show s.size - (s.size - (jn + 1)) = jn + 1 by have := cb_lt (by decide) h41'; omega]
            exact RS.move HMx.out RDx.out o7 hr7)
          have T7 := Lib.hid (TPx.out.keep HPR.out o7)
          clear h41 h41' o7 hr7 SGN
          go_wp2_with fail
          subst hQ
          simp only [Exit.jump]
          go_ret
          exact ⟨HO7.out, by rw [HF.out]; exact ⟨rfl, R7.out, T7.out⟩⟩
  · intro hrest
    have HRE := Lib.hid hrest
    clear hrest
    go_wp2_with fail
    (with_reducible refine SG.out.mono ?_)
    cases hc : (cb s p == 40)
    · rintro e w2 ⟨o, v, rfl⟩
      have HF := Lib.hid (ins_no (f := f + 1) (k := k) hc)
      have HO := Lib.hid (O1.out.trans (o.mono RTS.out))
      have T2 := Lib.hid (HT1.out.keep HPR.out o)
      clear o hc SG
      go_wp2_with fail
      exact ⟨rfl, HO.out, by rw [HF.out]; exact ⟨⟨_, rfl⟩, T2.out.cell⟩⟩
    · rintro e w2 ⟨o, rfl, hr⟩
      obtain ⟨_, hlt⟩ := head_of hc
      have HY := Lib.hid (ins_yes (f := f) (k := k) hc)
      have HLT := Lib.hid hlt
      have HO := Lib.hid (O1.out.trans (o.mono RTS.out))
      have H2 := Lib.hid (RS.move HM2.out HR.out o hr)
      have RD2 := Lib.hid hr
      have HMM := Lib.hid (show M = Value.map none ∨ ∃ b, M = Value.map (some b) ∧ w2.heap[b]? = some (Obj.map table 7) from by
        obtain ⟨M', q1, q2⟩ := H2.out
        have e := hr.symm.trans q1
        injection e with e
        injection e with e
        injection e with e
        injection e with e e'
        injection e' with e' e''
        injection e'' with e''
        rw [e'']
        exact q2)
      have B6 := Lib.hid (HB.out.keepS o (T := fun q => q = R) HBR.out)
      have T2 := Lib.hid (HT1.out.keep HPR.out o)
      obtain ⟨c0, c1, c2, c3, c4, c5⟩ := B6.out.cells
      rw [KN.out] at c2
      rw [K6.out] at c5
      have kl := KL.out
      clear o hr hlt hc SG
      have NX1 := Lib.hid (next_lit 41 41 rfl R s (p + 1) M w2 (by have := HS.out; omega) HLT.out RD2.out (by decide))
      go_wp2_with fail
      (with_reducible refine NX1.out.mono ?_)
      cases h41 : (cb s (p + 1) == 41)
      · rintro e w6 ⟨rfl, hr6, o6, o6'⟩
        have h41' : ¬ cb s (p + 1) = 41 := by simpa using h41
        have H41 := Lib.hid h41'
        have B66 := Lib.hid (B6.out.keepS (o6' rfl) id)
        have H6 := Lib.hid (H2.out.keep (o6' rfl))
        have HO6 := Lib.hid (HO.out.trans (o6.mono RTS.out))
        have T6 := Lib.hid (T2.out.keep0 (o6' rfl))
        clear h41 h41' o6 o6' hr6 NX1 c0 c1 c2 c3 c4 c5
        go_wp2_with fail
        go_step3
        go_step
        go_step
        refine HRE.out _ _ ⟨p + 1, f, 0, [], rfl, ⟨H6.out, HLT.out, Nat.le_refl _, ?_, by have := HFu.out; have := HLT.out; omega, Nat.zero_le _, by obtain rfl := H5.out <;> decide, B66.out, HO6.out⟩, T6.out⟩
        rw [HY.out, headOf, if_neg (by rw [KN.out]; decide)]
        simp only
        rw [if_neg (fun q => H41.out ((drop_head s (p + 1) 41 (by decide)).1 q.2))]
      · rintro e w6 ⟨rfl, hr6, o6, -⟩
        have h41' : cb s (p + 1) = 41 := by simpa using h41
        have HF := Lib.hid (show insC (f + 1) k (s.data.toList.drop p) = some (0, [], s.data.toList.drop (p + 2)) from by
          rw [HY.out, headOf, if_neg (by rw [KN.out]; decide)]
          simp only
          rw [if_pos ⟨H5.out, (drop_head s (p + 1) 41 (by decide)).2 h41'⟩, List.tail_drop])
        have HO6 := Lib.hid (HO.out.trans (o6.mono RTS.out))
        have R6 := Lib.hid (show RS w6 R s (behind s (s.data.toList.drop (p + 2))) from by
          rw [behind, List.length_drop, tl_size, show s.size - (s.size - (p + 2)) = p + 2 by have := cb_lt (by decide) h41'; omega]
          exact RS.move HMM.out RD2.out o6 hr6)
        have T6 := Lib.hid (T2.out.keep HPR.out o6)
        clear h41 h41' o6 hr6 NX1 c0 c1 c2 c3 c4 c5
        go_wp2_with fail
        go_ret
        exact ⟨HO6.out, by rw [HF.out]; exact ⟨rfl, R6.out, T6.out⟩⟩

end Go.Proofs.Ytbjnejnjlidiaaa.prD
