/- sky: At. -/
import Derived.Test.YtklcanjlkmkmmaaSkyQ
import Derived.Laws.ResultCell
namespace Go.Proofs.Ytklcanjlkmkmmaa.skyT
open Go.RowKit Go.Lib Go.Proofs.Ytklcanjlkmkmmaa.kit Go.Proofs.Ytklcanjlkmkmmaa.floA Go.Proofs.Ytklcanjlkmkmmaa.skyA Go.Proofs.Ytklcanjlkmkmmaa.skyB Go.Proofs.Ytklcanjlkmkmmaa.skyC Go.Proofs.Ytklcanjlkmkmmaa.skyD Go.Proofs.Ytklcanjlkmkmmaa.skyE Go.Proofs.Ytklcanjlkmkmmaa.skyF Go.Proofs.Ytklcanjlkmkmmaa.skyG Go.Proofs.Ytklcanjlkmkmmaa.skyH Go.Proofs.Ytklcanjlkmkmmaa.skyI Go.Proofs.Ytklcanjlkmkmmaa.skyJ Go.Proofs.Ytklcanjlkmkmmaa.skyO Go.Proofs.Ytklcanjlkmkmmaa.skyP Go.Proofs.Ytklcanjlkmkmmaa.skyQ
set_option linter.unusedVariables false
set_option linter.unusedSimpArgs false

theorem res2 {fn : Func} {P : Program} {p u : Tmp} {ty : TypeId} (h : fn.results = #[.cell p ty, .tmp u]) (tmps : Array Value) (w : World) (g : Nat) (t : TypeId) (cs : Array Value) (fr : Nat × Nat) (d : TypeDesc)
    (hp : tmps.getD p undef = .pointer (some ⟨g, 0, none⟩)) (hg : w.heap[g]? = some (.cells cs t fr))
    (hu : P.underlying ty = some d) (hd : (match d with | .struct _ | .array _ _ => true | _ => false) = true) (hi : (P.info? ty).map (·.size) = some cs.size) :
    (results fn tmps).run P w = .ok (.tuple #[.agg cs, tmps.getD u undef]) w := by
  have hp' : tmps[p]?.getD undef = .pointer (some ⟨g, 0, none⟩) := by simpa using hp
  rw [results_cell_tmp h]
  simp [hp', asAddr, run_loadVar_row w g t ty cs fr d hg hu hd hi, Result.andThen]

/-- Where nothing is left it stays. -/
theorem pX_stay {x : Int} {l : List Leg3} {t : Int} {n k : Nat} (h : pos l n) (h0 : rem l t k = 0) : ∀ {m : Nat}, k ≤ m → m ≤ n → rem l t m = 0 ∧ pX x l t m = pX x l t k := by
  intro m hk
  induction hk with
  | refl => intro _; exact ⟨h0, rfl⟩
  | @step m hm ih =>
    intro hmn
    obtain ⟨h1, h2⟩ := ih (by omega)
    have := h m (by omega)
    have e : min (ls l m) (rem l t m) = 0 := by omega
    rw [rem, pX, e, h1, h2]
    simp

theorem pY_stay {y : Int} {l : List Leg3} {t : Int} {n k : Nat} (h : pos l n) (h0 : rem l t k = 0) : ∀ {m : Nat}, k ≤ m → m ≤ n → pY y l t m = pY y l t k := by
  intro m hk
  induction hk with
  | refl => intro _; rfl
  | @step m hm ih =>
    intro hmn
    have h2 := ih (by omega)
    have h1 := (pX_stay (x := 0) h h0 hm (by omega)).1
    have := h m (by omega)
    have e : min (ls l m) (rem l t m) = 0 := by omega
    rw [pY, e, h2]
    simp

theorem mids {x y : Int} (h : inP 16777216 x y = true) : Mid x ∧ Mid y := by
  have := inP_iff.1 h
  exact ⟨⟨this.1, this.2.1⟩, this.2.2⟩

/-- The legs behind the first one. -/
theorem slice1 (b off m C : Nat) : ∃ a2, (∀ w, (Instr.sliceAt 51 (.slice (some ⟨b, off, none⟩) (m + 1) C) (some (.int .i64 1)) none none).run Try.prog w = .ok (.slice a2 m (C - 1)) w) ∧ (C ≠ 1 → a2 = some ⟨b, off + 3, none⟩) := by
  have he : Try.prog.underlying 51 = some (.slice (Try.prog.elem 51)) := by kernel_rfl
  have hs : (Try.prog.info? (Try.prog.elem 51)).map (fun i => i.size) = some 3 := by kernel_rfl
  obtain ⟨i, hi, hz⟩ := Option.map_eq_some_iff.1 hs
  refine ⟨if C = 1 then some ⟨b, off, none⟩ else some ⟨b, off + 3, none⟩, fun w => ?_, fun h => by rw [if_neg h]⟩
  rw [run_sliceAt_slice (P := Try.prog) w 51 _ _ _ _ he, run_slice_l (P := Try.prog) w 51 _ _ _ he .i64 1 (by decide) (by omega)]
  by_cases hC : C = 1
  · simp [sizeOf, typeInfo, hi, hz, sliced, hC]
  · simp [sizeOf, typeInfo, hi, hz, sliced, hC, Addr.add_lit]

theorem at_form (x y : Int) (a : Option Addr) (cap : Nat) (l : List Leg3) (t : Int) (w : World) (h : Lgs w a l) (hl : l.length ≤ 1000) (hr : routeOk x y l = false) :
    Calls Try.prog 19 #[rt x y a l.length cap, .int .i64 t] w fun e w' => e = .returned (.tuple #[pt 0 0, .int .i64 3]) ∧ Only (fun _ => False) w w' := by
  have o1 : Only (fun _ => False) w ((w.alloc (.cells #[.int .i64 x, .int .i64 y, .slice a l.length cap] 53)).alloc (.cells #[.int .i64 0, .int .i64 0] 50)) := ((Only.refl _ w).alloc _).alloc _
  have hB := heap_alloc_new (w.alloc (.cells #[.int .i64 x, .int .i64 y, .slice a l.length cap] 53)) (.cells #[.int .i64 0, .int .i64 0] 50)
  rw [World.size_alloc] at hB
  have HR := Lib.hid (routeright_any x y a cap l _ (h.keep o1) hl)
  have HB := Lib.hid (show Box _ (w.heap.size + 1) 0 0 50 from hB)
  have HBR := Lib.hid (show BoxR ((w.alloc (.cells #[.int .i64 x, .int .i64 y, .slice a l.length cap] 53)).alloc (.cells #[.int .i64 0, .int .i64 0] 50)) w.heap.size x y (.slice a l.length cap) from (Below.heap_alloc _ _ _ (by simp)).trans (heap_alloc_new w _))
  have O1 := Lib.hid o1
  rw [hr] at HR
  clear h hr o1 hl hB
  go_enter Try.func19, Try.ntmps19
  go_wp2_with fail
  generalize (w.alloc (.cells #[.int .i64 x, .int .i64 y, .slice a l.length cap] 53)).alloc (.cells #[.int .i64 0, .int .i64 0] 50) = W1 at HR HB HBR O1 ⊢
  generalize hBB : w.heap.size = B at HB HBR ⊢
  have HBw := Lib.hid hBB
  clear hBB
  obtain ⟨d0, d1, d2⟩ := HBR.out.cells
  go_step3
  go_wp2_with fail
  with_reducible refine HR.out.mono ?_
  rintro e w2 ⟨rfl, o⟩
  have O2 := Lib.hid (O1.out.trans o)
  have HB2 := Lib.hid (HB.out.keep o)
  clear o HR d0 d1 d2
  obtain ⟨c0, c1⟩ := HB2.out.cells
  have f0 := free_of (o := 0) HB2.out
  have f1 := free_of (o := 1) HB2.out
  have BN := Lib.hid (skyE.Box.put HB2.out (x' := 0) (y' := 0))
  have ON := Lib.hid (only_setNew (only_setNew O2.out (b := B + 1) (o := 0) (v := .int .i64 0) (by rw [HBw.out]; omega)) (b := B + 1) (o := 1) (v := .int .i64 0) (by rw [HBw.out]; omega))
  go_wp2_with fail
  simp only [Exit.noGoto]
  exact bodyPost_ret (res2 (p := 4) (u := 5) (ty := 50) Try.results19 _ _ (B + 1) 50 _ (0, 0) _ rfl BN.out Try.underlying50 rfl (by kernel_rfl)) rfl ⟨rfl, ON.out⟩

theorem at_arg (x y : Int) (a : Option Addr) (cap : Nat) (l : List Leg3) (t : Int) (w : World) (h : Lgs w a l) (hr : routeOk x y l = true) (ht : t < 0) :
    Calls Try.prog 19 #[rt x y a l.length cap, .int .i64 t] w fun e w' => e = .returned (.tuple #[pt 0 0, .int .i64 2]) ∧ Only (fun _ => False) w w' := by
  have o1 : Only (fun _ => False) w ((w.alloc (.cells #[.int .i64 x, .int .i64 y, .slice a l.length cap] 53)).alloc (.cells #[.int .i64 0, .int .i64 0] 50)) := ((Only.refl _ w).alloc _).alloc _
  have hB := heap_alloc_new (w.alloc (.cells #[.int .i64 x, .int .i64 y, .slice a l.length cap] 53)) (.cells #[.int .i64 0, .int .i64 0] 50)
  rw [World.size_alloc] at hB
  have HR := Lib.hid (routeright_any x y a cap l _ (h.keep o1) (by have := (route_parts hr).2.1; omega))
  have HB := Lib.hid (show Box _ (w.heap.size + 1) 0 0 50 from hB)
  have HBR := Lib.hid (show BoxR ((w.alloc (.cells #[.int .i64 x, .int .i64 y, .slice a l.length cap] 53)).alloc (.cells #[.int .i64 0, .int .i64 0] 50)) w.heap.size x y (.slice a l.length cap) from (Below.heap_alloc _ _ _ (by simp)).trans (heap_alloc_new w _))
  have O1 := Lib.hid o1
  have t0 : (t < 0) = True := eq_true ht
  rw [hr] at HR
  clear h hr o1 hB ht
  go_enter Try.func19, Try.ntmps19
  go_wp2_with fail
  generalize (w.alloc (.cells #[.int .i64 x, .int .i64 y, .slice a l.length cap] 53)).alloc (.cells #[.int .i64 0, .int .i64 0] 50) = W1 at HR HB HBR O1 ⊢
  generalize hBB : w.heap.size = B at HB HBR ⊢
  have HBw := Lib.hid hBB
  clear hBB
  obtain ⟨d0, d1, d2⟩ := HBR.out.cells
  go_step3
  go_wp2_with fail
  with_reducible refine HR.out.mono ?_
  rintro e w2 ⟨rfl, o⟩
  have O2 := Lib.hid (O1.out.trans o)
  have HB2 := Lib.hid (HB.out.keep o)
  clear o HR d0 d1 d2
  obtain ⟨c0, c1⟩ := HB2.out.cells
  have f0 := free_of (o := 0) HB2.out
  have f1 := free_of (o := 1) HB2.out
  have BN := Lib.hid (skyE.Box.put HB2.out (x' := 0) (y' := 0))
  have ON := Lib.hid (only_setNew (only_setNew O2.out (b := B + 1) (o := 0) (v := .int .i64 0) (by rw [HBw.out]; omega)) (b := B + 1) (o := 1) (v := .int .i64 0) (by rw [HBw.out]; omega))
  go_wp2_with fail
  simp only [Exit.noGoto]
  exact bodyPost_ret (res2 (p := 4) (u := 5) (ty := 50) Try.results19 _ _ (B + 1) 50 _ (0, 0) _ rfl BN.out Try.underlying50 rfl (by kernel_rfl)) rfl ⟨rfl, ON.out⟩

set_option maxHeartbeats 1600000 in
theorem at_good (x y : Int) (a : Option Addr) (cap : Nat) (l : List Leg3) (t : Int) (w : World) (h : Lgs w a l) (hc : l.length ≤ cap) (hr : routeOk x y l = true) (h0 : 0 ≤ t) (h63 : t ≤ 9223372036854775807) :
    Calls Try.prog 19 #[rt x y a l.length cap, .int .i64 t] w fun e w' => e = .returned (.tuple #[pt (posX x l t) (posY y l t), .int .i64 0]) ∧ Only (fun _ => False) w w' := by
  obtain ⟨hi, h64, hok⟩ := route_parts hr
  have o1 : Only (fun _ => False) w ((w.alloc (.cells #[.int .i64 x, .int .i64 y, .slice a l.length cap] 53)).alloc (.cells #[.int .i64 0, .int .i64 0] 50)) := ((Only.refl _ w).alloc _).alloc _
  have hB := heap_alloc_new (w.alloc (.cells #[.int .i64 x, .int .i64 y, .slice a l.length cap] 53)) (.cells #[.int .i64 0, .int .i64 0] 50)
  rw [World.size_alloc] at hB
  have HR := Lib.hid (routeright_any x y a cap l _ (h.keep o1) (by omega))
  have HB := Lib.hid (show Box _ (w.heap.size + 1) 0 0 50 from hB)
  have HBR := Lib.hid (show BoxR ((w.alloc (.cells #[.int .i64 x, .int .i64 y, .slice a l.length cap] 53)).alloc (.cells #[.int .i64 0, .int .i64 0] 50)) w.heap.size x y (.slice a l.length cap) from (Below.heap_alloc _ _ _ (by simp)).trans (heap_alloc_new w _))
  have O1 := Lib.hid o1
  rw [hr] at HR
  have HP := Lib.hid (h.keep o1)
  have HI := Lib.hid (And.intro hi (And.intro h64 (And.intro hok (And.intro h0 h63))))
  have HC := Lib.hid hc
  have t0 : (t < 0) = False := eq_false (by omega)
  have HD := Lib.hid (number_det x y)
  clear h hr o1 hB hi h64 hok h0 h63 hc
  go_enter Try.func19, Try.ntmps19
  go_wp2_with fail
  generalize (w.alloc (.cells #[.int .i64 x, .int .i64 y, .slice a l.length cap] 53)).alloc (.cells #[.int .i64 0, .int .i64 0] 50) = W1 at HR HB HBR HP O1 ⊢
  generalize hBB : w.heap.size = B at HB HBR ⊢
  have HBw := Lib.hid hBB
  clear hBB
  obtain ⟨d0, d1, d2⟩ := HBR.out.cells
  refine scope_jumps 0 (fun a' w' => ∃ (k c d : Nat) (aa : Option Addr) (r : Int) (v' sl q8 q21 q22 q23 q24 q25 q26 q27 q28 q29 q30 q31 q32 q33 q34 q35 q36 q37 q38 q39 q40 q41 q42 q43 q44 q45 q46 : Value), a' = { tmps := #[rt x y a l.length cap, .int .i64 r, .pointer (some ⟨B, 0, none⟩), undef, .pointer (some ⟨B + 1, 0, none⟩), .int .i64 0, v', sl, q8, .agg #[.int .i64 x, .int .i64 y, .slice a l.length cap], .bool true, .bool false, undef, .int .i64 t, .bool false, undef, .pointer (some ⟨B, 0, none⟩), .agg #[.int .i64 x, .int .i64 y], .complex .f64 (fl x) (fl y), .pointer (some ⟨B, 2, none⟩), .slice a l.length cap, q21, q22, q23, q24, q25, q26, q27, q28, q29, q30, q31, q32, q33, q34, q35, q36, q37, q38, q39, q40, q41, q42, q43, q44, q45, q46], defers := [] } ∧ k ≤ l.length ∧ r = rem l t k ∧ v' = .complex .f64 c d ∧ Fl c (pX x l t k) ∧ Fl d (pY y l t k) ∧ sl = .slice aa (l.length - k) (cap - k) ∧ (k < l.length → ∃ b o, a = some ⟨b, o, none⟩ ∧ aa = some ⟨b, o + k * 3, none⟩) ∧ Box w' (B + 1) 0 0 50 ∧ Only (fun _ => False) W1 w') (fun a' w' => match a'.tmps.getD 7 undef with | .slice _ n _ => n | _ => 0) rfl ?_ ?_
  · rintro a' w' ⟨k, c, d, aa, r, v', sl, q8, q21, q22, q23, q24, q25, q26, q27, q28, q29, q30, q31, q32, q33, q34, q35, q36, q37, q38, q39, q40, q41, q42, q43, q44, q45, q46, rfl, hk, hr, rfl, fc, fd, rfl, ha, hb, o⟩
    have FF := Lib.hid (And.intro fc fd)
    have HR0 := Lib.hid hr
    have HA := Lib.hid ha
    have BX := Lib.hid hb
    have O := Lib.hid o
    have M := Lib.hid (pmid HI.out.1 HI.out.2.2.1 HI.out.2.2.2.1 (k := k) hk)
    clear fc fd hr ha hb o
    go_hide hQ
    by_cases hlt : k < l.length
    · obtain ⟨b, off, rfl, rfl⟩ := HA.out hlt
      obtain ⟨m, hm⟩ : ∃ m, l.length - k = m + 1 := ⟨l.length - k - 1, by omega⟩
      obtain ⟨C, hC⟩ : ∃ C, C = cap - k := ⟨_, rfl⟩
      have hC1 : m + 1 ≤ C := by have := HC.out; omega
      rw [hm, ← hC]
      have b1 : (((m + 1 : Nat) : Int) == 0) = false := beq_false_of_ne (by omega)
      have b1' : ((m : Int) + 1 == 0) = false := beq_false_of_ne (by omega)
      by_cases hz : r = 0
      · subst hz
        have FIN := Lib.hid (And.intro (pX_stay (x := x) (pos_of HI.out.2.2.1) HR0.out.symm hk (Nat.le_refl _)).2 (pY_stay (y := y) (pos_of HI.out.2.2.1) HR0.out.symm hk (Nat.le_refl _)))
        clear hm hC hC1
        have HPt := Lib.hid (point_any c d (pX x l t k) (pY y l t k) FF.out.1 FF.out.2 (by have := M.out.1; omega) (by have := M.out.2; omega))
        go_wp2_with fail
        with_reducible refine (HPt.out _).mono ?_
        rintro e w2 ⟨rfl, o⟩
        have O2 := Lib.hid (O.out.trans o)
        have HB2 := Lib.hid (BX.out.keep o)
        clear o
        obtain ⟨c0, c1⟩ := HB2.out.cells
        have f0 := free_of (o := 0) HB2.out
        have f1 := free_of (o := 1) HB2.out
        have BN := Lib.hid (skyE.Box.put HB2.out (x' := pX x l t k) (y' := pY y l t k))
        have ON := Lib.hid (only_setNew (only_setNew (O1.out.trans O2.out) (b := B + 1) (o := 0) (v := .int .i64 (pX x l t k)) (by rw [HBw.out]; omega)) (b := B + 1) (o := 1) (v := .int .i64 (pY y l t k)) (by rw [HBw.out]; omega))
        go_wp2_with fail
        subst hQ
        simp only [Exit.jump]
        exact bodyPost_ret (res2 (p := 4) (u := 5) (ty := 50) Try.results19 _ _ (B + 1) 50 _ (0, 0) _ rfl BN.out Try.underlying50 rfl (by kernel_rfl)) rfl ⟨by rw [← FIN.out.1, ← FIN.out.2]; rfl, ON.out⟩

      · have b2 : (r == 0) = false := beq_false_of_ne hz
        obtain ⟨b', off', e, _, c0, c1, c2⟩ := (HP.out.keep O.out).at hlt
        injection e with e
        injection e with e1 e2
        subst e1 e2
        have hq := legOk_iff.1 (legs_ok HI.out.2.2.1 k hlt)
        have hrm := rem_in HI.out.2.2.2.1 (l := l) (k := k) (fun i hi => pos_of HI.out.2.2.1 i (by omega))
        rw [← HR0.out] at hrm
        obtain ⟨n, hn⟩ : ∃ n, n = min (ls l k) r := ⟨_, rfl⟩
        have hn0 : 0 ≤ n ∧ n ≤ 10000 ∧ n ≤ r := by omega
        have f1 : (if ls l k < r then ls l k else r) = n := by rw [hn]; split <;> omega
        have eX : pX x l t (k + 1) = pX x l t k + lx l k * n := by rw [hn, HR0.out]; rfl
        have eY : pY y l t (k + 1) = pY y l t k + ly l k * n := by rw [hn, HR0.out]; rfl
        have eR : rem l t (k + 1) = r - n := by rw [hn, HR0.out]; rfl
        have EE := Lib.hid (And.intro eX (And.intro eY eR))
        have HAf := Lib.hid (after_any (lx l k) (ly l k) (ls l k) n (pX x l t k) (pY y l t k) c d FF.out.1 FF.out.2 M.out.1 M.out.2 ⟨hq.1.1, hq.1.2.1⟩ hq.1.2.2 ⟨hn0.1, hn0.2.1⟩)
        have hw := wrap_rem hrm ⟨hn0.1, hn0.2.2⟩ HI.out.2.2.2.2
        obtain ⟨a2, hsl, ha2⟩ := slice1 b (off + k * 3) m C
        have HS := Lib.hid (And.intro hm (And.intro hC (And.intro hC1 ha2)))
        have i0 : (0 : Int) < ((m + 1 : Nat) : Int) := by omega
        have i1 : (0 : Int) < (m : Int) + 1 := by omega
        have i2 : 0 < m + 1 := by omega
        have HQn := Lib.hid (And.intro hlt hk)
        clear hq hrm hn hn0 eX eY eR hm hC hC1 ha2 hlt hk hz
        go_wp2_with fail
        with_reducible refine (HAf.out _).mono ?_
        rintro e w6 ⟨⟨c', d', rfl, fc', fd'⟩, o⟩
        have O6 := Lib.hid (O.out.trans o)
        have BX6 := Lib.hid (BX.out.keep o)
        rw [← EE.out.1] at fc'
        rw [← EE.out.2.1] at fd'
        have FF' := Lib.hid (And.intro fc' fd')
        clear o fc' fd' c0 c1 c2
        go_wp2_with fail
        go_step3
        subst hQ
        have HWr := Lib.hid hw
        clear hw f1
        have e1 : l.length - (k + 1) = m := by have := HS.out.1; omega
        have e2 : cap - (k + 1) = C - 1 := by have := HS.out.2.1; omega
        refine ⟨rfl, ⟨k + 1, c', d', a2, _, _, _, _, _, _, _, _, _, _, _, _, _, _, _, _, _, _, _, _, _, _, _, _, _, _, _, _, _, _, rfl, by have := HQn.out; omega, HWr.out.trans EE.out.2.2.symm, rfl, FF'.out.1, FF'.out.2, by rw [e1, e2], fun h => ⟨b, off, rfl, ?_⟩, BX6.out, O6.out⟩, ?_⟩
        · rw [HS.out.2.2.2 (by have := HS.out; omega)]
          congr 2
          omega
        · show m < l.length - k
          have := HS.out.1
          omega
    · have e : k = l.length := by omega
      subst e
      have e0 : l.length - l.length = 0 := Nat.sub_self _
      rw [e0]
      have HPt := Lib.hid (point_any c d (pX x l t l.length) (pY y l t l.length) FF.out.1 FF.out.2 (by have := M.out.1; omega) (by have := M.out.2; omega))
      go_wp2_with fail
      with_reducible refine (HPt.out _).mono ?_
      rintro e w2 ⟨rfl, o⟩
      have O2 := Lib.hid (O.out.trans o)
      have HB2 := Lib.hid (BX.out.keep o)
      clear o
      obtain ⟨c0, c1⟩ := HB2.out.cells
      have f0 := free_of (o := 0) HB2.out
      have f1 := free_of (o := 1) HB2.out
      have BN := Lib.hid (skyE.Box.put HB2.out (x' := pX x l t l.length) (y' := pY y l t l.length))
      have ON := Lib.hid (only_setNew (only_setNew (O1.out.trans O2.out) (b := B + 1) (o := 0) (v := .int .i64 (pX x l t l.length)) (by rw [HBw.out]; omega)) (b := B + 1) (o := 1) (v := .int .i64 (pY y l t l.length)) (by rw [HBw.out]; omega))
      go_wp2_with fail
      subst hQ
      simp only [Exit.jump]
      exact bodyPost_ret (res2 (p := 4) (u := 5) (ty := 50) Try.results19 _ _ (B + 1) 50 _ (0, 0) _ rfl BN.out Try.underlying50 rfl (by kernel_rfl)) rfl ⟨rfl, ON.out⟩
  · intro hrest
    go_wp2_with fail
    with_reducible refine HR.out.mono ?_
    rintro e w2 ⟨rfl, o⟩
    have O2 := Lib.hid o
    have HB2 := Lib.hid (HB.out.keep o)
    have R := Lib.hid (O2.out.drew)
    have K := Lib.hid (HBR.out.keep o)
    clear o d0 d1 d2
    obtain ⟨d0, d1, d2⟩ := K.out.cells
    go_wp2_with fail
    go_region_held3 (fun w' => w'.cell? ⟨B, 0, none⟩ = some (.int .i64 x) ∧ w'.cell? ⟨B, 1, none⟩ = some (.int .i64 y) ∧ w'.cell? ⟨B, 2, none⟩ = some (.slice a l.length cap)) (first | exact (HBR.out.keep R.out).cells)
      (first
        | (go_at_call_of 27 x; (with_reducible refine Calls.mono (HD.out _) ?_); rintro e w7 ⟨rfl, o'⟩; have R := Lib.hid (R.out.trans o'); clear o'))
    all_goals
      go_wp2_with fail
      go_step3
      go_step
      go_step
      exact hrest _ _ ⟨0, _, _, a, t, _, _, _, _, _, _, _, _, _, _, _, _, _, _, _, _, _, _, _, _, _, _, _, _, _, _, _, _, _, rfl, Nat.zero_le _, rfl, rfl, (fl_mid (mids HI.out.1).1), (fl_mid (mids HI.out.1).2), rfl, fun h => by
        obtain ⟨b, o, e, _⟩ := HP.out.at h
        exact ⟨b, o, e, by rw [e]; simp⟩, HB.out.keep R.out, R.out⟩
end Go.Proofs.Ytklcanjlkmkmmaa.skyT
