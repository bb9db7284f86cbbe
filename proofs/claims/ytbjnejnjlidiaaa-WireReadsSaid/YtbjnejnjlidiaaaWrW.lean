/- Wire: the program reads. -/
import Derived.Test.YtbjnejnjlidiaaaWrV
import Derived.Test.YtbjnejnjlidiaaaRgA
import Derived.Deep.DeepCutAuto
import Derived.ScopeJumps
namespace Go.Proofs.Ytbjnejnjlidiaaa.wrW
open Go.RowKit kit numA numB numC numD numE numF numG numH numI tmA tmD trA trB prR prS prW prX wrA wrB wrC wrD wrE wrF wrR wrS wrT wrU wrV
set_option linter.unusedVariables false
set_option linter.unusedSimpArgs false

theorem scope_jumps {P : Program} {a : Act} {w : World} {Q : Exit → Act → World → Prop} {c y : Code} (l : Nat) (J : Act → World → Prop) (μ : Act → World → Nat) (hf : findLabel c l = some (.seq .skip y))
    (pass : ∀ a w, J a w → y.wp P (Exit.jump l (fun a' w' => J a' w' ∧ μ a' w' < μ a w) Q) a w)
    (first : (∀ a w, J a w → y.wp P (Exit.jump l J Q) a w) → c.wp P (Exit.jump l J Q) a w) : (Code.scope c).wp P Q a w :=
  wp_scope_jumps l J μ hf (first fun a w h => Code.wp_mono (fun e a' w' q => by
    cases e
    case goto l' => exact ⟨q.1, q.2.1⟩
    all_goals exact q) (pass a w h)) fun a w h => wp_seq (wp_skip (pass a w h))
def sliceLen (v : Value) : Nat := match v with | .slice _ n _ => n | _ => 0
theorem info61w (m : Msg) : (Try.prog.info? 61).map (·.size) = some m.row.size := by
  rw [show m.row.size = 13 from rfl]; kernel_rfl
theorem one61w (m : Msg) : m.row.all (·.oneCell') = true := by simp [Msg.row, Value.oneCell']
theorem size61w (m m' : Msg) : m.row.size = m'.row.size := rfl
theorem setRow_otherw (w : World) (g B : Nat) (cs : Array Value) (h : B ≠ g) : (w.setRow g cs).heap[B]? = w.heap[B]? := setRow_other w g B cs h
theorem only_roww {S : Nat → Prop} {a w : World} (h : Only S a w) {g : Nat} (cs : Array Value) (hb : S g) : Only S a (w.setRow g cs) :=
  h.trans ⟨rfl, rfl, rfl, by simp, fun k _ hk => setRow_other w g k cs fun e => hk (e ▸ hb)⟩
def zsR : Nat → Txt × Nat → Txt × Nat
  | 0, s => s
  | j + 1, s => zeroR (zsR j s)
def CutR (V : World) (R : Nat) (S : Nat → Prop) (l : Txt) (c : Nat) (p : Value) (wx : World) : Prop := p = .pointer (some ⟨R, 0, none⟩) ∧ RdAt wx R S l c ∧ Only (fun q => q = R) V wx
set_option maxRecDepth 100000 in
set_option maxHeartbeats 4000000 in
theorem read_any (a : Option Addr) (cap : Nat) (bs : Txt) (w : World) (hs : Sl w (fun k => k < w.heap.size) (.slice a bs.length cap) (U8 bs)) (hc : bs.length ≤ cap) (hm : cap ≤ maxLen) : Calls Try.prog 60 #[.slice a bs.length cap] w (numA.Told w (.tuple #[.agg (readM bs).2.row, .int .i64 ((readM bs).1 : Nat)])) := by
  obtain ⟨r, hr⟩ : ∃ r, r = takeR bs 0 1 := ⟨_, rfl⟩
  obtain ⟨kk, hkk⟩ : ∃ k, k = vb r.1 := ⟨_, rfl⟩
  have hk255 : kk ≤ 255 := by rw [hkk]; exact vb_le (n := 1) (by rw [hr]; exact take_le bs 0 1) (by decide)
  obtain ⟨P, hP⟩ : ∃ P, P = w.heap.size := ⟨_, rfl⟩
  obtain ⟨S, hSd⟩ : ∃ S : Nat → Prop, S = fun k => k < P := ⟨_, rfl⟩
  rw [← hP, ← hSd] at hs
  have nS : ∀ k, P ≤ k → ¬ S k := by intro k hk h; rw [hSd] at h; omega
  have CN := Lib.hid (fun W l c (hW : RdAt W (P + 1) S l c) => (show Calls Try.prog 120 #[.pointer (some ⟨P + 1, 0, none⟩), .int .i64 1] W (NmP W (P + 1) S (takeR l c 1)) from number_any (P + 1) S l c 1 W hW (nS _ (by omega)) (by decide)))
  have CF3 := Lib.hid (fun W l c (hW : RdAt W (P + 1) S l c) => (show Calls Try.prog 122 #[.pointer (some ⟨P + 1, 0, none⟩), .int .i64 3] W (fun e w' => (∃ v, e = .returned v) ∧ RdAt w' (P + 1) S l (failC c 3) ∧ Only (fun q => q = P + 1) W w') from fail_any (P + 1) S l c 3 W hW (nS _ (by omega))))
  have CF5 := Lib.hid (fun W l c (hW : RdAt W (P + 1) S l c) => (show Calls Try.prog 122 #[.pointer (some ⟨P + 1, 0, none⟩), .int .i64 5] W (fun e w' => (∃ v, e = .returned v) ∧ RdAt w' (P + 1) S l (failC c 5) ∧ Only (fun q => q = P + 1) W w') from fail_any (P + 1) S l c 5 W hW (nS _ (by omega))))
  have CRW := Lib.hid (fun W => row_any (kk : Nat) W)
  obtain ⟨Y, hY⟩ : ∃ Y, Y = ((w.alloc (.cells #[.int .i64 0, .int .u32 0, .int .u32 0, .int .u64 0, .string ⟨#[]⟩, .string ⟨#[]⟩, .string ⟨#[]⟩, .string ⟨#[]⟩, .string ⟨#[]⟩, .string ⟨#[]⟩, .string ⟨#[]⟩, .string ⟨#[]⟩, .string ⟨#[]⟩] 61)).alloc (.cells #[.slice a bs.length cap, .int .i64 0] 161)).alloc (.cells #[.int .i64 0, .int .u32 0, .int .u32 0, .int .u64 0, .string ⟨#[]⟩, .string ⟨#[]⟩, .string ⟨#[]⟩, .string ⟨#[]⟩, .string ⟨#[]⟩, .string ⟨#[]⟩, .string ⟨#[]⟩, .string ⟨#[]⟩, .string ⟨#[]⟩] 61) := ⟨_, rfl⟩
  have O := Lib.hid (show Only (fun _ => False) w Y from by rw [hY]; exact (((Only.refl _ w).alloc _).alloc _).alloc _)
  have HP := Lib.hid (show MsgAt Y P (zeroM 0) from by rw [hY, hP]; exact Only.keep (((Only.refl (fun _ => False) _).alloc _).alloc _) (heap_alloc_new w (.cells #[.int .i64 0, .int .u32 0, .int .u32 0, .int .u64 0, .string ⟨#[]⟩, .string ⟨#[]⟩, .string ⟨#[]⟩, .string ⟨#[]⟩, .string ⟨#[]⟩, .string ⟨#[]⟩, .string ⟨#[]⟩, .string ⟨#[]⟩, .string ⟨#[]⟩] 61)) id)
  have HR := Lib.hid (show RdAt Y (P + 1) S bs 0 from by
    refine ⟨a, cap, ?_, hs.keep O.out (fun _ _ h => h), hc, hm⟩
    have h := heap_alloc_new (w.alloc (.cells #[.int .i64 0, .int .u32 0, .int .u32 0, .int .u64 0, .string ⟨#[]⟩, .string ⟨#[]⟩, .string ⟨#[]⟩, .string ⟨#[]⟩, .string ⟨#[]⟩, .string ⟨#[]⟩, .string ⟨#[]⟩, .string ⟨#[]⟩, .string ⟨#[]⟩] 61)) (.cells #[.slice a bs.length cap, .int .i64 0] 161)
    rw [World.size_alloc, ← hP] at h
    rw [hY]
    exact Only.keep ((Only.refl (fun _ => False) _).alloc _) h id)
  have HM := Lib.hid (show MsgAt Y (P + 2) (zeroM 0) from by
    have h := heap_alloc_new ((w.alloc (.cells #[.int .i64 0, .int .u32 0, .int .u32 0, .int .u64 0, .string ⟨#[]⟩, .string ⟨#[]⟩, .string ⟨#[]⟩, .string ⟨#[]⟩, .string ⟨#[]⟩, .string ⟨#[]⟩, .string ⟨#[]⟩, .string ⟨#[]⟩, .string ⟨#[]⟩] 61)).alloc (.cells #[.slice a bs.length cap, .int .i64 0] 161)) (.cells #[.int .i64 0, .int .u32 0, .int .u32 0, .int .u64 0, .string ⟨#[]⟩, .string ⟨#[]⟩, .string ⟨#[]⟩, .string ⟨#[]⟩, .string ⟨#[]⟩, .string ⟨#[]⟩, .string ⟨#[]⟩, .string ⟨#[]⟩, .string ⟨#[]⟩] 61)
    simp only [World.size_alloc] at h
    rw [← hP] at h
    rw [hY]
    exact h)
  have HY := Lib.hid hY
  have HPE := Lib.hid hP
  have HRr := Lib.hid hr
  have HKK := Lib.hid hkk
  have HNS := Lib.hid nS
  have HK255 := Lib.hid hk255
  have wk : wrap64 (kk : Int) = (kk : Int) := IntWalk.wrap64_in _ (by omega)
  clear hs hc hm hY hP hr hkk nS hk255 hSd
  go_enter Try.func60, Try.ntmps60
  go_wp2_with fail
  refine scope_jumps 0 (fun a' w' => ∃ (v : Value) (fs : List Fl) (l : Txt) (c : Nat) (m : Msg), a' = { tmps := List.toArray [a'.tmps.getD 0 undef, a'.tmps.getD 1 undef, .pointer (some ⟨P, 0, none⟩), .int .i64 0, .pointer (some ⟨P + 1, 0, none⟩), .pointer (some ⟨P + 2, 0, none⟩), v, a'.tmps.getD 7 undef, a'.tmps.getD 8 undef, a'.tmps.getD 9 undef, a'.tmps.getD 10 undef, a'.tmps.getD 11 undef, a'.tmps.getD 12 undef, a'.tmps.getD 13 undef, a'.tmps.getD 14 undef, a'.tmps.getD 15 undef, a'.tmps.getD 16 undef, a'.tmps.getD 17 undef, a'.tmps.getD 18 undef, a'.tmps.getD 19 undef, a'.tmps.getD 20 undef, a'.tmps.getD 21 undef, a'.tmps.getD 22 undef, a'.tmps.getD 23 undef, a'.tmps.getD 24 undef, a'.tmps.getD 25 undef, a'.tmps.getD 26 undef, a'.tmps.getD 27 undef, a'.tmps.getD 28 undef, a'.tmps.getD 29 undef, a'.tmps.getD 30 undef, a'.tmps.getD 31 undef, a'.tmps.getD 32 undef, a'.tmps.getD 33 undef, a'.tmps.getD 34 undef, a'.tmps.getD 35 undef, a'.tmps.getD 36 undef, a'.tmps.getD 37 undef, a'.tmps.getD 38 undef, a'.tmps.getD 39 undef, a'.tmps.getD 40 undef, a'.tmps.getD 41 undef, a'.tmps.getD 42 undef, a'.tmps.getD 43 undef, a'.tmps.getD 44 undef, a'.tmps.getD 45 undef, a'.tmps.getD 46 undef, a'.tmps.getD 47 undef, a'.tmps.getD 48 undef, a'.tmps.getD 49 undef, a'.tmps.getD 50 undef, a'.tmps.getD 51 undef, a'.tmps.getD 52 undef, a'.tmps.getD 53 undef, a'.tmps.getD 54 undef, a'.tmps.getD 55 undef, a'.tmps.getD 56 undef, a'.tmps.getD 57 undef, a'.tmps.getD 58 undef, a'.tmps.getD 59 undef, a'.tmps.getD 60 undef, a'.tmps.getD 61 undef, a'.tmps.getD 62 undef, a'.tmps.getD 63 undef, a'.tmps.getD 64 undef, a'.tmps.getD 65 undef], defers := [] } ∧ RowV w' v fs ∧ RdAt w' (P + 1) S l c ∧ MsgAt w' (P + 2) m ∧ MsgAt w' P (zeroM 0) ∧ Only (fun q => P ≤ q) Y w' ∧ (∀ f ∈ fs, okFl f) ∧ rowR fs (l, c, m) = bodyR bs) (fun a' _ => sliceLen (a'.tmps.getD 6 undef)) rfl ?_ ?_
  case refine_1 =>
    rintro a' w' ⟨v, fs, l, c, m, ha, hrow, hrd, hmsg, hres, ho, hok, hE⟩
    obtain ⟨u, ha2⟩ : ∃ u : Nat → Value, a' = { tmps := List.toArray [u 0, u 1, .pointer (some ⟨P, 0, none⟩), .int .i64 0, .pointer (some ⟨P + 1, 0, none⟩), .pointer (some ⟨P + 2, 0, none⟩), v, u 7, u 8, u 9, u 10, u 11, u 12, u 13, u 14, u 15, u 16, u 17, u 18, u 19, u 20, u 21, u 22, u 23, u 24, u 25, u 26, u 27, u 28, u 29, u 30, u 31, u 32, u 33, u 34, u 35, u 36, u 37, u 38, u 39, u 40, u 41, u 42, u 43, u 44, u 45, u 46, u 47, u 48, u 49, u 50, u 51, u 52, u 53, u 54, u 55, u 56, u 57, u 58, u 59, u 60, u 61, u 62, u 63, u 64, u 65], defers := [] } := ⟨fun i => a'.tmps.getD i undef, ha⟩
    clear ha
    subst ha2
    obtain ⟨ra, rc, rfl⟩ := hrow.len
    have HRW := Lib.hid hrow
    have HRD := Lib.hid hrd
    have HMS := Lib.hid hmsg
    have HRS := Lib.hid hres
    have HO := Lib.hid ho
    have HOK := Lib.hid hok
    have HE := Lib.hid hE
    obtain ⟨sa, scap, hblk, -⟩ := hrd.blk
    have b0 : w'.cell? ⟨P + 1, 0, none⟩ = some (.slice sa l.length scap) := cell_of hblk
    have b1 : w'.cell? ⟨P + 1, 1, none⟩ = some (.int .i64 (c : Nat)) := cell_of hblk
    clear hrow hrd hmsg hres ho hok hE hblk
    go_hide hQ
    have HSD := Lib.hid (show ∀ (S0 : Nat → Prop), True from fun _ => trivial)
    clear HSD
    by_cases hc : c = 0
    · cases fs with
      | nil =>
        have q1 : ((c : Int) == 0) = true := by rw [beq_iff_eq]; omega
        have HC := Lib.hid hc
        have HEB := Lib.hid (show (l, c, m) = bodyR bs from HE.out)
        clear hc
        by_cases hl : l = []
        · have HL0 := Lib.hid hl
          clear hl
          have g0 : ((0 : Int) < (l.length : Int)) = False := eq_false (by have := HL0.out; rw [this]; simp)
          have g0n : (0 < l.length) = False := eq_false (by have := HL0.out; rw [this]; simp)
          have q2 : ((c : Int) != 0) = false := by rw [bne_eq_false_iff_eq]; have := HC.out; omega
          have HV := Lib.hid (show readM bs = (0, m) from by rw [readM, codeR, ← HEB.out, if_pos HL0.out, if_pos HC.out])
          go_wp2_with (first
            | (refine wpList_store_row rfl 61 (.tmp 2) (.tmp 65) rfl P m.row rfl rfl 61 _ HRS.out (info61w m) (size61w (zeroM 0) m) (one61w m) ?_)
            | (refine wpList_load_row rfl 61 (.tmp 5) rfl (P + 2) rfl 61 m.row (0, 0) _ HMS.out Try.underlying61 rfl (info61w m) ?_))
          subst hQ
          simp only [Exit.jump]
          exact bodyPost_ret (trB.res2 Try.results60 _ _ P 61 m.row (0, 0) _ rfl (setRow_heap _ _ _ _ _ _ HRS.out) Try.underlying61 rfl (info61w m)) rfl ⟨by rw [HV.out]; rfl, Only.old (only_roww ((O.out.mono fun _ h => h.elim).trans (HO.out.mono fun k h => by rw [← HPE.out]; exact h)) _ (by rw [← HPE.out]; exact Nat.le_refl _))⟩
        · have HL0 := Lib.hid hl
          have g0 : ((0 : Int) < (l.length : Int)) = True := eq_true (by have := HL0.out; have : 0 < l.length := List.length_pos_iff.2 this; omega)
          have g0n : (0 < l.length) = True := eq_true (List.length_pos_iff.2 HL0.out)
          have HV := Lib.hid (show readM bs = (failC c 5, zeroM 0) from by
            have h5 : failC c 5 ≠ 0 := by unfold failC; split <;> omega
            rw [readM, codeR, ← HEB.out, if_neg HL0.out, if_neg h5])
          have q5 : ((failC c 5 : Int) != 0) = true := by rw [bne_iff_ne]; have h5 : failC c 5 ≠ 0 := by { unfold failC; split <;> omega }; omega
          clear hl
          go_wp2_with fail
          (with_reducible refine (CF5.out _ _ _ HRD.out).mono ?_)
          rintro e w9 ⟨⟨v, rfl⟩, hrd, o⟩
          replace HRD := Lib.hid hrd
          replace HRS := Lib.hid (MsgAt.keep HRS.out o (by omega))
          replace HO := Lib.hid (HO.out.trans (o.mono fun k h => by rw [h]; omega))
          clear hrd o b0 b1
          obtain ⟨sa1, scap1, hblk, -⟩ := HRD.out.blk
          have b1 : w9.cell? ⟨P + 1, 1, none⟩ = some (.int .i64 (failC c 5 : Nat)) := cell_of hblk
          clear hblk
          go_upto_region 18 with fail
          clear b1 q5
          obtain ⟨Vx, hVx⟩ : ∃ V, V = w9 := ⟨_, rfl⟩
          rw [← hVx] at HRD HRS HO ⊢
          clear hVx
          obtain ⟨sa2, scap2, hblk, -⟩ := HRD.out.blk
          have HBK := Lib.hid hblk
          clear hblk
          have R := Lib.hid ((Only.refl (fun _ => False) Vx).drew)
          subst hQ
          refine wp_region_held_drew (S := (fun w' => w'.cell? ⟨P + 1, 1, none⟩ = some (.int .i64 (failC c 5 : Nat)))) (by kernel_rfl) ?_ (fun hHeld => ?_)
          · first | exact cell_of (Only.keep R.out HBK.out id) | exact cell_of ((setRow_otherw _ _ _ _ (by omega)).trans (Only.keep R.out HBK.out id))
          refine rgA.tk 0 hHeld ?_
          refine rgA.tk 1 hHeld ?_
          refine rgA.tk 2 hHeld ?_
          refine rgA.tk 3 hHeld ?_
          refine rgA.tk 4 hHeld ?_
          refine rgA.rd 5 (fun K hK => ?_)
          rw [if_pos (by rfl)]
          refine wp_store_row 61 (.tmp 2) (.tmp 60) rfl P (zeroM 0).row rfl rfl 61 _ (Only.keep R.out HRS.out id) (info61w (zeroM 0)) (size61w (zeroM 0) (zeroM 0)) (one61w (zeroM 0)) ?_
          refine hK.out _ _ ?_ (fun hHeld => ?_)
          · first | exact cell_of (Only.keep R.out HBK.out id) | exact cell_of ((setRow_otherw _ _ _ _ (by omega)).trans (Only.keep R.out HBK.out id))
          clear hK K
          try simp only [List.getElem_toArray, List.getElem_cons_succ, List.getElem_cons_zero, Act.put, List.setIfInBounds_toArray, List.set_cons_zero, List.set_cons_succ]
          refine rgA.tk 6 hHeld ?_
          refine wpAnyH_done (by kernel_rfl) ?_ _
          go_wp2_with fail
          simp only [Exit.jump]
          exact bodyPost_ret (trB.res2 Try.results60 _ _ P 61 (zeroM 0).row (0, 0) _ rfl (setRow_heap _ _ _ _ _ _ (Only.keep R.out HRS.out id)) Try.underlying61 rfl (info61w (zeroM 0))) rfl ⟨by rw [HV.out]; rfl, Only.old (only_roww ((O.out.mono fun _ h => h.elim).trans ((HO.out.trans (R.out.mono fun _ h => h.elim)).mono fun k h => by rw [← HPE.out]; exact h)) _ (by rw [← HPE.out]; exact Nat.le_refl _))⟩
      | cons f fs =>
        have q1 : ((c : Int) == 0) = true := by rw [beq_iff_eq]; omega
        have HC := Lib.hid hc
        clear hc
        rcases HRW.out with ⟨h, -⟩ | ⟨g, o, cap, hv, h1, h2, h3, h4⟩
        · cases h
        injection hv with hv1 hv2 hv3
        subst hv1 hv3
        have hfl := h4 0 f rfl
        simp only [Nat.zero_mul, Nat.add_zero] at hfl
        obtain ⟨b, ⟨x0, x1, x2, x3⟩, hbx⟩ := hfl
        have HOF := Lib.hid (HOK.out f (by simp))
        have CFD := Lib.hid (show Calls Try.prog 123 #[.pointer (some ⟨P + 1, 0, none⟩), .agg #[(fcells f b).getD 0 undef, (fcells f b).getD 1 undef, (fcells f b).getD 2 undef, (fcells f b).getD 3 undef], .pointer (some ⟨P + 2, 0, none⟩)] w' (FdP w' (P + 1) (P + 2) S (fieldR f (l, c, m)).1 (fieldR f (l, c, m)).2.1 (fieldR f (l, c, m)).2.2) from by
          have h := field_any f HOF.out b (P + 1) (P + 2) S l c m w' HRD.out (HNS.out _ (by omega)) (HNS.out _ (by omega)) HMS.out hbx
          have e : (fcells f b).toArray = #[(fcells f b).getD 0 undef, (fcells f b).getD 1 undef, (fcells f b).getD 2 undef, (fcells f b).getD 3 undef] := by cases f <;> rfl
          rw [e] at h
          exact h)
        obtain ⟨y0, e0⟩ : ∃ y, y = (fcells f b).getD 0 undef := ⟨_, rfl⟩
        obtain ⟨y1, e1⟩ : ∃ y, y = (fcells f b).getD 1 undef := ⟨_, rfl⟩
        obtain ⟨y2, e2⟩ : ∃ y, y = (fcells f b).getD 2 undef := ⟨_, rfl⟩
        obtain ⟨y3, e3⟩ : ∃ y, y = (fcells f b).getD 3 undef := ⟨_, rfl⟩
        rw [← e0] at x0
        rw [← e1] at x1
        rw [← e2] at x2
        rw [← e3] at x3
        rw [← e0, ← e1, ← e2, ← e3] at CFD
        have HRT := Lib.hid (show RowV w' (.slice (some ⟨g, o + 4, none⟩) fs.length (rc - 1)) fs from .inr ⟨g, o + 4, rc - 1, rfl, by simp at h1; omega, by omega, h3, fun i f' hf' => by
          have h := h4 (i + 1) f' hf'
          rw [show o + (i + 1) * 4 = o + 4 + i * 4 by omega] at h
          exact h⟩)
        have HRZ := Lib.hid (show fs.length = 0 → RowV w' (.slice (some ⟨g, o, none⟩) fs.length 0) fs from fun h => .inr ⟨g, o, 0, rfl, by omega, by omega, h3, fun i f' hf' => by
          rw [List.eq_nil_of_length_eq_zero h] at hf'
          cases hf'⟩)
        obtain ⟨s', hs'⟩ : ∃ s', s' = fieldR f (l, c, m) := ⟨_, rfl⟩
        rw [← hs'] at CFD
        have HES := Lib.hid (show rowR fs (s'.1, s'.2.1, s'.2.2) = bodyR bs from by
          have h := HE.out
          unfold rowR at h
          rw [if_pos HC.out, ← hs'] at h
          exact h)
        obtain ⟨k, hk⟩ : ∃ k, k = fs.length := ⟨_, rfl⟩
        have HK := Lib.hid hk
        have c1 : (1 : Int) ≤ (rc : Int) := by simp at h1; omega
        have c2 : ((k : Int) + 1) ≤ (rc : Int) := by simp at h1; omega
        have c3 : k + 1 ≤ rc := by simp at h1; omega
        have hcn : (f :: fs).length = k + 1 := by rw [hk]; rfl
        rw [hcn]
        clear hv2 h1 h2 h3 h4 hbx hs' hk hcn e0 e1 e2 e3 b0
        go_wp2_with fail
        (with_reducible refine CFD.out.mono ?_)
        rintro e w5 ⟨⟨v, rfl⟩, hrd, hmsg, hof⟩
        have HRD5 := Lib.hid hrd
        have HMS5 := Lib.hid hmsg
        have HRS5 := Lib.hid (MsgAt.keep HRS.out hof (by omega))
        have HRT5 := Lib.hid (RowV.keepT HRT.out hof (fun g o f hf h => h.elim (fld_rd HRD.out hf) (fld_msg HMS.out hf)) (fun b i hb h => h.elim (rd_box HRD.out hb) (box_msg HMS.out hb)))
        have HRZ5 := Lib.hid (fun h => RowV.keepT (HRZ.out h) hof (fun g o f hf h => h.elim (fld_rd HRD.out hf) (fld_msg HMS.out hf)) (fun b i hb h => h.elim (rd_box HRD.out hb) (box_msg HMS.out hb)))
        have HO5 := Lib.hid (HO.out.trans (hof.mono fun k h => by rcases h with h | h <;> (rw [h]; omega)))
        clear hrd hmsg hof x0 x1 x2 x3 b1 CFD
        go_wp2_with fail
        · go_step3
          subst hQ
          refine ⟨rfl, ⟨_, fs, s'.1, s'.2.1, s'.2.2, rfl, ?_, HRD5.out, HMS5.out, HRS5.out, HO5.out, fun f' h => HOK.out f' (List.mem_cons_of_mem _ h), HES.out⟩, ?_⟩
          · have h := HRZ5.out (by have := c3; have := HK.out; omega)
            rw [← HK.out] at h
            exact h
          · simp [sliceLen]; have := HK.out; omega
        · go_step3
          subst hQ
          refine ⟨rfl, ⟨_, fs, s'.1, s'.2.1, s'.2.2, rfl, ?_, HRD5.out, HMS5.out, HRS5.out, HO5.out, fun f' h => HOK.out f' (List.mem_cons_of_mem _ h), HES.out⟩, ?_⟩
          · have h := HRT5.out
            rw [← HK.out] at h
            exact h
          · simp [sliceLen]; have := HK.out; omega
    · have q1 : ((c : Int) == 0) = false := by rw [beq_eq_false_iff_ne]; omega
      have HC := Lib.hid hc
      have HEB := Lib.hid (show (l, c, m) = bodyR bs from by
        have h := HE.out
        cases fs with
        | nil => exact h
        | cons f fs => unfold rowR at h; rw [if_neg HC.out] at h; exact h)
      clear hc
      by_cases hl : l = []
      · have HL0 := Lib.hid hl
        have g0 : ((0 : Int) < (l.length : Int)) = False := eq_false (by have := HL0.out; rw [this]; simp)
        have g0n : (0 < l.length) = False := eq_false (by have := HL0.out; rw [this]; simp)
        have q2 : ((c : Int) != 0) = true := by rw [bne_iff_ne]; have := HC.out; omega
        have HV := Lib.hid (show readM bs = (c, zeroM 0) from by rw [readM, codeR, ← HEB.out, if_pos HL0.out, if_neg HC.out])
        clear hl
        go_upto_region 18 with fail
        clear b0 b1 q2
        obtain ⟨Vx, hVx⟩ : ∃ V, V = w' := ⟨_, rfl⟩
        rw [← hVx] at HRD HRS HO ⊢
        clear hVx
        obtain ⟨sa2, scap2, hblk, -⟩ := HRD.out.blk
        have HBK := Lib.hid hblk
        clear hblk
        have R := Lib.hid ((Only.refl (fun _ => False) Vx).drew)
        subst hQ
        refine wp_region_held_drew (S := (fun w' => w'.cell? ⟨P + 1, 1, none⟩ = some (.int .i64 (c : Nat)))) (by kernel_rfl) ?_ (fun hHeld => ?_)
        · first | exact cell_of (Only.keep R.out HBK.out id) | exact cell_of ((setRow_otherw _ _ _ _ (by omega)).trans (Only.keep R.out HBK.out id))
        refine rgA.tk 0 hHeld ?_
        refine rgA.tk 1 hHeld ?_
        refine rgA.tk 2 hHeld ?_
        refine rgA.tk 3 hHeld ?_
        refine rgA.tk 4 hHeld ?_
        refine rgA.rd 5 (fun K hK => ?_)
        rw [if_pos (by rfl)]
        refine wp_store_row 61 (.tmp 2) (.tmp 60) rfl P (zeroM 0).row rfl rfl 61 _ (Only.keep R.out HRS.out id) (info61w (zeroM 0)) (size61w (zeroM 0) (zeroM 0)) (one61w (zeroM 0)) ?_
        refine hK.out _ _ ?_ (fun hHeld => ?_)
        · first | exact cell_of (Only.keep R.out HBK.out id) | exact cell_of ((setRow_otherw _ _ _ _ (by omega)).trans (Only.keep R.out HBK.out id))
        clear hK K
        try simp only [List.getElem_toArray, List.getElem_cons_succ, List.getElem_cons_zero, Act.put, List.setIfInBounds_toArray, List.set_cons_zero, List.set_cons_succ]
        refine rgA.tk 6 hHeld ?_
        refine wpAnyH_done (by kernel_rfl) ?_ _
        go_wp2_with fail
        simp only [Exit.jump]
        exact bodyPost_ret (trB.res2 Try.results60 _ _ P 61 (zeroM 0).row (0, 0) _ rfl (setRow_heap _ _ _ _ _ _ (Only.keep R.out HRS.out id)) Try.underlying61 rfl (info61w (zeroM 0))) rfl ⟨by rw [HV.out]; rfl, Only.old (only_roww ((O.out.mono fun _ h => h.elim).trans ((HO.out.trans (R.out.mono fun _ h => h.elim)).mono fun k h => by rw [← HPE.out]; exact h)) _ (by rw [← HPE.out]; exact Nat.le_refl _))⟩
      · have HL0 := Lib.hid hl
        have g0 : ((0 : Int) < (l.length : Int)) = True := eq_true (by have := HL0.out; have : 0 < l.length := List.length_pos_iff.2 this; omega)
        have g0n : (0 < l.length) = True := eq_true (List.length_pos_iff.2 HL0.out)
        have HV := Lib.hid (show readM bs = (failC c 5, zeroM 0) from by
          have h5 : failC c 5 ≠ 0 := by unfold failC; split <;> omega
          rw [readM, codeR, ← HEB.out, if_neg HL0.out, if_neg h5])
        have q5 : ((failC c 5 : Int) != 0) = true := by rw [bne_iff_ne]; have h5 : failC c 5 ≠ 0 := by { unfold failC; split <;> omega }; omega
        clear hl
        go_wp2_with fail
        (with_reducible refine (CF5.out _ _ _ HRD.out).mono ?_)
        rintro e w9 ⟨⟨v, rfl⟩, hrd, o⟩
        replace HRD := Lib.hid hrd
        replace HRS := Lib.hid (MsgAt.keep HRS.out o (by omega))
        replace HO := Lib.hid (HO.out.trans (o.mono fun k h => by rw [h]; omega))
        clear hrd o b0 b1
        obtain ⟨sa1, scap1, hblk, -⟩ := HRD.out.blk
        have b1 : w9.cell? ⟨P + 1, 1, none⟩ = some (.int .i64 (failC c 5 : Nat)) := cell_of hblk
        clear hblk
        go_upto_region 18 with fail
        clear b1 q5
        obtain ⟨Vx, hVx⟩ : ∃ V, V = w9 := ⟨_, rfl⟩
        rw [← hVx] at HRD HRS HO ⊢
        clear hVx
        obtain ⟨sa2, scap2, hblk, -⟩ := HRD.out.blk
        have HBK := Lib.hid hblk
        clear hblk
        have R := Lib.hid ((Only.refl (fun _ => False) Vx).drew)
        subst hQ
        refine wp_region_held_drew (S := (fun w' => w'.cell? ⟨P + 1, 1, none⟩ = some (.int .i64 (failC c 5 : Nat)))) (by kernel_rfl) ?_ (fun hHeld => ?_)
        · first | exact cell_of (Only.keep R.out HBK.out id) | exact cell_of ((setRow_otherw _ _ _ _ (by omega)).trans (Only.keep R.out HBK.out id))
        refine rgA.tk 0 hHeld ?_
        refine rgA.tk 1 hHeld ?_
        refine rgA.tk 2 hHeld ?_
        refine rgA.tk 3 hHeld ?_
        refine rgA.tk 4 hHeld ?_
        refine rgA.rd 5 (fun K hK => ?_)
        rw [if_pos (by rfl)]
        refine wp_store_row 61 (.tmp 2) (.tmp 60) rfl P (zeroM 0).row rfl rfl 61 _ (Only.keep R.out HRS.out id) (info61w (zeroM 0)) (size61w (zeroM 0) (zeroM 0)) (one61w (zeroM 0)) ?_
        refine hK.out _ _ ?_ (fun hHeld => ?_)
        · first | exact cell_of (Only.keep R.out HBK.out id) | exact cell_of ((setRow_otherw _ _ _ _ (by omega)).trans (Only.keep R.out HBK.out id))
        clear hK K
        try simp only [List.getElem_toArray, List.getElem_cons_succ, List.getElem_cons_zero, Act.put, List.setIfInBounds_toArray, List.set_cons_zero, List.set_cons_succ]
        refine rgA.tk 6 hHeld ?_
        refine wpAnyH_done (by kernel_rfl) ?_ _
        go_wp2_with fail
        simp only [Exit.jump]
        exact bodyPost_ret (trB.res2 Try.results60 _ _ P 61 (zeroM 0).row (0, 0) _ rfl (setRow_heap _ _ _ _ _ _ (Only.keep R.out HRS.out id)) Try.underlying61 rfl (info61w (zeroM 0))) rfl ⟨by rw [HV.out]; rfl, Only.old (only_roww ((O.out.mono fun _ h => h.elim).trans ((HO.out.trans (R.out.mono fun _ h => h.elim)).mono fun k h => by rw [← HPE.out]; exact h)) _ (by rw [← HPE.out]; exact Nat.le_refl _))⟩
  case refine_2 =>
    intro hgo
    go_hide hQ
    refine wp_seq ?_
    go_wp2_with fail
    rw [← HY.out, ← HPE.out, show P + 1 + 1 = P + 2 from rfl]
    (with_reducible refine (CN.out _ _ _ HR.out).mono ?_)
    rintro e w2 ⟨rfl, hrd, o⟩
    rw [← HRr.out, ← HKK.out]
    rw [← HRr.out] at hrd
    have HR2 := Lib.hid hrd
    have HM2 := Lib.hid (MsgAt.keep HM.out o (by omega))
    have HP2 := Lib.hid (MsgAt.keep HP.out o (by omega))
    have U := Lib.hid (o.mono (T := fun q => P ≤ q) fun k h => by rw [h]; omega)
    clear hrd o
    have d0 := HM2.out.nums.1
    have f0 := HM2.out.free 0
    go_upto_region 4 with fail
    obtain ⟨V1, hV⟩ : ∃ V, V = w2.setCell ⟨P + 2, 0, none⟩ (.int .i64 (kk : Int)) := ⟨_, rfl⟩
    have oV : Only (fun q => q = P + 2) w2 V1 := by rw [hV]; exact (Only.refl _ _).set rfl
    replace HM2 := Lib.hid (show MsgAt V1 (P + 2) (zeroM (kk : Nat)) from by rw [hV]; exact heap_set (o := 0) (v := .int .i64 (kk : Int)) HM2.out)
    replace HP2 := Lib.hid (MsgAt.keep HP2.out oV (by omega))
    replace HR2 := Lib.hid (HR2.out.keep oV (by omega) (fun k hk e => HNS.out _ (by rw [e]; omega) hk))
    replace U := Lib.hid (U.out.trans (oV.mono fun k h => by rw [h]; omega))
    rw [← hV]
    clear hV oV d0 f0
    have d0 : V1.cell? ⟨P + 2, 0, none⟩ = some (.int .i64 (kk : Nat)) := HM2.out.nums.1
    go_wp2_with fail
    (with_reducible refine (CRW.out _).mono ?_)
    rintro e w3 ⟨o, v, rfl, hrow⟩
    obtain ⟨ra, rc, rfl⟩ := hrow.len
    have HRW := Lib.hid hrow
    replace HM2 := Lib.hid (MsgAt.keep HM2.out o id)
    replace HP2 := Lib.hid (MsgAt.keep HP2.out o id)
    replace HR2 := Lib.hid (HR2.out.keep o id (fun _ _ h => h))
    replace U := Lib.hid (U.out.trans (o.mono fun _ h => h.elim))
    clear o d0 hrow
    obtain ⟨n, hn⟩ : ∃ n, n = (rowOf (kk : Nat)).length := ⟨_, rfl⟩
    have HLN := Lib.hid hn
    obtain ⟨c1, hc1⟩ : ∃ c1, c1 = if rowOf (kk : Nat) = [] then failC r.2.2 3 else r.2.2 := ⟨_, rfl⟩
    have HC1 := Lib.hid hc1
    rw [← hn]
    clear hn hc1
    go_upto_if 19 with fail
    go_cut [4] from 19 to 21 (fun p wx => CutR w3 (P + 1) S r.2.1 c1 p wx)
    case first =>
      by_cases h0 : n = 0
      · have q : ((n : Int) == 0) = true := by rw [beq_iff_eq]; omega
        have HQ := Lib.hid (show c1 = failC r.2.2 3 from by rw [HC1.out, if_pos (List.eq_nil_of_length_eq_zero (by rw [← HLN.out]; exact h0))])
        clear h0
        go_wp2_with fail
        (with_reducible refine (CF3.out _ _ _ HR2.out).mono ?_)
        rintro e w4 ⟨⟨v, rfl⟩, hrd, o⟩
        have HR3 := Lib.hid hrd
        have O3 := Lib.hid o
        clear hrd o
        go_wp2_with fail
        go_meet
        exact ⟨rfl, by rw [HQ.out]; exact HR3.out, O3.out⟩
      · have q : ((n : Int) == 0) = false := by rw [beq_eq_false_iff_ne]; omega
        have HQ := Lib.hid (show c1 = r.2.2 from by rw [HC1.out, if_neg (fun e => h0 (by rw [HLN.out, e]; rfl))])
        clear h0
        go_wp2_with fail
        go_meet
        exact ⟨rfl, by rw [HQ.out]; exact HR2.out, Only.refl _ _⟩
    case rest =>
      obtain ⟨rfl, hrd, oc⟩ := hcut
      have HR2o := Lib.hid HR2.out
      replace HR2 := Lib.hid hrd
      replace HM2 := Lib.hid (MsgAt.keep HM2.out oc (by omega))
      replace HP2 := Lib.hid (MsgAt.keep HP2.out oc (by omega))
      replace HRW := Lib.hid (RowV.keepT HRW.out oc (fun g o f hf => fld_rd HR2o.out hf) (fun b i hb => rd_box HR2o.out hb))
      replace U := Lib.hid (U.out.trans (oc.mono fun k h => by rw [h]; omega))
      clear oc hrd HR2o
      go_upto_region 7 with fail
      obtain ⟨V3, hV⟩ : ∃ V, V = wc := ⟨_, rfl⟩
      rw [← hV] at HRW HR2 HM2 HP2 U ⊢
      clear hV
      go_wp2_with fail
      go_loopw [22] (fun i wr => ∃ j : Nat, i = .int .i64 j ∧ j ≤ 3 ∧ RdAt wr (P + 1) S (zsR j (r.2.1, c1)).1 (zsR j (r.2.1, c1)).2 ∧ Only (fun q => q = P + 1) V3 wr) (fun i _ => 3 - (Lib.intOf i).toNat)
      case atStart => exact ⟨0, rfl, Nat.zero_le _, HR2.out, Only.refl _ _⟩
      case round =>
        obtain ⟨j, rfl, hj, hrd, ho⟩ := hrel
        by_cases hlt : j < 3
        · have k1 : ((j : Int) < 3) = True := eq_true (by omega)
          have wj : wrap64 ((j : Int) + 1) = (j : Int) + 1 := IntWalk.wrap64_in _ (by omega)
          obtain ⟨z, hz⟩ : ∃ z, z = zsR j (r.2.1, c1) := ⟨_, rfl⟩
          rw [← hz] at hrd
          have HZ := Lib.hid (show zsR (j + 1) (r.2.1, c1) = zeroR z from by rw [hz]; rfl)
          have HRJ := Lib.hid hrd
          have HO := Lib.hid ho
          have HJ := Lib.hid hlt
          clear hj hrd ho hlt hz
          go_wp2_with fail
          (with_reducible refine (CN.out _ _ _ HRJ.out).mono ?_)
          rintro e w5 ⟨rfl, hrd, o⟩
          have HRX := Lib.hid hrd
          have HO2 := Lib.hid (HO.out.trans o)
          clear hrd o
          obtain ⟨x, hx⟩ : ∃ x, x = vb (takeR z.1 z.2 1).1 := ⟨_, rfl⟩
          have HX := Lib.hid hx
          rw [← hx]
          clear hx
          by_cases h0 : x = 0
          · have q : ((x : Int) != 0) = false := by rw [bne_eq_false_iff_eq]; omega
            have HX0 := Lib.hid h0
            clear h0
            go_wp2_with fail
            go_roundw
            case rel => exact ⟨j + 1, by rw [wj]; rfl, HJ.out, by rw [HZ.out]; unfold zeroR; rw [← HX.out, if_pos HX0.out]; exact HRX.out, HO2.out⟩
            case measure =>
              rw [wj]
              have := HJ.out
              simp only [Lib.intOf]
              omega
          · have q : ((x : Int) != 0) = true := by rw [bne_iff_ne]; omega
            have HX0 := Lib.hid h0
            clear h0
            go_wp2_with fail
            (with_reducible refine (CF3.out _ _ _ HRX.out).mono ?_)
            rintro e w6 ⟨⟨v, rfl⟩, hrd, o⟩
            have HRF := Lib.hid hrd
            have HO3 := Lib.hid (HO2.out.trans o)
            clear hrd o
            go_wp2_with fail
            go_roundw
            case rel => exact ⟨j + 1, by rw [wj]; rfl, HJ.out, by rw [HZ.out]; unfold zeroR; rw [← HX.out, if_neg HX0.out]; exact HRF.out, HO3.out⟩
            case measure =>
              rw [wj]
              have := HJ.out
              simp only [Lib.intOf]
              omega
        · obtain rfl : j = 3 := by omega
          have HR3 := Lib.hid hrd
          have HM3 := Lib.hid (MsgAt.keep HM2.out ho (by omega))
          have HP3 := Lib.hid (MsgAt.keep HP2.out ho (by omega))
          have HRW3 := Lib.hid (RowV.keepT HRW.out ho (fun g o f hf => fld_rd HR2.out hf) (fun b i hb => rd_box HR2.out hb))
          have U3 := Lib.hid (U.out.trans (ho.mono fun k h => by rw [h]; omega))
          clear hj hrd ho hlt
          go_wp2_with fail
          go_step3
          go_step
          go_step
          subst hQ
          exact hgo _ _ ⟨.slice ra n rc, rowOf (kk : Nat), _, _, zeroM (kk : Nat), rfl, by rw [HLN.out]; exact HRW3.out, HR3.out, HM3.out, HP3.out, U3.out, rowOf_ok _, by rw [HC1.out, HKK.out, HRr.out]; rfl⟩


end Go.Proofs.Ytbjnejnjlidiaaa.wrW
