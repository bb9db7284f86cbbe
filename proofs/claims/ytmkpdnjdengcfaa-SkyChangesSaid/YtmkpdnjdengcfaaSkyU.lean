/- sky: Turned. -/
import Derived.Test.YtmkpdnjdengcfaaSkyT
import Derived.Test.YtmkpdnjdengcfaaSkyS
import Derived.Test.YtmkpdnjdengcfaaSkyR
import Derived.Test.YtmkpdnjdengcfaaSkyV
import Derived.Deep.RegionLaw
namespace Go.Proofs.Ytmkpdnjdengcfaa.skyU
open Go.RowKit Go.Lib Go.Proofs.Ytmkpdnjdengcfaa.kit Go.Proofs.Ytmkpdnjdengcfaa.floA Go.Proofs.Ytmkpdnjdengcfaa.skyA Go.Proofs.Ytmkpdnjdengcfaa.skyB Go.Proofs.Ytmkpdnjdengcfaa.skyC Go.Proofs.Ytmkpdnjdengcfaa.skyD Go.Proofs.Ytmkpdnjdengcfaa.skyE Go.Proofs.Ytmkpdnjdengcfaa.skyF Go.Proofs.Ytmkpdnjdengcfaa.skyG Go.Proofs.Ytmkpdnjdengcfaa.skyH Go.Proofs.Ytmkpdnjdengcfaa.skyI Go.Proofs.Ytmkpdnjdengcfaa.skyO Go.Proofs.Ytmkpdnjdengcfaa.skyP Go.Proofs.Ytmkpdnjdengcfaa.skyQ Go.Proofs.Ytmkpdnjdengcfaa.skyR Go.Proofs.Ytmkpdnjdengcfaa.skyS Go.Proofs.Ytmkpdnjdengcfaa.skyT Go.Proofs.Ytmkpdnjdengcfaa.skyV
set_option linter.unusedVariables false
set_option linter.unusedSimpArgs false

theorem info61 : (Try.prog.info? 61).map (fun i => (i.zero, i.size, i.bytes)) = some (some (.agg #[.int .i64 0, .int .i64 0, .int .i64 0]), 3, 24) := by kernel_rfl

theorem tmod4 (q : Int) : wrap64 (q.tmod 4 + 4) = q.tmod 4 + 4 ∧ (q.tmod 4 + 4).tmod 4 = (qn q : Int) := by
  have h := qn_tmod q
  have h4 := qn_lt q
  have e := Int.tmod_eq_emod (a := q.tmod 4 + 4) (b := 4)
  refine ⟨IntWalk.wrap64_in _ (by omega), ?_⟩
  split at e <;> omega

/-- The quarters' bits. -/
def bre (n : Nat) : Nat := if n = 0 then 4607182418800017408 else if n = 2 then 13830554455654793216 else 0
def bim (n : Nat) : Nat := if n = 1 then 4607182418800017408 else if n = 3 then 13830554455654793216 else 0
def ure (n : Nat) : Int := if n = 0 then 1 else if n = 2 then -1 else 0
def uim (n : Nat) : Int := if n = 1 then 1 else if n = 3 then -1 else 0

theorem quarter (n : Nat) (h : n < 4) (w : World) : (Instr.index 69 (.agg #[.complex .f64 4607182418800017408 0, .complex .f64 0 4607182418800017408, .complex .f64 13830554455654793216 0, .complex .f64 0 13830554455654793216]) (.int .i64 (n : Int))).run Try.prog w = .ok (.complex .f64 (bre n) (bim n)) w := by
  have e : n = 0 ∨ n = 1 ∨ n = 2 ∨ n = 3 := by omega
  rcases e with rfl | rfl | rfl | rfl <;> rfl

theorem fl_one : Fl 4607182418800017408 1 := of_int 1 (by decide)
theorem neg_bits : FloatKind.f64.nearest (-1) = 13830554455654793216 := by decide +kernel
theorem fl_neg : Fl 13830554455654793216 (-1) := neg_bits ▸ of_int (-1) (by decide)

theorem quarter_fl (n : Nat) : Fl (bre n) (ure n) ∧ Fl (bim n) (uim n) := by
  unfold bre bim ure uim
  refine ⟨?_, ?_⟩
  · split
    · exact fl_one
    · split
      · exact fl_neg
      · exact fl_zero
  · split
    · exact fl_one
    · split
      · exact fl_neg
      · exact fl_zero

theorem tX_eq (x y : Int) (n : Nat) (h : n < 4) : x * ure n - y * uim n = (tX x y n).1 ∧ x * uim n + y * ure n = (tX x y n).2 := by
  have e : n = 0 ∨ n = 1 ∨ n = 2 ∨ n = 3 := by omega
  rcases e with rfl | rfl | rfl | rfl <;> simp [ure, uim, tX]

theorem unit_small {x : Int} (h : Mid x) (n : Nat) : (x * ure n).natAbs < 2 ^ 51 ∧ (x * uim n).natAbs < 2 ^ 51 := by
  have := h
  unfold ure uim
  refine ⟨?_, ?_⟩
  · split
    · omega
    · split <;> omega
  · split
    · omega
    · split <;> omega

/-- A place, turned: by a product. -/
theorem prod (x y : Int) (n : Nat) (h : n < 4) (hx : Mid x) (hy : Mid y) : ∃ r i, (∀ w, (binOp .mul 65 (.complex .f64 (fl x) (fl y)) (.complex .f64 (bre n) (bim n))).run Try.prog w = .ok (.complex .f64 r i) w) ∧ Fl r (tX x y n).1 ∧ Fl i (tX x y n).2 := by
  obtain ⟨b1, b2⟩ := quarter_fl n
  obtain ⟨r, i, hm, f1, f2⟩ := mul_cx (fl_mid hx) (fl_mid hy) b1 b2 (unit_small hx n).1 (unit_small hy n).2 (unit_small hx n).2 (unit_small hy n).1
  obtain ⟨e1, e2⟩ := tX_eq x y n h
  rw [e1] at f1
  rw [e2] at f2
  exact ⟨r, i, fun w => run_complex_mul (P := Try.prog) w 65 _ _ _ _ r i hm, f1, f2⟩

/-- What an append onto the turned legs leaves of the rest. -/
theorem after_app {w4 W w9 : World} {O : Nat} {X0 Y0 : Int} {v : Value} {k : Nat} {xs : List Value} {obj : Obj} (hO : w4.heap.size = O) (h : BoxR W O X0 Y0 v) (own : W.ownsRow (O + 1) 61 3 v k xs) (r : Only (fun _ => False) w4 W) (g : (W.alloc obj).grownBy w9 v.ownBlock) :
    BoxR w9 O X0 Y0 v ∧ Only (fun _ => False) w4 w9 := by
  have hb : ∀ b, v.ownBlock = some b → O + 1 ≤ b := fun b hb => (own.lt b hb).1
  have h' : BoxR (W.alloc obj) O X0 Y0 v := (Below.heap_alloc _ _ _ (lt_of h)).trans h
  refine ⟨(g.block O (lt_of h') fun e => ?_).trans h', Only.grownNew (r.alloc obj) g fun b e => ?_⟩
  · have := hb O e.symm
    omega
  · have := hb b e
    omega

theorem owns_set {w : World} {base : Nat} {e : TypeId} {size : Nat} {v : Value} {n : Nat} {xs : List Value} (h : w.ownsRow base e size v n xs) {B o : Nat} {u : Value} (hB : B < base) : (w.setCell ⟨B, o, none⟩ u).ownsRow base e size v n xs := by
  refine ⟨h.1, ?_⟩
  rcases h.2 with h0 | ⟨g, cap, cur, hv, hb, hg, r⟩
  · exact .inl h0
  · exact .inr ⟨g, cap, cur, hv, hb, (heap_other (by omega)).trans hg, r⟩

theorem after_store {w4 w9 : World} {O : Nat} {X0 Y0 : Int} {v v9 : Value} {k : Nat} {xs : List Value} (hO : w4.heap.size = O) (h : BoxR w9 O X0 Y0 v) (own : w9.ownsRow (O + 1) 61 3 v9 k xs) (r : Only (fun _ => False) w4 w9) :
    BoxR (w9.setCell ⟨O, 2, none⟩ v9) O X0 Y0 v9 ∧ (w9.setCell ⟨O, 2, none⟩ v9).ownsRow (O + 1) 61 3 v9 k xs ∧ Only (fun _ => False) w4 (w9.setCell ⟨O, 2, none⟩ v9) :=
  ⟨heap_set h, owns_set own (by omega), only_setNew r (by omega)⟩

theorem putR {w : World} {B : Nat} {x y x' y' : Int} {v v' : Value} (h : BoxR w B x y v) : BoxR (((w.setCell ⟨B, 0, none⟩ (.int .i64 x')).setCell ⟨B, 1, none⟩ (.int .i64 y')).setCell ⟨B, 2, none⟩ v') B x' y' v' := heap_set (heap_set (heap_set h))

theorem turned_form (x y : Int) (a : Option Addr) (cap : Nat) (l : List Leg3) (q : Int) (w : World) (h : Lgs w a l) (hl : l.length ≤ 1000) (hr : routeOk x y l = false) :
    Calls Try.prog 11 #[rt x y a l.length cap, .int .i64 q] w fun e w' => e = .returned (.tuple #[.agg #[.int .i64 0, .int .i64 0, .slice none 0 0], .int .i64 3]) ∧ Only (fun _ => False) w w' := by
  have o1 : Only (fun _ => False) w ((w.alloc (.cells #[.int .i64 x, .int .i64 y, .slice a l.length cap] 26)).alloc (.cells #[.int .i64 0, .int .i64 0, .slice none 0 0] 26)) := ((Only.refl _ w).alloc _).alloc _
  have hB := heap_alloc_new (w.alloc (.cells #[.int .i64 x, .int .i64 y, .slice a l.length cap] 26)) (.cells #[.int .i64 0, .int .i64 0, .slice none 0 0] 26)
  rw [World.size_alloc] at hB
  have HR := Lib.hid (routeright_any x y a cap l _ (h.keep o1) hl)
  have HB := Lib.hid (show BoxR _ (w.heap.size + 1) 0 0 (.slice none 0 0) from hB)
  have HBR := Lib.hid (show BoxR ((w.alloc (.cells #[.int .i64 x, .int .i64 y, .slice a l.length cap] 26)).alloc (.cells #[.int .i64 0, .int .i64 0, .slice none 0 0] 26)) w.heap.size x y (.slice a l.length cap) from (Below.heap_alloc _ _ _ (by simp)).trans (heap_alloc_new w _))
  have O1 := Lib.hid o1
  rw [hr] at HR
  clear h hr o1 hl hB
  go_enter Try.func11, Try.ntmps11
  go_wp2_with fail
  generalize (w.alloc (.cells #[.int .i64 x, .int .i64 y, .slice a l.length cap] 26)).alloc (.cells #[.int .i64 0, .int .i64 0, .slice none 0 0] 26) = W1 at HR HB HBR O1 ⊢
  generalize hBB : w.heap.size = B at HB HBR ⊢
  have HBw := Lib.hid hBB
  clear hBB
  with_reducible refine HR.out.mono ?_
  rintro e w2 ⟨rfl, o⟩
  have O2 := Lib.hid (O1.out.trans o)
  have HB2 := Lib.hid (HB.out.keep o)
  clear o HR
  obtain ⟨c0, c1, c2⟩ := HB2.out.cells
  have f0 := free_of (o := 0) HB2.out
  have f1 := free_of (o := 1) HB2.out
  have f2 := free_of (o := 2) HB2.out
  have BN := Lib.hid (putR HB2.out (x' := 0) (y' := 0) (v' := .slice none 0 0))
  have ON := Lib.hid (only_setNew (only_setNew (only_setNew O2.out (b := B + 1) (o := 0) (v := .int .i64 0) (by rw [HBw.out]; omega)) (b := B + 1) (o := 1) (v := .int .i64 0) (by rw [HBw.out]; omega)) (b := B + 1) (o := 2) (v := .slice none 0 0) (by rw [HBw.out]; omega))
  go_wp2_with fail
  exact bodyPost_ret (res2 (p := 4) (u := 5) (ty := 26) Try.results11 _ _ (B + 1) 26 _ (0, 0) _ rfl BN.out Try.underlying26 rfl (by kernel_rfl)) rfl ⟨rfl, ON.out⟩

set_option maxHeartbeats 1600000 in
theorem turned_good (x y : Int) (a : Option Addr) (cap : Nat) (l : List Leg3) (q : Int) (w : World) (h : Lgs w a l) (hr : routeOk x y l = true) :
    Calls Try.prog 11 #[rt x y a l.length cap, .int .i64 q] w fun e w' => (∃ a' cap', e = .returned (.tuple #[rt (tX x y (qn q)).1 (tX x y (qn q)).2 a' l.length cap', .int .i64 0]) ∧ Lgs w' a' (tlegs (qn q) l) ∧ l.length ≤ cap') ∧ Only (fun _ => False) w w' := by
  obtain ⟨hi, h64, hok⟩ := route_parts hr
  obtain ⟨i0, hi0, hz0, hz1, hz2⟩ := info_parts info61
  have o1 : Only (fun _ => False) w ((w.alloc (.cells #[.int .i64 x, .int .i64 y, .slice a l.length cap] 26)).alloc (.cells #[.int .i64 0, .int .i64 0, .slice none 0 0] 26)) := ((Only.refl _ w).alloc _).alloc _
  have hB := heap_alloc_new (w.alloc (.cells #[.int .i64 x, .int .i64 y, .slice a l.length cap] 26)) (.cells #[.int .i64 0, .int .i64 0, .slice none 0 0] 26)
  rw [World.size_alloc] at hB
  have HR := Lib.hid (routeright_any x y a cap l _ (h.keep o1) (by omega))
  have HB := Lib.hid (show BoxR _ (w.heap.size + 1) 0 0 (.slice none 0 0) from hB)
  have HBR := Lib.hid (show BoxR ((w.alloc (.cells #[.int .i64 x, .int .i64 y, .slice a l.length cap] 26)).alloc (.cells #[.int .i64 0, .int .i64 0, .slice none 0 0] 26)) w.heap.size x y (.slice a l.length cap) from (Below.heap_alloc _ _ _ (by simp)).trans (heap_alloc_new w _))
  have O1 := Lib.hid o1
  have HP := Lib.hid (h.keep o1)
  have HI := Lib.hid (And.intro hi (And.intro h64 hok))
  have HD := Lib.hid (number_det x y)
  rw [hr] at HR
  obtain ⟨N, hN⟩ : ∃ N, N = qn q := ⟨_, rfl⟩
  have h4 : N < 4 := hN ▸ qn_lt q
  obtain ⟨q1, q2⟩ := tmod4 q
  rw [← hN] at q2 ⊢
  have HQ := Lib.hid h4
  have qq := quarter N h4
  obtain ⟨pr, pi, hpr, fpr, fpi⟩ := prod x y N h4 (mids hi).1 (mids hi).2
  have HPt := Lib.hid (point_any pr pi _ _ fpr fpi (by have := tX_mid (mids hi).1 (mids hi).2 N; omega) (by have := tX_mid (mids hi).1 (mids hi).2 N; omega))
  clear h hr o1 hB hi h64 hok hN h4 fpr fpi
  go_enter Try.func11, Try.ntmps11
  go_wp2_with fail
  generalize (w.alloc (.cells #[.int .i64 x, .int .i64 y, .slice a l.length cap] 26)).alloc (.cells #[.int .i64 0, .int .i64 0, .slice none 0 0] 26) = W1 at HR HB HBR HP O1 ⊢
  generalize hBB : w.heap.size = B at HB HBR ⊢
  have HBw := Lib.hid hBB
  clear hBB
  with_reducible refine HR.out.mono ?_
  rintro e w2 ⟨rfl, o⟩
  have O2 := Lib.hid o
  clear o HR
  obtain ⟨c0, c1, c2⟩ := (HBR.out.keep O2.out).cells
  go_wp2_with fail
  with_reducible refine (HD.out _).mono ?_
  rintro e w3 ⟨rfl, o⟩
  have O3 := Lib.hid (O2.out.trans o)
  clear o c0 c1 c2
  go_wp2_with fail
  with_reducible refine (HPt.out _).mono ?_
  rintro e w4 ⟨rfl, o⟩
  have O4 := Lib.hid (O3.out.trans o)
  clear o HD HPt qq q1 q2 hpr
  have HO := Lib.hid (show BoxR (w4.alloc (.cells #[.int .i64 (tX x y N).1, .int .i64 (tX x y N).2, .slice none 0 0] 26)) w4.heap.size (tX x y N).1 (tX x y N).2 (.slice none 0 0) from heap_alloc_new w4 _)
  have hbr := (HBR.out.keep (O4.out.alloc (.cells #[.int .i64 (tX x y N).1, .int .i64 (tX x y N).2, .slice none 0 0] 26))).cells.2.2
  have HS := Lib.hid (show (w4.alloc (.cells #[.int .i64 (tX x y N).1, .int .i64 (tX x y N).2, .slice none 0 0] 26)).heap.size = w4.heap.size + 1 from World.size_alloc _ _)
  have OO := Lib.hid ((Only.refl (fun _ => False) w4).alloc (.cells #[.int .i64 (tX x y N).1, .int .i64 (tX x y N).2, .slice none 0 0] 26))
  have HP4 := Lib.hid (HP.out.keep O4.out)
  have HB4 := Lib.hid ((HB.out.keep O4.out))
  have HT := Lib.hid (Nat.lt_of_lt_of_le (lt_of HB.out) O4.out.size)
  go_wp2_with fail
  generalize w4.alloc (.cells #[.int .i64 (tX x y N).1, .int .i64 (tX x y N).2, .slice none 0 0] 26) = W5 at HO hbr HS OO ⊢
  generalize hO : w4.heap.size = O at HO HS HT ⊢
  have HOw := Lib.hid hO
  clear hO hbr HBR HP HB
  obtain ⟨X0, hX0⟩ : ∃ X0, X0 = (tX x y N).1 := ⟨_, rfl⟩
  obtain ⟨Y0, hY0⟩ : ∃ Y0, Y0 = (tX x y N).2 := ⟨_, rfl⟩
  rw [← hX0, ← hY0] at HO
  have HXY := Lib.hid (And.intro hX0 hY0)
  clear hX0 hY0
  go_loopw [30] (fun i wr => ∃ (k : Nat) (v : Value), k ≤ l.length ∧ i = .int .i64 k ∧ BoxR wr O X0 Y0 v ∧ wr.ownsRow (O + 1) 61 3 v k (flat3 ((tlegs N l).take k)) ∧ Only (fun _ => False) w4 wr) (fun i _ => l.length - (intOf i).toNat)
  case atStart => exact ⟨0, _, Nat.zero_le _, rfl, HO.out, World.ownsRow_nil _ _ _ _, OO.out⟩
  case round =>
    obtain ⟨k, v, hk, rfl, hbo, hown, o⟩ := hrel
    have R := Lib.hid o
    have KO := Lib.hid hbo
    have OW := Lib.hid hown
    clear o hbo hown HO OO HS
    by_cases hlt : k < l.length
    · have k1 : ((k : Int) < (l.length : Int)) = True := eq_true (by omega)
      have k1n : ((k : Int) < (l.length : Int)) := by omega
      have k0n : (0 : Int) ≤ (k : Int) := by omega
      have WK := Lib.hid (wrap_succ hlt (by have := HI.out.2.1; unfold maxLen; omega))
      obtain ⟨b, off, rfl, hb, c0, c1, c2⟩ := (HP4.out.keep R.out).at hlt
      have hq := legOk_iff.1 (legs_ok HI.out.2.2 k hlt)
      have ml : Mid (lx l k) ∧ Mid (ly l k) := by omega
      obtain ⟨pr, pi, hpr, fpr, fpi⟩ := prod (lx l k) (ly l k) N HQ.out ml.1 ml.2
      have HPt := Lib.hid (point_any pr pi _ _ fpr fpi (by have := tX_mid ml.1 ml.2 N; omega) (by have := tX_mid ml.1 ml.2 N; omega))
      have HD := Lib.hid (number_det (lx l k) (ly l k))
      have hg := tlegs_get N l k hlt
      obtain ⟨X, hX⟩ : ∃ X, X = (tX (lx l k) (ly l k) N).1 := ⟨_, rfl⟩
      obtain ⟨Y, hY⟩ : ∃ Y, Y = (tX (lx l k) (ly l k) N).2 := ⟨_, rfl⟩
      rw [← hX, ← hY] at HPt hg
      have HG := Lib.hid hg
      have HF := Lib.hid (flat3_snoc (tlegs N l) k (by rw [tlegs_len]; exact hlt))
      rw [HG.out.1, HG.out.2.1, HG.out.2.2] at HF
      have hkk : k ≤ 64 := by have := HI.out.2.1; omega
      clear hq ml fpr fpi hg hX hY hb
      -- the leg's own block
      have s1 : (wr.alloc (.cells #[.int .i64 (lx l k), .int .i64 (ly l k), .int .i64 (ls l k)] 61)).heap.size = wr.heap.size + 1 := World.size_alloc _ _
      have HLg := Lib.hid (show Box3 (wr.alloc (.cells #[.int .i64 (lx l k), .int .i64 (ly l k), .int .i64 (ls l k)] 61)) wr.heap.size (lx l k) (ly l k) (ls l k) 61 from heap_alloc_new wr _)
      have oal : Only (fun _ => False) wr (wr.alloc (.cells #[.int .i64 (lx l k), .int .i64 (ly l k), .int .i64 (ls l k)] 61)) := (Only.refl _ wr).alloc _
      have KO6 := Lib.hid (KO.out.keep oal)
      have OW6 := Lib.hid (owns_keep OW.out oal)
      have R6 := Lib.hid (R.out.trans oal)
      have HLT := Lib.hid (fun (g : Nat) (hg : v.ownBlock = some g) => OW.out.lt g hg)
      have HSZ := Lib.hid (show O + 1 ≤ wr.heap.size from lt_of KO.out)
      go_wp2_with fail
      generalize wr.alloc (.cells #[.int .i64 (lx l k), .int .i64 (ly l k), .int .i64 (ls l k)] 61) = W6 at HLg KO6 OW6 R6 s1 ⊢
      generalize hBL : wr.heap.size = BL at HLg s1 HLT HSZ ⊢
      clear s1 oal c0 c1 c2 R KO OW hBL
      have cO := KO6.out.cells.2.2
      have HB7 := Lib.hid (HLg.out.keep (Only.drew (Only.refl _ W6)))
      have KO7 := Lib.hid (KO6.out.keep (Only.drew (Only.refl _ W6)))
      have OW7 := Lib.hid (owns_keep OW6.out (Only.drew (Only.refl _ W6)))
      have R7 := Lib.hid (Only.drew R6.out)
      clear HLg KO6 OW6 R6
      obtain ⟨b0, b1, b2⟩ := HB7.out.cells
      have b0' := b0
      go_region_law (first
        | (refine step_append_lies _ (by rfl) _ _ _ (by rfl) (O + 1) 61 i0 _ 3 24 Try.underlying24 hi0 hz0 hz1 hz2 rfl (by omega) v k (flat3 ((tlegs N l).take k)) (by rfl) (OW7.out.alloc _) ⟨_, 0, none⟩ 1 1 [.int .i64 X, .int .i64 Y, .int .i64 (ls l k)] (by rfl) (by rfl) (World.news_of_block (cs := #[.int .i64 X, .int .i64 Y, .int .i64 (ls l k)]) (t := 61) (fr := (0, 0)) (heap_alloc_new _ _)) (by simp [Value.oneCell']) (by omega) (by unfold maxLen; omega) (by omega) (by have := lt_of KO7.out; simp; omega) _ rfl ?_; intro g' cap' w9 hown9 hgrow9 hat9 hlt9; obtain ⟨KO9, R9⟩ := after_app (O := O) HOw.out KO7.out OW7.out R7.out hgrow9; have cO := KO9.cells.2.2; have fO := free_of (o := 2) KO9; have KO9 := Lib.hid KO9; have R9 := Lib.hid R9; have OW9 := Lib.hid hown9; clear hown9 hgrow9 hat9 hlt9)
        | (go_simp; go_at_call_of 27 (lx l k); (with_reducible refine Calls.mono (HD.out _) ?_); rintro e w7 ⟨rfl, o'⟩; have HB7 := Lib.hid (HB7.out.keep o'); have KO7 := Lib.hid (KO7.out.keep o'); have OW7 := Lib.hid (owns_keep OW7.out o'); have R7 := Lib.hid (R7.out.trans o'); clear o'; have cO := KO7.out.cells.2.2; obtain ⟨b0, b1, b2⟩ := HB7.out.cells)
        | (go_simp; go_at_call 28; (with_reducible refine Calls.mono (HPt.out _) ?_); rintro e w8 ⟨rfl, o'⟩; have HB7 := Lib.hid (HB7.out.keep o'); have KO7 := Lib.hid (KO7.out.keep o'); have OW7 := Lib.hid (owns_keep OW7.out o'); have R7 := Lib.hid (R7.out.trans o'); clear o'; have cO := KO7.out.cells.2.2; have cOa := (KO7.out.keep ((Only.refl (fun _ => False) w8).alloc (.cells #[.int .i64 X, .int .i64 Y, .int .i64 (ls l k)] 61))).cells.2.2; obtain ⟨b0, b1, b2⟩ := HB7.out.cells))
      all_goals
        obtain ⟨S1, S2, S3⟩ := after_store HOw.out KO9.out OW9.out R9.out
        have SS := Lib.hid (And.intro S1 (And.intro S2 S3))
        have hwk := WK.out
        clear S1 S2 S3 KO9 OW9 R9 KO7 OW7 R7 HB7 cO fO
        go_wp2_with fail
        clear hwk
        go_roundw
        case rel => exact ⟨k + 1, _, by omega, by first | (rw [WK.out]; go_num) | go_num, SS.out.1, by rw [HF.out]; exact SS.out.2.1, SS.out.2.2⟩
        case measure => first | exact meas WK.out hlt | exact meas rfl hlt
    · have k1 : ((k : Int) < (l.length : Int)) = False := eq_false (by omega)
      have e : k = l.length := by omega
      subst e
      have hown := OW.out
      rw [← tlegs_len N l, List.take_length] at hown
      have hcap : ∀ a' n' c', v = .slice a' n' c' → n' = l.length → l.length ≤ c' := fun a' n' c' hv hn => by
        rcases OW.out.2 with ⟨rfl, h0⟩ | ⟨g, cp, cur, rfl, _, _, h1, _⟩
        · omega
        · injection hv with _ _ h3
          omega
      obtain ⟨a', cap', hv, hp⟩ := lgs_of_owns hown (by rw [tlegs_len]; have := HI.out.2.1; unfold maxLen; omega)
      rw [tlegs_len] at hown hv
      subst hv
      have HC := Lib.hid (hcap _ _ _ rfl rfl)
      have HBn := Lib.hid (HB4.out.keep R.out)
      obtain ⟨c0, c1, c2⟩ := KO.out.cells
      obtain ⟨d0, d1, d2⟩ := HBn.out.cells
      have f0 := free_of (o := 0) HBn.out
      have f1 := free_of (o := 1) HBn.out
      have f2 := free_of (o := 2) HBn.out
      have BN := Lib.hid (putR HBn.out (x' := X0) (y' := Y0) (v' := .slice a' l.length cap'))
      have ow := O1.out.trans (O4.out.trans R.out)
      have ON := Lib.hid (only_setNew (only_setNew (only_setNew ow (b := B + 1) (o := 0) (v := .int .i64 X0) (by rw [HBw.out]; omega)) (b := B + 1) (o := 1) (v := .int .i64 Y0) (by rw [HBw.out]; omega)) (b := B + 1) (o := 2) (v := .slice a' l.length cap') (by rw [HBw.out]; omega))
      have own3 := owns_set (owns_set (owns_set hown (B := B + 1) (o := 0) (u := .int .i64 X0) (by have := HT.out; omega)) (B := B + 1) (o := 1) (u := .int .i64 Y0) (by have := HT.out; omega)) (B := B + 1) (o := 2) (u := .slice a' l.length cap') (by have := HT.out; omega)
      obtain ⟨a3, c3, e3, hp3⟩ := lgs_of_owns (l := tlegs N l) (by rw [tlegs_len]; exact own3) (by rw [tlegs_len]; have := HI.out.2.1; unfold maxLen; omega)
      have e4 : a3 = a' := by injection e3 with q _ _; exact q.symm
      rw [e4] at hp3
      have HP' := Lib.hid hp3
      clear own3
      clear hown hcap hp hp3 ow e3 e4
      go_wp2_with fail
      exact bodyPost_ret (res2 (p := 4) (u := 5) (ty := 26) Try.results11 _ _ (B + 1) 26 _ (0, 0) _ rfl BN.out Try.underlying26 rfl (by kernel_rfl)) rfl ⟨⟨a', cap', by rw [← HXY.out.1, ← HXY.out.2]; rfl, HP'.out, HC.out⟩, ON.out⟩
end Go.Proofs.Ytmkpdnjdengcfaa.skyU
