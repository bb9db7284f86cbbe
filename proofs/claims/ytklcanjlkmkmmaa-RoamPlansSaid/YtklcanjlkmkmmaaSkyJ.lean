/- sky: Changes. -/
import Derived.Test.YtklcanjlkmkmmaaSkyI
import Derived.ScopeJumps
namespace Go.Proofs.Ytklcanjlkmkmmaa.skyJ
open Go.RowKit Go.Lib Go.Proofs.Ytklcanjlkmkmmaa.kit Go.Proofs.Ytklcanjlkmkmmaa.floA Go.Proofs.Ytklcanjlkmkmmaa.skyA Go.Proofs.Ytklcanjlkmkmmaa.skyB Go.Proofs.Ytklcanjlkmkmmaa.skyC Go.Proofs.Ytklcanjlkmkmmaa.skyD Go.Proofs.Ytklcanjlkmkmmaa.skyE Go.Proofs.Ytklcanjlkmkmmaa.skyF Go.Proofs.Ytklcanjlkmkmmaa.skyG Go.Proofs.Ytklcanjlkmkmmaa.skyH Go.Proofs.Ytklcanjlkmkmmaa.skyI
set_option linter.unusedVariables false
set_option linter.unusedSimpArgs false

theorem info58 : (Try.prog.info? 69).map (fun i => (i.zero, i.size, i.bytes)) = some (some (.agg #[.int .i64 0, .int .i64 0]), 2, 16) := by kernel_rfl

theorem chg_zero (m : List (Int × Int)) (x y : Int) (l : List Leg3) (hp : pos l l.length) : chg m x y l 0 = [(0, ((best m x y m.length : Nat) : Int))] := by
  have e1 := pos_start x l hp
  have e2 := pos_start y l hp
  simp only [chg, near, Int.natCast_zero, e1.1, e2.2]

theorem wrap_less {left n : Int} (h0 : 0 ≤ left) (h1 : left ≤ n) (h2 : n ≤ 10000) : wrap64 (left - 1) = left - 1 := IntWalk.wrap64_in _ (by omega)

theorem wrap_more {t : Nat} (h : t ≤ 100000) : wrap64 ((t : Int) + 1) = ((t + 1 : Nat) : Int) := (IntWalk.wrap64_in _ (by omega)).trans (by omega)

/-- One more element behind a row of one's own; blocks of other types are as they were. -/
theorem app2 {t e : TypeId} {z : Value} {size bytes : Nat} (ht : Try.prog.underlying t = some (.slice e)) (info : (Try.prog.info? e).map (fun i => (i.zero, i.size, i.bytes)) = some (some z, size, bytes)) (hz : z.cells.size = size) (hsz : 0 < size) (hb : bytes ≤ 1000)
    {w0 W : World} (o : Only (fun _ => False) w0 W) {v : Value} {n : Nat} {xs : List Value} (h : W.ownsRow w0.heap.size e size v n xs) (news : List Value) (hl : news.length = size) (h1 : ∀ u ∈ news, u.oneCell' = true) (hn : n ≤ 100000) :
    ∃ v' w', (Builtin.append_ #[t, t] t #[v, .slice (some ⟨W.heap.size, 0, none⟩) 1 1]).run Try.prog (W.alloc (.cells news.toArray e)) = .ok v' w' ∧ w'.ownsRow w0.heap.size e size v' (n + 1) (xs ++ news) ∧ Only (fun _ => False) w0 w' ∧
      ∀ (k : Nat) (c : Array Value) (e' : TypeId), e' ≠ e → W.heap[k]? = some (.cells c e' (0, 0)) → w'.heap[k]? = some (.cells c e' (0, 0)) := by
  have o' : Only (fun _ => False) w0 (W.alloc (.cells news.toArray e)) := o.alloc _
  have h' := h.alloc (.cells news.toArray e)
  have hh := heap_alloc_new W (.cells news.toArray e)
  obtain ⟨i0, hi0, hz0, hz1, hz2⟩ := info_parts info
  obtain ⟨v', w', hr, hown', hgrow, hnil⟩ := run_append_own (P := Try.prog) (W.alloc (.cells news.toArray e)) w0.heap.size t t e i0 z size bytes ht hi0 hz0 hz1 hz2 hz hsz v n xs h' ⟨W.heap.size, 0, none⟩ 1 1 news (by omega) (fun j u hj => by
      rw [Addr.add_lit, cell_of hh, Nat.zero_add]
      simpa using hj) h1 (by unfold maxLen; omega) (by
        have : (n + 1) * bytes ≤ 100001 * 1000 := Nat.mul_le_mul (by omega) hb
        omega) o'.size
  refine ⟨v', w', hr, hown', Only.grownNew o' hgrow fun k hk => (World.ownsRow.lt h' k hk).1, fun k c e' he hk => ?_⟩
  have hk' : (W.alloc (.cells news.toArray e)).heap[k]? = some (.cells c e' (0, 0)) := (Below.heap_alloc _ _ _ (lt_of hk)).trans hk
  refine (hgrow.block k (lt_of hk') fun e'' => ?_).trans hk'
  rcases h'.2 with hv | ⟨g, cap, cur, hv, _, hg, _⟩
  · rw [hv.1] at e''; cases e''
  · rw [hv] at e''
    injection e'' with e''
    subst e''
    rw [hk'] at hg
    injection hg with hg
    injection hg with a b
    exact he b

theorem scope_jumps {P : Program} {a : Act} {w : World} {Q : Exit → Act → World → Prop} {c y : Code} (l : Nat) (J : Act → World → Prop) (μ : Act → World → Nat) (hf : findLabel c l = some (.seq .skip y))
    (pass : ∀ a w, J a w → y.wp P (Exit.jump l (fun a' w' => J a' w' ∧ μ a' w' < μ a w) Q) a w)
    (first : (∀ a w, J a w → y.wp P (Exit.jump l J Q) a w) → c.wp P (Exit.jump l J Q) a w) : (Code.scope c).wp P Q a w :=
  wp_scope_jumps l J μ hf (first fun a w h => Code.wp_mono (fun e a' w' q => by
    cases e
    case goto l' => exact ⟨q.1, q.2.1⟩
    all_goals exact q) (pass a w h)) fun a w h => wp_seq (wp_skip (pass a w h))

/-- What is held at second t: where it is, which mast was nearest, the changes so far. -/
def Round' (W1 wr : World) (m : List (Int × Int)) (x y : Int) (l : List Leg3) (v : Value) (t last : Nat) (out : Value) : Prop :=
  ∃ c d, v = .complex .f64 c d ∧ Fl c (posX x l t) ∧ Fl d (posY y l t) ∧ last = near m x y l t ∧ Only (fun _ => False) W1 wr ∧ wr.ownsRow W1.heap.size 69 2 out (chg m x y l t).length (flat (chg m x y l t))

set_option maxHeartbeats 4000000 in
theorem changes_good (ma : Option Addr) (mcap : Nat) (m : List (Int × Int)) (x y : Int) (a : Option Addr) (cap : Nat) (l : List Leg3) (U : Nat) (w : World) (hm : Pts w ma m) (hl : Lgs w a l) (hll : l.length ≤ 1000) (hg : good m = true) (hr : routeOk x y l = true) (hU : U ≤ 100000) :
    Calls Try.prog 18 #[.slice ma m.length mcap, rt x y a l.length cap, .int .i64 U] w fun e w' => (∃ a' cap', e = .returned (.tuple #[.slice a' (chg m x y l U).length cap', .int .i64 0]) ∧ Pts w' a' (chg m x y l U)) ∧ Only (fun _ => False) w w' := by
  have hq : ok m = true ∧ 1 ≤ m.length ∧ m.length ≤ 64 := by
    simp [good] at hg
    exact ⟨hg.1, by omega, by omega⟩
  have hrr : inP 16777216 x y = true ∧ l.length ≤ 64 ∧ okR x y l l.length = true := by
    simp [routeOk] at hr
    exact ⟨hr.1, by omega, hr.2.2⟩
  have o1 : Only (fun _ => False) w (w.alloc (.cells #[.int .i64 x, .int .i64 y, .slice a l.length cap] 53)) := (Only.refl _ w).alloc _
  have HM := Lib.hid (hm.keep o1)
  have HL := Lib.hid (hl.keep o1)
  have HLL := Lib.hid hll
  have HG := Lib.hid hg
  have HRt := Lib.hid hr
  have HQ := Lib.hid hq
  have HR := Lib.hid hrr
  have HU := Lib.hid hU
  have O1 := Lib.hid o1
  have HB := Lib.hid (show BoxR (w.alloc (.cells #[.int .i64 x, .int .i64 y, .slice a l.length cap] 53)) w.heap.size x y (.slice a l.length cap) from heap_alloc_new w _)
  have hs1 : (w.alloc (.cells #[.int .i64 x, .int .i64 y, .slice a l.length cap] 53)).heap.size = w.heap.size + 1 := World.size_alloc _ _
  have u0 : ((U : Int) < 0) = False := eq_false (by omega)
  have u1 : ((100000 : Int) < (U : Int)) = False := eq_false (by omega)
  clear hm hl hll hg hr hq hrr hU o1
  go_enter Try.func18, Try.ntmps18
  go_wp2_with fail
  generalize w.alloc (.cells #[.int .i64 x, .int .i64 y, .slice a l.length cap] 53) = W1 at HM HL HB O1 hs1 ⊢
  generalize w.heap.size = B at HB hs1 ⊢
  have T := numbers_good ma mcap m W1 HM.out HG.out
  with_reducible refine T.mono ?_
  rintro e w2 ⟨⟨nb, ncap, rfl, hns⟩, o⟩
  have O2 := Lib.hid o
  have HN := Lib.hid hns
  have HRR := Lib.hid (routeright_any x y a cap l w2 (HL.out.keep o) HLL.out)
  obtain ⟨c0, c1, c2⟩ := (HB.out.keep o).cells
  clear o hns T
  rw [HRt.out] at HRR
  go_wp2_with fail
  with_reducible refine HRR.out.mono ?_
  rintro e w3 ⟨rfl, o⟩
  have O3 := Lib.hid (O2.out.trans o)
  have HN3 := Lib.hid (HN.out.keep o)
  have HB3 := Lib.hid (HB.out.keep O3.out)
  have HL3 := Lib.hid (HL.out.keep O3.out)
  obtain ⟨c0, c1, c2⟩ := HB3.out.cells
  have HNum := Lib.hid number_det
  clear o HRR HN HB HL
  go_wp2_with fail
  with_reducible refine (HNum.out _ _ _).mono ?_
  rintro e w4 ⟨rfl, o⟩
  have O4 := Lib.hid o
  have hi := inP_iff.1 HR.out.1
  have m0 : Mid x := ⟨hi.1, hi.2.1⟩
  have m1 : Mid y := hi.2.2
  have NE := Lib.hid (nearest_any nb 0 ncap m (fl x) (fl y) x y w4 (HN3.out.keep o) (fl_mid m0) (fl_mid m1) m0 m1 HQ.out.1 HQ.out.2.1 HQ.out.2.2)
  have F0 := Lib.hid (And.intro (fl_mid m0) (fl_mid m1))
  obtain ⟨n0, hn0⟩ : ∃ n0 : Nat, n0 = best m x y m.length := ⟨_, rfl⟩
  rw [← hn0] at NE
  have HN0 := Lib.hid hn0
  clear o hi m0 m1 hn0
  go_wp2_with fail
  with_reducible refine NE.out.mono ?_
  rintro e w5 ⟨rfl, o⟩
  have O5 := Lib.hid (O4.out.trans o)
  clear o NE
  have o6 := O5.out.alloc (.cells #[.int .i64 0, .int .i64 (n0 : Nat)] 69)
  have c3 := (HB3.out.keep o6).cells.2.2
  have R0 : Hid (Round' w3 (w5.alloc (.cells #[.int .i64 0, .int .i64 (n0 : Nat)] 69)) m x y l (.complex .f64 (fl x) (fl y)) 0 n0 (.slice (some ⟨w5.heap.size, 0, none⟩) 1 1)) := Lib.hid (by
    have e := chg_zero m x y l (pos_of HR.out.2.2)
    have e1 := pos_start x l (pos_of HR.out.2.2)
    have e2 := pos_start y l (pos_of HR.out.2.2)
    refine ⟨_, _, rfl, by rw [Int.natCast_zero, e1.1]; exact F0.out.1, by rw [Int.natCast_zero, e2.2]; exact F0.out.2, by rw [near, Int.natCast_zero, e1.1, e2.2]; exact HN0.out, o6, ?_⟩
    rw [e, ← HN0.out]
    exact ⟨rfl, .inr ⟨w5.heap.size, 1, _, rfl, O5.out.size, heap_alloc_new w5 _, Nat.le_refl _, by decide, rfl, rfl⟩⟩)
  clear o6
  go_wp2_with fail
  generalize w5.alloc (.cells #[.int .i64 0, .int .i64 (n0 : Nat)] 69) = W6 at R0 c3 ⊢
  generalize w5.heap.size = B5 at R0 ⊢
  have HK := Lib.hid (pos_of HR.out.2.2)
  clear HN0 c3 F0
  go_loopw [10, 11, 12, 13, 48] (fun v s la out i wr => ∃ (k t last : Nat), k ≤ l.length ∧ i = .int .i64 k ∧ s = .int .i64 t ∧ la = .int .i64 last ∧ t ≤ U ∧ (t = U ∨ (t : Int) = sm l k) ∧ Round' w3 wr m x y l v t last out) (fun _ _ _ _ i _ => l.length - (intOf i).toNat)
  case atStart => exact ⟨0, 0, n0, Nat.zero_le _, rfl, rfl, rfl, Nat.zero_le _, .inr rfl, R0.out⟩
  case round =>
    obtain ⟨k, t, last, hk, rfl, rfl, rfl, ht, hts, hR⟩ := hrel
    have RR := Lib.hid hR
    have HT := Lib.hid hts
    have Ht := Lib.hid ht
    clear hR hts ht R0
    by_cases hlt : k < l.length
    · have k1 : ((k : Int) < (l.length : Int)) = True := eq_true (by omega)
      have k1n : ((k : Int) < (l.length : Int)) := by omega
      have wk : wrap64 ((k : Int) + 1) = (k : Int) + 1 := wrap_succ hlt (by have := HLL.out; unfold maxLen; omega)
      obtain ⟨c, d, rfl, fc, fd, hl, o, own⟩ := RR.out
      obtain ⟨b, off, rfl, hb, c0, c1, c2⟩ := (HL3.out.keep o).at hlt
      have BX := Lib.hid (show Box3 (wr.alloc (.cells #[.int .i64 (lx l k), .int .i64 (ly l k), .int .i64 (ls l k)] 59)) wr.heap.size (lx l k) (ly l k) (ls l k) 59 from heap_alloc_new wr _)
      have OO := Lib.hid (o.alloc (.cells #[.int .i64 (lx l k), .int .i64 (ly l k), .int .i64 (ls l k)] 59))
      have OW := Lib.hid (own.alloc (.cells #[.int .i64 (lx l k), .int .i64 (ly l k), .int .i64 (ls l k)] 59))
      have F8 := Lib.hid (And.intro fc (And.intro fd hl))
      clear fc fd hl o own
      go_wp2_with fail
      generalize wr.alloc (.cells #[.int .i64 (lx l k), .int .i64 (ly l k), .int .i64 (ls l k)] 59) = W8 at BX OO OW ⊢
      generalize wr.heap.size = BL at BX ⊢
      refine scope_jumps 0 (fun a' w' => ∃ (t' last' : Nat) (left : Int) (v' out' q17 q52 q53 q54 q55 q56 q57 q58 q59 q60 q61 q62 q63 q64 q65 q66 q67 q68 q69 q70 q71 q72 q73 q74 q75 q76 q77 q78 q79 q80 : Value), a' = { tmps := #[Value.slice ma m.length mcap, rt x y (some ⟨b, off, none⟩) l.length cap, .int .i64 U, undef, .pointer (some ⟨B, 0, none⟩), undef, .slice none 0 0, .int .i64 0, .slice (some ⟨nb, 0, none⟩) m.length ncap, .bool true, v', .int .i64 t', .int .i64 last', out', undef, .pointer (some ⟨BL, 0, none⟩), .int .i64 left, q17, .tuple #[.slice (some ⟨nb, 0, none⟩) m.length ncap, .bool true], .slice ma m.length mcap, .tuple #[.slice (some ⟨nb, 0, none⟩) m.length ncap, .bool true], .slice (some ⟨nb, 0, none⟩) m.length ncap, .bool true, .bool true, .bool false, .bool false, .agg #[.int .i64 x, .int .i64 y, .slice (some ⟨b, off, none⟩) l.length cap], .bool true, .bool false, .bool false, .int .i64 U, .bool false, .bool false, .int .i64 U, .bool false, .bool false, .pointer (some ⟨B, 0, none⟩), .agg #[.int .i64 x, .int .i64 y], .complex .f64 (fl x) (fl y), .slice (some ⟨nb, 0, none⟩) m.length ncap, .complex .f64 (fl x) (fl y), .int .i64 n0, .int .i64 n0, .agg #[.int .i64 0, .int .i64 n0], .slice (some ⟨B5, 0, none⟩) 1 1, .pointer (some ⟨B, 2, none⟩), .slice (some ⟨b, off, none⟩) l.length cap, .int .i64 l.length, .int .i64 k, .bool true, .pointer (some ⟨b, off + k * 3, none⟩), .agg #[.int .i64 (lx l k), .int .i64 (ly l k), .int .i64 (ls l k)], q52, q53, q54, q55, q56, q57, q58, q59, q60, q61, q62, q63, q64, q65, q66, q67, q68, q69, q70, q71, q72, q73, q74, q75, q76, q77, q78, q79, q80, u81, undef], defers := [] } ∧ 0 ≤ left ∧ left ≤ ls l k ∧ t' ≤ U ∧ (t' = U ∨ (t' : Int) = sm l k + (ls l k - left)) ∧ Round' w3 w' m x y l v' t' last' out' ∧ Box3 w' BL (lx l k) (ly l k) (ls l k) 59) (fun a' w' => (intOf (a'.tmps.getD 16 undef)).toNat) rfl ?_ ?_
      · rintro a' w' ⟨t', last', left, v', out', q17, q52, q53, q54, q55, q56, q57, q58, q59, q60, q61, q62, q63, q64, q65, q66, q67, q68, q69, q70, q71, q72, q73, q74, q75, q76, q77, q78, q79, q80, rfl, h0, h1, h2, h3, hR, hB⟩
        have H3 := Lib.hid (And.intro h0 (And.intro h1 (And.intro h2 h3)))
        obtain ⟨c, d, rfl, fc, fd, hla, o, own⟩ := hR
        have RX := Lib.hid (And.intro fc (And.intro fd (And.intro hla (And.intro o own))))
        have BX' := Lib.hid hB
        clear h0 h1 h2 h3 fc fd hla o own hB OO OW BX
        go_hide hQ
        by_cases e0 : left = 0
        · subst e0
          have R' := Lib.hid (show Round' w3 w' m x y l (.complex .f64 c d) t' last' out' from ⟨c, d, rfl, RX.out⟩)
          go_wp2_with fail
          subst hQ
          simp only [Exit.jump]
          go_wp2_with fail
          go_roundw
          case rel => exact ⟨k + 1, t', last', by omega, by go_num, rfl, rfl, H3.out.2.2.1, by have := H3.out; simp only [sm]; omega, R'.out⟩
          case measure => first | exact meas wk hlt | exact meas rfl hlt
        have b0 : (left == 0) = false := beq_false_of_ne e0
        by_cases e1 : t' = U
        · subst e1
          have R' := Lib.hid (show Round' w3 w' m x y l (.complex .f64 c d) t' last' out' from ⟨c, d, rfl, RX.out⟩)
          go_wp2_with fail
          subst hQ
          simp only [Exit.jump]
          go_wp2_with fail
          go_roundw
          case rel => exact ⟨k + 1, t', last', by omega, by go_num, rfl, rfl, H3.out.2.2.1, .inl rfl, R'.out⟩
          case measure => first | exact meas wk hlt | exact meas rfl hlt
        have hH := H3.out
        clear wk
        have b1 : ((t' : Int) == (U : Int)) = false := beq_false_of_ne (by omega)
        have ec : ((t' + 1 : Nat) : Int) = (t' : Int) + 1 := by omega
        have hj : (t' : Int) = sm l k + (ls l k - left) := by omega
        have hq := legOk_iff.1 (legs_ok HR.out.2.2 k hlt)
        obtain ⟨p0, p1⟩ := pos_mid HR.out.1 HR.out.2.2 hlt hj (by omega) (by omega)
        obtain ⟨q0, q1⟩ := pos_mid HR.out.1 HR.out.2.2 hlt (t := ((t' + 1 : Nat) : Int)) (j := ls l k - left + 1) (by omega) (by omega) (by omega)
        obtain ⟨s0, s1⟩ := pos_step (x := x) (y := y) HK.out hlt hj (by omega) (by omega)
        rw [← ec] at s0 s1
        have HA := Lib.hid (after_any (lx l k) (ly l k) (ls l k) 1 (posX x l t') (posY y l t') c d RX.out.1 RX.out.2.1 p0 p1 ⟨hq.1.1, hq.1.2.1⟩ hq.1.2.2 ⟨by decide, by decide⟩)
        rw [← s0, ← s1] at HA
        obtain ⟨n', hn'⟩ : ∃ n', n' = near m x y l (t' + 1) := ⟨_, rfl⟩
        have NE := Lib.hid (fun (w' : World) (o : Only (fun _ => False) w3 w') (c' d' : Nat) (fc : Fl c' (posX x l ((t' + 1 : Nat) : Int))) (fd : Fl d' (posY y l ((t' + 1 : Nat) : Int))) => nearest_any nb 0 ncap m c' d' _ _ w' (HN3.out.keep o) fc fd q0 q1 HQ.out.1 HQ.out.2.1 HQ.out.2.2)
        rw [show best m (posX x l ((t' + 1 : Nat) : Int)) (posY y l ((t' + 1 : Nat) : Int)) m.length = n' from hn'.symm] at NE
        have HN' := Lib.hid hn'
        have H5 := Lib.hid (And.intro hj (And.intro e1 e0))
        obtain ⟨c0, c1, c2⟩ := BX'.out.cells
        have HW := Lib.hid (And.intro (wrap_less (left := left) (n := ls l k) (by omega) (by omega) (by omega)) (wrap_more (t := t') (by have := HU.out; omega)))
        clear hH ec hj hq p0 p1 q0 q1 s0 s1 hn'
        obtain ⟨w1, w2⟩ := HW.out
        go_wp2_with fail
        with_reducible refine (HA.out _).mono ?_
        rintro e w6 ⟨⟨c', d', rfl, fc', fd'⟩, o⟩
        have O6 := Lib.hid (RX.out.2.2.2.1.trans o)
        have OW6 := Lib.hid (owns_keep RX.out.2.2.2.2 o)
        have BX6 := Lib.hid (BX'.out.keep o)
        have FF := Lib.hid (And.intro fc' fd')
        have NE' := Lib.hid (NE.out w6 O6.out c' d' fc' fd')
        clear o fc' fd' NE c0 c1 c2 HA
        go_wp2_with fail
        with_reducible refine NE'.out.mono ?_
        rintro e w7 ⟨rfl, o⟩
        have O7 := Lib.hid (O6.out.trans o)
        have OW7 := Lib.hid (owns_keep OW6.out o)
        have BX7 := Lib.hid (BX6.out.keep o)
        clear o w1 w2
        by_cases g : n' = last'
        · subst g
          have hc : chg m x y l (t' + 1) = chg m x y l t' := if_pos (HN'.out.symm.trans RX.out.2.2.1)
          have R' := Lib.hid (show Round' w3 w7 m x y l (.complex .f64 c' d') (t' + 1) n' out' from ⟨c', d', rfl, FF.out.1, FF.out.2, HN'.out, O7.out, by rw [hc]; exact OW7.out⟩)
          clear hc
          go_wp2_with fail
          go_step3
          subst hQ
          exact ⟨rfl, ⟨t' + 1, n', left - 1, _, _, _, _, _, _, _, _, _, _, _, _, _, _, _, _, _, _, _, _, _, _, _, _, _, _, _, _, _, _, _, _, rfl, by have := H3.out; have := H5.out; omega, by have := H3.out; omega, by have := H3.out; have := H5.out; omega, .inr (by have := H5.out; omega), R'.out, BX7.out⟩, by have := H3.out; have := H5.out; simp [intOf]; omega⟩
        · have hc : chg m x y l (t' + 1) = chg m x y l t' ++ [(((t' + 1 : Nat) : Int), (n' : Int))] := by
            rw [HN'.out]
            exact if_neg (fun e => g (HN'.out.trans (e.trans RX.out.2.2.1.symm)))
          have gb : ((n' : Int) == (last' : Int)) = false := beq_false_of_ne (by omega)
          obtain ⟨v'', w8, hrun, hown, o8, oth⟩ := app2 (bytes := 16) (size := 2) Try.underlying65 info58 rfl (by decide) (by decide) O7.out OW7.out [.int .i64 ((t' + 1 : Nat) : Int), .int .i64 (n' : Int)] rfl (fun u hu => by simp at hu; rcases hu with rfl | rfl <;> rfl) (by have := chg_len m x y l t'; have := HU.out; have := H3.out; have := H5.out; omega)
          have hown' : w8.ownsRow w3.heap.size 69 2 v'' (chg m x y l (t' + 1)).length (flat (chg m x y l (t' + 1))) := by
            rw [hc, List.length_append, flat, List.flatMap_append]
            exact hown
          have BX8 := Lib.hid (show Box3 w8 BL (lx l k) (ly l k) (ls l k) 59 from oth _ _ 59 (by decide) BX7.out)
          have R' := Lib.hid (show Round' w3 w8 m x y l (.complex .f64 c' d') (t' + 1) n' v'' from ⟨c', d', rfl, FF.out.1, FF.out.2, HN'.out, o8, hown'⟩)
          clear hc hown hown' o8 oth
          go_wp2_with (first | (at_builtin; refine Lib.wpList_append_run _ rfl (.tmp 75) (.tmp 79) 65 65 rfl _ _ rfl rfl _ _ hrun ?_))
          go_step3
          subst hQ
          exact ⟨rfl, ⟨t' + 1, n', left - 1, _, _, _, _, _, _, _, _, _, _, _, _, _, _, _, _, _, _, _, _, _, _, _, _, _, _, _, _, _, _, _, _, rfl, by have := H3.out; have := H5.out; omega, by have := H3.out; omega, by have := H3.out; have := H5.out; omega, .inr (by have := H5.out; omega), R'.out, BX8.out⟩, by have := H3.out; have := H5.out; simp [intOf]; omega⟩
      · intro hrest
        obtain ⟨c0, c1, c2⟩ := BX.out.cells
        go_wp2_with fail
        have H4 := Lib.hid (legOk_iff.1 (legs_ok HR.out.2.2 k hlt))
        go_step3
        go_step
        go_step
        exact hrest _ _ ⟨t, last, ls l k, _, _, _, _, _, _, _, _, _, _, _, _, _, _, _, _, _, _, _, _, _, _, _, _, _, _, _, _, _, _, _, _, rfl, by have := H4.out; omega, Int.le_refl _, Ht.out, by have := HT.out; omega, ⟨c, d, rfl, F8.out.1, F8.out.2.1, F8.out.2.2, OO.out, OW.out⟩, BX.out⟩
    · have k1 : ((k : Int) < (l.length : Int)) = False := eq_false (by omega)
      have e : k = l.length := by omega
      subst e
      obtain ⟨c, d, rfl, fc, fd, hl, o, own⟩ := RR.out
      have ec : chg m x y l U = chg m x y l t := by
        rcases HT.out with h | h
        · rw [h]
        · exact chg_end HK.out (by omega) Ht.out
      obtain ⟨a', cap', rfl, hp⟩ := pts_of_owns own (by have := chg_len m x y l t; have := HU.out; have := Ht.out; unfold maxLen; omega)
      have HP' := Lib.hid hp
      have O' := Lib.hid o
      have EC := Lib.hid ec
      clear own hp fc fd hl o ec
      go_wp2_with fail
      exact bodyPost_ret (v := .tuple #[.slice a' (chg m x y l t).length cap', .int .i64 0]) (by simp [results, Try.results18, go_sem]) rfl ⟨⟨a', cap', by rw [EC.out], by rw [EC.out]; exact HP'.out⟩, O1.out.trans (O3.out.trans O'.out)⟩
end Go.Proofs.Ytklcanjlkmkmmaa.skyJ
