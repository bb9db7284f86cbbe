/- Term: what the document reads of a text. -/
import Derived.Test.YtbjnejnjlidiaaaTrE
import Derived.Test.YtbjnejnjlidiaaaTrF
import Derived.Test.YtbjnejnjlidiaaaTrG
import Derived.Test.YtbjnejnjlidiaaaTrH
import Derived.Test.YtbjnejnjlidiaaaTrI
namespace Go.Proofs.Ytbjnejnjlidiaaa.trJ
open Go.RowKit Go.Proofs.Ytbjnejnjlidiaaa.kit Go.Proofs.Ytbjnejnjlidiaaa.numA Go.Proofs.Ytbjnejnjlidiaaa.numB Go.Proofs.Ytbjnejnjlidiaaa.numC Go.Proofs.Ytbjnejnjlidiaaa.numD Go.Proofs.Ytbjnejnjlidiaaa.numE Go.Proofs.Ytbjnejnjlidiaaa.numF Go.Proofs.Ytbjnejnjlidiaaa.numG Go.Proofs.Ytbjnejnjlidiaaa.tmA Go.Proofs.Ytbjnejnjlidiaaa.tmB Go.Proofs.Ytbjnejnjlidiaaa.trA Go.Proofs.Ytbjnejnjlidiaaa.trB Go.Proofs.Ytbjnejnjlidiaaa.trC Go.Proofs.Ytbjnejnjlidiaaa.trD Go.Proofs.Ytbjnejnjlidiaaa.trE
set_option linter.unusedVariables false
set_option linter.unusedSimpArgs false

theorem term_all (s : ByteArray) (hm : s.size ≤ 100000000) : ∀ N, IH s N
  | 0 => fun i f w h0 hN hf => by
    have e : i = s.size := by omega
    exact term_none s i f w hm h0 hf (by rw [(cb_out s i (by omega)).1]; decide)
  | N + 1 => fun i f w h0 hN hf => by
    have ih := term_all s hm N
    obtain ⟨k, hk⟩ : ∃ k, kindOf (cb s i) = k := ⟨_, rfl⟩
    have hk11 : k ≤ 11 := by
      by_cases h : k = 0
      · omega
      · have := (kind_letter (cb s i) (by omega)).2.2
        omega
    have e : k = 0 ∨ (1 ≤ k ∧ k ≤ 4) ∨ (k = 5 ∨ k = 7 ∨ k = 9) ∨ k = 6 ∨ k = 8 ∨ k = 10 ∨ k = 11 := by omega
    rcases e with h | h | h | h | h | h | h
    · exact term_none s i f w hm h0 hf (hk.trans h)
    · exact term_leaf s i f k w hm h0 hf hk h.1 h.2
    · exact node_o s N ih i f k w hm h0 hN hf hk h
    · exact node_6 s N ih i f w hm h0 hN hf (hk.trans h)
    · exact node_8 s N ih i f w hm h0 hN hf (hk.trans h)
    · exact node_10 s N ih i f w hm h0 hN hf (hk.trans h)
    · exact node_11 s N ih i f w hm h0 hN hf (hk.trans h)

/-- What is read of a text; a text that is no term has the kind 0. -/
def ndOf (t : Txt) : Nd := (rdT t).getD ⟨0, 0, [], []⟩

def Red (w : World) (t : Txt) (e : Ending) (w' : World) : Prop := Only (fun _ => False) w w' ∧ ∃ v, e = .returned v ∧ NdV (fun k => w.heap.size ≤ k) w' v (ndOf t)

theorem rdT_long {t : Txt} (h : 65536 < t.length) : rdT t = none := by
  unfold rdT
  rw [if_neg (by omega)]

theorem rdT_short {t : Txt} (h : t.length ≤ 65536) : rdT t = (match tmR (2 * t.length + 2) t with | some (d, []) => some d | _ => none) := by
  unfold rdT
  rw [if_pos h]
  rfl

set_option maxRecDepth 100000 in
theorem read_nd (s : ByteArray) (w : World) (hm : s.size ≤ 100000000) : Calls Try.prog 23 #[.string s] w (Red w s.data.toList) := by
  have HL := Lib.hid (tl_size s)
  by_cases hl : 65536 < s.size
  · have HF := Lib.hid (show ndOf s.data.toList = ⟨0, 0, [], []⟩ from by rw [ndOf, rdT_long (by rw [HL.out]; exact hl)]; rfl)
    have g1 : ((65536 : Int) < (s.size : Int)) = True := eq_true (by omega)
    have BN := Lib.hid (resbox s 0 w)
    clear hl hm
    go_enter Try.func23, Try.ntmps23
    go_wp2_with fail
    exact bodyPost_ret (results_cell_row (p := 2) (ty := 27) Try.results23 _ _ w.heap.size 27 _ (0, 0) _ rfl BN.out.1 Try.underlying27 rfl (by kernel_rfl)) rfl ⟨BN.out.2, _, rfl, by rw [HF.out]; exact ⟨none, 0, 0, none, 0, 0, rfl, sl_nil _ _, sl_nil _ _⟩⟩
  have g1 : ((65536 : Int) < (s.size : Int)) = False := eq_false (by omega)
  have HS := Lib.hid (show s.size ≤ 65536 by omega)
  have TA := Lib.hid (fun W => (show Calls Try.prog 104 #[.string s, .int .i64 0] W (Tmd W s (tmR (2 * s.size + 2) (s.data.toList.drop 0))) from term_all s hm s.size 0 (2 * s.size + 2) W (Nat.zero_le _) (by omega) (by omega)))
  have hpos : ∀ d rest, tmR (2 * s.size + 2) s.data.toList = some (d, rest) → 0 < s.size := fun d rest h => by
    obtain ⟨t, e, hT, _⟩ := (soundR _).1 _ _ _ h
    obtain ⟨c, r, e1, _⟩ := T.ne hT
    rw [← HL.out, e, e1]
    simp
  have BN := Lib.hid (resbox s 0 w)
  have hq : ndOf s.data.toList = ((match tmR (2 * s.size + 2) s.data.toList with | some (d, []) => some d | _ => none).getD ⟨0, 0, [], []⟩) := by
    rw [ndOf, rdT_short (by rw [HL.out]; exact HS.out), HL.out]
  rw [List.drop_zero] at TA
  generalize tmR (2 * s.size + 2) s.data.toList = q at TA hq hpos
  have HP := Lib.hid hpos
  clear hpos
  have HQ := Lib.hid hq
  clear hl hm hq
  go_enter Try.func23, Try.ntmps23
  go_wp2_with fail
  have hs1 : (w.alloc (.cells #[.int .i64 0, .int .u64 0, .slice none 0 0, .slice none 0 0] 27)).heap.size = w.heap.size + 1 := World.size_alloc _ _
  generalize w.alloc (.cells #[.int .i64 0, .int .u64 0, .slice none 0 0, .slice none 0 0] 27) = W1 at BN hs1 ⊢
  obtain ⟨B, hB⟩ : ∃ B, B = w.heap.size := ⟨_, rfl⟩
  have HBB := Lib.hid hB
  rw [← hB] at BN hs1 ⊢
  have HBL := Lib.hid (show B < W1.heap.size from lt_of BN.out.1)
  clear hB hs1
  (with_reducible refine (TA.out _).mono ?_)
  rintro e w2 ⟨o, hr⟩
  have O2 := Lib.hid o
  clear o TA
  cases q with
  | none =>
    subst hr
    have HB2 := Lib.hid (BN.out.1.keep (O2.out.alloc (.cells #[.int .i64 0, .int .u64 0, .slice none 0 0, .slice none 0 0] 27)))
    obtain ⟨f0, f1, f2, f3⟩ := HB2.out.free
    obtain ⟨d0, d1, d2, d3⟩ := HB2.out.cells
    have BM := Lib.hid (HB2.out.put (.int .i64 0) (.int .u64 0) (.slice none 0 0) (.slice none 0 0))
    have ON := Lib.hid (only_set4 (BN.out.2.trans (O2.out.alloc (.cells #[.int .i64 0, .int .u64 0, .slice none 0 0, .slice none 0 0] 27))) (B := B) (by rw [HBB.out]; omega) (.int .i64 0) (.int .u64 0) (.slice none 0 0) (.slice none 0 0))
    have z1 : ((-1 : Int) != (s.size : Int)) = true := by rw [bne_iff_ne]; omega
    go_wp2_with fail
    exact bodyPost_ret (results_cell_row (p := 2) (ty := 27) Try.results23 _ _ B 27 _ (0, 0) _ rfl BM.out Try.underlying27 rfl (by kernel_rfl)) rfl ⟨ON.out, _, rfl, by rw [HQ.out]; exact ⟨none, 0, 0, none, 0, 0, rfl, sl_nil _ _, sl_nil _ _⟩⟩
  | some dd =>
    obtain ⟨d, rest⟩ := dd
    obtain ⟨v, hv, rfl⟩ := hr
    obtain ⟨a, n, c, a', n', c', rfl, s1, s2⟩ := hv
    have oA : Only (fun _ => False) w2 (w2.alloc (.cells #[.int .i64 d.k, .int .u64 d.n, .slice a n c, .slice a' n' c'] 27)) := (Only.refl _ w2).alloc _
    have SS := Lib.hid (And.intro ((s1.keep oA fun _ _ h => h).mono (T := fun k => B < k) fun k hk => by have := HBL.out; omega) ((s2.keep oA fun _ _ h => h).mono (T := fun k => B < k) fun k hk => by have := HBL.out; omega))
    have HB2 := Lib.hid (BN.out.1.keep (O2.out.alloc (.cells #[.int .i64 d.k, .int .u64 d.n, .slice a n c, .slice a' n' c'] 27)))
    have O3 := Lib.hid (BN.out.2.trans (O2.out.alloc (.cells #[.int .i64 d.k, .int .u64 d.n, .slice a n c, .slice a' n' c'] 27)))
    have NW := Lib.hid (Box4.new w2 (.int .i64 d.k) (.int .u64 d.n) (.slice a n c) (.slice a' n' c'))
    obtain ⟨f0, f1, f2, f3⟩ := HB2.out.free
    obtain ⟨d0, d1, d2, d3⟩ := HB2.out.cells
    clear s1 s2 oA
    cases rest with
    | nil =>
      have z1 : (((behind s [] : Nat) : Int) != (s.size : Int)) = false := by simp [behind]
      have BM := Lib.hid (HB2.out.put (.int .i64 d.k) (.int .u64 d.n) (.slice a n c) (.slice a' n' c'))
      have ON := Lib.hid (only_set4 O3.out (B := B) (by rw [HBB.out]; omega) (.int .i64 d.k) (.int .u64 d.n) (.slice a n c) (.slice a' n' c'))
      go_wp2_with fail
      exact bodyPost_ret (results_cell_row (p := 2) (ty := 27) Try.results23 _ _ B 27 _ (0, 0) _ rfl BM.out Try.underlying27 rfl (by kernel_rfl)) rfl ⟨ON.out, _, rfl, by rw [HQ.out]; exact nd_set4 (fun k hk => by have := HBB.out; omega) _ _ _ _ _ _ rfl SS.out.1 SS.out.2⟩
    | cons x r =>
      have z1 : (((behind s (x :: r) : Nat) : Int) != (s.size : Int)) = true := by
        rw [bne_iff_ne]
        have := HP.out _ _ rfl
        simp only [behind, List.length_cons]
        omega
      have BM := Lib.hid (HB2.out.put (.int .i64 0) (.int .u64 0) (.slice none 0 0) (.slice none 0 0))
      have ON := Lib.hid (only_set4 O3.out (B := B) (by rw [HBB.out]; omega) (.int .i64 0) (.int .u64 0) (.slice none 0 0) (.slice none 0 0))
      go_wp2_with fail
      exact bodyPost_ret (results_cell_row (p := 2) (ty := 27) Try.results23 _ _ B 27 _ (0, 0) _ rfl BM.out Try.underlying27 rfl (by kernel_rfl)) rfl ⟨ON.out, _, rfl, by rw [HQ.out]; exact ⟨none, 0, 0, none, 0, 0, rfl, sl_nil _ _, sl_nil _ _⟩⟩

theorem ndOf_kind (t : Txt) : (ndOf t).k ≤ 11 ∧ ((ndOf t).k = 0 ↔ rdT t = none) := by
  unfold ndOf
  cases h : rdT t with
  | none => simp
  | some d =>
    obtain ⟨hT, _⟩ := rdT_iff.1 h
    obtain ⟨c, r, _, _, h1, h2⟩ := T.ne hT
    simp only [Option.getD_some]
    exact ⟨h2, ⟨fun q => absurd q (by omega), fun q => by cases q⟩⟩

theorem field0 (k n b p : Value) (W : World) : (Instr.field 27 (.agg #[k, n, b, p]) 0).run Try.prog W = .ok k W := by
  simp [Instr.field, fieldPlace, part, isAgg, asAgg, run_underlying Try.underlying27, run_underlying Try.underlying3, go_sem]
theorem field1 (k n b p : Value) (W : World) : (Instr.field 27 (.agg #[k, n, b, p]) 1).run Try.prog W = .ok n W := by
  simp [Instr.field, fieldPlace, part, isAgg, asAgg, run_underlying Try.underlying27, run_underlying Try.underlying23, go_sem]
theorem field2 (k n b p : Value) (W : World) : (Instr.field 27 (.agg #[k, n, b, p]) 2).run Try.prog W = .ok b W := by
  simp [Instr.field, fieldPlace, part, isAgg, asAgg, run_underlying Try.underlying27, run_underlying Try.underlying24, go_sem]
theorem field3 (k n b p : Value) (W : World) : (Instr.field 27 (.agg #[k, n, b, p]) 3).run Try.prog W = .ok p W := by
  simp [Instr.field, fieldPlace, part, isAgg, asAgg, run_underlying Try.underlying27, run_underlying Try.underlying25, go_sem]

def isT (t : Txt) : Bool := (rdT t).isSome

set_option maxRecDepth 100000 in
theorem is_any (s : ByteArray) (w : World) (hm : s.size ≤ 100000000) : Calls Try.prog 39 #[.string s] w (numA.Told w (.bool (isT s.data.toList))) := by
  have RN := Lib.hid (read_nd s w hm)
  obtain ⟨k1, k2⟩ := ndOf_kind s.data.toList
  have HI := Lib.hid (show isT s.data.toList = decide (0 < (ndOf s.data.toList).k) from by
    unfold isT
    cases h : rdT s.data.toList with
    | none =>
      have := k2.2 h
      simp [this]
    | some d =>
      have : (ndOf s.data.toList).k ≠ 0 := fun q => by rw [k2.1 q] at h; cases h
      simp
      omega)
  clear k1 k2 hm
  go_enter Try.func39, Try.ntmps39
  go_wp2_with fail
  (with_reducible refine RN.out.mono ?_)
  rintro e w2 ⟨o, v, rfl, a, n, c, a', n', c', rfl, s1, s2⟩
  have O := Lib.hid o
  clear o s1 s2
  have hf := fun W => field0 (.int .i64 (ndOf s.data.toList).k) (.int .u64 (ndOf s.data.toList).n) (.slice a n c) (.slice a' n' c') W
  go_wp2_with fail
  go_ret
  exact ⟨by rw [HI.out]; rfl, O.out⟩
end Go.Proofs.Ytbjnejnjlidiaaa.trJ
