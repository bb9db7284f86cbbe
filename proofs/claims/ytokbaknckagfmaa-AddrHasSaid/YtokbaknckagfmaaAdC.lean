/- Addresses: whether two have the same first bits. -/
import Derived.Test.YtokbaknckagfmaaAdB
import Derived.RangeFuncFrom
import Derived.RangeFuncBox
import Derived.Laws.BitsAllLaws
namespace Go.Proofs.Ytokbaknckagfmaa.adC
open Go.RowKit kit numA numB numD adA adB
set_option linter.unusedVariables false
set_option linter.unusedSimpArgs false

attribute [local go_sem] Oper.semAt_some
open Go.Shelf

/-- The same question, asked of the pairs. -/
def alz : List (UInt8 × UInt8) → Nat → Bool
  | x :: r, n => if n < 8 then (x.1.toNat ^^^ x.2.toNat) >>> (8 - n) == 0 else if x.1 = x.2 then alz r (n - 8) else false
  | [], _ => true
theorem alk_upto : ∀ (l m : Txt) (n : Nat), l.length = m.length → alk l m n = alz (upto (prs l m) l.length) n
  | [], m, n, h => by cases m <;> simp [alk, upto, alz]
  | x :: l, [], n, h => by simp at h
  | x :: l, y :: m, n, h => by
    have e : upto (prs (x :: l) (y :: m)) (x :: l).length = (x, y) :: upto (prs l m) l.length := by
      simp only [upto, List.length_cons, List.range_succ_eq_map, List.map_cons, List.map_map]
      congr 1
    rw [e, alk, alz, alk_upto l m _ (by simpa using h)]
/-- What the pairs that have come leave to ask. -/
def Left (pre : List (UInt8 × UInt8)) (n q : Nat) : Prop := ∀ r, alz (pre ++ r) n = alz r q
theorem Left.step {pre : List (UInt8 × UInt8)} {n q : Nat} (h : Left pre n q) (x : UInt8 × UInt8) (hq : ¬ q < 8) (hx : x.1 = x.2) : Left (pre ++ [x]) n (q - 8) := fun r => by
  rw [List.append_assoc, h, List.singleton_append, alz, if_neg hq, if_pos hx]
theorem Left.last {pre : List (UInt8 × UInt8)} {n q : Nat} (h : Left pre n q) (x : UInt8 × UInt8) (hq : q < 8) (r) : alz (pre ++ [x] ++ r) n = ((x.1.toNat ^^^ x.2.toNat) >>> (8 - q) == 0) := by
  rw [List.append_assoc, h, List.singleton_append, alz, if_pos hq]
theorem Left.differ {pre : List (UInt8 × UInt8)} {n q : Nat} (h : Left pre n q) (x : UInt8 × UInt8) (hq : ¬ q < 8) (hx : ¬ x.1 = x.2) (r) : alz (pre ++ [x] ++ r) n = false := by
  rw [List.append_assoc, h, List.singleton_append, alz, if_neg hq, if_neg hx]
theorem xor_top8 {a b s : Nat} (ha : a < 256) (hb : b < 256) : ((bits .xor .u8 (a : Int) (b : Int) / 2 ^ s == 0) : Bool) = ((a ^^^ b) >>> s == 0) := by
  rw [Go.u8_xor_nat a b ha hb, Nat.shiftRight_eq_div_pow, show (((a ^^^ b : Nat) : Int) / 2 ^ s) = (((a ^^^ b) / 2 ^ s : Nat) : Int) from by simp]
  rw [Bool.eq_iff_iff, beq_iff_eq, beq_iff_eq]
  omega
theorem stops_in (n : Nat) (hn : 1 ≤ n) (B1 B2 n₀ : Nat) (a b : Option Addr) (len ca cb : Nat) (la lb : Txt) (hla : la.length = len) (hlb : lb.length = len) (hm : len ≤ 100000) (w : World) (hB1 : w.cell? ⟨B1, 0, none⟩ = some (.slice a len ca)) (hB2 : w.cell? ⟨B2, 0, none⟩ = some (.slice b len cb)) (hb1 : B1 < w.heap.size) (hb2 : B2 < w.heap.size) (hn0 : n₀ ≤ w.heap.size) (ra : Rd n₀ w a la) (rb : Rd n₀ w b lb) :
    SeqStopsK Fence.wide n Try.prog 28 #[.pointer (some ⟨B1, 0, none⟩), .pointer (some ⟨B2, 0, none⟩)] enc2 (Kp n₀ B1 B2) (fun ys => ys = upto (prs la lb) len) (fun pre => ∃ k, k ≤ len ∧ pre = upto (prs la lb) k) len w := fun l J Jx W hW hJ _ hY h0 => by
  have hW' := hW.mono hn0
  exact beside1_in n hn l B1 B2 n₀ a b len ca cb la lb hla hlb hm J Jx W.heap.size hJ hY W ((hW.cell (p := ⟨B1, 0, none⟩) hb1).trans hB1) ((hW.cell (p := ⟨B2, 0, none⟩) hb2).trans hB2) (ra.below hW') (rb.below hW') h0
set_option maxRecDepth 100000 in
set_option maxHeartbeats 2000000 in
theorem alike_in (a b : Option Addr) (len ca cb q0 : Nat) (la lb : Txt) (hla : la.length = len) (hlb : lb.length = len) (hm : len ≤ 100000) (hq : q0 ≤ 100000000) (w : World) (ra : Rd w.heap.size w a la) (rb : Rd w.heap.size w b lb) :
    CallsIn Fence.wide 3 Try.prog 17 #[.slice a len ca, .slice b len cb, .int .i64 (q0 : Nat)] w fun e W' => e = .returned (.bool (alk la lb q0)) ∧ Below w.heap.size w W' := by
  refine callsIn_of_wp_marks Try.func17 rfl trivial ?_ rfl
  simp only [Try.ntmps17, List.size_toArray, List.length_cons, List.length_nil, Nat.reduceAdd, Nat.reduceSub, Array.replicate_succ, Array.replicate_zero, List.push_toArray, List.append_toArray, List.nil_append, List.cons_append]
  gi_wp2_with (refine ⟨trivial, ?_⟩; gi_at_call 23; refine (beside_in _ _ _ _ _ _ _ _).mono ?_; rintro e w' ⟨rfl, rfl⟩)
  have hro : Fence.wide.round = none := rfl
  have b0 := Boxed.new w 3 (.int .i64 (q0 : Nat))
  have b1 := Boxed.new (w.alloc (.cells #[.int .i64 (q0 : Nat)] 3)) 4 (.bool false)
  have b2 := Boxed.new ((w.alloc (.cells #[.int .i64 (q0 : Nat)] 3)).alloc (.cells #[.bool false] 4)) 22 (.slice a len ca)
  have b3 := Boxed.new (((w.alloc (.cells #[.int .i64 (q0 : Nat)] 3)).alloc (.cells #[.bool false] 4)).alloc (.cells #[.slice a len ca] 22)) 22 (.slice b len cb)
  simp only [World.size_alloc] at b1 b2 b3
  have hB0 : Below w.heap.size w ((((w.alloc (.cells #[.int .i64 (q0 : Nat)] 3)).alloc (.cells #[.bool false] 4)).alloc (.cells #[.slice a len ca] 22)).alloc (.cells #[.slice b len cb] 22)) := ((((Below.refl _ w).alloc (Nat.le_refl _) _).alloc (by simp) _).alloc (by simp; omega) _).alloc (by simp; omega) _
  refine wpIn_rangeFunc_ownF hro (by decide) (gf := 28) (lb := #[.pointer (some ⟨w.heap.size + 1 + 1, 0, none⟩), .pointer (some ⟨w.heap.size + 1 + 1 + 1, 0, none⟩)]) rfl trivial (enters_of Try.func28 (by kernel_rfl) rfl)
    (stops_in 2 (by omega) (w.heap.size + 1 + 1) (w.heap.size + 1 + 1 + 1) w.heap.size a b len ca cb la lb hla hlb hm _ (b2.alloc _).cell b3.cell (by simp <;> omega) (by simp) (by simp <;> omega) (ra.below hB0) (rb.below hB0)) Kp.trans (fun W l o o' hl h _ _ => Kp.put (N := w.heap.size + 1 + 1 + 1 + 1) (by omega) (by omega) (by omega) W l o o' (by simp at hl; omega) h) (Below.refl _ _) (fun _ => rfl)
    (fun pre W => (∃ q : Nat, W.cell? ⟨w.heap.size, 0, none⟩ = some (.int .i64 (q : Nat)) ∧ W.frozen? ⟨w.heap.size, 0, none⟩ = false ∧ W.cell? ⟨w.heap.size + 1, 0, none⟩ = some (.bool false) ∧ W.frozen? ⟨w.heap.size + 1, 0, none⟩ = false ∧ q ≤ 100000000 ∧ Left pre q0 q) ∧ Below w.heap.size w W)
    (fun c pre W => (c = .ret ∧ ∃ r : Bool, W.cell? ⟨w.heap.size + 1, 0, none⟩ = some (.bool r) ∧ ∀ s, alz (pre ++ s) q0 = r) ∧ Below w.heap.size w W)
    (OwnFrom.and (Own.from (fun s A B row hs hg hr => by obtain ⟨q, h1, h2, h3, h4, h5⟩ := hs; exact ⟨q, cell_kept h1 hg hr, (frozen_kept h1 hg hr).trans h2, cell_kept h3 hg hr, (frozen_kept h3 hg hr).trans h4, h5⟩) _) (ownFrom_below (Nat.le_refl _) (by simp; omega)))
    (fun c => OwnFrom.and (Own.from (fun s A B row hs hg hr => by obtain ⟨hc, r, h1, h2⟩ := hs; exact ⟨hc, r, cell_kept h1 hg hr, h2⟩) _) (ownFrom_below (Nat.le_refl _) (by simp; omega)))
    ⟨⟨q0, (((b0.alloc _).alloc _).alloc _).cell, (((b0.alloc _).alloc _).alloc _).frozen, ((b1.alloc _).alloc _).cell, ((b1.alloc _).alloc _).frozen, hq, fun r => rfl⟩, hB0⟩
    (fun x => { tmps := #[.slice a len ca, .slice b len cb, .int .i64 (q0 : Nat), undef, undef, .pointer (some ⟨w.heap.size, 0, none⟩), .pointer (some ⟨w.heap.size + 1, 0, none⟩), .int .u8 ((x.1.toNat : Nat) : Int), .int .u8 ((x.2.toNat : Nat) : Int), .slice a len ca, .slice b len cb, .func (.func 28) #[] #[.pointer (some ⟨w.heap.size + 1 + 1, 0, none⟩), .pointer (some ⟨w.heap.size + 1 + 1 + 1, 0, none⟩)], .int .u8 ((x.1.toNat : Nat) : Int), .int .u8 ((x.2.toNat : Nat) : Int), undef, undef, undef, undef, undef, undef, undef, undef, undef, undef, undef, undef, undef, undef], defers := [] }) ?assign ?body ?done ?stop
  case assign =>
    intro l x W K hK
    unfold enc2
    gi_wp2
    exact hK
  case body =>
    rintro l pre x W ⟨⟨q, hc, hf, hc1, hf1, hqb, hL⟩, hB⟩ _
    have HB := Lib.hid hB
    have HL := Lib.hid hL
    have HQB := Lib.hid hqb
    by_cases h8 : q < 8
    · have k1 : ((q : Int) < 8) = True := eq_true (by omega)
      have H8 := Lib.hid h8
      have k2 : wrap64 (8 - (q : Int)) = 8 - (q : Int) := IntWalk.wrap64_in _ (by omega)
      obtain ⟨s, hs⟩ : ∃ s : Nat, s = 8 - q := ⟨_, rfl⟩
      have k3 : (8 : Int) - (q : Int) = (s : Int) := by omega
      rw [k3] at k2
      have HS := Lib.hid hs
      clear hB hL hqb h8 hs
      gi_wp2
      exact ⟨KeepsOthers.setCell _ _ _, ⟨rfl, _, World.cell?_setCell_same' _ _ _ (by rw [hc1]; rfl), fun r => (HL.out.last x H8.out r).trans (by rw [xor_top8 (UInt8.toNat_lt _) (UInt8.toNat_lt _), HS.out])⟩, HB.out.setCell (p := ⟨w.heap.size + 1, 0, none⟩) (by simp) _⟩
    · have k1 : ((q : Int) < 8) = False := eq_false (by omega)
      have H8 := Lib.hid h8
      have k2 : wrap64 ((q : Int) - 8) = ((q - 8 : Nat) : Int) := by rw [IntWalk.wrap64_in _ (by omega)]; omega
      clear hB hL hqb h8
      by_cases hx : x.1 = x.2
      · have k3 : (((x.1.toNat : Nat) : Int) != ((x.2.toNat : Nat) : Int)) = false := by rw [bne_eq_false_iff_eq, hx]
        have HX := Lib.hid hx
        clear hx
        gi_wp2
        exact ⟨KeepsOthers.setCell _ _ _, ⟨(Below.refl _ W).setCell (p := ⟨w.heap.size, 0, none⟩) (Nat.le_refl _) _, heap_other (by omega), heap_other (by omega)⟩, ⟨q - 8, World.cell?_setCell_same' _ _ _ (by rw [hc]; rfl), by rw [World.frozen?_setCell]; exact hf, (World.cell?_of_block (w := W) (a := ⟨w.heap.size + 1, 0, none⟩) (heap_other (by simp))).trans hc1, by rw [World.frozen?_setCell]; exact hf1, Nat.le_trans (Nat.sub_le _ _) HQB.out, HL.out.step x H8.out HX.out⟩, HB.out.setCell (p := ⟨w.heap.size, 0, none⟩) (Nat.le_refl _) _⟩
      · have k3 : (((x.1.toNat : Nat) : Int) != ((x.2.toNat : Nat) : Int)) = true := by
          rw [bne_iff_ne]
          intro e
          exact hx (UInt8.toNat_inj.1 (by omega))
        have HX := Lib.hid hx
        clear hx
        gi_wp2
        exact ⟨KeepsOthers.setCell _ _ _, ⟨rfl, _, World.cell?_setCell_same' _ _ _ (by rw [hc1]; rfl), fun r => HL.out.differ x H8.out HX.out r⟩, HB.out.setCell (p := ⟨w.heap.size + 1, 0, none⟩) (by simp) _⟩
  case done =>
    rintro D ys W hD rfl ⟨⟨q, hc, hf, hcr, hfr, hqb, hL⟩, hB⟩ hK
    gi_wp2
    have hK' := (KeepsOthers.setCell W ⟨w.heap.size + 1, 0, none⟩ (.bool true)).same D _ hK rfl
    refine ⟨by simp, .inl ⟨_, _, rfl, run_takeDeferred hK', ?_⟩⟩
    have hc5 := cell_kept (World.cell?_setCell_same' W ⟨w.heap.size + 1, 0, none⟩ (.bool true) (by rw [hcr]; rfl)) (grownBy_putObj' _ D (.deferred none)) (fun r e => by cases e; exact ⟨_, hK', rfl⟩)
    refine ⟨.bool true, ?_, by rw [alk_upto la lb q0 (by omega), hla]; have := hL []; rw [List.append_nil] at this; rw [this]; rfl, (hB.setCell (p := ⟨w.heap.size + 1, 0, none⟩) (by simp) _).trans (belowK_b (w := w) (Nat.le_refl _) _ D _ _ (by simp at hD; omega) hK' rfl rfl)⟩
    simp [results, Try.f17, go_sem, hc5]
  case stop =>
    rintro D c pre W hD ⟨k, hk, rfl⟩ ⟨⟨rfl, r, hcr, hL⟩, hB⟩ hK
    gi_wp2
    refine ⟨by simp, .inl ⟨_, _, rfl, run_takeDeferred hK, ?_⟩⟩
    have hc5 := cell_kept hcr (grownBy_putObj' _ D (.deferred none)) (fun r e => by cases e; exact ⟨_, hK, rfl⟩)
    refine ⟨.bool r, ?_, by obtain ⟨s, hs⟩ := upto_prefix (prs la lb) hk; rw [alk_upto la lb q0 (by omega), hla, hs, hL], hB.trans (belowK_b (w := w) (Nat.le_refl _) W D _ _ (by simp at hD; omega) hK rfl rfl)⟩
    simp [results, Try.f17, go_sem, hc5]


end Go.Proofs.Ytokbaknckagfmaa.adC
