/- Term: the document's terms with parts. -/
import Derived.Test.YtbjnejnjlidiaaaTrA
import Derived.Deep.RegionHeld3
import Derived.Deep.RegionLaw
namespace Go.Proofs.Ytbjnejnjlidiaaa.trE
open Go.RowKit kit numA numB numC numD numE numF numG tmA tmB trA trB trC trD
set_option linter.unusedVariables false
set_option linter.unusedSimpArgs false

theorem sv_extract (s : ByteArray) (a b : Nat) (h : b ≤ s.size) : Value.string (s.extract a b) = sv ((s.data.toList.drop a).take (b - a)) := by
  rw [sv, ← extract_list s a b h]

theorem behind_drop {s : ByteArray} {j : Nat} {t rest : Txt} (hj : j ≤ s.size) (h : s.data.toList.drop j = t ++ rest) : rest = s.data.toList.drop (behind s rest) ∧ behind s rest = j + t.length ∧ behind s rest ≤ s.size := by
  have hl : s.size - j = t.length + rest.length := by
    have := congrArg List.length h
    rwa [List.length_drop, tl_size, List.length_append] at this
  have hb : behind s rest = j + t.length := by unfold behind; omega
  refine ⟨?_, hb, by omega⟩
  rw [hb, ← List.drop_drop, h, List.drop_left']
  rfl

/-- One part of a term. -/
theorem part_ok {s : ByteArray} {g j : Nat} {d : Nd} {rest : Txt} (hj : j ≤ s.size) (h : tmR g (s.data.toList.drop j) = some (d, rest)) :
    rest = s.data.toList.drop (behind s rest) ∧ j < behind s rest ∧ behind s rest ≤ s.size ∧ (s.data.toList.drop j).take ((s.data.toList.drop j).length - rest.length) = (s.data.toList.drop j).take (behind s rest - j) := by
  obtain ⟨t, e, hT, _⟩ := (soundR g).1 _ _ _ h
  obtain ⟨h1, h2, h3⟩ := behind_drop hj e
  obtain ⟨c, r, e1, _⟩ := T.ne hT
  refine ⟨h1, by rw [h2, e1]; simp, h3, ?_⟩
  rw [List.length_drop, tl_size]
  congr 1
  unfold behind
  omega

theorem at_cb1 (s : ByteArray) (i : Nat) (w : World) (hm : s.size ≤ 1000000000) (hi : i ≤ 1000000000) : Calls Try.prog 157 #[.string s, .int .i64 ((i : Int) + 1)] w fun e w' => e = .returned (.int .u8 ((cb s (i + 1)).toNat : Int)) ∧ w = w' := at_cb s (i + 1) w hm (by omega)

theorem right_q (k n : Nat) (b : Bool) (w : World) (h5 : 5 ≤ k) (h11 : k ≤ 11) (h : right k n = b) : Calls Try.prog 161 #[.int .i64 k, .int .i64 n] w fun e w' => e = .returned (.bool b) ∧ w' = w := (right_any k n w h5 h11).mono fun e w' q => ⟨by rw [q.1, h], q.2.symm⟩

theorem lp_none {s : ByteArray} {g j k n f i : Nat} {acc : List Txt} (HE : tmR f (s.data.toList.drop i) = lpR (g + 1) k n acc (s.data.toList.drop j)) (hq : tmR g (s.data.toList.drop j) = none) : tmR f (s.data.toList.drop i) = none := by
  rw [HE, lpR_succ, hq]

theorem lp_step {s : ByteArray} {g j k n f i jn : Nat} {acc ps : List Txt} {d : Nd} {rest : Txt} (hj : j ≤ s.size) (HE : tmR f (s.data.toList.drop i) = lpR (g + 1) k n acc (s.data.toList.drop j)) (hq : tmR g (s.data.toList.drop j) = some (d, rest))
    (hjn : jn = behind s rest) (hps : ps = acc ++ [(s.data.toList.drop j).take (jn - j)]) :
    (cb s jn = 41 → tmR f (s.data.toList.drop i) = if right k ps.length && sorted k ps then some (⟨k, n, [], ps⟩, s.data.toList.drop (jn + 1)) else none) ∧
    (cb s jn = 44 → tmR f (s.data.toList.drop i) = lpR g k n ps (s.data.toList.drop (jn + 1))) ∧ (cb s jn ≠ 41 → cb s jn ≠ 44 → tmR f (s.data.toList.drop i) = none) := by
  obtain ⟨e1, hlt, hle, ept⟩ := part_ok hj hq
  rw [HE, lpR_succ, hq]
  simp only
  rw [ept, ← hjn, ← hps]
  rw [← hjn] at e1 hle
  rcases Nat.lt_or_ge jn s.size with h | h
  · rw [e1, cb_in s jn h]
    refine ⟨fun q => by simp [q], fun q => by simp [q], fun q1 q2 => by simp [q1, q2]⟩
  · obtain ⟨z1, z2⟩ := cb_out s jn h
    rw [z1]
    refine ⟨fun q => absurd q (by decide), fun q => absurd q (by decide), fun _ _ => by rw [e1, z2]⟩

theorem two_of {ps : List Txt} (h : right 6 ps.length = true) : ∃ a b, ps = [a, b] := by
  have h2 : ps.length = 2 := by simpa [right] using h
  match ps, h2 with
  | [x, y], _ => exact ⟨x, y, rfl⟩

theorem word2 (s : ByteArray) (i : Nat) (w : World) (h : i + 2 ≤ s.size) (hm : s.size ≤ 1000000000) : Calls Try.prog 159 #[.string s, .int .i64 ((i : Int) + 2)] w (Word w s (i + 2)) := word_any s (i + 2) w h hm

theorem at_cb2 (s : ByteArray) (i : Nat) (w : World) (hm : s.size ≤ 1000000000) (hi : i ≤ 100000000) : Calls Try.prog 157 #[.string s, .int .i64 ((i : Int) + 2)] w fun e w' => e = .returned (.int .u8 ((cb s (i + 2)).toNat : Int)) ∧ w = w' := at_cb s (i + 2) w hm (by omega)

theorem rest_drop (s : ByteArray) (i : Nat) (h : i ≤ s.size) : restOf (s.data.toList.drop i) = s.data.toList.drop (behind s (restOf (s.data.toList.drop i))) ∧ i ≤ behind s (restOf (s.data.toList.drop i)) ∧ behind s (restOf (s.data.toList.drop i)) ≤ s.size := by
  obtain ⟨e, h1, h2⟩ := behind_drop (t := wordOf (s.data.toList.drop i)) (rest := restOf (s.data.toList.drop i)) h (tmA.word_rest _).symm
  exact ⟨e, by omega, h2⟩

theorem hd_none {s : ByteArray} {f i k : Nat} (HR2 : tmR f (s.data.toList.drop i) = (match headR k (s.data.toList.drop (i + 2)) with
          | none => none
          | some (n, r2) => if k = 11 ∧ r2.head? = some 41 then some (⟨11, n, [], []⟩, r2.tail) else lpR (f - 1) k n [] r2)) (h : headR k (s.data.toList.drop (i + 2)) = none) : tmR f (s.data.toList.drop i) = none := by rw [HR2, h]

theorem hd_some {s : ByteArray} {f i k n : Nat} {r2 : Txt} (HR2 : tmR f (s.data.toList.drop i) = (match headR k (s.data.toList.drop (i + 2)) with
          | none => none
          | some (n, r2) => if k = 11 ∧ r2.head? = some 41 then some (⟨11, n, [], []⟩, r2.tail) else lpR (f - 1) k n [] r2)) (h : headR k (s.data.toList.drop (i + 2)) = some (n, r2)) (hk : k ≠ 11) : tmR f (s.data.toList.drop i) = lpR (f - 1) k n [] r2 := by
  rw [HR2, h]
  simp only
  rw [if_neg (fun q => hk q.1)]

structure Lp (s : ByteArray) (i f k n NB : Nat) (W1 : World) (j g : Nat) (acc : List Txt) (v : Value) (wr : World) : Prop where
  le : j ≤ s.size
  ge : i + 2 ≤ j
  eq : tmR f (s.data.toList.drop i) = lpR g k n acc (s.data.toList.drop j)
  fuel : 2 * (s.size - j) + 1 ≤ g
  box : Box4 wr NB (.int .i64 k) (.int .u64 n) (.slice none 0 0) v
  own : wr.ownsRow (NB + 1) 9 1 v acc.length (acc.map sv)
  cnt : acc.length ≤ j
  only : Only (fun _ => False) W1 wr

theorem Lp.nil {s : ByteArray} {i f k n NB j g : Nat} {W1 wr : World} (le : j ≤ s.size) (ge : i + 2 ≤ j) (eq : tmR f (s.data.toList.drop i) = lpR g k n [] (s.data.toList.drop j)) (fuel : 2 * (s.size - j) + 1 ≤ g) (box : Box4 wr NB (.int .i64 k) (.int .u64 n) (.slice none 0 0) (.slice none 0 0)) (only : Only (fun _ => False) W1 wr) :
    Lp s i f k n NB W1 j g [] (.slice none 0 0) wr := ⟨le, ge, eq, fuel, box, ⟨rfl, .inl ⟨rfl, rfl⟩⟩, Nat.zero_le _, only⟩

theorem after_app {W4 w9 W0 : World} {NB k : Nat} {a b c v : Value} {xs : List Value} {ob : Obj} (h : Box4 W4 NB a b c v) (own : W4.ownsRow (NB + 1) 9 1 v k xs) (r : Only (fun _ => False) W0 W4) (g : (W4.alloc ob).grownBy w9 v.ownBlock) (h0 : W0.heap.size ≤ NB) : Box4 w9 NB a b c v ∧ Only (fun _ => False) W0 w9 := by
  have hb := lt_of h
  have hs : (W4.alloc ob).heap.size = W4.heap.size + 1 := World.size_alloc _ _
  have hne : v.ownBlock ≠ some NB := fun q => by
    have := (own.lt NB q).1
    omega
  refine ⟨(g.block NB (by omega) fun q => hne q.symm).trans (h.keep ((Only.refl (fun _ => False) W4).alloc ob)), Only.grownNew (r.alloc _) g fun q hq => ?_⟩
  have := (own.lt q hq).1
  omega

theorem own_sl {w : World} {NB : Nat} {v : Value} {l : List Txt} (h : w.ownsRow (NB + 1) 9 1 v l.length (l.map sv)) : Sl w (fun k => NB < k) v (l.map sv) := by
  have h' : w.ownsRow (NB + 1) 9 1 v (l.map sv).length (l.map sv) := by rw [List.length_map]; exact h
  exact (Sl.of_lst (Lst.of_owns h')).mono fun k hk => by omega

theorem drop_head (s : ByteArray) (j : Nat) (c : UInt8) (hc : c ≠ 0) : (s.data.toList.drop j).head? = some c ↔ cb s j = c := by
  rcases Nat.lt_or_ge j s.size with h | h
  · rw [cb_in s j h]
    simp
  · rw [(cb_out s j h).1, (cb_out s j h).2]
    constructor
    · intro q; cases q
    · intro q; exact absurd q.symm hc

theorem cb_lt {s : ByteArray} {j : Nat} {c : UInt8} (hc : c ≠ 0) (h : cb s j = c) : j < s.size := by
  rcases Nat.lt_or_ge j s.size with q | q
  · exact q
  · rw [(cb_out s j q).1] at h
    exact absurd h.symm hc

theorem cb_int {s : ByteArray} {j : Nat} {c : UInt8} {n : Int} (hn : (c.toNat : Int) = n) : (((cb s j).toNat : Int) == n) = (cb s j == c) := by
  subst hn
  rw [Bool.eq_iff_iff]
  simp only [beq_iff_eq]
  constructor
  · intro h
    exact UInt8.toNat_inj.1 (by omega)
  · intro h
    rw [h]

set_option maxRecDepth 100000 in
set_option maxHeartbeats 1600000 in
theorem node_o (s : ByteArray) (N : Nat) (ih : IH s N) (i f : Nat) (k : Nat) (w : World) (hm : s.size ≤ 100000000) (h0 : i ≤ s.size) (hN : s.size - i ≤ N + 1) (hf : 2 * (s.size - i) ≤ f) (hk : kindOf (cb s i) = k) (h5 : k = 5 ∨ k = 7 ∨ k = 9) : Calls Try.prog 104 #[.string s, .int .i64 i] w (Tmd w s (tmR f (s.data.toList.drop i))) := by
  have hi : i < s.size := cb_lt (c := letter k) (by rcases h5 with rfl | rfl | rfl <;> decide) (by rw [← hk]; exact (kind_letter _ (by rw [hk]; omega)).1)
  have hR : tmR f (s.data.toList.drop i) = (match s.data.toList.drop (i + 1) with
      | [] => none
      | o :: r1 => if o = 40 then (match headR k r1 with
          | none => none
          | some (n, r2) => if k = 11 ∧ r2.head? = some 41 then some (⟨11, n, [], []⟩, r2.tail) else lpR (f - 1) k n [] r2)
        else none) := by
    obtain ⟨f, rfl⟩ : ∃ g, f = g + 1 := ⟨f - 1, by omega⟩
    rw [cb_in s i hi, tmR_cons, hk, if_neg (by omega), if_neg (by omega), if_neg (by omega)]
    rfl
  have BN := Lib.hid (resbox s i w)
  have AT := Lib.hid (at_cb s i (w.alloc (.cells #[.int .i64 0, .int .u64 0, .slice none 0 0, .slice none 0 0] 27)) (by omega) (by omega))
  have KD := Lib.hid (kind_any (cb s i) (w.alloc (.cells #[.int .i64 0, .int .u64 0, .slice none 0 0, .slice none 0 0] 27)))
  rw [hk] at KD
  have A1 := Lib.hid (fun W => at_cb1 s i W (by omega) (by omega))
  have HR := Lib.hid hR
  have HM := Lib.hid hm
  have HI := Lib.hid hi
  have HN := Lib.hid hN
  have HFu := Lib.hid hf
  have IHH := Lib.hid ih
  have kn0 : ((k : Int) == 0) = false := by rw [beq_eq_false_iff_ne]; omega
  have kl4 : ((k : Int) ≤ 4) = False := eq_false (by omega)
  have kn8 : ((k : Int) == 8) = false := by rw [beq_eq_false_iff_ne]; omega
  have kn10 : ((k : Int) == 10) = false := by rw [beq_eq_false_iff_ne]; omega
  have kn11 : ((k : Int) == 11) = false := by rw [beq_eq_false_iff_ne]; omega
  have kn6 : ((k : Int) == 6) = false := by rw [beq_eq_false_iff_ne]; omega
  have H5 := Lib.hid h5
  clear h5
  have wi : wrap64 ((i : Int) + 1) = (i : Int) + 1 := IntWalk.wrap64_in _ (by omega)
  have wi2 : wrap64 ((i : Int) + 2) = (i : Int) + 2 := IntWalk.wrap64_in _ (by omega)
  clear hk h0 hf hm hi hR hN ih
  go_enter Try.func104, Try.ntmps104
  go_wp2_with fail
  (with_reducible refine AT.out.mono ?_)
  rintro e w1 ⟨rfl, hw⟩
  obtain rfl := hw
  go_wp2_with fail
  (with_reducible refine KD.out.mono ?_)
  rintro e w1 ⟨rfl, hw⟩
  obtain rfl := hw
  go_wp2_with fail
  have hs1 : (w.alloc (.cells #[.int .i64 0, .int .u64 0, .slice none 0 0, .slice none 0 0] 27)).heap.size = w.heap.size + 1 := World.size_alloc _ _
  generalize w.alloc (.cells #[.int .i64 0, .int .u64 0, .slice none 0 0, .slice none 0 0] 27) = W1 at BN hs1 ⊢
  obtain ⟨B, hB⟩ : ∃ B, B = w.heap.size := ⟨_, rfl⟩
  have HBB := Lib.hid hB
  rw [← hB] at BN hs1 ⊢
  clear hB AT KD
  have NX := Lib.hid (Box4.new W1 (.int .i64 k) (.int .u64 0) (.slice none 0 0) (.slice none 0 0))
  have O2 := Lib.hid ((Only.refl (fun _ => False) W1).alloc (.cells #[.int .i64 k, .int .u64 0, .slice none 0 0, .slice none 0 0] 27))
  generalize W1.alloc (.cells #[.int .i64 k, .int .u64 0, .slice none 0 0, .slice none 0 0] 27) = W2 at NX O2 ⊢
  obtain ⟨NB, hNB⟩ : ∃ x, x = B + 1 := ⟨_, rfl⟩
  have HNB := Lib.hid (show NB = W1.heap.size from hNB.trans hs1.symm)
  rw [hs1, ← hNB] at NX
  rw [← hNB]
  clear hNB hs1
  have HBL := Lib.hid (show B < NB from by rw [HNB.out]; exact lt_of BN.out.1)
  (with_reducible refine (A1.out _).mono ?_)
  rintro e w1 ⟨rfl, hw⟩
  obtain rfl := hw
  by_cases h40 : cb s (i + 1) = 40
  rotate_left
  · have b40 : (((cb s (i + 1)).toNat : Int) != 40) = true := by rw [bne, cb_int (c := 40) (n := 40) rfl]; simp [h40]
    have HF := Lib.hid (show tmR f (s.data.toList.drop i) = none from by
      rw [HR.out]
      rcases Nat.lt_or_ge (i + 1) s.size with q | q
      · rw [cb_in s (i + 1) q]
        simp [h40]
      · rw [(cb_out s (i + 1) q).2])
    have HB2 := Lib.hid (BN.out.1.keep O2.out)
    obtain ⟨f0, f1, f2, f3⟩ := HB2.out.free
    obtain ⟨c0, c1, c2, c3⟩ := HB2.out.cells
    have BM := Lib.hid (HB2.out.put (.int .i64 0) (.int .u64 0) (.slice none 0 0) (.slice none 0 0))
    have ON := Lib.hid (only_set4 (BN.out.2.trans O2.out) (B := B) (by rw [HBB.out]; omega) (.int .i64 0) (.int .u64 0) (.slice none 0 0) (.slice none 0 0))
    clear h40
    go_wp2_with fail
    exact bodyPost_ret (res2 (p := 4) (u := 5) (ty := 27) Try.results104 _ _ B 27 _ (0, 0) _ rfl BM.out Try.underlying27 rfl (by kernel_rfl)) rfl (by rw [HF.out]; exact ⟨ON.out, rfl⟩)
  have b40 : (((cb s (i + 1)).toNat : Int) != 40) = false := by rw [bne, cb_int (c := 40) (n := 40) rfl]; simp [h40]
  have H40 := Lib.hid (cb_lt (by decide) h40)
  have HR2 := Lib.hid (show tmR f (s.data.toList.drop i) = (match headR k (s.data.toList.drop (i + 2)) with
          | none => none
          | some (n, r2) => if k = 11 ∧ r2.head? = some 41 then some (⟨11, n, [], []⟩, r2.tail) else lpR (f - 1) k n [] r2) from by
    rw [HR.out, cb_in s (i + 1) (by have := H40.out; omega), h40]
    simp only [↓reduceIte])
  clear h40 HR
  have HH : headR k (s.data.toList.drop (i + 2)) = some (0, s.data.toList.drop (i + 2)) := by
    rw [headR, if_neg]
    rcases H5.out with rfl | rfl | rfl <;> decide
  have HF := Lib.hid (show tmR f (s.data.toList.drop i) = lpR (f - 1) k 0 [] (s.data.toList.drop (i + 2)) from by
    rw [HR2.out, HH]
    simp only
    rw [if_neg (by rcases H5.out with rfl | rfl | rfl <;> simp)])
  clear HH HR2
  have LP0 := Lib.hid (Lp.nil (f := f) (g := f - 1) (n := 0) (j := i + 2) (i := i) (by have := H40.out; omega) (Nat.le_refl _) HF.out (by have := HFu.out; have := H40.out; omega) NX.out O2.out)
  go_wp2_with fail
  have WI2 := Lib.hid wi2
  clear wi wi2
  go_loopw [1] (fun ii wr => ∃ (j g : Nat) (acc : List Txt) (v : Value), ii = .int .i64 j ∧ Lp s i f k 0 NB W1 j g acc v wr) (fun ii _ => s.size - (intOf ii).toNat)
  case atStart => exact ⟨_, _, [], _, by first | rfl | go_num | (rw [WI2.out]; go_num) | (rw [WI2.out]; rfl), LP0.out⟩
  case round =>
    obtain ⟨j, g, acc, v, rfl, lp⟩ := hrel
    obtain ⟨i0, hi0, hz0, hz1, hz2⟩ := info_parts info9
    have LP := Lib.hid lp
    clear lp LP0
    obtain ⟨g, rfl⟩ : ∃ g', g = g' + 1 := ⟨g - 1, by have := LP.out.fuel; omega⟩
    have RC := Lib.hid (IHH.out j g wr LP.out.le (by have := LP.out.ge; have := HN.out; have := HI.out; omega) (by have := LP.out.fuel; omega))
    obtain ⟨q, hq⟩ : ∃ q, q = tmR g (s.data.toList.drop j) := ⟨_, rfl⟩
    rw [← hq] at RC
    have HQ := Lib.hid hq
    clear hq
    go_wp2_with fail
    (with_reducible refine RC.out.mono ?_)
    rintro e w3 ⟨o, hr⟩
    have O3 := Lib.hid o
    clear RC o
    cases q with
    | none =>
      subst hr
      have HF := Lib.hid (lp_none LP.out.eq HQ.out.symm)
      have HB2 := Lib.hid (BN.out.1.keep ((LP.out.only.trans O3.out).alloc (.cells #[.int .i64 0, .int .u64 0, .slice none 0 0, .slice none 0 0] 27)))
      obtain ⟨f0, f1, f2, f3⟩ := HB2.out.free
      obtain ⟨c0, c1, c2, c3⟩ := HB2.out.cells
      have BM := Lib.hid (HB2.out.put (.int .i64 0) (.int .u64 0) (.slice none 0 0) (.slice none 0 0))
      have ON := Lib.hid (only_set4 (BN.out.2.trans ((LP.out.only.trans O3.out).alloc (.cells #[.int .i64 0, .int .u64 0, .slice none 0 0, .slice none 0 0] 27))) (B := B) (by rw [HBB.out]; omega) (.int .i64 0) (.int .u64 0) (.slice none 0 0) (.slice none 0 0))
      go_wp2_with fail
      exact bodyPost_ret (res2 (p := 4) (u := 5) (ty := 27) Try.results104 _ _ B 27 _ (0, 0) _ rfl BM.out Try.underlying27 rfl (by kernel_rfl)) rfl (by rw [HF.out]; exact ⟨ON.out, rfl⟩)
    | some dd =>
      obtain ⟨d, rest⟩ := dd
      obtain ⟨vv, hv, rfl⟩ := hr
      obtain ⟨a, nn, c, a', nn', c', rfl, -, -⟩ := hv
      obtain ⟨e1, hlt, hle, ept⟩ := part_ok LP.out.le HQ.out.symm
      obtain ⟨jn, hjn⟩ : ∃ x, x = behind s rest := ⟨_, rfl⟩
      rw [← hjn] at e1 hlt hle ept ⊢
      have HJ := Lib.hid (And.intro hjn (And.intro hlt hle))
      have SVE := Lib.hid (sv_extract s j jn hle)
      have b1 : (0 : Int) ≤ (j : Int) := by omega
      have b2 : (j : Int) ≤ (jn : Int) := by omega
      have b3 : (jn : Int) ≤ (s.size : Int) := by omega
      have b4 : ((jn : Int) < 0) = False := eq_false (by omega)
      have O4 := Lib.hid (O3.out.alloc (.cells #[.int .i64 d.k, .int .u64 d.n, .slice a nn c, .slice a' nn' c'] 27))
      clear e1 hlt hle ept hjn
      have BX := Lib.hid (LP.out.box.keep O4.out)
      have OX := Lib.hid (owns_keep LP.out.own O4.out)
      obtain ⟨c0, c1, c2, c3⟩ := BX.out.cells
      go_wp2_with fail
      generalize w3.alloc (.cells #[.int .i64 d.k, .int .u64 d.n, .slice a nn c, .slice a' nn' c'] 27) = W4 at BX OX O4 c0 c1 c2 c3 ⊢
      have fz := BX.out.free.2.2.2
      have BX7 := Lib.hid (show Box4 W4.drew NB (.int .i64 k) (.int .u64 (0 : Nat)) (.slice none 0 0) v from BX.out)
      have OX7 := Lib.hid (owns_keep OX.out (Only.drew (Only.refl (fun _ => False) W4)))
      have O7 := Lib.hid (Only.drew (Only.refl (fun _ => False) W4))
      have hcnt : acc.length ≤ 100000001 := by have := LP.out.cnt; have := LP.out.le; have := HM.out; omega
      have hNBlt : NB < W4.heap.size := lt_of BX.out
      go_region_law (first
        | (refine step_append_lies _ (by rfl) _ _ _ (by rfl) (NB + 1) 9 i0 _ 1 16 Try.underlying25 hi0 hz0 hz1 hz2 rfl (by omega) v acc.length (acc.map sv) (by rfl) (OX7.out.alloc _) ⟨_, 0, none⟩ 1 1 [.string (s.extract j jn)] (by rfl) (by rfl) (World.news_of_block (cs := #[.string (s.extract j jn)]) (t := 9) (fr := (0, 0)) (heap_alloc_new _ _)) (by simp [Value.oneCell']) (by omega) (by unfold maxLen; omega) (by omega) (by simp; omega) _ rfl ?_; intro g' cap' w9 hown9 hgrow9 hat9 hlt9; obtain ⟨KO9, R9⟩ := after_app BX7.out OX7.out (LP.out.only.trans (O4.out.trans O7.out)) hgrow9 (by rw [HNB.out]; omega); have cO := KO9.cells.2.2.2; have fO := KO9.free.2.2.2; have KO9 := Lib.hid KO9; have R9 := Lib.hid R9; have OW9 := Lib.hid hown9; clear hown9 hgrow9 hat9 hlt9))
      all_goals
        obtain ⟨ps, hps⟩ : ∃ ps, ps = acc ++ [(s.data.toList.drop j).take (jn - j)] := ⟨_, rfl⟩
        have hlen : acc.length + 1 = ps.length := by rw [hps]; simp
        have hmap : acc.map sv ++ [.string (s.extract j jn)] = ps.map sv := by rw [hps, SVE.out]; simp
        have BY := Lib.hid (show Box4 (w9.setCell ⟨NB, 3, none⟩ (.slice (some ⟨g', 0, none⟩) ps.length cap')) NB (.int .i64 k) (.int .u64 (0 : Nat)) (.slice none 0 0) (.slice (some ⟨g', 0, none⟩) ps.length cap') from heap_set KO9.out)
        have OY := Lib.hid (show (w9.setCell ⟨NB, 3, none⟩ (.slice (some ⟨g', 0, none⟩) ps.length cap')).ownsRow (NB + 1) 9 1 (.slice (some ⟨g', 0, none⟩) ps.length cap') ps.length (ps.map sv) from by
          have q := OW9.out
          rw [hmap, hlen] at q
          exact owns_set q (Nat.lt_succ_self NB))
        have R := Lib.hid (only_setNew (b := NB) (o := 3) (v := .slice (some ⟨g', 0, none⟩) ps.length cap') R9.out (by rw [HNB.out]; omega))
        have PS := Lib.hid (And.intro hps hlen)
        rw [hlen]
        clear BX OX BX7 OX7 O7 KO9 R9 OW9 cO fO hmap hlen hps hcnt hNBlt O4 c0 c1 c2 c3 fz hi0 hz0 hz1 hz2
        generalize w9.setCell ⟨NB, 3, none⟩ (.slice (some ⟨g', 0, none⟩) ps.length cap') = W9 at BY OY R ⊢
        have AJ := Lib.hid (at_cb s jn W9 (by have := HM.out; omega) (by have := HM.out; omega))
        have wj : wrap64 ((jn : Int) + 1) = (jn : Int) + 1 := IntWalk.wrap64_in _ (by have := HM.out; omega)
        go_wp2_with fail
        (with_reducible refine AJ.out.mono ?_)
        rintro e w10 ⟨rfl, hw⟩
        obtain rfl := hw
        clear AJ
        have ST := Lib.hid (lp_step LP.out.le LP.out.eq HQ.out.symm HJ.out.1 PS.out.1)
        obtain ⟨c0, c1, c2, c3⟩ := BY.out.cells
        by_cases h41 : cb s jn = 41
        · have b41 : (((cb s jn).toNat : Int) == 41) = true := by rw [cb_int (c := 41) (n := 41) rfl]; simp [h41]
          have hjs := cb_lt (by decide) h41
          have HE3 := Lib.hid (ST.out.1 h41)
          clear h41
          cases hrr : right k ps.length
          · have RT := fun W => right_q k ps.length false W (by have := H5.out; omega) (by have := H5.out; omega) hrr
            have HF := Lib.hid (show tmR f (s.data.toList.drop i) = none from by rw [HE3.out, hrr]; simp)
            have RTH := Lib.hid RT
            clear RT hrr HE3
            go_wp2_with fail
            go_quiet ((go_at_call 161; exact Calls.quiet_of_same (RTH.out _)))
            have HB2 := Lib.hid (BN.out.1.keep (R.out.drewN nq))
            obtain ⟨f0, f1, f2, f3⟩ := HB2.out.free
            obtain ⟨d0, d1, d2, d3⟩ := HB2.out.cells
            have BM := Lib.hid (HB2.out.put (.int .i64 0) (.int .u64 0) (.slice none 0 0) (.slice none 0 0))
            have ON := Lib.hid (only_set4 (BN.out.2.trans (R.out.drewN nq)) (B := B) (by rw [HBB.out]; omega) (.int .i64 0) (.int .u64 0) (.slice none 0 0) (.slice none 0 0))
            go_wp2_with fail
            exact bodyPost_ret (res2 (p := 4) (u := 5) (ty := 27) Try.results104 _ _ B 27 _ (0, 0) _ rfl BM.out Try.underlying27 rfl (by kernel_rfl)) rfl (by rw [HF.out]; exact ⟨ON.out, rfl⟩)
          · have RT := fun W => right_q k ps.length true W (by have := H5.out; omega) (by have := H5.out; omega) hrr
            have HF := Lib.hid (show tmR f (s.data.toList.drop i) = some (⟨k, 0, [], ps⟩, s.data.toList.drop (jn + 1)) from by rw [HE3.out, hrr, show sorted k ps = true from by rcases H5.out with rfl | rfl | rfl <;> rfl]; rfl)
            have RTH := Lib.hid RT
            clear RT hrr HE3
            go_wp2_with fail
            go_quiet ((go_at_call 161; exact Calls.quiet_of_same (RTH.out _)))
            have HB2 := Lib.hid (BN.out.1.keep (R.out.drewN nq))
            have HY2 := Lib.hid (show Box4 (W9.drewN nq) NB (.int .i64 k) (.int .u64 (0 : Nat)) (.slice none 0 0) (.slice (some ⟨g', 0, none⟩) ps.length cap') from BY.out)
            obtain ⟨f0, f1, f2, f3⟩ := HB2.out.free
            obtain ⟨d0, d1, d2, d3⟩ := HB2.out.cells
            clear c0 c1 c2 c3
            obtain ⟨c0, c1, c2, c3⟩ := HY2.out.cells
            have BM := Lib.hid (HB2.out.put (.int .i64 k) (.int .u64 (0 : Nat)) (.slice none 0 0) (.slice (some ⟨g', 0, none⟩) ps.length cap'))
            have ON := Lib.hid (only_set4 (BN.out.2.trans (R.out.drewN nq)) (B := B) (by rw [HBB.out]; omega) (.int .i64 k) (.int .u64 (0 : Nat)) (.slice none 0 0) (.slice (some ⟨g', 0, none⟩) ps.length cap'))
            have SL := Lib.hid ((own_sl (show (W9.drewN nq).ownsRow (NB + 1) 9 1 (.slice (some ⟨g', 0, none⟩) ps.length cap') ps.length (ps.map sv) from OY.out)).mono (T := fun k => B < k) fun k hk => by have := HBL.out; omega)
            have BE := Lib.hid (show behind s (s.data.toList.drop (jn + 1)) = jn + 1 from by rw [behind, List.length_drop, tl_size]; omega)
            go_wp2_with fail
            exact bodyPost_ret (res2 (p := 4) (u := 5) (ty := 27) Try.results104 _ _ B 27 _ (0, 0) _ rfl BM.out Try.underlying27 rfl (by kernel_rfl)) rfl (by rw [HF.out]; exact ⟨ON.out, _, nd_set4 (fun k hk => by have := HBB.out; omega) _ _ _ _ _ _ rfl (sl_nil _ _) SL.out, by rw [BE.out]; first | rfl | (rw [wj]; rfl) | (simp [wj])⟩)
        have b41 : (((cb s jn).toNat : Int) == 41) = false := by rw [cb_int (c := 41) (n := 41) rfl]; simp [h41]
        by_cases h44 : cb s jn = 44
        · have b44 : (((cb s jn).toNat : Int) != 44) = false := by rw [bne, cb_int (c := 44) (n := 44) rfl]; simp [h44]
          have hjs := cb_lt (by decide) h44
          have HE3 := Lib.hid (ST.out.2.1 h44)
          clear h41 h44
          go_wp2_with fail
          have NXT := Lib.hid (show Lp s i f k 0 NB W1 (jn + 1) g ps (.slice (some ⟨g', 0, none⟩) ps.length cap') W9 from
            ⟨hjs, by have := LP.out.ge; have := HJ.out.2.1; omega, HE3.out, by have := LP.out.fuel; have := HJ.out.2.1; omega, BY.out, OY.out, by have := LP.out.cnt; have := PS.out.2; have := HJ.out.2.1; omega, R.out⟩)
          have HWJ := Lib.hid wj
          have HMS := Lib.hid (show s.size - (jn + 1) < s.size - j from by have := HJ.out.2.1; omega)
          clear wj
          go_roundw
          case rel => exact ⟨jn + 1, g, ps, _, by first | (rw [HWJ.out]; go_num) | go_num, NXT.out⟩
          case measure =>
            first
              | (rw [HWJ.out]; simp [intOf]; have := HMS.out; omega)
              | (simp [intOf]; have := HMS.out; omega)
        · have b44 : (((cb s jn).toNat : Int) != 44) = true := by rw [bne, cb_int (c := 44) (n := 44) rfl]; simp [h44]
          have HF := Lib.hid (ST.out.2.2 h41 h44)
          clear h41 h44
          have HB2 := Lib.hid (BN.out.1.keep R.out)
          obtain ⟨f0, f1, f2, f3⟩ := HB2.out.free
          obtain ⟨d0, d1, d2, d3⟩ := HB2.out.cells
          have BM := Lib.hid (HB2.out.put (.int .i64 0) (.int .u64 0) (.slice none 0 0) (.slice none 0 0))
          have ON := Lib.hid (only_set4 (BN.out.2.trans R.out) (B := B) (by rw [HBB.out]; omega) (.int .i64 0) (.int .u64 0) (.slice none 0 0) (.slice none 0 0))
          go_wp2_with fail
          exact bodyPost_ret (res2 (p := 4) (u := 5) (ty := 27) Try.results104 _ _ B 27 _ (0, 0) _ rfl BM.out Try.underlying27 rfl (by kernel_rfl)) rfl (by rw [HF.out]; exact ⟨ON.out, rfl⟩)
end Go.Proofs.Ytbjnejnjlidiaaa.trE
namespace Go.Proofs.Ytbjnejnjlidiaaa.trE
open Go.RowKit kit numA numB numC numD numE numF numG tmA tmB trA trB trC trD
set_option linter.unusedVariables false
set_option linter.unusedSimpArgs false

set_option maxRecDepth 100000 in
set_option maxHeartbeats 1600000 in
theorem node_6 (s : ByteArray) (N : Nat) (ih : IH s N) (i f : Nat) (w : World) (hm : s.size ≤ 100000000) (h0 : i ≤ s.size) (hN : s.size - i ≤ N + 1) (hf : 2 * (s.size - i) ≤ f) (hk : kindOf (cb s i) = 6) : Calls Try.prog 104 #[.string s, .int .i64 i] w (Tmd w s (tmR f (s.data.toList.drop i))) := by
  have hi : i < s.size := cb_lt (c := letter 6) (by decide) (by rw [← hk]; exact (kind_letter _ (by rw [hk]; decide)).1)
  have hR : tmR f (s.data.toList.drop i) = (match s.data.toList.drop (i + 1) with
      | [] => none
      | o :: r1 => if o = 40 then (match headR 6 r1 with
          | none => none
          | some (n, r2) => if 6 = 11 ∧ r2.head? = some 41 then some (⟨11, n, [], []⟩, r2.tail) else lpR (f - 1) 6 n [] r2)
        else none) := by
    obtain ⟨f, rfl⟩ : ∃ g, f = g + 1 := ⟨f - 1, by omega⟩
    rw [cb_in s i hi, tmR_cons, hk, if_neg (by omega), if_neg (by omega), if_neg (by omega)]
    rfl
  have BN := Lib.hid (resbox s i w)
  have AT := Lib.hid (at_cb s i (w.alloc (.cells #[.int .i64 0, .int .u64 0, .slice none 0 0, .slice none 0 0] 27)) (by omega) (by omega))
  have KD := Lib.hid (kind_any (cb s i) (w.alloc (.cells #[.int .i64 0, .int .u64 0, .slice none 0 0, .slice none 0 0] 27)))
  rw [hk] at KD
  have A1 := Lib.hid (fun W => at_cb1 s i W (by omega) (by omega))
  have HR := Lib.hid hR
  have HM := Lib.hid hm
  have HI := Lib.hid hi
  have HN := Lib.hid hN
  have HFu := Lib.hid hf
  have IHH := Lib.hid ih

  have wi : wrap64 ((i : Int) + 1) = (i : Int) + 1 := IntWalk.wrap64_in _ (by omega)
  have wi2 : wrap64 ((i : Int) + 2) = (i : Int) + 2 := IntWalk.wrap64_in _ (by omega)
  clear hk h0 hf hm hi hR hN ih
  go_enter Try.func104, Try.ntmps104
  go_wp2_with fail
  (with_reducible refine AT.out.mono ?_)
  rintro e w1 ⟨rfl, hw⟩
  obtain rfl := hw
  go_wp2_with fail
  (with_reducible refine KD.out.mono ?_)
  rintro e w1 ⟨rfl, hw⟩
  obtain rfl := hw
  go_wp2_with fail
  have hs1 : (w.alloc (.cells #[.int .i64 0, .int .u64 0, .slice none 0 0, .slice none 0 0] 27)).heap.size = w.heap.size + 1 := World.size_alloc _ _
  generalize w.alloc (.cells #[.int .i64 0, .int .u64 0, .slice none 0 0, .slice none 0 0] 27) = W1 at BN hs1 ⊢
  obtain ⟨B, hB⟩ : ∃ B, B = w.heap.size := ⟨_, rfl⟩
  have HBB := Lib.hid hB
  rw [← hB] at BN hs1 ⊢
  clear hB AT KD
  have NX := Lib.hid (Box4.new W1 (.int .i64 6) (.int .u64 0) (.slice none 0 0) (.slice none 0 0))
  have O2 := Lib.hid ((Only.refl (fun _ => False) W1).alloc (.cells #[.int .i64 6, .int .u64 0, .slice none 0 0, .slice none 0 0] 27))
  generalize W1.alloc (.cells #[.int .i64 6, .int .u64 0, .slice none 0 0, .slice none 0 0] 27) = W2 at NX O2 ⊢
  obtain ⟨NB, hNB⟩ : ∃ x, x = B + 1 := ⟨_, rfl⟩
  have HNB := Lib.hid (show NB = W1.heap.size from hNB.trans hs1.symm)
  rw [hs1, ← hNB] at NX
  rw [← hNB]
  clear hNB hs1
  have HBL := Lib.hid (show B < NB from by rw [HNB.out]; exact lt_of BN.out.1)
  (with_reducible refine (A1.out _).mono ?_)
  rintro e w1 ⟨rfl, hw⟩
  obtain rfl := hw
  by_cases h40 : cb s (i + 1) = 40
  rotate_left
  · have b40 : (((cb s (i + 1)).toNat : Int) != 40) = true := by rw [bne, cb_int (c := 40) (n := 40) rfl]; simp [h40]
    have HF := Lib.hid (show tmR f (s.data.toList.drop i) = none from by
      rw [HR.out]
      rcases Nat.lt_or_ge (i + 1) s.size with q | q
      · rw [cb_in s (i + 1) q]
        simp [h40]
      · rw [(cb_out s (i + 1) q).2])
    have HB2 := Lib.hid (BN.out.1.keep O2.out)
    obtain ⟨f0, f1, f2, f3⟩ := HB2.out.free
    obtain ⟨c0, c1, c2, c3⟩ := HB2.out.cells
    have BM := Lib.hid (HB2.out.put (.int .i64 0) (.int .u64 0) (.slice none 0 0) (.slice none 0 0))
    have ON := Lib.hid (only_set4 (BN.out.2.trans O2.out) (B := B) (by rw [HBB.out]; omega) (.int .i64 0) (.int .u64 0) (.slice none 0 0) (.slice none 0 0))
    clear h40
    go_wp2_with fail
    exact bodyPost_ret (res2 (p := 4) (u := 5) (ty := 27) Try.results104 _ _ B 27 _ (0, 0) _ rfl BM.out Try.underlying27 rfl (by kernel_rfl)) rfl (by rw [HF.out]; exact ⟨ON.out, rfl⟩)
  have b40 : (((cb s (i + 1)).toNat : Int) != 40) = false := by rw [bne, cb_int (c := 40) (n := 40) rfl]; simp [h40]
  have H40 := Lib.hid (cb_lt (by decide) h40)
  have HR2 := Lib.hid (show tmR f (s.data.toList.drop i) = (match headR 6 (s.data.toList.drop (i + 2)) with
          | none => none
          | some (n, r2) => if 6 = 11 ∧ r2.head? = some 41 then some (⟨11, n, [], []⟩, r2.tail) else lpR (f - 1) 6 n [] r2) from by
    rw [HR.out, cb_in s (i + 1) (by have := H40.out; omega), h40]
    simp only [↓reduceIte])
  clear h40 HR
  have HH : headR 6 (s.data.toList.drop (i + 2)) = some (0, s.data.toList.drop (i + 2)) := by
    rw [headR, if_neg]
    decide
  have HF := Lib.hid (show tmR f (s.data.toList.drop i) = lpR (f - 1) 6 0 [] (s.data.toList.drop (i + 2)) from by
    rw [HR2.out, HH]
    simp only
    rw [if_neg (by simp)])
  clear HH HR2
  have LP0 := Lib.hid (Lp.nil (f := f) (g := f - 1) (n := 0) (j := i + 2) (i := i) (by have := H40.out; omega) (Nat.le_refl _) HF.out (by have := HFu.out; have := H40.out; omega) NX.out O2.out)
  go_wp2_with fail
  have WI2 := Lib.hid wi2
  clear wi wi2
  go_loopw [1] (fun ii wr => ∃ (j g : Nat) (acc : List Txt) (v : Value), ii = .int .i64 j ∧ Lp s i f 6 0 NB W1 j g acc v wr) (fun ii _ => s.size - (intOf ii).toNat)
  case atStart => exact ⟨_, _, [], _, by first | rfl | go_num | (rw [WI2.out]; go_num) | (rw [WI2.out]; rfl), LP0.out⟩
  case round =>
    obtain ⟨j, g, acc, v, rfl, lp⟩ := hrel
    obtain ⟨i0, hi0, hz0, hz1, hz2⟩ := info_parts info9
    have LP := Lib.hid lp
    clear lp LP0
    obtain ⟨g, rfl⟩ : ∃ g', g = g' + 1 := ⟨g - 1, by have := LP.out.fuel; omega⟩
    have RC := Lib.hid (IHH.out j g wr LP.out.le (by have := LP.out.ge; have := HN.out; have := HI.out; omega) (by have := LP.out.fuel; omega))
    obtain ⟨q, hq⟩ : ∃ q, q = tmR g (s.data.toList.drop j) := ⟨_, rfl⟩
    rw [← hq] at RC
    have HQ := Lib.hid hq
    clear hq
    go_wp2_with fail
    (with_reducible refine RC.out.mono ?_)
    rintro e w3 ⟨o, hr⟩
    have O3 := Lib.hid o
    clear RC o
    cases q with
    | none =>
      subst hr
      have HF := Lib.hid (lp_none LP.out.eq HQ.out.symm)
      have HB2 := Lib.hid (BN.out.1.keep ((LP.out.only.trans O3.out).alloc (.cells #[.int .i64 0, .int .u64 0, .slice none 0 0, .slice none 0 0] 27)))
      obtain ⟨f0, f1, f2, f3⟩ := HB2.out.free
      obtain ⟨c0, c1, c2, c3⟩ := HB2.out.cells
      have BM := Lib.hid (HB2.out.put (.int .i64 0) (.int .u64 0) (.slice none 0 0) (.slice none 0 0))
      have ON := Lib.hid (only_set4 (BN.out.2.trans ((LP.out.only.trans O3.out).alloc (.cells #[.int .i64 0, .int .u64 0, .slice none 0 0, .slice none 0 0] 27))) (B := B) (by rw [HBB.out]; omega) (.int .i64 0) (.int .u64 0) (.slice none 0 0) (.slice none 0 0))
      go_wp2_with fail
      exact bodyPost_ret (res2 (p := 4) (u := 5) (ty := 27) Try.results104 _ _ B 27 _ (0, 0) _ rfl BM.out Try.underlying27 rfl (by kernel_rfl)) rfl (by rw [HF.out]; exact ⟨ON.out, rfl⟩)
    | some dd =>
      obtain ⟨d, rest⟩ := dd
      obtain ⟨vv, hv, rfl⟩ := hr
      obtain ⟨a, nn, c, a', nn', c', rfl, -, -⟩ := hv
      obtain ⟨e1, hlt, hle, ept⟩ := part_ok LP.out.le HQ.out.symm
      obtain ⟨jn, hjn⟩ : ∃ x, x = behind s rest := ⟨_, rfl⟩
      rw [← hjn] at e1 hlt hle ept ⊢
      have HJ := Lib.hid (And.intro hjn (And.intro hlt hle))
      have SVE := Lib.hid (sv_extract s j jn hle)
      have b1 : (0 : Int) ≤ (j : Int) := by omega
      have b2 : (j : Int) ≤ (jn : Int) := by omega
      have b3 : (jn : Int) ≤ (s.size : Int) := by omega
      have b4 : ((jn : Int) < 0) = False := eq_false (by omega)
      have O4 := Lib.hid (O3.out.alloc (.cells #[.int .i64 d.k, .int .u64 d.n, .slice a nn c, .slice a' nn' c'] 27))
      clear e1 hlt hle ept hjn
      have BX := Lib.hid (LP.out.box.keep O4.out)
      have OX := Lib.hid (owns_keep LP.out.own O4.out)
      obtain ⟨c0, c1, c2, c3⟩ := BX.out.cells
      go_wp2_with fail
      generalize w3.alloc (.cells #[.int .i64 d.k, .int .u64 d.n, .slice a nn c, .slice a' nn' c'] 27) = W4 at BX OX O4 c0 c1 c2 c3 ⊢
      have fz := BX.out.free.2.2.2
      have BX7 := Lib.hid (show Box4 W4.drew NB (.int .i64 6) (.int .u64 (0 : Nat)) (.slice none 0 0) v from BX.out)
      have OX7 := Lib.hid (owns_keep OX.out (Only.drew (Only.refl (fun _ => False) W4)))
      have O7 := Lib.hid (Only.drew (Only.refl (fun _ => False) W4))
      have hcnt : acc.length ≤ 100000001 := by have := LP.out.cnt; have := LP.out.le; have := HM.out; omega
      have hNBlt : NB < W4.heap.size := lt_of BX.out
      go_region_law (first
        | (refine step_append_lies _ (by rfl) _ _ _ (by rfl) (NB + 1) 9 i0 _ 1 16 Try.underlying25 hi0 hz0 hz1 hz2 rfl (by omega) v acc.length (acc.map sv) (by rfl) (OX7.out.alloc _) ⟨_, 0, none⟩ 1 1 [.string (s.extract j jn)] (by rfl) (by rfl) (World.news_of_block (cs := #[.string (s.extract j jn)]) (t := 9) (fr := (0, 0)) (heap_alloc_new _ _)) (by simp [Value.oneCell']) (by omega) (by unfold maxLen; omega) (by omega) (by simp; omega) _ rfl ?_; intro g' cap' w9 hown9 hgrow9 hat9 hlt9; obtain ⟨KO9, R9⟩ := after_app BX7.out OX7.out (LP.out.only.trans (O4.out.trans O7.out)) hgrow9 (by rw [HNB.out]; omega); have cO := KO9.cells.2.2.2; have fO := KO9.free.2.2.2; have KO9 := Lib.hid KO9; have R9 := Lib.hid R9; have OW9 := Lib.hid hown9; clear hown9 hgrow9 hat9 hlt9))
      all_goals
        obtain ⟨ps, hps⟩ : ∃ ps, ps = acc ++ [(s.data.toList.drop j).take (jn - j)] := ⟨_, rfl⟩
        have hlen : acc.length + 1 = ps.length := by rw [hps]; simp
        have hmap : acc.map sv ++ [.string (s.extract j jn)] = ps.map sv := by rw [hps, SVE.out]; simp
        have BY := Lib.hid (show Box4 (w9.setCell ⟨NB, 3, none⟩ (.slice (some ⟨g', 0, none⟩) ps.length cap')) NB (.int .i64 6) (.int .u64 (0 : Nat)) (.slice none 0 0) (.slice (some ⟨g', 0, none⟩) ps.length cap') from heap_set KO9.out)
        have OY := Lib.hid (show (w9.setCell ⟨NB, 3, none⟩ (.slice (some ⟨g', 0, none⟩) ps.length cap')).ownsRow (NB + 1) 9 1 (.slice (some ⟨g', 0, none⟩) ps.length cap') ps.length (ps.map sv) from by
          have q := OW9.out
          rw [hmap, hlen] at q
          exact owns_set q (Nat.lt_succ_self NB))
        have R := Lib.hid (only_setNew (b := NB) (o := 3) (v := .slice (some ⟨g', 0, none⟩) ps.length cap') R9.out (by rw [HNB.out]; omega))
        have PS := Lib.hid (And.intro hps hlen)
        rw [hlen]
        clear BX OX BX7 OX7 O7 KO9 R9 OW9 cO fO hmap hlen hps hcnt hNBlt O4 c0 c1 c2 c3 fz hi0 hz0 hz1 hz2
        generalize w9.setCell ⟨NB, 3, none⟩ (.slice (some ⟨g', 0, none⟩) ps.length cap') = W9 at BY OY R ⊢
        have AJ := Lib.hid (at_cb s jn W9 (by have := HM.out; omega) (by have := HM.out; omega))
        have wj : wrap64 ((jn : Int) + 1) = (jn : Int) + 1 := IntWalk.wrap64_in _ (by have := HM.out; omega)
        go_wp2_with fail
        (with_reducible refine AJ.out.mono ?_)
        rintro e w10 ⟨rfl, hw⟩
        obtain rfl := hw
        clear AJ
        have ST := Lib.hid (lp_step LP.out.le LP.out.eq HQ.out.symm HJ.out.1 PS.out.1)
        obtain ⟨c0, c1, c2, c3⟩ := BY.out.cells
        by_cases h41 : cb s jn = 41
        · have b41 : (((cb s jn).toNat : Int) == 41) = true := by rw [cb_int (c := 41) (n := 41) rfl]; simp [h41]
          have hjs := cb_lt (by decide) h41
          have HE3 := Lib.hid (ST.out.1 h41)
          clear h41
          cases hrr : right 6 ps.length
          · have RT := fun W => right_q 6 ps.length false W (by decide) (by decide) hrr
            have HF := Lib.hid (show tmR f (s.data.toList.drop i) = none from by rw [HE3.out, hrr]; simp)
            have RTH := Lib.hid RT
            clear RT hrr HE3
            go_wp2_with fail
            go_quiet ((go_at_call 161; exact Calls.quiet_of_same (RTH.out _)))
            have HB2 := Lib.hid (BN.out.1.keep (R.out.drewN nq))
            obtain ⟨f0, f1, f2, f3⟩ := HB2.out.free
            obtain ⟨d0, d1, d2, d3⟩ := HB2.out.cells
            have BM := Lib.hid (HB2.out.put (.int .i64 0) (.int .u64 0) (.slice none 0 0) (.slice none 0 0))
            have ON := Lib.hid (only_set4 (BN.out.2.trans (R.out.drewN nq)) (B := B) (by rw [HBB.out]; omega) (.int .i64 0) (.int .u64 0) (.slice none 0 0) (.slice none 0 0))
            go_wp2_with fail
            exact bodyPost_ret (res2 (p := 4) (u := 5) (ty := 27) Try.results104 _ _ B 27 _ (0, 0) _ rfl BM.out Try.underlying27 rfl (by kernel_rfl)) rfl (by rw [HF.out]; exact ⟨ON.out, rfl⟩)
          · have RT := fun W => right_q 6 ps.length true W (by decide) (by decide) hrr
            have RTH := Lib.hid RT
            obtain ⟨pa, pb, hpp⟩ := two_of hrr
            have x0 : W9.cell? ⟨g', 0, none⟩ = some (.string ⟨pa.toArray⟩) := by
              have := OY.out.cells (g := g') rfl 0 (sv pa) (by rw [hpp]; rfl)
              rw [Addr.add_lit, Nat.zero_add] at this
              exact this
            have x1 : W9.cell? ⟨g', 1, none⟩ = some (.string ⟨pb.toArray⟩) := by
              have := OY.out.cells (g := g') rfl 1 (sv pb) (by rw [hpp]; rfl)
              rw [Addr.add_lit, Nat.zero_add] at this
              exact this
            have y0 : (0 : Int) < (ps.length : Int) := by rw [hpp]; simp
            have y1 : (1 : Int) < (ps.length : Int) := by rw [hpp]; simp
            have HS := Lib.hid (show sorted 6 ps = !(gt pa pb) from by rw [hpp]; rfl)
            have HGT := Lib.hid (show gt pa pb = !(Op.bytesLess (ByteArray.toList ⟨pa.toArray⟩) (ByteArray.toList ⟨pb.toArray⟩) || ByteArray.toList ⟨pa.toArray⟩ == ByteArray.toList ⟨pb.toArray⟩) from by
              rw [byteArray_toList, byteArray_toList]
              rfl)
            have HRR := Lib.hid hrr
            obtain ⟨sa, hsa⟩ : ∃ sa : ByteArray, sa = ⟨pa.toArray⟩ := ⟨_, rfl⟩
            obtain ⟨sb, hsb⟩ : ∃ sb : ByteArray, sb = ⟨pb.toArray⟩ := ⟨_, rfl⟩
            rw [← hsa, ← hsb] at HGT
            rw [← hsa] at x0
            rw [← hsb] at x1
            clear RT hrr hpp hsa hsb
            go_wp2_with fail
            go_quiet ((go_at_call 161; exact Calls.quiet_of_same (RTH.out _)))
            cases hA : Op.bytesLess sa.toList sb.toList
            · cases hB : (sa.toList == sb.toList)
              · have HF := Lib.hid (show tmR f (s.data.toList.drop i) = none from by rw [HE3.out, HS.out, HGT.out, hA, hB]; simp)
                have HB2 := Lib.hid (BN.out.1.keep (R.out.drewN nq))
                obtain ⟨f0, f1, f2, f3⟩ := HB2.out.free
                obtain ⟨d0, d1, d2, d3⟩ := HB2.out.cells
                have BM := Lib.hid (HB2.out.put (.int .i64 0) (.int .u64 0) (.slice none 0 0) (.slice none 0 0))
                have ON := Lib.hid (only_set4 (BN.out.2.trans (R.out.drewN nq)) (B := B) (by rw [HBB.out]; omega) (.int .i64 0) (.int .u64 0) (.slice none 0 0) (.slice none 0 0))
                go_wp2_with fail
                exact bodyPost_ret (res2 (p := 4) (u := 5) (ty := 27) Try.results104 _ _ B 27 _ (0, 0) _ rfl BM.out Try.underlying27 rfl (by kernel_rfl)) rfl (by rw [HF.out]; exact ⟨ON.out, rfl⟩)
              · have HF := Lib.hid (show tmR f (s.data.toList.drop i) = some (⟨6, 0, [], ps⟩, s.data.toList.drop (jn + 1)) from by rw [HE3.out, HRR.out, HS.out, HGT.out, hA, hB]; rfl)
                have HB2 := Lib.hid (BN.out.1.keep (R.out.drewN nq))
                have HY2 := Lib.hid (show Box4 (W9.drewN nq) NB (.int .i64 6) (.int .u64 (0 : Nat)) (.slice none 0 0) (.slice (some ⟨g', 0, none⟩) ps.length cap') from BY.out)
                obtain ⟨f0, f1, f2, f3⟩ := HB2.out.free
                obtain ⟨d0, d1, d2, d3⟩ := HB2.out.cells
                clear c0 c1 c2 c3
                obtain ⟨c0, c1, c2, c3⟩ := HY2.out.cells
                have BM := Lib.hid (HB2.out.put (.int .i64 6) (.int .u64 (0 : Nat)) (.slice none 0 0) (.slice (some ⟨g', 0, none⟩) ps.length cap'))
                have ON := Lib.hid (only_set4 (BN.out.2.trans (R.out.drewN nq)) (B := B) (by rw [HBB.out]; omega) (.int .i64 6) (.int .u64 (0 : Nat)) (.slice none 0 0) (.slice (some ⟨g', 0, none⟩) ps.length cap'))
                have SL := Lib.hid ((own_sl (show (W9.drewN nq).ownsRow (NB + 1) 9 1 (.slice (some ⟨g', 0, none⟩) ps.length cap') ps.length (ps.map sv) from OY.out)).mono (T := fun k => B < k) fun k hk => by have := HBL.out; omega)
                have BE := Lib.hid (show behind s (s.data.toList.drop (jn + 1)) = jn + 1 from by rw [behind, List.length_drop, tl_size]; omega)
                go_wp2_with fail
                exact bodyPost_ret (res2 (p := 4) (u := 5) (ty := 27) Try.results104 _ _ B 27 _ (0, 0) _ rfl BM.out Try.underlying27 rfl (by kernel_rfl)) rfl (by rw [HF.out]; exact ⟨ON.out, _, nd_set4 (fun k hk => by have := HBB.out; omega) _ _ _ _ _ _ rfl (sl_nil _ _) SL.out, by rw [BE.out]; first | rfl | (rw [wj]; rfl) | (simp [wj])⟩)
            · cases hB : (sa.toList == sb.toList)
              · have HF := Lib.hid (show tmR f (s.data.toList.drop i) = some (⟨6, 0, [], ps⟩, s.data.toList.drop (jn + 1)) from by rw [HE3.out, HRR.out, HS.out, HGT.out, hA, hB]; rfl)
                have HB2 := Lib.hid (BN.out.1.keep (R.out.drewN nq))
                have HY2 := Lib.hid (show Box4 (W9.drewN nq) NB (.int .i64 6) (.int .u64 (0 : Nat)) (.slice none 0 0) (.slice (some ⟨g', 0, none⟩) ps.length cap') from BY.out)
                obtain ⟨f0, f1, f2, f3⟩ := HB2.out.free
                obtain ⟨d0, d1, d2, d3⟩ := HB2.out.cells
                clear c0 c1 c2 c3
                obtain ⟨c0, c1, c2, c3⟩ := HY2.out.cells
                have BM := Lib.hid (HB2.out.put (.int .i64 6) (.int .u64 (0 : Nat)) (.slice none 0 0) (.slice (some ⟨g', 0, none⟩) ps.length cap'))
                have ON := Lib.hid (only_set4 (BN.out.2.trans (R.out.drewN nq)) (B := B) (by rw [HBB.out]; omega) (.int .i64 6) (.int .u64 (0 : Nat)) (.slice none 0 0) (.slice (some ⟨g', 0, none⟩) ps.length cap'))
                have SL := Lib.hid ((own_sl (show (W9.drewN nq).ownsRow (NB + 1) 9 1 (.slice (some ⟨g', 0, none⟩) ps.length cap') ps.length (ps.map sv) from OY.out)).mono (T := fun k => B < k) fun k hk => by have := HBL.out; omega)
                have BE := Lib.hid (show behind s (s.data.toList.drop (jn + 1)) = jn + 1 from by rw [behind, List.length_drop, tl_size]; omega)
                go_wp2_with fail
                exact bodyPost_ret (res2 (p := 4) (u := 5) (ty := 27) Try.results104 _ _ B 27 _ (0, 0) _ rfl BM.out Try.underlying27 rfl (by kernel_rfl)) rfl (by rw [HF.out]; exact ⟨ON.out, _, nd_set4 (fun k hk => by have := HBB.out; omega) _ _ _ _ _ _ rfl (sl_nil _ _) SL.out, by rw [BE.out]; first | rfl | (rw [wj]; rfl) | (simp [wj])⟩)
              · have HF := Lib.hid (show tmR f (s.data.toList.drop i) = some (⟨6, 0, [], ps⟩, s.data.toList.drop (jn + 1)) from by rw [HE3.out, HRR.out, HS.out, HGT.out, hA, hB]; rfl)
                have HB2 := Lib.hid (BN.out.1.keep (R.out.drewN nq))
                have HY2 := Lib.hid (show Box4 (W9.drewN nq) NB (.int .i64 6) (.int .u64 (0 : Nat)) (.slice none 0 0) (.slice (some ⟨g', 0, none⟩) ps.length cap') from BY.out)
                obtain ⟨f0, f1, f2, f3⟩ := HB2.out.free
                obtain ⟨d0, d1, d2, d3⟩ := HB2.out.cells
                clear c0 c1 c2 c3
                obtain ⟨c0, c1, c2, c3⟩ := HY2.out.cells
                have BM := Lib.hid (HB2.out.put (.int .i64 6) (.int .u64 (0 : Nat)) (.slice none 0 0) (.slice (some ⟨g', 0, none⟩) ps.length cap'))
                have ON := Lib.hid (only_set4 (BN.out.2.trans (R.out.drewN nq)) (B := B) (by rw [HBB.out]; omega) (.int .i64 6) (.int .u64 (0 : Nat)) (.slice none 0 0) (.slice (some ⟨g', 0, none⟩) ps.length cap'))
                have SL := Lib.hid ((own_sl (show (W9.drewN nq).ownsRow (NB + 1) 9 1 (.slice (some ⟨g', 0, none⟩) ps.length cap') ps.length (ps.map sv) from OY.out)).mono (T := fun k => B < k) fun k hk => by have := HBL.out; omega)
                have BE := Lib.hid (show behind s (s.data.toList.drop (jn + 1)) = jn + 1 from by rw [behind, List.length_drop, tl_size]; omega)
                go_wp2_with fail
                exact bodyPost_ret (res2 (p := 4) (u := 5) (ty := 27) Try.results104 _ _ B 27 _ (0, 0) _ rfl BM.out Try.underlying27 rfl (by kernel_rfl)) rfl (by rw [HF.out]; exact ⟨ON.out, _, nd_set4 (fun k hk => by have := HBB.out; omega) _ _ _ _ _ _ rfl (sl_nil _ _) SL.out, by rw [BE.out]; first | rfl | (rw [wj]; rfl) | (simp [wj])⟩)
        have b41 : (((cb s jn).toNat : Int) == 41) = false := by rw [cb_int (c := 41) (n := 41) rfl]; simp [h41]
        by_cases h44 : cb s jn = 44
        · have b44 : (((cb s jn).toNat : Int) != 44) = false := by rw [bne, cb_int (c := 44) (n := 44) rfl]; simp [h44]
          have hjs := cb_lt (by decide) h44
          have HE3 := Lib.hid (ST.out.2.1 h44)
          clear h41 h44
          go_wp2_with fail
          have NXT := Lib.hid (show Lp s i f 6 0 NB W1 (jn + 1) g ps (.slice (some ⟨g', 0, none⟩) ps.length cap') W9 from
            ⟨hjs, by have := LP.out.ge; have := HJ.out.2.1; omega, HE3.out, by have := LP.out.fuel; have := HJ.out.2.1; omega, BY.out, OY.out, by have := LP.out.cnt; have := PS.out.2; have := HJ.out.2.1; omega, R.out⟩)
          have HWJ := Lib.hid wj
          have HMS := Lib.hid (show s.size - (jn + 1) < s.size - j from by have := HJ.out.2.1; omega)
          clear wj
          go_roundw
          case rel => exact ⟨jn + 1, g, ps, _, by first | (rw [HWJ.out]; go_num) | go_num, NXT.out⟩
          case measure =>
            first
              | (rw [HWJ.out]; simp [intOf]; have := HMS.out; omega)
              | (simp [intOf]; have := HMS.out; omega)
        · have b44 : (((cb s jn).toNat : Int) != 44) = true := by rw [bne, cb_int (c := 44) (n := 44) rfl]; simp [h44]
          have HF := Lib.hid (ST.out.2.2 h41 h44)
          clear h41 h44
          have HB2 := Lib.hid (BN.out.1.keep R.out)
          obtain ⟨f0, f1, f2, f3⟩ := HB2.out.free
          obtain ⟨d0, d1, d2, d3⟩ := HB2.out.cells
          have BM := Lib.hid (HB2.out.put (.int .i64 0) (.int .u64 0) (.slice none 0 0) (.slice none 0 0))
          have ON := Lib.hid (only_set4 (BN.out.2.trans R.out) (B := B) (by rw [HBB.out]; omega) (.int .i64 0) (.int .u64 0) (.slice none 0 0) (.slice none 0 0))
          go_wp2_with fail
          exact bodyPost_ret (res2 (p := 4) (u := 5) (ty := 27) Try.results104 _ _ B 27 _ (0, 0) _ rfl BM.out Try.underlying27 rfl (by kernel_rfl)) rfl (by rw [HF.out]; exact ⟨ON.out, rfl⟩)
end Go.Proofs.Ytbjnejnjlidiaaa.trE
namespace Go.Proofs.Ytbjnejnjlidiaaa.trE
open Go.RowKit kit numA numB numC numD numE numF numG tmA tmB trA trB trC trD
set_option linter.unusedVariables false
set_option linter.unusedSimpArgs false

set_option maxRecDepth 100000 in
set_option maxHeartbeats 1600000 in
theorem node_8 (s : ByteArray) (N : Nat) (ih : IH s N) (i f : Nat) (w : World) (hm : s.size ≤ 100000000) (h0 : i ≤ s.size) (hN : s.size - i ≤ N + 1) (hf : 2 * (s.size - i) ≤ f) (hk : kindOf (cb s i) = 8) : Calls Try.prog 104 #[.string s, .int .i64 i] w (Tmd w s (tmR f (s.data.toList.drop i))) := by
  have hi : i < s.size := cb_lt (c := letter 8) (by decide) (by rw [← hk]; exact (kind_letter _ (by rw [hk]; decide)).1)
  have hR : tmR f (s.data.toList.drop i) = (match s.data.toList.drop (i + 1) with
      | [] => none
      | o :: r1 => if o = 40 then (match headR 8 r1 with
          | none => none
          | some (n, r2) => if 8 = 11 ∧ r2.head? = some 41 then some (⟨11, n, [], []⟩, r2.tail) else lpR (f - 1) 8 n [] r2)
        else none) := by
    obtain ⟨f, rfl⟩ : ∃ g, f = g + 1 := ⟨f - 1, by omega⟩
    rw [cb_in s i hi, tmR_cons, hk, if_neg (by omega), if_neg (by omega), if_neg (by omega)]
    rfl
  have BN := Lib.hid (resbox s i w)
  have AT := Lib.hid (at_cb s i (w.alloc (.cells #[.int .i64 0, .int .u64 0, .slice none 0 0, .slice none 0 0] 27)) (by omega) (by omega))
  have KD := Lib.hid (kind_any (cb s i) (w.alloc (.cells #[.int .i64 0, .int .u64 0, .slice none 0 0, .slice none 0 0] 27)))
  rw [hk] at KD
  have A1 := Lib.hid (fun W => at_cb1 s i W (by omega) (by omega))
  have HR := Lib.hid hR
  have HM := Lib.hid hm
  have HI := Lib.hid hi
  have HN := Lib.hid hN
  have HFu := Lib.hid hf
  have IHH := Lib.hid ih

  have wi : wrap64 ((i : Int) + 1) = (i : Int) + 1 := IntWalk.wrap64_in _ (by omega)
  have wi2 : wrap64 ((i : Int) + 2) = (i : Int) + 2 := IntWalk.wrap64_in _ (by omega)
  clear hk h0 hf hm hi hR hN ih
  go_enter Try.func104, Try.ntmps104
  go_wp2_with fail
  (with_reducible refine AT.out.mono ?_)
  rintro e w1 ⟨rfl, hw⟩
  obtain rfl := hw
  go_wp2_with fail
  (with_reducible refine KD.out.mono ?_)
  rintro e w1 ⟨rfl, hw⟩
  obtain rfl := hw
  go_wp2_with fail
  have hs1 : (w.alloc (.cells #[.int .i64 0, .int .u64 0, .slice none 0 0, .slice none 0 0] 27)).heap.size = w.heap.size + 1 := World.size_alloc _ _
  generalize w.alloc (.cells #[.int .i64 0, .int .u64 0, .slice none 0 0, .slice none 0 0] 27) = W1 at BN hs1 ⊢
  obtain ⟨B, hB⟩ : ∃ B, B = w.heap.size := ⟨_, rfl⟩
  have HBB := Lib.hid hB
  rw [← hB] at BN hs1 ⊢
  clear hB AT KD
  have NX := Lib.hid (Box4.new W1 (.int .i64 8) (.int .u64 0) (.slice none 0 0) (.slice none 0 0))
  have O2 := Lib.hid ((Only.refl (fun _ => False) W1).alloc (.cells #[.int .i64 8, .int .u64 0, .slice none 0 0, .slice none 0 0] 27))
  generalize W1.alloc (.cells #[.int .i64 8, .int .u64 0, .slice none 0 0, .slice none 0 0] 27) = W2 at NX O2 ⊢
  obtain ⟨NB, hNB⟩ : ∃ x, x = B + 1 := ⟨_, rfl⟩
  have HNB := Lib.hid (show NB = W1.heap.size from hNB.trans hs1.symm)
  rw [hs1, ← hNB] at NX
  rw [← hNB]
  clear hNB hs1
  have HBL := Lib.hid (show B < NB from by rw [HNB.out]; exact lt_of BN.out.1)
  (with_reducible refine (A1.out _).mono ?_)
  rintro e w1 ⟨rfl, hw⟩
  obtain rfl := hw
  by_cases h40 : cb s (i + 1) = 40
  rotate_left
  · have b40 : (((cb s (i + 1)).toNat : Int) != 40) = true := by rw [bne, cb_int (c := 40) (n := 40) rfl]; simp [h40]
    have HF := Lib.hid (show tmR f (s.data.toList.drop i) = none from by
      rw [HR.out]
      rcases Nat.lt_or_ge (i + 1) s.size with q | q
      · rw [cb_in s (i + 1) q]
        simp [h40]
      · rw [(cb_out s (i + 1) q).2])
    have HB2 := Lib.hid (BN.out.1.keep O2.out)
    obtain ⟨f0, f1, f2, f3⟩ := HB2.out.free
    obtain ⟨c0, c1, c2, c3⟩ := HB2.out.cells
    have BM := Lib.hid (HB2.out.put (.int .i64 0) (.int .u64 0) (.slice none 0 0) (.slice none 0 0))
    have ON := Lib.hid (only_set4 (BN.out.2.trans O2.out) (B := B) (by rw [HBB.out]; omega) (.int .i64 0) (.int .u64 0) (.slice none 0 0) (.slice none 0 0))
    clear h40
    go_wp2_with fail
    exact bodyPost_ret (res2 (p := 4) (u := 5) (ty := 27) Try.results104 _ _ B 27 _ (0, 0) _ rfl BM.out Try.underlying27 rfl (by kernel_rfl)) rfl (by rw [HF.out]; exact ⟨ON.out, rfl⟩)
  have b40 : (((cb s (i + 1)).toNat : Int) != 40) = false := by rw [bne, cb_int (c := 40) (n := 40) rfl]; simp [h40]
  have H40 := Lib.hid (cb_lt (by decide) h40)
  have HR2 := Lib.hid (show tmR f (s.data.toList.drop i) = (match headR 8 (s.data.toList.drop (i + 2)) with
          | none => none
          | some (n, r2) => if 8 = 11 ∧ r2.head? = some 41 then some (⟨11, n, [], []⟩, r2.tail) else lpR (f - 1) 8 n [] r2) from by
    rw [HR.out, cb_in s (i + 1) (by have := H40.out; omega), h40]
    simp only [↓reduceIte])
  clear h40 HR
  have WA := Lib.hid (fun W => word2 s i W (by have := H40.out; omega) (by have := HM.out; omega))
  obtain ⟨nx, hnx⟩ : ∃ x, x = behind s (restOf (s.data.toList.drop (i + 2))) := ⟨_, rfl⟩
  obtain ⟨re1, re2, re3⟩ := rest_drop s (i + 2) (by have := H40.out; omega)
  rw [← hnx] at re1 re2 re3
  have HX := Lib.hid (And.intro re1 (And.intro re2 (And.intro re3 hnx)))
  have AX := Lib.hid (fun W => at_cb s nx W (by have := HM.out; omega) (by have := HM.out; omega))
  have wx : wrap64 ((nx : Int) + 1) = (nx : Int) + 1 := IntWalk.wrap64_in _ (by have := HM.out; omega)
  clear re1 re2 re3
  go_wp2_with fail
  (with_reducible refine (WA.out _).mono ?_)
  rintro e w1 ⟨t, rfl, ht, hts, hw⟩
  obtain rfl : W2 = w1 := hw
  rw [← hnx]
  have RD := Lib.hid (read_ref t W2 (by have := HM.out; omega))
  have HT := Lib.hid ht
  clear ht hts WA hnx
  go_wp2_with fail
  (with_reducible refine RD.out.mono ?_)
  rintro e w2 ⟨he, o⟩
  have O3 := Lib.hid (O2.out.trans o)
  have NX3 := Lib.hid (NX.out.keep o)
  have HB3 := Lib.hid (BN.out.1.keep O3.out)
  have hc := rd_cases t.data.toList
  rw [HT.out] at hc he
  clear o RD
  have HHC := Lib.hid (head_cases 8 (s.data.toList.drop (i + 2)) rfl)
  rcases hc with ⟨h1, h2, h3⟩ | ⟨h1, c, hc, h3⟩
  rotate_left
  · rw [h3] at he
    subst he
    have hc2 : (c != 0) = true := by rw [bne, hc]; rfl
    have HF := Lib.hid (hd_none HR2.out (by rw [HHC.out, if_neg (fun q => h1 q.1)]))
    clear h1 h3
    obtain ⟨f0, f1, f2, f3⟩ := HB3.out.free
    obtain ⟨d0, d1, d2, d3⟩ := HB3.out.cells
    have BM := Lib.hid (HB3.out.put (.int .i64 0) (.int .u64 0) (.slice none 0 0) (.slice none 0 0))
    have ON := Lib.hid (only_set4 (BN.out.2.trans O3.out) (B := B) (by rw [HBB.out]; omega) (.int .i64 0) (.int .u64 0) (.slice none 0 0) (.slice none 0 0))
    go_wp2_with fail
    exact bodyPost_ret (res2 (p := 4) (u := 5) (ty := 27) Try.results104 _ _ B 27 _ (0, 0) _ rfl BM.out Try.underlying27 rfl (by kernel_rfl)) rfl (by rw [HF.out]; exact ⟨ON.out, rfl⟩)
  rw [h3] at he
  subst he
  obtain ⟨nv, hv⟩ : ∃ v, v = val (wordOf (s.data.toList.drop (i + 2))) := ⟨_, rfl⟩
  rw [← hv] at h2 h3 ⊢
  have HV := Lib.hid (And.intro h1 (And.intro h2 hv))
  clear h1 h2 h3 hv
  by_cases g1 : nv < 1
  · have z1 : ((nv : Int) < 1) = True := eq_true (by omega)
    have HF := Lib.hid (hd_none HR2.out (by
      rw [HHC.out, if_neg]
      intro q
      have := (q.2.1 rfl).1
      rw [← HV.out.2.2] at this
      omega))
    clear g1
    obtain ⟨f0, f1, f2, f3⟩ := HB3.out.free
    obtain ⟨d0, d1, d2, d3⟩ := HB3.out.cells
    have BM := Lib.hid (HB3.out.put (.int .i64 0) (.int .u64 0) (.slice none 0 0) (.slice none 0 0))
    have ON := Lib.hid (only_set4 (BN.out.2.trans O3.out) (B := B) (by rw [HBB.out]; omega) (.int .i64 0) (.int .u64 0) (.slice none 0 0) (.slice none 0 0))
    go_wp2_with fail
    exact bodyPost_ret (res2 (p := 4) (u := 5) (ty := 27) Try.results104 _ _ B 27 _ (0, 0) _ rfl BM.out Try.underlying27 rfl (by kernel_rfl)) rfl (by rw [HF.out]; exact ⟨ON.out, rfl⟩)
  have z1 : ((nv : Int) < 1) = False := eq_false (by omega)
  by_cases g3 : 3 < nv
  · have z3 : ((3 : Int) < (nv : Int)) = True := eq_true (by omega)
    have HF := Lib.hid (hd_none HR2.out (by
      rw [HHC.out, if_neg]
      intro q
      have := (q.2.1 rfl).2
      rw [← HV.out.2.2] at this
      omega))
    clear g1 g3
    obtain ⟨f0, f1, f2, f3⟩ := HB3.out.free
    obtain ⟨d0, d1, d2, d3⟩ := HB3.out.cells
    have BM := Lib.hid (HB3.out.put (.int .i64 0) (.int .u64 0) (.slice none 0 0) (.slice none 0 0))
    have ON := Lib.hid (only_set4 (BN.out.2.trans O3.out) (B := B) (by rw [HBB.out]; omega) (.int .i64 0) (.int .u64 0) (.slice none 0 0) (.slice none 0 0))
    go_wp2_with fail
    exact bodyPost_ret (res2 (p := 4) (u := 5) (ty := 27) Try.results104 _ _ B 27 _ (0, 0) _ rfl BM.out Try.underlying27 rfl (by kernel_rfl)) rfl (by rw [HF.out]; exact ⟨ON.out, rfl⟩)
  have z3 : ((3 : Int) < (nv : Int)) = False := eq_false (by omega)
  have HG := Lib.hid (show 1 ≤ nv ∧ nv ≤ 3 by omega)
  clear g1 g3

  by_cases h44 : cb s nx = 44
  rotate_left
  · have b44 : (((cb s nx).toNat : Int) != 44) = true := by rw [bne, cb_int (c := 44) (n := 44) rfl]; simp [h44]
    have HF := Lib.hid (hd_none HR2.out (by
      rw [HHC.out, if_neg]
      intro q
      have q3 := q.2.2
      rw [HX.out.1] at q3
      exact h44 ((drop_head s nx 44 (by decide)).1 q3)))
    clear h44
    go_wp2_with fail
    (with_reducible refine (AX.out _).mono ?_)
    rintro e w3 ⟨rfl, hw⟩
    obtain rfl : w2 = w3 := hw
    obtain ⟨f0, f1, f2, f3⟩ := HB3.out.free
    obtain ⟨d0, d1, d2, d3⟩ := HB3.out.cells
    have BM := Lib.hid (HB3.out.put (.int .i64 0) (.int .u64 0) (.slice none 0 0) (.slice none 0 0))
    have ON := Lib.hid (only_set4 (BN.out.2.trans O3.out) (B := B) (by rw [HBB.out]; omega) (.int .i64 0) (.int .u64 0) (.slice none 0 0) (.slice none 0 0))
    go_wp2_with fail
    exact bodyPost_ret (res2 (p := 4) (u := 5) (ty := 27) Try.results104 _ _ B 27 _ (0, 0) _ rfl BM.out Try.underlying27 rfl (by kernel_rfl)) rfl (by rw [HF.out]; exact ⟨ON.out, rfl⟩)
  have b44 : (((cb s nx).toNat : Int) != 44) = false := by rw [bne, cb_int (c := 44) (n := 44) rfl]; simp [h44]
  have hxs := cb_lt (by decide) h44
  have HF := Lib.hid (hd_some (n := nv) (r2 := s.data.toList.drop (nx + 1)) HR2.out (by
      rw [HHC.out, if_pos ⟨⟨HV.out.1, by rw [← HV.out.2.2]; exact HV.out.2.1⟩, (fun _ => by rw [← HV.out.2.2]; exact HG.out), by rw [HX.out.1]; exact (drop_head s nx 44 (by decide)).2 h44⟩, HX.out.1, cb_in s nx hxs, ← HV.out.2.2]
      rfl) (by decide))
  have HXS := Lib.hid hxs
  clear h44 hxs
  go_wp2_with fail
  (with_reducible refine (AX.out _).mono ?_)
  rintro e w3 ⟨rfl, hw⟩
  obtain rfl : w2 = w3 := hw
  obtain ⟨c0, c1, c2, c3⟩ := NX3.out.cells
  obtain ⟨f0, f1, f2, f3⟩ := NX3.out.free
  have NX4 := Lib.hid (show Box4 (w2.setCell ⟨NB, 1, none⟩ (.int .u64 nv)) NB (.int .i64 8) (.int .u64 nv) (.slice none 0 0) (.slice none 0 0) from heap_set NX3.out)
  have O4 := Lib.hid (only_setNew (b := NB) (o := 1) (v := .int .u64 nv) O3.out (by rw [HNB.out]; omega))
  have LP0 := Lib.hid (Lp.nil (f := f) (g := f - 1) (n := nv) (j := nx + 1) (i := i) (by have := HXS.out; omega) (by have := HX.out.2.1; omega) HF.out (by have := HFu.out; have := HX.out.2.1; have := HXS.out; omega) NX4.out O4.out)
  have WI2 := Lib.hid wx
  go_wp2_with fail
  clear c0 c1 c2 c3 f0 f1 f2 f3 wx
  clear wi wi2
  go_loopw [1] (fun ii wr => ∃ (j g : Nat) (acc : List Txt) (v : Value), ii = .int .i64 j ∧ Lp s i f 8 nv NB W1 j g acc v wr) (fun ii _ => s.size - (intOf ii).toNat)
  case atStart => exact ⟨_, _, [], _, by first | rfl | go_num | (rw [WI2.out]; go_num) | (rw [WI2.out]; rfl), LP0.out⟩
  case round =>
    obtain ⟨j, g, acc, v, rfl, lp⟩ := hrel
    obtain ⟨i0, hi0, hz0, hz1, hz2⟩ := info_parts info9
    have LP := Lib.hid lp
    clear lp LP0
    obtain ⟨g, rfl⟩ : ∃ g', g = g' + 1 := ⟨g - 1, by have := LP.out.fuel; omega⟩
    have RC := Lib.hid (IHH.out j g wr LP.out.le (by have := LP.out.ge; have := HN.out; have := HI.out; omega) (by have := LP.out.fuel; omega))
    obtain ⟨q, hq⟩ : ∃ q, q = tmR g (s.data.toList.drop j) := ⟨_, rfl⟩
    rw [← hq] at RC
    have HQ := Lib.hid hq
    clear hq
    go_wp2_with fail
    (with_reducible refine RC.out.mono ?_)
    rintro e w3 ⟨o, hr⟩
    have O3 := Lib.hid o
    clear RC o
    cases q with
    | none =>
      subst hr
      have HF := Lib.hid (lp_none LP.out.eq HQ.out.symm)
      have HB2 := Lib.hid (BN.out.1.keep ((LP.out.only.trans O3.out).alloc (.cells #[.int .i64 0, .int .u64 0, .slice none 0 0, .slice none 0 0] 27)))
      obtain ⟨f0, f1, f2, f3⟩ := HB2.out.free
      obtain ⟨c0, c1, c2, c3⟩ := HB2.out.cells
      have BM := Lib.hid (HB2.out.put (.int .i64 0) (.int .u64 0) (.slice none 0 0) (.slice none 0 0))
      have ON := Lib.hid (only_set4 (BN.out.2.trans ((LP.out.only.trans O3.out).alloc (.cells #[.int .i64 0, .int .u64 0, .slice none 0 0, .slice none 0 0] 27))) (B := B) (by rw [HBB.out]; omega) (.int .i64 0) (.int .u64 0) (.slice none 0 0) (.slice none 0 0))
      go_wp2_with fail
      exact bodyPost_ret (res2 (p := 4) (u := 5) (ty := 27) Try.results104 _ _ B 27 _ (0, 0) _ rfl BM.out Try.underlying27 rfl (by kernel_rfl)) rfl (by rw [HF.out]; exact ⟨ON.out, rfl⟩)
    | some dd =>
      obtain ⟨d, rest⟩ := dd
      obtain ⟨vv, hv, rfl⟩ := hr
      obtain ⟨a, nn, c, a', nn', c', rfl, -, -⟩ := hv
      obtain ⟨e1, hlt, hle, ept⟩ := part_ok LP.out.le HQ.out.symm
      obtain ⟨jn, hjn⟩ : ∃ x, x = behind s rest := ⟨_, rfl⟩
      rw [← hjn] at e1 hlt hle ept ⊢
      have HJ := Lib.hid (And.intro hjn (And.intro hlt hle))
      have SVE := Lib.hid (sv_extract s j jn hle)
      have b1 : (0 : Int) ≤ (j : Int) := by omega
      have b2 : (j : Int) ≤ (jn : Int) := by omega
      have b3 : (jn : Int) ≤ (s.size : Int) := by omega
      have b4 : ((jn : Int) < 0) = False := eq_false (by omega)
      have O4 := Lib.hid (O3.out.alloc (.cells #[.int .i64 d.k, .int .u64 d.n, .slice a nn c, .slice a' nn' c'] 27))
      clear e1 hlt hle ept hjn
      have BX := Lib.hid (LP.out.box.keep O4.out)
      have OX := Lib.hid (owns_keep LP.out.own O4.out)
      obtain ⟨c0, c1, c2, c3⟩ := BX.out.cells
      go_wp2_with fail
      generalize w3.alloc (.cells #[.int .i64 d.k, .int .u64 d.n, .slice a nn c, .slice a' nn' c'] 27) = W4 at BX OX O4 c0 c1 c2 c3 ⊢
      have fz := BX.out.free.2.2.2
      have BX7 := Lib.hid (show Box4 W4.drew NB (.int .i64 8) (.int .u64 (nv : Nat)) (.slice none 0 0) v from BX.out)
      have OX7 := Lib.hid (owns_keep OX.out (Only.drew (Only.refl (fun _ => False) W4)))
      have O7 := Lib.hid (Only.drew (Only.refl (fun _ => False) W4))
      have hcnt : acc.length ≤ 100000001 := by have := LP.out.cnt; have := LP.out.le; have := HM.out; omega
      have hNBlt : NB < W4.heap.size := lt_of BX.out
      go_region_law (first
        | (refine step_append_lies _ (by rfl) _ _ _ (by rfl) (NB + 1) 9 i0 _ 1 16 Try.underlying25 hi0 hz0 hz1 hz2 rfl (by omega) v acc.length (acc.map sv) (by rfl) (OX7.out.alloc _) ⟨_, 0, none⟩ 1 1 [.string (s.extract j jn)] (by rfl) (by rfl) (World.news_of_block (cs := #[.string (s.extract j jn)]) (t := 9) (fr := (0, 0)) (heap_alloc_new _ _)) (by simp [Value.oneCell']) (by omega) (by unfold maxLen; omega) (by omega) (by simp; omega) _ rfl ?_; intro g' cap' w9 hown9 hgrow9 hat9 hlt9; obtain ⟨KO9, R9⟩ := after_app BX7.out OX7.out (LP.out.only.trans (O4.out.trans O7.out)) hgrow9 (by rw [HNB.out]; omega); have cO := KO9.cells.2.2.2; have fO := KO9.free.2.2.2; have KO9 := Lib.hid KO9; have R9 := Lib.hid R9; have OW9 := Lib.hid hown9; clear hown9 hgrow9 hat9 hlt9))
      all_goals
        obtain ⟨ps, hps⟩ : ∃ ps, ps = acc ++ [(s.data.toList.drop j).take (jn - j)] := ⟨_, rfl⟩
        have hlen : acc.length + 1 = ps.length := by rw [hps]; simp
        have hmap : acc.map sv ++ [.string (s.extract j jn)] = ps.map sv := by rw [hps, SVE.out]; simp
        have BY := Lib.hid (show Box4 (w9.setCell ⟨NB, 3, none⟩ (.slice (some ⟨g', 0, none⟩) ps.length cap')) NB (.int .i64 8) (.int .u64 (nv : Nat)) (.slice none 0 0) (.slice (some ⟨g', 0, none⟩) ps.length cap') from heap_set KO9.out)
        have OY := Lib.hid (show (w9.setCell ⟨NB, 3, none⟩ (.slice (some ⟨g', 0, none⟩) ps.length cap')).ownsRow (NB + 1) 9 1 (.slice (some ⟨g', 0, none⟩) ps.length cap') ps.length (ps.map sv) from by
          have q := OW9.out
          rw [hmap, hlen] at q
          exact owns_set q (Nat.lt_succ_self NB))
        have R := Lib.hid (only_setNew (b := NB) (o := 3) (v := .slice (some ⟨g', 0, none⟩) ps.length cap') R9.out (by rw [HNB.out]; omega))
        have PS := Lib.hid (And.intro hps hlen)
        rw [hlen]
        clear BX OX BX7 OX7 O7 KO9 R9 OW9 cO fO hmap hlen hps hcnt hNBlt O4 c0 c1 c2 c3 fz hi0 hz0 hz1 hz2
        generalize w9.setCell ⟨NB, 3, none⟩ (.slice (some ⟨g', 0, none⟩) ps.length cap') = W9 at BY OY R ⊢
        have AJ := Lib.hid (at_cb s jn W9 (by have := HM.out; omega) (by have := HM.out; omega))
        have wj : wrap64 ((jn : Int) + 1) = (jn : Int) + 1 := IntWalk.wrap64_in _ (by have := HM.out; omega)
        go_wp2_with fail
        (with_reducible refine AJ.out.mono ?_)
        rintro e w10 ⟨rfl, hw⟩
        obtain rfl := hw
        clear AJ
        have ST := Lib.hid (lp_step LP.out.le LP.out.eq HQ.out.symm HJ.out.1 PS.out.1)
        obtain ⟨c0, c1, c2, c3⟩ := BY.out.cells
        by_cases h41 : cb s jn = 41
        · have b41 : (((cb s jn).toNat : Int) == 41) = true := by rw [cb_int (c := 41) (n := 41) rfl]; simp [h41]
          have hjs := cb_lt (by decide) h41
          have HE3 := Lib.hid (ST.out.1 h41)
          clear h41
          cases hrr : right 8 ps.length
          · have RT := fun W => right_q 8 ps.length false W (by decide) (by decide) hrr
            have HF := Lib.hid (show tmR f (s.data.toList.drop i) = none from by rw [HE3.out, hrr]; simp)
            have RTH := Lib.hid RT
            clear RT hrr HE3
            go_wp2_with fail
            go_quiet ((go_at_call 161; exact Calls.quiet_of_same (RTH.out _)))
            have HB2 := Lib.hid (BN.out.1.keep (R.out.drewN nq))
            obtain ⟨f0, f1, f2, f3⟩ := HB2.out.free
            obtain ⟨d0, d1, d2, d3⟩ := HB2.out.cells
            have BM := Lib.hid (HB2.out.put (.int .i64 0) (.int .u64 0) (.slice none 0 0) (.slice none 0 0))
            have ON := Lib.hid (only_set4 (BN.out.2.trans (R.out.drewN nq)) (B := B) (by rw [HBB.out]; omega) (.int .i64 0) (.int .u64 0) (.slice none 0 0) (.slice none 0 0))
            go_wp2_with fail
            exact bodyPost_ret (res2 (p := 4) (u := 5) (ty := 27) Try.results104 _ _ B 27 _ (0, 0) _ rfl BM.out Try.underlying27 rfl (by kernel_rfl)) rfl (by rw [HF.out]; exact ⟨ON.out, rfl⟩)
          · have RT := fun W => right_q 8 ps.length true W (by decide) (by decide) hrr
            have HF := Lib.hid (show tmR f (s.data.toList.drop i) = some (⟨8, nv, [], ps⟩, s.data.toList.drop (jn + 1)) from by rw [HE3.out, hrr, show sorted 8 ps = true from by simp [sorted]]; rfl)
            have RTH := Lib.hid RT
            clear RT hrr HE3
            go_wp2_with fail
            go_quiet ((go_at_call 161; exact Calls.quiet_of_same (RTH.out _)))
            have HB2 := Lib.hid (BN.out.1.keep (R.out.drewN nq))
            have HY2 := Lib.hid (show Box4 (W9.drewN nq) NB (.int .i64 8) (.int .u64 (nv : Nat)) (.slice none 0 0) (.slice (some ⟨g', 0, none⟩) ps.length cap') from BY.out)
            obtain ⟨f0, f1, f2, f3⟩ := HB2.out.free
            obtain ⟨d0, d1, d2, d3⟩ := HB2.out.cells
            clear c0 c1 c2 c3
            obtain ⟨c0, c1, c2, c3⟩ := HY2.out.cells
            have BM := Lib.hid (HB2.out.put (.int .i64 8) (.int .u64 (nv : Nat)) (.slice none 0 0) (.slice (some ⟨g', 0, none⟩) ps.length cap'))
            have ON := Lib.hid (only_set4 (BN.out.2.trans (R.out.drewN nq)) (B := B) (by rw [HBB.out]; omega) (.int .i64 8) (.int .u64 (nv : Nat)) (.slice none 0 0) (.slice (some ⟨g', 0, none⟩) ps.length cap'))
            have SL := Lib.hid ((own_sl (show (W9.drewN nq).ownsRow (NB + 1) 9 1 (.slice (some ⟨g', 0, none⟩) ps.length cap') ps.length (ps.map sv) from OY.out)).mono (T := fun k => B < k) fun k hk => by have := HBL.out; omega)
            have BE := Lib.hid (show behind s (s.data.toList.drop (jn + 1)) = jn + 1 from by rw [behind, List.length_drop, tl_size]; omega)
            go_wp2_with fail
            exact bodyPost_ret (res2 (p := 4) (u := 5) (ty := 27) Try.results104 _ _ B 27 _ (0, 0) _ rfl BM.out Try.underlying27 rfl (by kernel_rfl)) rfl (by rw [HF.out]; exact ⟨ON.out, _, nd_set4 (fun k hk => by have := HBB.out; omega) _ _ _ _ _ _ rfl (sl_nil _ _) SL.out, by rw [BE.out]; first | rfl | (rw [wj]; rfl) | (simp [wj])⟩)
        have b41 : (((cb s jn).toNat : Int) == 41) = false := by rw [cb_int (c := 41) (n := 41) rfl]; simp [h41]
        by_cases h44 : cb s jn = 44
        · have b44 : (((cb s jn).toNat : Int) != 44) = false := by rw [bne, cb_int (c := 44) (n := 44) rfl]; simp [h44]
          have hjs := cb_lt (by decide) h44
          have HE3 := Lib.hid (ST.out.2.1 h44)
          clear h41 h44
          go_wp2_with fail
          have NXT := Lib.hid (show Lp s i f 8 nv NB W1 (jn + 1) g ps (.slice (some ⟨g', 0, none⟩) ps.length cap') W9 from
            ⟨hjs, by have := LP.out.ge; have := HJ.out.2.1; omega, HE3.out, by have := LP.out.fuel; have := HJ.out.2.1; omega, BY.out, OY.out, by have := LP.out.cnt; have := PS.out.2; have := HJ.out.2.1; omega, R.out⟩)
          have HWJ := Lib.hid wj
          have HMS := Lib.hid (show s.size - (jn + 1) < s.size - j from by have := HJ.out.2.1; omega)
          clear wj
          go_roundw
          case rel => exact ⟨jn + 1, g, ps, _, by first | (rw [HWJ.out]; go_num) | go_num, NXT.out⟩
          case measure =>
            first
              | (rw [HWJ.out]; simp [intOf]; have := HMS.out; omega)
              | (simp [intOf]; have := HMS.out; omega)
        · have b44 : (((cb s jn).toNat : Int) != 44) = true := by rw [bne, cb_int (c := 44) (n := 44) rfl]; simp [h44]
          have HF := Lib.hid (ST.out.2.2 h41 h44)
          clear h41 h44
          have HB2 := Lib.hid (BN.out.1.keep R.out)
          obtain ⟨f0, f1, f2, f3⟩ := HB2.out.free
          obtain ⟨d0, d1, d2, d3⟩ := HB2.out.cells
          have BM := Lib.hid (HB2.out.put (.int .i64 0) (.int .u64 0) (.slice none 0 0) (.slice none 0 0))
          have ON := Lib.hid (only_set4 (BN.out.2.trans R.out) (B := B) (by rw [HBB.out]; omega) (.int .i64 0) (.int .u64 0) (.slice none 0 0) (.slice none 0 0))
          go_wp2_with fail
          exact bodyPost_ret (res2 (p := 4) (u := 5) (ty := 27) Try.results104 _ _ B 27 _ (0, 0) _ rfl BM.out Try.underlying27 rfl (by kernel_rfl)) rfl (by rw [HF.out]; exact ⟨ON.out, rfl⟩)
end Go.Proofs.Ytbjnejnjlidiaaa.trE
namespace Go.Proofs.Ytbjnejnjlidiaaa.trE
open Go.RowKit kit numA numB numC numD numE numF numG tmA tmB trA trB trC trD
set_option linter.unusedVariables false
set_option linter.unusedSimpArgs false

set_option maxRecDepth 100000 in
set_option maxHeartbeats 1600000 in
theorem node_10 (s : ByteArray) (N : Nat) (ih : IH s N) (i f : Nat) (w : World) (hm : s.size ≤ 100000000) (h0 : i ≤ s.size) (hN : s.size - i ≤ N + 1) (hf : 2 * (s.size - i) ≤ f) (hk : kindOf (cb s i) = 10) : Calls Try.prog 104 #[.string s, .int .i64 i] w (Tmd w s (tmR f (s.data.toList.drop i))) := by
  have hi : i < s.size := cb_lt (c := letter 10) (by decide) (by rw [← hk]; exact (kind_letter _ (by rw [hk]; decide)).1)
  have hR : tmR f (s.data.toList.drop i) = (match s.data.toList.drop (i + 1) with
      | [] => none
      | o :: r1 => if o = 40 then (match headR 10 r1 with
          | none => none
          | some (n, r2) => if 10 = 11 ∧ r2.head? = some 41 then some (⟨11, n, [], []⟩, r2.tail) else lpR (f - 1) 10 n [] r2)
        else none) := by
    obtain ⟨f, rfl⟩ : ∃ g, f = g + 1 := ⟨f - 1, by omega⟩
    rw [cb_in s i hi, tmR_cons, hk, if_neg (by omega), if_neg (by omega), if_neg (by omega)]
    rfl
  have BN := Lib.hid (resbox s i w)
  have AT := Lib.hid (at_cb s i (w.alloc (.cells #[.int .i64 0, .int .u64 0, .slice none 0 0, .slice none 0 0] 27)) (by omega) (by omega))
  have KD := Lib.hid (kind_any (cb s i) (w.alloc (.cells #[.int .i64 0, .int .u64 0, .slice none 0 0, .slice none 0 0] 27)))
  rw [hk] at KD
  have A1 := Lib.hid (fun W => at_cb1 s i W (by omega) (by omega))
  have HR := Lib.hid hR
  have HM := Lib.hid hm
  have HI := Lib.hid hi
  have HN := Lib.hid hN
  have HFu := Lib.hid hf
  have IHH := Lib.hid ih

  have wi : wrap64 ((i : Int) + 1) = (i : Int) + 1 := IntWalk.wrap64_in _ (by omega)
  have wi2 : wrap64 ((i : Int) + 2) = (i : Int) + 2 := IntWalk.wrap64_in _ (by omega)
  clear hk h0 hf hm hi hR hN ih
  go_enter Try.func104, Try.ntmps104
  go_wp2_with fail
  (with_reducible refine AT.out.mono ?_)
  rintro e w1 ⟨rfl, hw⟩
  obtain rfl := hw
  go_wp2_with fail
  (with_reducible refine KD.out.mono ?_)
  rintro e w1 ⟨rfl, hw⟩
  obtain rfl := hw
  go_wp2_with fail
  have hs1 : (w.alloc (.cells #[.int .i64 0, .int .u64 0, .slice none 0 0, .slice none 0 0] 27)).heap.size = w.heap.size + 1 := World.size_alloc _ _
  generalize w.alloc (.cells #[.int .i64 0, .int .u64 0, .slice none 0 0, .slice none 0 0] 27) = W1 at BN hs1 ⊢
  obtain ⟨B, hB⟩ : ∃ B, B = w.heap.size := ⟨_, rfl⟩
  have HBB := Lib.hid hB
  rw [← hB] at BN hs1 ⊢
  clear hB AT KD
  have NX := Lib.hid (Box4.new W1 (.int .i64 10) (.int .u64 0) (.slice none 0 0) (.slice none 0 0))
  have O2 := Lib.hid ((Only.refl (fun _ => False) W1).alloc (.cells #[.int .i64 10, .int .u64 0, .slice none 0 0, .slice none 0 0] 27))
  generalize W1.alloc (.cells #[.int .i64 10, .int .u64 0, .slice none 0 0, .slice none 0 0] 27) = W2 at NX O2 ⊢
  obtain ⟨NB, hNB⟩ : ∃ x, x = B + 1 := ⟨_, rfl⟩
  have HNB := Lib.hid (show NB = W1.heap.size from hNB.trans hs1.symm)
  rw [hs1, ← hNB] at NX
  rw [← hNB]
  clear hNB hs1
  have HBL := Lib.hid (show B < NB from by rw [HNB.out]; exact lt_of BN.out.1)
  (with_reducible refine (A1.out _).mono ?_)
  rintro e w1 ⟨rfl, hw⟩
  obtain rfl := hw
  by_cases h40 : cb s (i + 1) = 40
  rotate_left
  · have b40 : (((cb s (i + 1)).toNat : Int) != 40) = true := by rw [bne, cb_int (c := 40) (n := 40) rfl]; simp [h40]
    have HF := Lib.hid (show tmR f (s.data.toList.drop i) = none from by
      rw [HR.out]
      rcases Nat.lt_or_ge (i + 1) s.size with q | q
      · rw [cb_in s (i + 1) q]
        simp [h40]
      · rw [(cb_out s (i + 1) q).2])
    have HB2 := Lib.hid (BN.out.1.keep O2.out)
    obtain ⟨f0, f1, f2, f3⟩ := HB2.out.free
    obtain ⟨c0, c1, c2, c3⟩ := HB2.out.cells
    have BM := Lib.hid (HB2.out.put (.int .i64 0) (.int .u64 0) (.slice none 0 0) (.slice none 0 0))
    have ON := Lib.hid (only_set4 (BN.out.2.trans O2.out) (B := B) (by rw [HBB.out]; omega) (.int .i64 0) (.int .u64 0) (.slice none 0 0) (.slice none 0 0))
    clear h40
    go_wp2_with fail
    exact bodyPost_ret (res2 (p := 4) (u := 5) (ty := 27) Try.results104 _ _ B 27 _ (0, 0) _ rfl BM.out Try.underlying27 rfl (by kernel_rfl)) rfl (by rw [HF.out]; exact ⟨ON.out, rfl⟩)
  have b40 : (((cb s (i + 1)).toNat : Int) != 40) = false := by rw [bne, cb_int (c := 40) (n := 40) rfl]; simp [h40]
  have H40 := Lib.hid (cb_lt (by decide) h40)
  have HR2 := Lib.hid (show tmR f (s.data.toList.drop i) = (match headR 10 (s.data.toList.drop (i + 2)) with
          | none => none
          | some (n, r2) => if 10 = 11 ∧ r2.head? = some 41 then some (⟨11, n, [], []⟩, r2.tail) else lpR (f - 1) 10 n [] r2) from by
    rw [HR.out, cb_in s (i + 1) (by have := H40.out; omega), h40]
    simp only [↓reduceIte])
  clear h40 HR
  have WA := Lib.hid (fun W => word2 s i W (by have := H40.out; omega) (by have := HM.out; omega))
  obtain ⟨nx, hnx⟩ : ∃ x, x = behind s (restOf (s.data.toList.drop (i + 2))) := ⟨_, rfl⟩
  obtain ⟨re1, re2, re3⟩ := rest_drop s (i + 2) (by have := H40.out; omega)
  rw [← hnx] at re1 re2 re3
  have HX := Lib.hid (And.intro re1 (And.intro re2 (And.intro re3 hnx)))
  have AX := Lib.hid (fun W => at_cb s nx W (by have := HM.out; omega) (by have := HM.out; omega))
  have wx : wrap64 ((nx : Int) + 1) = (nx : Int) + 1 := IntWalk.wrap64_in _ (by have := HM.out; omega)
  clear re1 re2 re3
  go_wp2_with fail
  (with_reducible refine (WA.out _).mono ?_)
  rintro e w1 ⟨t, rfl, ht, hts, hw⟩
  obtain rfl : W2 = w1 := hw
  rw [← hnx]
  have RD := Lib.hid (read_ref t W2 (by have := HM.out; omega))
  have HT := Lib.hid ht
  clear ht hts WA hnx
  go_wp2_with fail
  (with_reducible refine RD.out.mono ?_)
  rintro e w2 ⟨he, o⟩
  have O3 := Lib.hid (O2.out.trans o)
  have NX3 := Lib.hid (NX.out.keep o)
  have HB3 := Lib.hid (BN.out.1.keep O3.out)
  have hc := rd_cases t.data.toList
  rw [HT.out] at hc he
  clear o RD
  have HHC := Lib.hid (head_cases 10 (s.data.toList.drop (i + 2)) rfl)
  rcases hc with ⟨h1, h2, h3⟩ | ⟨h1, c, hc, h3⟩
  rotate_left
  · rw [h3] at he
    subst he
    have hc2 : (c != 0) = true := by rw [bne, hc]; rfl
    have HF := Lib.hid (hd_none HR2.out (by rw [HHC.out, if_neg (fun q => h1 q.1)]))
    clear h1 h3
    obtain ⟨f0, f1, f2, f3⟩ := HB3.out.free
    obtain ⟨d0, d1, d2, d3⟩ := HB3.out.cells
    have BM := Lib.hid (HB3.out.put (.int .i64 0) (.int .u64 0) (.slice none 0 0) (.slice none 0 0))
    have ON := Lib.hid (only_set4 (BN.out.2.trans O3.out) (B := B) (by rw [HBB.out]; omega) (.int .i64 0) (.int .u64 0) (.slice none 0 0) (.slice none 0 0))
    go_wp2_with fail
    exact bodyPost_ret (res2 (p := 4) (u := 5) (ty := 27) Try.results104 _ _ B 27 _ (0, 0) _ rfl BM.out Try.underlying27 rfl (by kernel_rfl)) rfl (by rw [HF.out]; exact ⟨ON.out, rfl⟩)
  rw [h3] at he
  subst he
  obtain ⟨nv, hv⟩ : ∃ v, v = val (wordOf (s.data.toList.drop (i + 2))) := ⟨_, rfl⟩
  rw [← hv] at h2 h3 ⊢
  have HV := Lib.hid (And.intro h1 (And.intro h2 hv))
  clear h1 h2 h3 hv

  by_cases h44 : cb s nx = 44
  rotate_left
  · have b44 : (((cb s nx).toNat : Int) != 44) = true := by rw [bne, cb_int (c := 44) (n := 44) rfl]; simp [h44]
    have HF := Lib.hid (hd_none HR2.out (by
      rw [HHC.out, if_neg]
      intro q
      have q3 := q.2.2
      rw [HX.out.1] at q3
      exact h44 ((drop_head s nx 44 (by decide)).1 q3)))
    clear h44
    go_wp2_with fail
    (with_reducible refine (AX.out _).mono ?_)
    rintro e w3 ⟨rfl, hw⟩
    obtain rfl : w2 = w3 := hw
    obtain ⟨f0, f1, f2, f3⟩ := HB3.out.free
    obtain ⟨d0, d1, d2, d3⟩ := HB3.out.cells
    have BM := Lib.hid (HB3.out.put (.int .i64 0) (.int .u64 0) (.slice none 0 0) (.slice none 0 0))
    have ON := Lib.hid (only_set4 (BN.out.2.trans O3.out) (B := B) (by rw [HBB.out]; omega) (.int .i64 0) (.int .u64 0) (.slice none 0 0) (.slice none 0 0))
    go_wp2_with fail
    exact bodyPost_ret (res2 (p := 4) (u := 5) (ty := 27) Try.results104 _ _ B 27 _ (0, 0) _ rfl BM.out Try.underlying27 rfl (by kernel_rfl)) rfl (by rw [HF.out]; exact ⟨ON.out, rfl⟩)
  have b44 : (((cb s nx).toNat : Int) != 44) = false := by rw [bne, cb_int (c := 44) (n := 44) rfl]; simp [h44]
  have hxs := cb_lt (by decide) h44
  have HF := Lib.hid (hd_some (n := nv) (r2 := s.data.toList.drop (nx + 1)) HR2.out (by
      rw [HHC.out, if_pos ⟨⟨HV.out.1, by rw [← HV.out.2.2]; exact HV.out.2.1⟩, (fun q => absurd q (by decide)), by rw [HX.out.1]; exact (drop_head s nx 44 (by decide)).2 h44⟩, HX.out.1, cb_in s nx hxs, ← HV.out.2.2]
      rfl) (by decide))
  have HXS := Lib.hid hxs
  clear h44 hxs
  go_wp2_with fail
  (with_reducible refine (AX.out _).mono ?_)
  rintro e w3 ⟨rfl, hw⟩
  obtain rfl : w2 = w3 := hw
  obtain ⟨c0, c1, c2, c3⟩ := NX3.out.cells
  obtain ⟨f0, f1, f2, f3⟩ := NX3.out.free
  have NX4 := Lib.hid (show Box4 (w2.setCell ⟨NB, 1, none⟩ (.int .u64 nv)) NB (.int .i64 10) (.int .u64 nv) (.slice none 0 0) (.slice none 0 0) from heap_set NX3.out)
  have O4 := Lib.hid (only_setNew (b := NB) (o := 1) (v := .int .u64 nv) O3.out (by rw [HNB.out]; omega))
  have LP0 := Lib.hid (Lp.nil (f := f) (g := f - 1) (n := nv) (j := nx + 1) (i := i) (by have := HXS.out; omega) (by have := HX.out.2.1; omega) HF.out (by have := HFu.out; have := HX.out.2.1; have := HXS.out; omega) NX4.out O4.out)
  have WI2 := Lib.hid wx
  go_wp2_with fail
  clear c0 c1 c2 c3 f0 f1 f2 f3 wx
  clear wi wi2
  go_loopw [1] (fun ii wr => ∃ (j g : Nat) (acc : List Txt) (v : Value), ii = .int .i64 j ∧ Lp s i f 10 nv NB W1 j g acc v wr) (fun ii _ => s.size - (intOf ii).toNat)
  case atStart => exact ⟨_, _, [], _, by first | rfl | go_num | (rw [WI2.out]; go_num) | (rw [WI2.out]; rfl), LP0.out⟩
  case round =>
    obtain ⟨j, g, acc, v, rfl, lp⟩ := hrel
    obtain ⟨i0, hi0, hz0, hz1, hz2⟩ := info_parts info9
    have LP := Lib.hid lp
    clear lp LP0
    obtain ⟨g, rfl⟩ : ∃ g', g = g' + 1 := ⟨g - 1, by have := LP.out.fuel; omega⟩
    have RC := Lib.hid (IHH.out j g wr LP.out.le (by have := LP.out.ge; have := HN.out; have := HI.out; omega) (by have := LP.out.fuel; omega))
    obtain ⟨q, hq⟩ : ∃ q, q = tmR g (s.data.toList.drop j) := ⟨_, rfl⟩
    rw [← hq] at RC
    have HQ := Lib.hid hq
    clear hq
    go_wp2_with fail
    (with_reducible refine RC.out.mono ?_)
    rintro e w3 ⟨o, hr⟩
    have O3 := Lib.hid o
    clear RC o
    cases q with
    | none =>
      subst hr
      have HF := Lib.hid (lp_none LP.out.eq HQ.out.symm)
      have HB2 := Lib.hid (BN.out.1.keep ((LP.out.only.trans O3.out).alloc (.cells #[.int .i64 0, .int .u64 0, .slice none 0 0, .slice none 0 0] 27)))
      obtain ⟨f0, f1, f2, f3⟩ := HB2.out.free
      obtain ⟨c0, c1, c2, c3⟩ := HB2.out.cells
      have BM := Lib.hid (HB2.out.put (.int .i64 0) (.int .u64 0) (.slice none 0 0) (.slice none 0 0))
      have ON := Lib.hid (only_set4 (BN.out.2.trans ((LP.out.only.trans O3.out).alloc (.cells #[.int .i64 0, .int .u64 0, .slice none 0 0, .slice none 0 0] 27))) (B := B) (by rw [HBB.out]; omega) (.int .i64 0) (.int .u64 0) (.slice none 0 0) (.slice none 0 0))
      go_wp2_with fail
      exact bodyPost_ret (res2 (p := 4) (u := 5) (ty := 27) Try.results104 _ _ B 27 _ (0, 0) _ rfl BM.out Try.underlying27 rfl (by kernel_rfl)) rfl (by rw [HF.out]; exact ⟨ON.out, rfl⟩)
    | some dd =>
      obtain ⟨d, rest⟩ := dd
      obtain ⟨vv, hv, rfl⟩ := hr
      obtain ⟨a, nn, c, a', nn', c', rfl, -, -⟩ := hv
      obtain ⟨e1, hlt, hle, ept⟩ := part_ok LP.out.le HQ.out.symm
      obtain ⟨jn, hjn⟩ : ∃ x, x = behind s rest := ⟨_, rfl⟩
      rw [← hjn] at e1 hlt hle ept ⊢
      have HJ := Lib.hid (And.intro hjn (And.intro hlt hle))
      have SVE := Lib.hid (sv_extract s j jn hle)
      have b1 : (0 : Int) ≤ (j : Int) := by omega
      have b2 : (j : Int) ≤ (jn : Int) := by omega
      have b3 : (jn : Int) ≤ (s.size : Int) := by omega
      have b4 : ((jn : Int) < 0) = False := eq_false (by omega)
      have O4 := Lib.hid (O3.out.alloc (.cells #[.int .i64 d.k, .int .u64 d.n, .slice a nn c, .slice a' nn' c'] 27))
      clear e1 hlt hle ept hjn
      have BX := Lib.hid (LP.out.box.keep O4.out)
      have OX := Lib.hid (owns_keep LP.out.own O4.out)
      obtain ⟨c0, c1, c2, c3⟩ := BX.out.cells
      go_wp2_with fail
      generalize w3.alloc (.cells #[.int .i64 d.k, .int .u64 d.n, .slice a nn c, .slice a' nn' c'] 27) = W4 at BX OX O4 c0 c1 c2 c3 ⊢
      have fz := BX.out.free.2.2.2
      have BX7 := Lib.hid (show Box4 W4.drew NB (.int .i64 10) (.int .u64 (nv : Nat)) (.slice none 0 0) v from BX.out)
      have OX7 := Lib.hid (owns_keep OX.out (Only.drew (Only.refl (fun _ => False) W4)))
      have O7 := Lib.hid (Only.drew (Only.refl (fun _ => False) W4))
      have hcnt : acc.length ≤ 100000001 := by have := LP.out.cnt; have := LP.out.le; have := HM.out; omega
      have hNBlt : NB < W4.heap.size := lt_of BX.out
      go_region_law (first
        | (refine step_append_lies _ (by rfl) _ _ _ (by rfl) (NB + 1) 9 i0 _ 1 16 Try.underlying25 hi0 hz0 hz1 hz2 rfl (by omega) v acc.length (acc.map sv) (by rfl) (OX7.out.alloc _) ⟨_, 0, none⟩ 1 1 [.string (s.extract j jn)] (by rfl) (by rfl) (World.news_of_block (cs := #[.string (s.extract j jn)]) (t := 9) (fr := (0, 0)) (heap_alloc_new _ _)) (by simp [Value.oneCell']) (by omega) (by unfold maxLen; omega) (by omega) (by simp; omega) _ rfl ?_; intro g' cap' w9 hown9 hgrow9 hat9 hlt9; obtain ⟨KO9, R9⟩ := after_app BX7.out OX7.out (LP.out.only.trans (O4.out.trans O7.out)) hgrow9 (by rw [HNB.out]; omega); have cO := KO9.cells.2.2.2; have fO := KO9.free.2.2.2; have KO9 := Lib.hid KO9; have R9 := Lib.hid R9; have OW9 := Lib.hid hown9; clear hown9 hgrow9 hat9 hlt9))
      all_goals
        obtain ⟨ps, hps⟩ : ∃ ps, ps = acc ++ [(s.data.toList.drop j).take (jn - j)] := ⟨_, rfl⟩
        have hlen : acc.length + 1 = ps.length := by rw [hps]; simp
        have hmap : acc.map sv ++ [.string (s.extract j jn)] = ps.map sv := by rw [hps, SVE.out]; simp
        have BY := Lib.hid (show Box4 (w9.setCell ⟨NB, 3, none⟩ (.slice (some ⟨g', 0, none⟩) ps.length cap')) NB (.int .i64 10) (.int .u64 (nv : Nat)) (.slice none 0 0) (.slice (some ⟨g', 0, none⟩) ps.length cap') from heap_set KO9.out)
        have OY := Lib.hid (show (w9.setCell ⟨NB, 3, none⟩ (.slice (some ⟨g', 0, none⟩) ps.length cap')).ownsRow (NB + 1) 9 1 (.slice (some ⟨g', 0, none⟩) ps.length cap') ps.length (ps.map sv) from by
          have q := OW9.out
          rw [hmap, hlen] at q
          exact owns_set q (Nat.lt_succ_self NB))
        have R := Lib.hid (only_setNew (b := NB) (o := 3) (v := .slice (some ⟨g', 0, none⟩) ps.length cap') R9.out (by rw [HNB.out]; omega))
        have PS := Lib.hid (And.intro hps hlen)
        rw [hlen]
        clear BX OX BX7 OX7 O7 KO9 R9 OW9 cO fO hmap hlen hps hcnt hNBlt O4 c0 c1 c2 c3 fz hi0 hz0 hz1 hz2
        generalize w9.setCell ⟨NB, 3, none⟩ (.slice (some ⟨g', 0, none⟩) ps.length cap') = W9 at BY OY R ⊢
        have AJ := Lib.hid (at_cb s jn W9 (by have := HM.out; omega) (by have := HM.out; omega))
        have wj : wrap64 ((jn : Int) + 1) = (jn : Int) + 1 := IntWalk.wrap64_in _ (by have := HM.out; omega)
        go_wp2_with fail
        (with_reducible refine AJ.out.mono ?_)
        rintro e w10 ⟨rfl, hw⟩
        obtain rfl := hw
        clear AJ
        have ST := Lib.hid (lp_step LP.out.le LP.out.eq HQ.out.symm HJ.out.1 PS.out.1)
        obtain ⟨c0, c1, c2, c3⟩ := BY.out.cells
        by_cases h41 : cb s jn = 41
        · have b41 : (((cb s jn).toNat : Int) == 41) = true := by rw [cb_int (c := 41) (n := 41) rfl]; simp [h41]
          have hjs := cb_lt (by decide) h41
          have HE3 := Lib.hid (ST.out.1 h41)
          clear h41
          cases hrr : right 10 ps.length
          · have RT := fun W => right_q 10 ps.length false W (by decide) (by decide) hrr
            have HF := Lib.hid (show tmR f (s.data.toList.drop i) = none from by rw [HE3.out, hrr]; simp)
            have RTH := Lib.hid RT
            clear RT hrr HE3
            go_wp2_with fail
            go_quiet ((go_at_call 161; exact Calls.quiet_of_same (RTH.out _)))
            have HB2 := Lib.hid (BN.out.1.keep (R.out.drewN nq))
            obtain ⟨f0, f1, f2, f3⟩ := HB2.out.free
            obtain ⟨d0, d1, d2, d3⟩ := HB2.out.cells
            have BM := Lib.hid (HB2.out.put (.int .i64 0) (.int .u64 0) (.slice none 0 0) (.slice none 0 0))
            have ON := Lib.hid (only_set4 (BN.out.2.trans (R.out.drewN nq)) (B := B) (by rw [HBB.out]; omega) (.int .i64 0) (.int .u64 0) (.slice none 0 0) (.slice none 0 0))
            go_wp2_with fail
            exact bodyPost_ret (res2 (p := 4) (u := 5) (ty := 27) Try.results104 _ _ B 27 _ (0, 0) _ rfl BM.out Try.underlying27 rfl (by kernel_rfl)) rfl (by rw [HF.out]; exact ⟨ON.out, rfl⟩)
          · have RT := fun W => right_q 10 ps.length true W (by decide) (by decide) hrr
            have HF := Lib.hid (show tmR f (s.data.toList.drop i) = some (⟨10, nv, [], ps⟩, s.data.toList.drop (jn + 1)) from by rw [HE3.out, hrr, show sorted 10 ps = true from by simp [sorted]]; rfl)
            have RTH := Lib.hid RT
            clear RT hrr HE3
            go_wp2_with fail
            go_quiet ((go_at_call 161; exact Calls.quiet_of_same (RTH.out _)))
            have HB2 := Lib.hid (BN.out.1.keep (R.out.drewN nq))
            have HY2 := Lib.hid (show Box4 (W9.drewN nq) NB (.int .i64 10) (.int .u64 (nv : Nat)) (.slice none 0 0) (.slice (some ⟨g', 0, none⟩) ps.length cap') from BY.out)
            obtain ⟨f0, f1, f2, f3⟩ := HB2.out.free
            obtain ⟨d0, d1, d2, d3⟩ := HB2.out.cells
            clear c0 c1 c2 c3
            obtain ⟨c0, c1, c2, c3⟩ := HY2.out.cells
            have BM := Lib.hid (HB2.out.put (.int .i64 10) (.int .u64 (nv : Nat)) (.slice none 0 0) (.slice (some ⟨g', 0, none⟩) ps.length cap'))
            have ON := Lib.hid (only_set4 (BN.out.2.trans (R.out.drewN nq)) (B := B) (by rw [HBB.out]; omega) (.int .i64 10) (.int .u64 (nv : Nat)) (.slice none 0 0) (.slice (some ⟨g', 0, none⟩) ps.length cap'))
            have SL := Lib.hid ((own_sl (show (W9.drewN nq).ownsRow (NB + 1) 9 1 (.slice (some ⟨g', 0, none⟩) ps.length cap') ps.length (ps.map sv) from OY.out)).mono (T := fun k => B < k) fun k hk => by have := HBL.out; omega)
            have BE := Lib.hid (show behind s (s.data.toList.drop (jn + 1)) = jn + 1 from by rw [behind, List.length_drop, tl_size]; omega)
            go_wp2_with fail
            exact bodyPost_ret (res2 (p := 4) (u := 5) (ty := 27) Try.results104 _ _ B 27 _ (0, 0) _ rfl BM.out Try.underlying27 rfl (by kernel_rfl)) rfl (by rw [HF.out]; exact ⟨ON.out, _, nd_set4 (fun k hk => by have := HBB.out; omega) _ _ _ _ _ _ rfl (sl_nil _ _) SL.out, by rw [BE.out]; first | rfl | (rw [wj]; rfl) | (simp [wj])⟩)
        have b41 : (((cb s jn).toNat : Int) == 41) = false := by rw [cb_int (c := 41) (n := 41) rfl]; simp [h41]
        by_cases h44 : cb s jn = 44
        · have b44 : (((cb s jn).toNat : Int) != 44) = false := by rw [bne, cb_int (c := 44) (n := 44) rfl]; simp [h44]
          have hjs := cb_lt (by decide) h44
          have HE3 := Lib.hid (ST.out.2.1 h44)
          clear h41 h44
          go_wp2_with fail
          have NXT := Lib.hid (show Lp s i f 10 nv NB W1 (jn + 1) g ps (.slice (some ⟨g', 0, none⟩) ps.length cap') W9 from
            ⟨hjs, by have := LP.out.ge; have := HJ.out.2.1; omega, HE3.out, by have := LP.out.fuel; have := HJ.out.2.1; omega, BY.out, OY.out, by have := LP.out.cnt; have := PS.out.2; have := HJ.out.2.1; omega, R.out⟩)
          have HWJ := Lib.hid wj
          have HMS := Lib.hid (show s.size - (jn + 1) < s.size - j from by have := HJ.out.2.1; omega)
          clear wj
          go_roundw
          case rel => exact ⟨jn + 1, g, ps, _, by first | (rw [HWJ.out]; go_num) | go_num, NXT.out⟩
          case measure =>
            first
              | (rw [HWJ.out]; simp [intOf]; have := HMS.out; omega)
              | (simp [intOf]; have := HMS.out; omega)
        · have b44 : (((cb s jn).toNat : Int) != 44) = true := by rw [bne, cb_int (c := 44) (n := 44) rfl]; simp [h44]
          have HF := Lib.hid (ST.out.2.2 h41 h44)
          clear h41 h44
          have HB2 := Lib.hid (BN.out.1.keep R.out)
          obtain ⟨f0, f1, f2, f3⟩ := HB2.out.free
          obtain ⟨d0, d1, d2, d3⟩ := HB2.out.cells
          have BM := Lib.hid (HB2.out.put (.int .i64 0) (.int .u64 0) (.slice none 0 0) (.slice none 0 0))
          have ON := Lib.hid (only_set4 (BN.out.2.trans R.out) (B := B) (by rw [HBB.out]; omega) (.int .i64 0) (.int .u64 0) (.slice none 0 0) (.slice none 0 0))
          go_wp2_with fail
          exact bodyPost_ret (res2 (p := 4) (u := 5) (ty := 27) Try.results104 _ _ B 27 _ (0, 0) _ rfl BM.out Try.underlying27 rfl (by kernel_rfl)) rfl (by rw [HF.out]; exact ⟨ON.out, rfl⟩)
end Go.Proofs.Ytbjnejnjlidiaaa.trE
namespace Go.Proofs.Ytbjnejnjlidiaaa.trE
open Go.RowKit kit numA numB numC numD numE numF numG tmA tmB trA trB trC trD
set_option linter.unusedVariables false
set_option linter.unusedSimpArgs false

set_option maxRecDepth 100000 in
set_option maxHeartbeats 1600000 in
theorem node_11 (s : ByteArray) (N : Nat) (ih : IH s N) (i f : Nat) (w : World) (hm : s.size ≤ 100000000) (h0 : i ≤ s.size) (hN : s.size - i ≤ N + 1) (hf : 2 * (s.size - i) ≤ f) (hk : kindOf (cb s i) = 11) : Calls Try.prog 104 #[.string s, .int .i64 i] w (Tmd w s (tmR f (s.data.toList.drop i))) := by
  have hi : i < s.size := cb_lt (c := letter 11) (by decide) (by rw [← hk]; exact (kind_letter _ (by rw [hk]; decide)).1)
  have hR : tmR f (s.data.toList.drop i) = (match s.data.toList.drop (i + 1) with
      | [] => none
      | o :: r1 => if o = 40 then (match headR 11 r1 with
          | none => none
          | some (n, r2) => if 11 = 11 ∧ r2.head? = some 41 then some (⟨11, n, [], []⟩, r2.tail) else lpR (f - 1) 11 n [] r2)
        else none) := by
    obtain ⟨f, rfl⟩ : ∃ g, f = g + 1 := ⟨f - 1, by omega⟩
    rw [cb_in s i hi, tmR_cons, hk, if_neg (by omega), if_neg (by omega), if_neg (by omega)]
    rfl
  have BN := Lib.hid (resbox s i w)
  have AT := Lib.hid (at_cb s i (w.alloc (.cells #[.int .i64 0, .int .u64 0, .slice none 0 0, .slice none 0 0] 27)) (by omega) (by omega))
  have KD := Lib.hid (kind_any (cb s i) (w.alloc (.cells #[.int .i64 0, .int .u64 0, .slice none 0 0, .slice none 0 0] 27)))
  rw [hk] at KD
  have A1 := Lib.hid (fun W => at_cb1 s i W (by omega) (by omega))
  have HR := Lib.hid hR
  have HM := Lib.hid hm
  have HI := Lib.hid hi
  have HN := Lib.hid hN
  have HFu := Lib.hid hf
  have IHH := Lib.hid ih

  have wi : wrap64 ((i : Int) + 1) = (i : Int) + 1 := IntWalk.wrap64_in _ (by omega)
  have wi2 : wrap64 ((i : Int) + 2) = (i : Int) + 2 := IntWalk.wrap64_in _ (by omega)
  clear hk h0 hf hm hi hR hN ih
  go_enter Try.func104, Try.ntmps104
  go_wp2_with fail
  (with_reducible refine AT.out.mono ?_)
  rintro e w1 ⟨rfl, hw⟩
  obtain rfl := hw
  go_wp2_with fail
  (with_reducible refine KD.out.mono ?_)
  rintro e w1 ⟨rfl, hw⟩
  obtain rfl := hw
  go_wp2_with fail
  have hs1 : (w.alloc (.cells #[.int .i64 0, .int .u64 0, .slice none 0 0, .slice none 0 0] 27)).heap.size = w.heap.size + 1 := World.size_alloc _ _
  generalize w.alloc (.cells #[.int .i64 0, .int .u64 0, .slice none 0 0, .slice none 0 0] 27) = W1 at BN hs1 ⊢
  obtain ⟨B, hB⟩ : ∃ B, B = w.heap.size := ⟨_, rfl⟩
  have HBB := Lib.hid hB
  rw [← hB] at BN hs1 ⊢
  clear hB AT KD
  have NX := Lib.hid (Box4.new W1 (.int .i64 11) (.int .u64 0) (.slice none 0 0) (.slice none 0 0))
  have O2 := Lib.hid ((Only.refl (fun _ => False) W1).alloc (.cells #[.int .i64 11, .int .u64 0, .slice none 0 0, .slice none 0 0] 27))
  generalize W1.alloc (.cells #[.int .i64 11, .int .u64 0, .slice none 0 0, .slice none 0 0] 27) = W2 at NX O2 ⊢
  obtain ⟨NB, hNB⟩ : ∃ x, x = B + 1 := ⟨_, rfl⟩
  have HNB := Lib.hid (show NB = W1.heap.size from hNB.trans hs1.symm)
  rw [hs1, ← hNB] at NX
  rw [← hNB]
  clear hNB hs1
  have HBL := Lib.hid (show B < NB from by rw [HNB.out]; exact lt_of BN.out.1)
  (with_reducible refine (A1.out _).mono ?_)
  rintro e w1 ⟨rfl, hw⟩
  obtain rfl := hw
  by_cases h40 : cb s (i + 1) = 40
  rotate_left
  · have b40 : (((cb s (i + 1)).toNat : Int) != 40) = true := by rw [bne, cb_int (c := 40) (n := 40) rfl]; simp [h40]
    have HF := Lib.hid (show tmR f (s.data.toList.drop i) = none from by
      rw [HR.out]
      rcases Nat.lt_or_ge (i + 1) s.size with q | q
      · rw [cb_in s (i + 1) q]
        simp [h40]
      · rw [(cb_out s (i + 1) q).2])
    have HB2 := Lib.hid (BN.out.1.keep O2.out)
    obtain ⟨f0, f1, f2, f3⟩ := HB2.out.free
    obtain ⟨c0, c1, c2, c3⟩ := HB2.out.cells
    have BM := Lib.hid (HB2.out.put (.int .i64 0) (.int .u64 0) (.slice none 0 0) (.slice none 0 0))
    have ON := Lib.hid (only_set4 (BN.out.2.trans O2.out) (B := B) (by rw [HBB.out]; omega) (.int .i64 0) (.int .u64 0) (.slice none 0 0) (.slice none 0 0))
    clear h40
    go_wp2_with fail
    exact bodyPost_ret (res2 (p := 4) (u := 5) (ty := 27) Try.results104 _ _ B 27 _ (0, 0) _ rfl BM.out Try.underlying27 rfl (by kernel_rfl)) rfl (by rw [HF.out]; exact ⟨ON.out, rfl⟩)
  have b40 : (((cb s (i + 1)).toNat : Int) != 40) = false := by rw [bne, cb_int (c := 40) (n := 40) rfl]; simp [h40]
  have H40 := Lib.hid (cb_lt (by decide) h40)
  have HR2 := Lib.hid (show tmR f (s.data.toList.drop i) = (match headR 11 (s.data.toList.drop (i + 2)) with
          | none => none
          | some (n, r2) => if 11 = 11 ∧ r2.head? = some 41 then some (⟨11, n, [], []⟩, r2.tail) else lpR (f - 1) 11 n [] r2) from by
    rw [HR.out, cb_in s (i + 1) (by have := H40.out; omega), h40]
    simp only [↓reduceIte])
  clear h40 HR
  have HH : headR 11 (s.data.toList.drop (i + 2)) = some (0, s.data.toList.drop (i + 2)) := by
    rw [headR, if_neg]
    decide
  have A2 := Lib.hid (fun W => at_cb2 s i W (by have := HM.out; omega) (by have := HI.out; have := HM.out; omega))
  go_wp2_with fail
  (with_reducible refine (A2.out _).mono ?_)
  rintro e w1 ⟨rfl, hw⟩
  obtain rfl : W2 = w1 := hw
  by_cases h41 : cb s (i + 2) = 41
  · have b41 : (((cb s (i + 2)).toNat : Int) == 41) = true := by rw [cb_int (c := 41) (n := 41) rfl]; simp [h41]
    have hjs := cb_lt (by decide) h41
    have HF := Lib.hid (show tmR f (s.data.toList.drop i) = some (⟨11, 0, [], []⟩, s.data.toList.drop (i + 3)) from by
      rw [HR2.out, HH]
      simp only
      rw [if_pos ⟨trivial, (drop_head s (i + 2) 41 (by decide)).2 h41⟩, cb_in s (i + 2) hjs]
      rfl)
    have HB3 := Lib.hid (BN.out.1.keep O2.out)
    obtain ⟨f0, f1, f2, f3⟩ := HB3.out.free
    obtain ⟨d0, d1, d2, d3⟩ := HB3.out.cells
    obtain ⟨c0, c1, c2, c3⟩ := NX.out.cells
    have BM := Lib.hid (HB3.out.put (.int .i64 11) (.int .u64 0) (.slice none 0 0) (.slice none 0 0))
    have ON := Lib.hid (only_set4 (BN.out.2.trans O2.out) (B := B) (by rw [HBB.out]; omega) (.int .i64 11) (.int .u64 0) (.slice none 0 0) (.slice none 0 0))
    have BE := Lib.hid (show behind s (s.data.toList.drop (i + 3)) = i + 3 from by rw [behind, List.length_drop, tl_size]; omega)
    have wi3 : wrap64 ((i : Int) + 2 + 1) = (i : Int) + 3 := (IntWalk.wrap64_in _ (by have := HM.out; omega)).trans (by omega)
    clear h41
    go_wp2_with fail
    exact bodyPost_ret (res2 (p := 4) (u := 5) (ty := 27) Try.results104 _ _ B 27 _ (0, 0) _ rfl BM.out Try.underlying27 rfl (by kernel_rfl)) rfl (by rw [HF.out]; exact ⟨ON.out, _, ⟨none, 0, 0, none, 0, 0, rfl, sl_nil _ _, sl_nil _ _⟩, by rw [BE.out]; first | rfl | (rw [wi3]; rfl) | (simp [wi2, wi3])⟩)
  have b41 : (((cb s (i + 2)).toNat : Int) == 41) = false := by rw [cb_int (c := 41) (n := 41) rfl]; simp [h41]
  have HF := Lib.hid (show tmR f (s.data.toList.drop i) = lpR (f - 1) 11 0 [] (s.data.toList.drop (i + 2)) from by
    rw [HR2.out, HH]
    simp only
    rw [if_neg (fun q => h41 ((drop_head s (i + 2) 41 (by decide)).1 q.2))])
  clear h41 HH HR2
  have LP0 := Lib.hid (Lp.nil (f := f) (g := f - 1) (n := 0) (j := i + 2) (i := i) (by have := H40.out; omega) (Nat.le_refl _) HF.out (by have := HFu.out; have := H40.out; omega) NX.out O2.out)
  go_wp2_with fail
  have WI2 := Lib.hid wi2
  clear wi wi2
  go_loopw [1] (fun ii wr => ∃ (j g : Nat) (acc : List Txt) (v : Value), ii = .int .i64 j ∧ Lp s i f 11 0 NB W1 j g acc v wr) (fun ii _ => s.size - (intOf ii).toNat)
  case atStart => exact ⟨_, _, [], _, by first | rfl | go_num | (rw [WI2.out]; go_num) | (rw [WI2.out]; rfl), LP0.out⟩
  case round =>
    obtain ⟨j, g, acc, v, rfl, lp⟩ := hrel
    obtain ⟨i0, hi0, hz0, hz1, hz2⟩ := info_parts info9
    have LP := Lib.hid lp
    clear lp LP0
    obtain ⟨g, rfl⟩ : ∃ g', g = g' + 1 := ⟨g - 1, by have := LP.out.fuel; omega⟩
    have RC := Lib.hid (IHH.out j g wr LP.out.le (by have := LP.out.ge; have := HN.out; have := HI.out; omega) (by have := LP.out.fuel; omega))
    obtain ⟨q, hq⟩ : ∃ q, q = tmR g (s.data.toList.drop j) := ⟨_, rfl⟩
    rw [← hq] at RC
    have HQ := Lib.hid hq
    clear hq
    go_wp2_with fail
    (with_reducible refine RC.out.mono ?_)
    rintro e w3 ⟨o, hr⟩
    have O3 := Lib.hid o
    clear RC o
    cases q with
    | none =>
      subst hr
      have HF := Lib.hid (lp_none LP.out.eq HQ.out.symm)
      have HB2 := Lib.hid (BN.out.1.keep ((LP.out.only.trans O3.out).alloc (.cells #[.int .i64 0, .int .u64 0, .slice none 0 0, .slice none 0 0] 27)))
      obtain ⟨f0, f1, f2, f3⟩ := HB2.out.free
      obtain ⟨c0, c1, c2, c3⟩ := HB2.out.cells
      have BM := Lib.hid (HB2.out.put (.int .i64 0) (.int .u64 0) (.slice none 0 0) (.slice none 0 0))
      have ON := Lib.hid (only_set4 (BN.out.2.trans ((LP.out.only.trans O3.out).alloc (.cells #[.int .i64 0, .int .u64 0, .slice none 0 0, .slice none 0 0] 27))) (B := B) (by rw [HBB.out]; omega) (.int .i64 0) (.int .u64 0) (.slice none 0 0) (.slice none 0 0))
      go_wp2_with fail
      exact bodyPost_ret (res2 (p := 4) (u := 5) (ty := 27) Try.results104 _ _ B 27 _ (0, 0) _ rfl BM.out Try.underlying27 rfl (by kernel_rfl)) rfl (by rw [HF.out]; exact ⟨ON.out, rfl⟩)
    | some dd =>
      obtain ⟨d, rest⟩ := dd
      obtain ⟨vv, hv, rfl⟩ := hr
      obtain ⟨a, nn, c, a', nn', c', rfl, -, -⟩ := hv
      obtain ⟨e1, hlt, hle, ept⟩ := part_ok LP.out.le HQ.out.symm
      obtain ⟨jn, hjn⟩ : ∃ x, x = behind s rest := ⟨_, rfl⟩
      rw [← hjn] at e1 hlt hle ept ⊢
      have HJ := Lib.hid (And.intro hjn (And.intro hlt hle))
      have SVE := Lib.hid (sv_extract s j jn hle)
      have b1 : (0 : Int) ≤ (j : Int) := by omega
      have b2 : (j : Int) ≤ (jn : Int) := by omega
      have b3 : (jn : Int) ≤ (s.size : Int) := by omega
      have b4 : ((jn : Int) < 0) = False := eq_false (by omega)
      have O4 := Lib.hid (O3.out.alloc (.cells #[.int .i64 d.k, .int .u64 d.n, .slice a nn c, .slice a' nn' c'] 27))
      clear e1 hlt hle ept hjn
      have BX := Lib.hid (LP.out.box.keep O4.out)
      have OX := Lib.hid (owns_keep LP.out.own O4.out)
      obtain ⟨c0, c1, c2, c3⟩ := BX.out.cells
      go_wp2_with fail
      generalize w3.alloc (.cells #[.int .i64 d.k, .int .u64 d.n, .slice a nn c, .slice a' nn' c'] 27) = W4 at BX OX O4 c0 c1 c2 c3 ⊢
      have fz := BX.out.free.2.2.2
      have BX7 := Lib.hid (show Box4 W4.drew NB (.int .i64 11) (.int .u64 (0 : Nat)) (.slice none 0 0) v from BX.out)
      have OX7 := Lib.hid (owns_keep OX.out (Only.drew (Only.refl (fun _ => False) W4)))
      have O7 := Lib.hid (Only.drew (Only.refl (fun _ => False) W4))
      have hcnt : acc.length ≤ 100000001 := by have := LP.out.cnt; have := LP.out.le; have := HM.out; omega
      have hNBlt : NB < W4.heap.size := lt_of BX.out
      go_region_law (first
        | (refine step_append_lies _ (by rfl) _ _ _ (by rfl) (NB + 1) 9 i0 _ 1 16 Try.underlying25 hi0 hz0 hz1 hz2 rfl (by omega) v acc.length (acc.map sv) (by rfl) (OX7.out.alloc _) ⟨_, 0, none⟩ 1 1 [.string (s.extract j jn)] (by rfl) (by rfl) (World.news_of_block (cs := #[.string (s.extract j jn)]) (t := 9) (fr := (0, 0)) (heap_alloc_new _ _)) (by simp [Value.oneCell']) (by omega) (by unfold maxLen; omega) (by omega) (by simp; omega) _ rfl ?_; intro g' cap' w9 hown9 hgrow9 hat9 hlt9; obtain ⟨KO9, R9⟩ := after_app BX7.out OX7.out (LP.out.only.trans (O4.out.trans O7.out)) hgrow9 (by rw [HNB.out]; omega); have cO := KO9.cells.2.2.2; have fO := KO9.free.2.2.2; have KO9 := Lib.hid KO9; have R9 := Lib.hid R9; have OW9 := Lib.hid hown9; clear hown9 hgrow9 hat9 hlt9))
      all_goals
        obtain ⟨ps, hps⟩ : ∃ ps, ps = acc ++ [(s.data.toList.drop j).take (jn - j)] := ⟨_, rfl⟩
        have hlen : acc.length + 1 = ps.length := by rw [hps]; simp
        have hmap : acc.map sv ++ [.string (s.extract j jn)] = ps.map sv := by rw [hps, SVE.out]; simp
        have BY := Lib.hid (show Box4 (w9.setCell ⟨NB, 3, none⟩ (.slice (some ⟨g', 0, none⟩) ps.length cap')) NB (.int .i64 11) (.int .u64 (0 : Nat)) (.slice none 0 0) (.slice (some ⟨g', 0, none⟩) ps.length cap') from heap_set KO9.out)
        have OY := Lib.hid (show (w9.setCell ⟨NB, 3, none⟩ (.slice (some ⟨g', 0, none⟩) ps.length cap')).ownsRow (NB + 1) 9 1 (.slice (some ⟨g', 0, none⟩) ps.length cap') ps.length (ps.map sv) from by
          have q := OW9.out
          rw [hmap, hlen] at q
          exact owns_set q (Nat.lt_succ_self NB))
        have R := Lib.hid (only_setNew (b := NB) (o := 3) (v := .slice (some ⟨g', 0, none⟩) ps.length cap') R9.out (by rw [HNB.out]; omega))
        have PS := Lib.hid (And.intro hps hlen)
        rw [hlen]
        clear BX OX BX7 OX7 O7 KO9 R9 OW9 cO fO hmap hlen hps hcnt hNBlt O4 c0 c1 c2 c3 fz hi0 hz0 hz1 hz2
        generalize w9.setCell ⟨NB, 3, none⟩ (.slice (some ⟨g', 0, none⟩) ps.length cap') = W9 at BY OY R ⊢
        have AJ := Lib.hid (at_cb s jn W9 (by have := HM.out; omega) (by have := HM.out; omega))
        have wj : wrap64 ((jn : Int) + 1) = (jn : Int) + 1 := IntWalk.wrap64_in _ (by have := HM.out; omega)
        go_wp2_with fail
        (with_reducible refine AJ.out.mono ?_)
        rintro e w10 ⟨rfl, hw⟩
        obtain rfl := hw
        clear AJ
        have ST := Lib.hid (lp_step LP.out.le LP.out.eq HQ.out.symm HJ.out.1 PS.out.1)
        obtain ⟨c0, c1, c2, c3⟩ := BY.out.cells
        by_cases h41 : cb s jn = 41
        · have b41 : (((cb s jn).toNat : Int) == 41) = true := by rw [cb_int (c := 41) (n := 41) rfl]; simp [h41]
          have hjs := cb_lt (by decide) h41
          have HE3 := Lib.hid (ST.out.1 h41)
          clear h41
          cases hrr : right 11 ps.length
          · have RT := fun W => right_q 11 ps.length false W (by decide) (by decide) hrr
            have HF := Lib.hid (show tmR f (s.data.toList.drop i) = none from by rw [HE3.out, hrr]; simp)
            have RTH := Lib.hid RT
            clear RT hrr HE3
            go_wp2_with fail
            go_quiet ((go_at_call 161; exact Calls.quiet_of_same (RTH.out _)))
            have HB2 := Lib.hid (BN.out.1.keep (R.out.drewN nq))
            obtain ⟨f0, f1, f2, f3⟩ := HB2.out.free
            obtain ⟨d0, d1, d2, d3⟩ := HB2.out.cells
            have BM := Lib.hid (HB2.out.put (.int .i64 0) (.int .u64 0) (.slice none 0 0) (.slice none 0 0))
            have ON := Lib.hid (only_set4 (BN.out.2.trans (R.out.drewN nq)) (B := B) (by rw [HBB.out]; omega) (.int .i64 0) (.int .u64 0) (.slice none 0 0) (.slice none 0 0))
            go_wp2_with fail
            exact bodyPost_ret (res2 (p := 4) (u := 5) (ty := 27) Try.results104 _ _ B 27 _ (0, 0) _ rfl BM.out Try.underlying27 rfl (by kernel_rfl)) rfl (by rw [HF.out]; exact ⟨ON.out, rfl⟩)
          · have RT := fun W => right_q 11 ps.length true W (by decide) (by decide) hrr
            have HF := Lib.hid (show tmR f (s.data.toList.drop i) = some (⟨11, 0, [], ps⟩, s.data.toList.drop (jn + 1)) from by rw [HE3.out, hrr, show sorted 11 ps = true from by simp [sorted]]; rfl)
            have RTH := Lib.hid RT
            clear RT hrr HE3
            go_wp2_with fail
            go_quiet ((go_at_call 161; exact Calls.quiet_of_same (RTH.out _)))
            have HB2 := Lib.hid (BN.out.1.keep (R.out.drewN nq))
            have HY2 := Lib.hid (show Box4 (W9.drewN nq) NB (.int .i64 11) (.int .u64 (0 : Nat)) (.slice none 0 0) (.slice (some ⟨g', 0, none⟩) ps.length cap') from BY.out)
            obtain ⟨f0, f1, f2, f3⟩ := HB2.out.free
            obtain ⟨d0, d1, d2, d3⟩ := HB2.out.cells
            clear c0 c1 c2 c3
            obtain ⟨c0, c1, c2, c3⟩ := HY2.out.cells
            have BM := Lib.hid (HB2.out.put (.int .i64 11) (.int .u64 (0 : Nat)) (.slice none 0 0) (.slice (some ⟨g', 0, none⟩) ps.length cap'))
            have ON := Lib.hid (only_set4 (BN.out.2.trans (R.out.drewN nq)) (B := B) (by rw [HBB.out]; omega) (.int .i64 11) (.int .u64 (0 : Nat)) (.slice none 0 0) (.slice (some ⟨g', 0, none⟩) ps.length cap'))
            have SL := Lib.hid ((own_sl (show (W9.drewN nq).ownsRow (NB + 1) 9 1 (.slice (some ⟨g', 0, none⟩) ps.length cap') ps.length (ps.map sv) from OY.out)).mono (T := fun k => B < k) fun k hk => by have := HBL.out; omega)
            have BE := Lib.hid (show behind s (s.data.toList.drop (jn + 1)) = jn + 1 from by rw [behind, List.length_drop, tl_size]; omega)
            go_wp2_with fail
            exact bodyPost_ret (res2 (p := 4) (u := 5) (ty := 27) Try.results104 _ _ B 27 _ (0, 0) _ rfl BM.out Try.underlying27 rfl (by kernel_rfl)) rfl (by rw [HF.out]; exact ⟨ON.out, _, nd_set4 (fun k hk => by have := HBB.out; omega) _ _ _ _ _ _ rfl (sl_nil _ _) SL.out, by rw [BE.out]; first | rfl | (rw [wj]; rfl) | (simp [wj])⟩)
        have b41 : (((cb s jn).toNat : Int) == 41) = false := by rw [cb_int (c := 41) (n := 41) rfl]; simp [h41]
        by_cases h44 : cb s jn = 44
        · have b44 : (((cb s jn).toNat : Int) != 44) = false := by rw [bne, cb_int (c := 44) (n := 44) rfl]; simp [h44]
          have hjs := cb_lt (by decide) h44
          have HE3 := Lib.hid (ST.out.2.1 h44)
          clear h41 h44
          go_wp2_with fail
          have NXT := Lib.hid (show Lp s i f 11 0 NB W1 (jn + 1) g ps (.slice (some ⟨g', 0, none⟩) ps.length cap') W9 from
            ⟨hjs, by have := LP.out.ge; have := HJ.out.2.1; omega, HE3.out, by have := LP.out.fuel; have := HJ.out.2.1; omega, BY.out, OY.out, by have := LP.out.cnt; have := PS.out.2; have := HJ.out.2.1; omega, R.out⟩)
          have HWJ := Lib.hid wj
          have HMS := Lib.hid (show s.size - (jn + 1) < s.size - j from by have := HJ.out.2.1; omega)
          clear wj
          go_roundw
          case rel => exact ⟨jn + 1, g, ps, _, by first | (rw [HWJ.out]; go_num) | go_num, NXT.out⟩
          case measure =>
            first
              | (rw [HWJ.out]; simp [intOf]; have := HMS.out; omega)
              | (simp [intOf]; have := HMS.out; omega)
        · have b44 : (((cb s jn).toNat : Int) != 44) = true := by rw [bne, cb_int (c := 44) (n := 44) rfl]; simp [h44]
          have HF := Lib.hid (ST.out.2.2 h41 h44)
          clear h41 h44
          have HB2 := Lib.hid (BN.out.1.keep R.out)
          obtain ⟨f0, f1, f2, f3⟩ := HB2.out.free
          obtain ⟨d0, d1, d2, d3⟩ := HB2.out.cells
          have BM := Lib.hid (HB2.out.put (.int .i64 0) (.int .u64 0) (.slice none 0 0) (.slice none 0 0))
          have ON := Lib.hid (only_set4 (BN.out.2.trans R.out) (B := B) (by rw [HBB.out]; omega) (.int .i64 0) (.int .u64 0) (.slice none 0 0) (.slice none 0 0))
          go_wp2_with fail
          exact bodyPost_ret (res2 (p := 4) (u := 5) (ty := 27) Try.results104 _ _ B 27 _ (0, 0) _ rfl BM.out Try.underlying27 rfl (by kernel_rfl)) rfl (by rw [HF.out]; exact ⟨ON.out, rfl⟩)
end Go.Proofs.Ytbjnejnjlidiaaa.trE
namespace Go.Proofs.Ytbjnejnjlidiaaa.trJ
open Go.RowKit kit numA numB numC numD numE numF numG tmA tmB trA trB trC trD trE
set_option linter.unusedVariables false
set_option linter.unusedSimpArgs false

theorem term_all (s : ByteArray) (hm : s.size ≤ 100000000) : ∀ N, IH s N
  | 0 => fun i f w h0 hN hf => by
    have e : i = s.size := by omega
    exact term_none s i f w hm h0 hf (by rw [(cb_out s i (by omega)).1]; decide)
  | N + 1 => fun i f w h0 hN hf => by
    have ih := term_all s hm N
    obtain ⟨k, hk⟩ : ∃ k, kindOf (cb s i) = k := ⟨_, rfl⟩
    have hk11 : k ≤ 11 := by
      by_cases h : k = 0
      · omega
      · have := (kind_letter (cb s i) (by omega)).2.2
        omega
    have e : k = 0 ∨ (1 ≤ k ∧ k ≤ 4) ∨ (k = 5 ∨ k = 7 ∨ k = 9) ∨ k = 6 ∨ k = 8 ∨ k = 10 ∨ k = 11 := by omega
    rcases e with h | h | h | h | h | h | h
    · exact term_none s i f w hm h0 hf (hk.trans h)
    · exact term_leaf s i f k w hm h0 hf hk h.1 h.2
    · exact node_o s N ih i f k w hm h0 hN hf hk h
    · exact node_6 s N ih i f w hm h0 hN hf (hk.trans h)
    · exact node_8 s N ih i f w hm h0 hN hf (hk.trans h)
    · exact node_10 s N ih i f w hm h0 hN hf (hk.trans h)
    · exact node_11 s N ih i f w hm h0 hN hf (hk.trans h)

/-- What is read of a text; a text that is no term has the kind 0. -/
def ndOf (t : Txt) : Nd := (rdT t).getD ⟨0, 0, [], []⟩

def Red (w : World) (t : Txt) (e : Ending) (w' : World) : Prop := Only (fun _ => False) w w' ∧ ∃ v, e = .returned v ∧ NdV (fun k => w.heap.size ≤ k) w' v (ndOf t)

theorem rdT_long {t : Txt} (h : 65536 < t.length) : rdT t = none := by
  unfold rdT
  rw [if_neg (by omega)]

theorem rdT_short {t : Txt} (h : t.length ≤ 65536) : rdT t = (match tmR (2 * t.length + 2) t with | some (d, []) => some d | _ => none) := by
  unfold rdT
  rw [if_pos h]
  rfl

set_option maxRecDepth 100000 in
theorem read_nd (s : ByteArray) (w : World) (hm : s.size ≤ 100000000) : Calls Try.prog 23 #[.string s] w (Red w s.data.toList) := by
  have HL := Lib.hid (tl_size s)
  by_cases hl : 65536 < s.size
  · have HF := Lib.hid (show ndOf s.data.toList = ⟨0, 0, [], []⟩ from by rw [ndOf, rdT_long (by rw [HL.out]; exact hl)]; rfl)
    have g1 : ((65536 : Int) < (s.size : Int)) = True := eq_true (by omega)
    have BN := Lib.hid (resbox s 0 w)
    clear hl hm
    go_enter Try.func23, Try.ntmps23
    go_wp2_with fail
    exact bodyPost_ret (results_cell_row (p := 2) (ty := 27) Try.results23 _ _ w.heap.size 27 _ (0, 0) _ rfl BN.out.1 Try.underlying27 rfl (by kernel_rfl)) rfl ⟨BN.out.2, _, rfl, by rw [HF.out]; exact ⟨none, 0, 0, none, 0, 0, rfl, sl_nil _ _, sl_nil _ _⟩⟩
  have g1 : ((65536 : Int) < (s.size : Int)) = False := eq_false (by omega)
  have HS := Lib.hid (show s.size ≤ 65536 by omega)
  have TA := Lib.hid (fun W => (show Calls Try.prog 104 #[.string s, .int .i64 0] W (Tmd W s (tmR (2 * s.size + 2) (s.data.toList.drop 0))) from term_all s hm s.size 0 (2 * s.size + 2) W (Nat.zero_le _) (by omega) (by omega)))
  have hpos : ∀ d rest, tmR (2 * s.size + 2) s.data.toList = some (d, rest) → 0 < s.size := fun d rest h => by
    obtain ⟨t, e, hT, _⟩ := (soundR _).1 _ _ _ h
    obtain ⟨c, r, e1, _⟩ := T.ne hT
    rw [← HL.out, e, e1]
    simp
  have BN := Lib.hid (resbox s 0 w)
  have hq : ndOf s.data.toList = ((match tmR (2 * s.size + 2) s.data.toList with | some (d, []) => some d | _ => none).getD ⟨0, 0, [], []⟩) := by
    rw [ndOf, rdT_short (by rw [HL.out]; exact HS.out), HL.out]
  rw [List.drop_zero] at TA
  generalize tmR (2 * s.size + 2) s.data.toList = q at TA hq hpos
  have HP := Lib.hid hpos
  clear hpos
  have HQ := Lib.hid hq
  clear hl hm hq
  go_enter Try.func23, Try.ntmps23
  go_wp2_with fail
  have hs1 : (w.alloc (.cells #[.int .i64 0, .int .u64 0, .slice none 0 0, .slice none 0 0] 27)).heap.size = w.heap.size + 1 := World.size_alloc _ _
  generalize w.alloc (.cells #[.int .i64 0, .int .u64 0, .slice none 0 0, .slice none 0 0] 27) = W1 at BN hs1 ⊢
  obtain ⟨B, hB⟩ : ∃ B, B = w.heap.size := ⟨_, rfl⟩
  have HBB := Lib.hid hB
  rw [← hB] at BN hs1 ⊢
  have HBL := Lib.hid (show B < W1.heap.size from lt_of BN.out.1)
  clear hB hs1
  (with_reducible refine (TA.out _).mono ?_)
  rintro e w2 ⟨o, hr⟩
  have O2 := Lib.hid o
  clear o TA
  cases q with
  | none =>
    subst hr
    have HB2 := Lib.hid (BN.out.1.keep (O2.out.alloc (.cells #[.int .i64 0, .int .u64 0, .slice none 0 0, .slice none 0 0] 27)))
    obtain ⟨f0, f1, f2, f3⟩ := HB2.out.free
    obtain ⟨d0, d1, d2, d3⟩ := HB2.out.cells
    have BM := Lib.hid (HB2.out.put (.int .i64 0) (.int .u64 0) (.slice none 0 0) (.slice none 0 0))
    have ON := Lib.hid (only_set4 (BN.out.2.trans (O2.out.alloc (.cells #[.int .i64 0, .int .u64 0, .slice none 0 0, .slice none 0 0] 27))) (B := B) (by rw [HBB.out]; omega) (.int .i64 0) (.int .u64 0) (.slice none 0 0) (.slice none 0 0))
    have z1 : ((-1 : Int) != (s.size : Int)) = true := by rw [bne_iff_ne]; omega
    go_wp2_with fail
    exact bodyPost_ret (results_cell_row (p := 2) (ty := 27) Try.results23 _ _ B 27 _ (0, 0) _ rfl BM.out Try.underlying27 rfl (by kernel_rfl)) rfl ⟨ON.out, _, rfl, by rw [HQ.out]; exact ⟨none, 0, 0, none, 0, 0, rfl, sl_nil _ _, sl_nil _ _⟩⟩
  | some dd =>
    obtain ⟨d, rest⟩ := dd
    obtain ⟨v, hv, rfl⟩ := hr
    obtain ⟨a, n, c, a', n', c', rfl, s1, s2⟩ := hv
    have oA : Only (fun _ => False) w2 (w2.alloc (.cells #[.int .i64 d.k, .int .u64 d.n, .slice a n c, .slice a' n' c'] 27)) := (Only.refl _ w2).alloc _
    have SS := Lib.hid (And.intro ((s1.keep oA fun _ _ h => h).mono (T := fun k => B < k) fun k hk => by have := HBL.out; omega) ((s2.keep oA fun _ _ h => h).mono (T := fun k => B < k) fun k hk => by have := HBL.out; omega))
    have HB2 := Lib.hid (BN.out.1.keep (O2.out.alloc (.cells #[.int .i64 d.k, .int .u64 d.n, .slice a n c, .slice a' n' c'] 27)))
    have O3 := Lib.hid (BN.out.2.trans (O2.out.alloc (.cells #[.int .i64 d.k, .int .u64 d.n, .slice a n c, .slice a' n' c'] 27)))
    have NW := Lib.hid (Box4.new w2 (.int .i64 d.k) (.int .u64 d.n) (.slice a n c) (.slice a' n' c'))
    obtain ⟨f0, f1, f2, f3⟩ := HB2.out.free
    obtain ⟨d0, d1, d2, d3⟩ := HB2.out.cells
    clear s1 s2 oA
    cases rest with
    | nil =>
      have z1 : (((behind s [] : Nat) : Int) != (s.size : Int)) = false := by simp [behind]
      have BM := Lib.hid (HB2.out.put (.int .i64 d.k) (.int .u64 d.n) (.slice a n c) (.slice a' n' c'))
      have ON := Lib.hid (only_set4 O3.out (B := B) (by rw [HBB.out]; omega) (.int .i64 d.k) (.int .u64 d.n) (.slice a n c) (.slice a' n' c'))
      go_wp2_with fail
      exact bodyPost_ret (results_cell_row (p := 2) (ty := 27) Try.results23 _ _ B 27 _ (0, 0) _ rfl BM.out Try.underlying27 rfl (by kernel_rfl)) rfl ⟨ON.out, _, rfl, by rw [HQ.out]; exact nd_set4 (fun k hk => by have := HBB.out; omega) _ _ _ _ _ _ rfl SS.out.1 SS.out.2⟩
    | cons x r =>
      have z1 : (((behind s (x :: r) : Nat) : Int) != (s.size : Int)) = true := by
        rw [bne_iff_ne]
        have := HP.out _ _ rfl
        simp only [behind, List.length_cons]
        omega
      have BM := Lib.hid (HB2.out.put (.int .i64 0) (.int .u64 0) (.slice none 0 0) (.slice none 0 0))
      have ON := Lib.hid (only_set4 O3.out (B := B) (by rw [HBB.out]; omega) (.int .i64 0) (.int .u64 0) (.slice none 0 0) (.slice none 0 0))
      go_wp2_with fail
      exact bodyPost_ret (results_cell_row (p := 2) (ty := 27) Try.results23 _ _ B 27 _ (0, 0) _ rfl BM.out Try.underlying27 rfl (by kernel_rfl)) rfl ⟨ON.out, _, rfl, by rw [HQ.out]; exact ⟨none, 0, 0, none, 0, 0, rfl, sl_nil _ _, sl_nil _ _⟩⟩

theorem ndOf_kind (t : Txt) : (ndOf t).k ≤ 11 ∧ ((ndOf t).k = 0 ↔ rdT t = none) := by
  unfold ndOf
  cases h : rdT t with
  | none => simp
  | some d =>
    obtain ⟨hT, _⟩ := rdT_iff.1 h
    obtain ⟨c, r, _, _, h1, h2⟩ := T.ne hT
    simp only [Option.getD_some]
    exact ⟨h2, ⟨fun q => absurd q (by omega), fun q => by cases q⟩⟩

theorem field0 (k n b p : Value) (W : World) : (Instr.field 27 (.agg #[k, n, b, p]) 0).run Try.prog W = .ok k W := by
  simp [Instr.field, fieldPlace, part, isAgg, asAgg, run_underlying Try.underlying27, run_underlying Try.underlying3, go_sem]
def isT (t : Txt) : Bool := (rdT t).isSome

set_option maxRecDepth 100000 in
theorem is_any (s : ByteArray) (w : World) (hm : s.size ≤ 100000000) : Calls Try.prog 39 #[.string s] w (numA.Told w (.bool (isT s.data.toList))) := by
  have RN := Lib.hid (read_nd s w hm)
  obtain ⟨k1, k2⟩ := ndOf_kind s.data.toList
  have HI := Lib.hid (show isT s.data.toList = decide (0 < (ndOf s.data.toList).k) from by
    unfold isT
    cases h : rdT s.data.toList with
    | none =>
      have := k2.2 h
      simp [this]
    | some d =>
      have : (ndOf s.data.toList).k ≠ 0 := fun q => by rw [k2.1 q] at h; cases h
      simp
      omega)
  clear k1 k2 hm
  go_enter Try.func39, Try.ntmps39
  go_wp2_with fail
  (with_reducible refine RN.out.mono ?_)
  rintro e w2 ⟨o, v, rfl, a, n, c, a', n', c', rfl, s1, s2⟩
  have O := Lib.hid o
  clear o s1 s2
  have hf := fun W => field0 (.int .i64 (ndOf s.data.toList).k) (.int .u64 (ndOf s.data.toList).n) (.slice a n c) (.slice a' n' c') W
  go_wp2_with fail
  go_ret
  exact ⟨by rw [HI.out]; rfl, O.out⟩
end Go.Proofs.Ytbjnejnjlidiaaa.trJ
