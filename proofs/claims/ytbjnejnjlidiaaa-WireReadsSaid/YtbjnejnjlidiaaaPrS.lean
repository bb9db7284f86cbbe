/- Term: the program's build. -/
import Derived.Test.YtbjnejnjlidiaaaPrQ
import Derived.Test.YtbjnejnjlidiaaaTmA
import Derived.Test.YtbjnejnjlidiaaaSrcA
import Derived.StillTailTactics
import Derived.Deep.AppendLies
import Derived.Test.YtbjnejnjlidiaaaNumF
import Derived.Deep.DeepFit
namespace Go.Proofs.Ytbjnejnjlidiaaa.prS
open Go.RowKit kit numA numB numC numD numE numF tmA tmB tmC tmD tmE srcA trA trB prA prC prR shJ
set_option linter.unusedVariables false
set_option linter.unusedSimpArgs false

theorem sl_get {w : World} {S : Nat → Prop} {a : Option Addr} {m cap : Nat} {ps : List Txt} (h : Sl w S (.slice a m cap) (ps.map sv)) (i : Nat) (hi : i < ps.length) : ∃ g o, a = some ⟨g, o, none⟩ ∧ S g ∧ g < w.heap.size ∧ w.cell? ⟨g, o + i, none⟩ = some (sv (ps.getD i [])) := by
  obtain ⟨_, a', cap', h, hx | ⟨g, o, ha, hS, hg, hc⟩⟩ := h
  · have : ps.length = 0 := by rw [← List.length_map (f := sv), hx]; rfl
    omega
  · injection h with h1 h2 h3
    subst h1
    refine ⟨g, o, ha, hS, hg, ?_⟩
    rw [hc i (by simpa using hi)]
    simp [hi]

theorem sl_len {w : World} {S : Nat → Prop} {a : Option Addr} {m cap : Nat} {ps : List Txt} (h : Sl w S (.slice a m cap) (ps.map sv)) : m = ps.length := by
  obtain ⟨_, a', cap', h, _⟩ := h
  injection h with h1 h2 h3
  rw [List.length_map] at h2
  omega

theorem mkT_br {k n : Nat} {b : Txt} {ps : List Txt} (h5 : 5 ≤ k) (h11 : k ≤ 11) : mkT k n b ps = if fitsB k n ps then letter k :: 40 :: (pre k n ++ (join (srt k ps) ++ [41])) else [] := by
  rw [mkT, if_neg (by omega), if_neg (by omega), if_neg (by omega), if_neg (by omega), if_pos ⟨h5, h11⟩]

def Made (w : World) (t : Txt) (e : Ending) (w' : World) : Prop := Only (fun _ => False) w w' ∧ e = .returned (.string ⟨t.toArray⟩)

theorem total_app (a b : List Txt) : total (a ++ b) = total a + total b := by
  unfold total
  rw [List.map_append, List.sum_append]

theorem total_succ {ps : List Txt} {i : Nat} (hi : i < ps.length) : total (ps.take (i + 1)) = total (ps.take i) + (ps.getD i []).length := by
  rw [List.take_succ_eq_append_getElem hi, total_app, show ps.getD i [] = ps[i] by simp [hi]]
  simp [total]

theorem total_take (ps : List Txt) (i : Nat) : total (ps.take i) ≤ total ps := by
  have := total_app (ps.take i) (ps.drop i)
  rw [List.take_append_drop] at this
  omega

/-- What holds at each part. -/
structure BR (W1 : World) (ps : List Txt) (i : Nat) (wr : World) : Prop where
  le : i ≤ ps.length
  sm : total (ps.take i) ≤ 65536
  all : ∀ p ∈ ps.take i, isT p = true
  only : Only (fun _ => False) W1 wr

theorem BR.next {W1 wr w' : World} {ps : List Txt} {i : Nat} (h : BR W1 ps i wr) (hi : i < ps.length) (hs : total (ps.take i) + (ps.getD i []).length ≤ 65536) (hp : isT (ps.getD i []) = true) (o : Only (fun _ => False) wr w') : BR W1 ps (i + 1) w' := by
  refine ⟨hi, by rw [total_succ hi]; exact hs, fun p hp' => ?_, h.only.trans o⟩
  rw [List.take_succ_eq_append_getElem hi, List.mem_append] at hp'
  rcases hp' with q | q
  · exact h.all p q
  · simp at q
    subst q
    simpa [hi] using hp

theorem isT_kind (t : Txt) : isT t = true ↔ (trJ.ndOf t).k ≠ 0 := by
  have := (trJ.ndOf_kind t).2
  unfold isT
  cases h : rdT t with
  | none => simp [this.2 h]
  | some d =>
    simp only [Option.isSome_some, true_iff]
    intro q
    rw [this.1 q] at h
    cases h

theorem lib_join (ps : List Txt) : Lib.join ps [44] = join ps := by
  induction ps with
  | nil => rfl
  | cons p ps ih =>
    cases ps with
    | nil => rw [Lib.join_one]; rfl
    | cons q qs =>
      rw [join_cons p (q :: qs) (by simp), ← ih, Lib.join_cons, Lib.join_cons]
      simp [Lib.joinTail]

theorem join_le (ps : List Txt) : (join ps).length ≤ total ps + ps.length := by
  induction ps with
  | nil => simp [join, total]
  | cons p ps ih =>
    cases ps with
    | nil => simp [join, total]
    | cons q qs =>
      rw [join_cons p (q :: qs) (by simp)]
      simp only [total, List.map_cons, List.sum_cons, List.length_append, List.length_cons] at ih ⊢
      omega

set_option maxRecDepth 100000 in
/-- A row of texts of one's own takes a slice of texts. -/
theorem add_all {w : World} {base g n cap : Nat} {xs : List Value} {S : Nat → Prop} {a : Option Addr} {m c : Nat} {ps : List Txt} (hown : w.ownsRow base 9 1 (.slice (some ⟨g, 0, none⟩) n cap) n xs) (hsl : Sl w S (.slice a m c) (ps.map sv)) (hb : base ≤ w.heap.size) (hn : n ≤ 1000000) (hm : ps.length ≤ 1000000) :
    ∃ g' cp w', (Builtin.append_ #[25, 25] 25 #[.slice (some ⟨g, 0, none⟩) n cap, .slice a m c]).run Try.prog w = .ok (.slice (some ⟨g', 0, none⟩) (n + m : Nat) cp) w' ∧ w'.ownsRow base 9 1 (.slice (some ⟨g', 0, none⟩) (n + m : Nat) cp) (n + m) (xs ++ ps.map sv) ∧ ∀ w0, Only (fun _ => False) w0 w → w0.heap.size ≤ base → Only (fun _ => False) w0 w' := by
  obtain ⟨i0, hi0, hz0, hz1, hz2⟩ := trC.info_parts trC.info9
  obtain rfl := sl_len hsl
  by_cases h0 : ps = []
  · subst h0
    have hr : (Builtin.append_ #[25, 25] 25 #[.slice (some ⟨g, 0, none⟩) n cap, .slice a 0 c]).run Try.prog w = .ok (.slice (some ⟨g, 0, none⟩) n cap) w := by
      rcases hown.2 with ⟨q, _⟩ | ⟨g', cap', cur, q, _, _, hnc, _⟩
      · cases q
      · injection q with q1 q2 q3
        subst q3
        cases a <;> simp [Builtin.append_, run_underlying Try.underlying25, sizeOf, typeInfo, hi0, Builtin.lenOf, Builtin.firstCells, hnc, storeCells, loadCells, loadCellsFrom, Result.andThen]
    exact ⟨g, cap, w, hr, by simpa using hown, fun w0 o _ => o⟩
  · have h1 : 0 < ps.length := List.length_pos_iff.2 h0
    obtain ⟨_, a', cap', h, hx | ⟨ga, o, ha, hS, hg, hc⟩⟩ := hsl
    · exact absurd (List.map_eq_nil_iff.1 hx) h0
    · injection h with e1 e2 e3
      subst e1
      subst ha
      obtain ⟨g', cp, w', hr, hown', hgr, _, _⟩ := run_append_lies (P := Try.prog) w 25 25 base 9 i0 _ 1 16 Try.underlying25 hi0 hz0 hz1 hz2 rfl (by omega) _ n xs hown ⟨ga, o, none⟩ ps.length c (ps.map sv) (by simp) (fun j u hj => by
        have hjl : j < ps.length := by
          have := (List.getElem?_eq_some_iff.1 hj).1
          simpa using this
        rw [Addr.add_lit, hc j (by simpa using hjl)]
        rw [List.getD_eq_getElem?_getD, hj]
        rfl) (fun u hu => by
          obtain ⟨p, _, rfl⟩ := List.mem_map.1 hu
          rfl) h1 (by unfold maxLen; omega) (by omega) hb _ rfl
      exact ⟨g', cp, w', hr, hown', fun w0 o0 h0 => Only.grownNew o0 hgr fun b q => by
        have := (hown.lt b q).1
        omega⟩

theorem sl_one (w : World) (p : Txt) : Sl (w.alloc (.cells #[sv p] 9)) (fun k => w.heap.size ≤ k) (.slice (some ⟨w.heap.size, 0, none⟩) 1 1) ([p].map sv) :=
  ⟨by simp [maxLen], _, 1, rfl, .inr ⟨w.heap.size, 0, rfl, Nat.le_refl _, by simp, fun i hi => by
    obtain rfl : i = 0 := by simp at hi; omega
    rw [cell_of (heap_alloc_new w _)]
    rfl⟩⟩

theorem sl_two (w : World) (p q : Txt) : Sl (w.alloc (.cells #[sv p, sv q] 9)) (fun k => w.heap.size ≤ k) (.slice (some ⟨w.heap.size, 0, none⟩) 2 2) ([p, q].map sv) :=
  ⟨by simp [maxLen], _, 2, rfl, .inr ⟨w.heap.size, 0, rfl, Nat.le_refl _, by simp, fun i hi => by
    simp at hi
    rcases (by omega : i = 0 ∨ i = 1) with rfl | rfl
    · rw [cell_of (heap_alloc_new w _)]
      rfl
    · rw [cell_of (heap_alloc_new w _)]
      rfl⟩⟩

theorem join_own {w : World} {base g n cap : Nat} {qs : List Txt} (hown : w.ownsRow base 9 1 (.slice (some ⟨g, 0, none⟩) n cap) n (qs.map sv)) (hl : total qs + qs.length ≤ 1000000000) : Calls Try.prog 165 #[.slice (some ⟨g, 0, none⟩) n cap, .string ⟨#[44]⟩] w (numA.Told w (.string ⟨(join qs).toArray⟩)) := by
  have hn : n = qs.length := by have := hown.1; simpa using this.symm
  have hjl := join_le qs
  have hmap : (qs.map fun p => (⟨p.toArray⟩ : ByteArray)).map (·.data.toList) = qs := by
    rw [List.map_map]
    exact (List.map_congr_left (fun p _ => by simp)).trans (List.map_id qs)
  have hq : qs.length = (qs.map fun p => (⟨p.toArray⟩ : ByteArray)).length := by simp
  rcases hown.2 with ⟨q, _⟩ | ⟨g', cap', cur, q, _, hg, hnc, _⟩
  · cases q
  · injection q with q1 q2 q3
    subst q3
    injection q1 with q1
    injection q1 with q1
    subst q1
    have hc : ∀ (j : Nat) x, (qs.map fun p => (⟨p.toArray⟩ : ByteArray))[j]? = some x → w.cell? ⟨g, 0 + j, none⟩ = some (.string x) := by
      intro j x hj
      have hjl : j < qs.length := by
        have := (List.getElem?_eq_some_iff.1 hj).1
        simpa using this
      rw [Nat.zero_add, hown.cellAt j (by omega)]
      simp only [List.getElem?_map, Option.map_eq_some_iff] at hj ⊢
      obtain ⟨p, hp, rfl⟩ := hj
      exact ⟨p, hp, rfl⟩
    have h := join_any g 0 cap (qs.map fun p => (⟨p.toArray⟩ : ByteArray)) ⟨#[44]⟩ w hc (lt_of hg) (by rw [← hq]; omega) (by rw [← hq]; omega) (by
      rw [hmap, show (⟨#[44]⟩ : ByteArray).data.toList = [44] from rfl, lib_join]
      omega)
    rw [← hq, ← hn, hmap, show (⟨#[44]⟩ : ByteArray).data.toList = [44] from rfl, lib_join] at h
    exact h

theorem owns_base {w : World} {base base' : Nat} {e : TypeId} {size : Nat} {v : Value} {n : Nat} {xs : List Value} (h : w.ownsRow base e size v n xs) (hb : base' ≤ base) : w.ownsRow base' e size v n xs := by
  refine ⟨h.1, ?_⟩
  rcases h.2 with h0 | ⟨g, cap, cur, hv, hbg, r⟩
  · exact .inl h0
  · exact .inr ⟨g, cap, cur, hv, by omega, r⟩

/-- What is joined. -/
def qsOf (k n : Nat) (ps : List Txt) : List Txt := (if numbered k then [dec n] else []) ++ srt k ps

theorem qs_join {k n : Nat} {ps : List Txt} (h : numbered k = true → ps ≠ []) : join (qsOf k n ps) = pre k n ++ join (srt k ps) := by
  unfold qsOf pre
  by_cases hk : numbered k = true
  · rw [if_pos hk, if_pos hk]
    have : srt k ps ≠ [] := fun q => h hk (List.eq_nil_of_length_eq_zero (by rw [← srt_len k ps, q]; rfl))
    rw [List.singleton_append, join_cons _ _ this, List.append_assoc]
    rfl
  · rw [if_neg hk, if_neg hk]
    rfl

theorem fin_text {k n : Nat} {b : Txt} {ps : List Txt} (h5 : 5 ≤ k) (h11 : k ≤ 11) (h1 : ¬ ps.length < least k) (h2 : ¬ mostk k < ps.length) (hn : numbered k = true → lowk k ≤ n ∧ n ≤ highk k) (ha : ∀ p ∈ ps, isT p = true) (ht : total ps ≤ 65536) :
    mkT k n b ps = if (letter k :: 40 :: (join (qsOf k n ps) ++ [41])).length ≤ 65536 then letter k :: 40 :: (join (qsOf k n ps) ++ [41]) else [] := by
  have hq : join (qsOf k n ps) = pre k n ++ join (srt k ps) := qs_join fun hk e => by
    subst e
    simp only [numbered, Bool.or_eq_true, beq_iff_eq] at hk
    rcases hk with rfl | rfl <;> exact absurd h1 (by decide)
  rw [mkT_br h5 h11, hq, List.append_assoc]
  by_cases hl : (letter k :: 40 :: (pre k n ++ (join (srt k ps) ++ [41]))).length ≤ 65536
  · rw [if_pos hl, if_pos ⟨by omega, by omega, hn, ha, ht, hl⟩]
  · rw [if_neg hl, if_neg (fun q => hl q.2.2.2.2.2)]

end Go.Proofs.Ytbjnejnjlidiaaa.prS
namespace Go.Proofs.Ytbjnejnjlidiaaa.prS
open Go.RowKit kit numA numB numC numD numE numF tmA tmB tmC tmD tmE srcA trA trB prA prC prR shJ
set_option linter.unusedVariables false
set_option linter.unusedSimpArgs false

set_option maxRecDepth 100000 in
set_option maxHeartbeats 3200000 in
theorem build_o (k n : Nat) (ps : List Txt) (S : Nat → Prop) (lv : Value) (w : World) (h5 : k = 5 ∨ k = 7 ∨ k = 9 ∨ k = 11) (hn : n ≤ most) (hsl : Sl w S lv (ps.map sv)) (hpl : ∀ p ∈ ps, p.length ≤ 100000000) (hlen : ps.length ≤ 1000000) : Calls Try.prog 108 #[shv k, .string ⟨#[letter k]⟩, .int .u64 n, lv] w (Made w (mkT k n [] ps)) := by
  have k5 : 5 ≤ k ∧ k ≤ 11 := by omega
  obtain ⟨a, m, cap, rfl⟩ : ∃ a m cap, lv = .slice a m cap := by
    obtain ⟨_, a, cap, h, _⟩ := hsl
    exact ⟨a, _, cap, h⟩
  obtain rfl := sl_len hsl
  obtain ⟨W1, hW1⟩ : ∃ W, W = w.alloc (.cells #[.int .i64 (least k : Nat), .int .i64 (mostk k : Nat), .bool (numbered k), .int .u64 (lowk k : Nat), .int .u64 (highk k : Nat), .bool (k == 6)] 134) := ⟨_, rfl⟩
  have o1 : Only (fun _ => False) w W1 := by rw [hW1]; exact (Only.refl _ w).alloc _
  have HB := Lib.hid (show Box6 W1 w.heap.size k from by rw [hW1]; exact heap_alloc_new w _)
  have HSL := Lib.hid (hsl.keep o1 fun _ _ h => h)
  have O1 := Lib.hid o1
  have KN := Lib.hid (show numbered k = false from by rcases h5 with rfl | rfl | rfl | rfl <;> decide)
  have K6 := Lib.hid (show (k == 6) = false from by rcases h5 with rfl | rfl | rfl | rfl <;> decide)
  have HMK := Lib.hid (mkT_br (n := n) (b := []) (ps := ps) k5.1 k5.2)
  have HN := Lib.hid hn
  have HPL := Lib.hid hpl
  have HLEN := Lib.hid hlen
  have HW := Lib.hid hW1
  have H5 := Lib.hid h5
  obtain ⟨c0, c1, c2, c3, c4, c5⟩ := HB.out.cells
  rw [KN.out] at c2
  rw [K6.out] at c5
  rw [hW1] at c0 c1 c2 c3 c4 c5
  clear hsl o1 h5 hn hpl hlen hW1 k5
  unfold shv
  obtain ⟨LT, hLT⟩ : ∃ LT, LT = (⟨#[letter k]⟩ : ByteArray) := ⟨_, rfl⟩
  rw [← hLT]
  have HLT := Lib.hid hLT
  clear hLT
  by_cases h1 : ps.length < least k
  · have HF := Lib.hid (show mkT k n [] ps = [] from by rw [HMK.out, if_neg (fun q => by have := q.1; omega)])
    have g1 : ((ps.length : Int) < (least k : Int)) = True := eq_true (by omega)
    clear h1
    go_enter Try.func108, Try.ntmps108
    go_wp2_with fail
    go_ret
    exact ⟨(Only.refl _ w).alloc _, by rw [HF.out]; rfl⟩
  have g1 : ((ps.length : Int) < (least k : Int)) = False := eq_false (by omega)
  have H1 := Lib.hid h1
  clear h1
  by_cases h2 : mostk k < ps.length
  · have HF := Lib.hid (show mkT k n [] ps = [] from by rw [HMK.out, if_neg (fun q => by have := q.2.1; omega)])
    have g2 : ((mostk k : Int) < (ps.length : Int)) = True := eq_true (by omega)
    clear h2
    go_enter Try.func108, Try.ntmps108
    go_wp2_with fail
    go_ret
    exact ⟨(Only.refl _ w).alloc _, by rw [HF.out]; rfl⟩
  have g2 : ((mostk k : Int) < (ps.length : Int)) = False := eq_false (by omega)
  have H2 := Lib.hid h2
  clear h2
  go_enter Try.func108, Try.ntmps108
  go_wp2_with fail
  rw [← HW.out]
  clear c0 c1 c2 c3 c4 c5
  generalize w.heap.size = B at HB ⊢
  go_loopw [9, 11, 44] (fun sz _ i wr => ∃ j : Nat, i = .int .i64 j ∧ sz = .int .i64 (total (ps.take j) : Nat) ∧ BR W1 ps j wr) (fun _ _ i _ => ps.length - (Lib.intOf i).toNat)
  case atStart => exact ⟨0, rfl, rfl, Nat.zero_le _, Nat.zero_le _, by simp, Only.refl _ W1⟩
  case round =>
    obtain ⟨j, rfl, rfl, hB⟩ := hrel
    have BRH := Lib.hid hB
    by_cases hj : j < ps.length
    · obtain ⟨g, o, rfl, hS, hgl, hc⟩ := sl_get (HSL.out.keep hB.only fun _ _ h => h) j hj
      obtain ⟨p, hp⟩ : ∃ p, p = ps.getD j [] := ⟨_, rfl⟩
      rw [← hp] at hc
      obtain ⟨tt, htt⟩ : ∃ tt, tt = total (ps.take j) := ⟨_, rfl⟩
      rw [← htt]
      have hc' : wr.cell? ⟨g, o + j, none⟩ = some (.string ⟨p.toArray⟩) := hc
      have k0 : (0 : Int) ≤ (j : Int) := by omega
      have k1 : (j : Int) < (ps.length : Int) := by omega
      have hsz : ((⟨p.toArray⟩ : ByteArray).size : Int) = (p.length : Int) := by simp [ByteArray.size]
      have hpm : p ∈ ps := by
        rw [hp, show ps.getD j [] = ps[j] by simp [hj]]
        exact List.getElem_mem _
      have KA := Lib.hid (kind_any ⟨p.toArray⟩ wr (by have := HPL.out p hpm; simp [ByteArray.size]; omega))
      rw [show (⟨p.toArray⟩ : ByteArray).data.toList = p from rfl] at KA
      have wa : wrap64 ((tt : Int) + (p.length : Int)) = (tt : Int) + (p.length : Int) := IntWalk.wrap64_in _ (by have := HPL.out p hpm; have := hB.sm; omega)
      have wj : wrap64 ((j : Int) + 1) = (j : Int) + 1 := IntWalk.wrap64_in _ (by have := HLEN.out; omega)
      have HP := Lib.hid hp
      have HT := Lib.hid htt
      have HJ := Lib.hid hj
      have HPM := Lib.hid hpm
      clear hB hc hp htt hj hS hgl hpm
      by_cases hq : 65536 < tt + p.length
      · have q1 : ((65536 : Int) < (tt : Int) + (p.length : Int)) = True := eq_true (by omega)
        have HF := Lib.hid (show mkT k n [] ps = [] from by
          rw [HMK.out, if_neg (fun q => by
            have h1 := q.2.2.2.2.1
            have h2 := total_take ps (j + 1)
            rw [total_succ HJ.out, ← HT.out, ← HP.out] at h2
            omega)])
        clear hq
        go_wp2_with fail
        go_ret
        exact ⟨O1.out.trans BRH.out.only, by rw [HF.out]; rfl⟩
      have q1 : ((65536 : Int) < (tt : Int) + (p.length : Int)) = False := eq_false (by omega)
      have HQ := Lib.hid hq
      clear hq
      go_wp2_with fail
      refine KA.out.mono ?_
      rintro e w' ⟨rfl, o'⟩
      have O2 := Lib.hid o'
      clear o' KA
      by_cases hz : (trJ.ndOf p).k = 0
      · have z1 : (((trJ.ndOf p).k : Int) == 0) = true := by rw [beq_iff_eq]; omega
        have HF := Lib.hid (show mkT k n [] ps = [] from by
          rw [HMK.out, if_neg (fun q => absurd hz ((isT_kind p).1 (q.2.2.2.1 p HPM.out)))])
        clear hz
        go_wp2_with fail
        go_ret
        exact ⟨(O1.out.trans BRH.out.only).trans O2.out, by rw [HF.out]; rfl⟩
      have z1 : (((trJ.ndOf p).k : Int) == 0) = false := by rw [beq_eq_false_iff_ne]; omega
      have HZ := Lib.hid hz
      clear hz
      go_wp2_with fail
      go_roundw
      case rel =>
        refine ⟨j + 1, by rw [wj]; rfl, ?_, BRH.out.next HJ.out (by rw [← HT.out, ← HP.out]; have := HQ.out; omega) ((isT_kind _).2 (by rw [← HP.out]; exact HZ.out)) O2.out⟩
        rw [total_succ HJ.out, ← HT.out, ← HP.out]
        rfl
      case measure =>
        rw [wj]
        have := HJ.out
        simp only [Lib.intOf]
        omega
    · obtain rfl : j = ps.length := by have := BRH.out.le; omega
      have j1 : ((ps.length : Int) < (ps.length : Int)) = False := eq_false (by omega)
      have AT := Lib.hid (show (∀ p ∈ ps, isT p = true) ∧ total ps ≤ 65536 from by
        have h1 := BRH.out.all
        have h2 := BRH.out.sm
        rw [List.take_length] at h1 h2
        exact ⟨h1, h2⟩)
      obtain ⟨J, hJ⟩ : ∃ J, J = join (qsOf k n ps) := ⟨_, rfl⟩
      have HJ := Lib.hid hJ
      have hjl : J.length ≤ 100000000 := by
        have h1 := join_le (qsOf k n ps)
        have h2 := AT.out.2
        have h3 := HLEN.out
        have h4 : total (qsOf k n ps) + (qsOf k n ps).length ≤ total ps + ps.length + 22 := by
          unfold qsOf
          rw [total_app, List.length_append, srt_len, total_srt]
          split
          · have := dec_len 19 n (by have := HN.out; unfold most at this; omega)
            simp [total]
            omega
          · simp [total]
        rw [← hJ] at h1
        omega
      clear hJ
      obtain ⟨X, hX⟩ : ∃ X, X = (⟨J.toArray⟩ : ByteArray) := ⟨_, rfl⟩
      obtain ⟨Y1, hY1⟩ : ∃ Y, Y = LT ++ ⟨#[40]⟩ := ⟨_, rfl⟩
      obtain ⟨Y2, hY2⟩ : ∃ Y, Y = Y1 ++ X := ⟨_, rfl⟩
      obtain ⟨Y3, hY3⟩ : ∃ Y, Y = Y2 ++ ⟨#[41]⟩ := ⟨_, rfl⟩
      have HTX := Lib.hid (show Y3 = (⟨(letter k :: 40 :: (J ++ [41])).toArray⟩ : ByteArray) from by
        rw [hY3, hY2, hY1, hX, HLT.out]
        exact ByteArray.ext (by simp))
      have zX : X.size = J.length := by rw [hX]; simp [ByteArray.size]
      have zL : LT.size = 1 := by rw [HLT.out]; rfl
      have z40 : (⟨#[40]⟩ : ByteArray).size = 1 := rfl
      have z41 : (⟨#[41]⟩ : ByteArray).size = 1 := rfl
      have z1 : Y1.size = 2 := by rw [hY1, ByteArray.size_append, zL, z40]
      have z2 : Y2.size = J.length + 2 := by rw [hY2, ByteArray.size_append, z1, zX]; omega
      have z3 : Y3.size = J.length + 3 := by rw [hY3, ByteArray.size_append, z2, z41]
      have A1 := fun W => run_string_add_sum (P := Try.prog) W LT ⟨#[40]⟩ (by rw [zL, z40]; omega)
      have A2 := fun W => run_string_add_sum (P := Try.prog) W Y1 X (by rw [z1, zX]; omega)
      have A3 := fun W => run_string_add_sum (P := Try.prog) W Y2 ⟨#[41]⟩ (by rw [z2, z41]; omega)
      rw [← hY1] at A1
      rw [← hY2] at A2
      rw [← hY3] at A3
      have HXX := Lib.hid hX
      have HZ3 := Lib.hid z3
      clear hX hY1 hY2 hY3 zX zL z40 z41 z1 z2 z3 hjl
      have wl : wrap64 ((ps.length : Int) + 1) = (ps.length : Int) + 1 := IntWalk.wrap64_in _ (by have := HLEN.out; omega)
      obtain ⟨i0, hi0, hz0, hz1, hz2⟩ := trC.info_parts trC.info9
      obtain ⟨W2, hmk, hown0, hg0⟩ := run_make_own (P := Try.prog) wr wr.heap.size 25 9 i0 _ 1 Try.underlying25 hi0 hz0 hz1 .i64 .i64 (ps.length + 1) (by rw [hz2]; have := HLEN.out; omega) (by have := HLEN.out; unfold maxLen; omega) (Nat.le_refl _)
      rw [show ((ps.length + 1 : Nat) : Int) = (ps.length : Int) + 1 from Int.natCast_add _ _] at hmk
      have OW := Lib.hid (BRH.out.only.grown hg0 fun k h => by cases h)
      have HB2 := HB.out.keepS OW.out id
      have SL2 := Lib.hid (HSL.out.keep OW.out fun _ _ h => h)
      obtain ⟨c0, c1, c2, c3, c4, c5⟩ := HB2.cells
      rw [KN.out] at c2
      rw [K6.out] at c5
      have OWN := Lib.hid (show W2.ownsRow w.heap.size 9 1 (.slice (some ⟨wr.heap.size, 0, none⟩) 0 (ps.length + 1)) 0 ([].map sv) from owns_base hown0 (by have := (O1.out.trans BRH.out.only).size; omega))
      have OWR := Lib.hid (show W2.ownsRow wr.heap.size 9 1 (.slice (some ⟨wr.heap.size, 0, none⟩) 0 (ps.length + 1)) 0 ([].map sv) from hown0)
      have WRB := Lib.hid (show wr.heap.size ≤ W2.heap.size from hg0.size)
      have WRS := Lib.hid (show w.heap.size ≤ W2.heap.size from ((O1.out.trans OW.out)).size)
      clear hB hj HB2 hown0 hg0 hi0 hz0 hz1 hz2
      go_wp2_with fail
      go_quiet (fail)
      have OD := Lib.hid ((Only.refl (fun _ => False) W2).drewN nq)
      obtain ⟨g', cp, W3, hap, own3, on3⟩ := add_all (trC.owns_keep OWN.out OD.out) (SL2.out.keep OD.out fun _ _ h => h) WRS.out (by omega) (by have := HLEN.out; omega)
      go_wp2_with (at_builtin; refine Lib.wpList_append_run _ rfl (.tmp 91) (.tmp 92) 25 25 rfl _ _ rfl rfl _ _ hap ?_)
      have hqs : qsOf k n ps = ps := by
        rw [qsOf, KN.out, if_neg (by decide), List.nil_append, srt, if_neg (fun q => by have := K6.out; rw [q.1] at this; cases this)]
      have OWQ := Lib.hid (show W3.ownsRow w.heap.size 9 1 (.slice (some ⟨g', 0, none⟩) (ps.length) cp) (ps.length) ((qsOf k n ps).map sv) from by
        rw [hqs]
        simpa using own3)
      have JO := Lib.hid (join_own OWQ.out (by rw [hqs]; have := AT.out.2; have := HLEN.out; omega))
      have O3 := Lib.hid (show Only (fun _ => False) w W3 from on3 w ((O1.out.trans OW.out).trans OD.out) (Nat.le_refl _))
      have FT := Lib.hid (fin_text (n := n) (b := []) (ps := ps) (by have := H5.out; omega : 5 ≤ k) (by have := H5.out; omega) H1.out H2.out (fun q => by rw [KN.out] at q; cases q) AT.out.1 AT.out.2)
      rw [← HJ.out] at JO FT
      rw [← HXX.out] at JO
      clear hqs own3 on3
      (with_reducible refine JO.out.mono ?_)
      rintro e w4 ⟨rfl, o4⟩
      have O4 := Lib.hid (O3.out.trans o4)
      clear o4 JO
      by_cases hg : 65536 < J.length + 3
      · have y1 : ((65536 : Int) < (Y3.size : Int)) = True := eq_true (by rw [HZ3.out]; omega)
        have HF := Lib.hid (show mkT k n [] ps = [] from by
          rw [FT.out, if_neg (by simp only [List.length_cons, List.length_append, List.length_nil]; omega)])
        clear hg
        go_wp2_with fail
        go_ret
        exact ⟨O4.out, by rw [HF.out]; rfl⟩
      · have y1 : ((65536 : Int) < (Y3.size : Int)) = False := eq_false (by rw [HZ3.out]; omega)
        have HF := Lib.hid (show mkT k n [] ps = letter k :: 40 :: (J ++ [41]) from by
          rw [FT.out, if_pos (by simp only [List.length_cons, List.length_append, List.length_nil]; omega)])
        clear hg
        go_wp2_with fail
        go_ret
        exact ⟨O4.out, by rw [HF.out, ← HTX.out]; rfl⟩
end Go.Proofs.Ytbjnejnjlidiaaa.prS
namespace Go.Proofs.Ytbjnejnjlidiaaa.prS
open Go.RowKit kit numA numB numC numD numE numF tmA tmB tmC tmD tmE srcA trA trB prA prC prR shJ
set_option linter.unusedVariables false
set_option linter.unusedSimpArgs false

set_option maxRecDepth 100000 in
set_option maxHeartbeats 3200000 in
theorem build_6 (k n : Nat) (ps : List Txt) (S : Nat → Prop) (lv : Value) (w : World) (h5 : k = 6) (hn : n ≤ most) (hsl : Sl w S lv (ps.map sv)) (hpl : ∀ p ∈ ps, p.length ≤ 100000000) (hlen : ps.length ≤ 1000000) : Calls Try.prog 108 #[shv k, .string ⟨#[letter k]⟩, .int .u64 n, lv] w (Made w (mkT k n [] ps)) := by
  have k5 : 5 ≤ k ∧ k ≤ 11 := by omega
  obtain ⟨a, m, cap, rfl⟩ : ∃ a m cap, lv = .slice a m cap := by
    obtain ⟨_, a, cap, h, _⟩ := hsl
    exact ⟨a, _, cap, h⟩
  obtain rfl := sl_len hsl
  obtain ⟨W1, hW1⟩ : ∃ W, W = w.alloc (.cells #[.int .i64 (least k : Nat), .int .i64 (mostk k : Nat), .bool (numbered k), .int .u64 (lowk k : Nat), .int .u64 (highk k : Nat), .bool (k == 6)] 134) := ⟨_, rfl⟩
  have o1 : Only (fun _ => False) w W1 := by rw [hW1]; exact (Only.refl _ w).alloc _
  have HB := Lib.hid (show Box6 W1 w.heap.size k from by rw [hW1]; exact heap_alloc_new w _)
  have HSL := Lib.hid (hsl.keep o1 fun _ _ h => h)
  have O1 := Lib.hid o1
  have KN := Lib.hid (show numbered k = false from by obtain rfl := h5 <;> decide)
  have K6 := Lib.hid (show (k == 6) = true from by obtain rfl := h5 <;> decide)
  have HMK := Lib.hid (mkT_br (n := n) (b := []) (ps := ps) k5.1 k5.2)
  have HN := Lib.hid hn
  have HPL := Lib.hid hpl
  have HLEN := Lib.hid hlen
  have HW := Lib.hid hW1
  have H5 := Lib.hid h5
  obtain ⟨c0, c1, c2, c3, c4, c5⟩ := HB.out.cells
  rw [KN.out] at c2
  rw [K6.out] at c5
  rw [hW1] at c0 c1 c2 c3 c4 c5
  clear hsl o1 h5 hn hpl hlen hW1 k5
  unfold shv
  obtain ⟨LT, hLT⟩ : ∃ LT, LT = (⟨#[letter k]⟩ : ByteArray) := ⟨_, rfl⟩
  rw [← hLT]
  have HLT := Lib.hid hLT
  clear hLT
  by_cases h1 : ps.length < least k
  · have HF := Lib.hid (show mkT k n [] ps = [] from by rw [HMK.out, if_neg (fun q => by have := q.1; omega)])
    have g1 : ((ps.length : Int) < (least k : Int)) = True := eq_true (by omega)
    clear h1
    go_enter Try.func108, Try.ntmps108
    go_wp2_with fail
    go_ret
    exact ⟨(Only.refl _ w).alloc _, by rw [HF.out]; rfl⟩
  have g1 : ((ps.length : Int) < (least k : Int)) = False := eq_false (by omega)
  have H1 := Lib.hid h1
  clear h1
  by_cases h2 : mostk k < ps.length
  · have HF := Lib.hid (show mkT k n [] ps = [] from by rw [HMK.out, if_neg (fun q => by have := q.2.1; omega)])
    have g2 : ((mostk k : Int) < (ps.length : Int)) = True := eq_true (by omega)
    clear h2
    go_enter Try.func108, Try.ntmps108
    go_wp2_with fail
    go_ret
    exact ⟨(Only.refl _ w).alloc _, by rw [HF.out]; rfl⟩
  have g2 : ((mostk k : Int) < (ps.length : Int)) = False := eq_false (by omega)
  have H2 := Lib.hid h2
  clear h2
  go_enter Try.func108, Try.ntmps108
  go_wp2_with fail
  rw [← HW.out]
  clear c0 c1 c2 c3 c4 c5
  generalize w.heap.size = B at HB ⊢
  go_loopw [9, 11, 44] (fun sz _ i wr => ∃ j : Nat, i = .int .i64 j ∧ sz = .int .i64 (total (ps.take j) : Nat) ∧ BR W1 ps j wr) (fun _ _ i _ => ps.length - (Lib.intOf i).toNat)
  case atStart => exact ⟨0, rfl, rfl, Nat.zero_le _, Nat.zero_le _, by simp, Only.refl _ W1⟩
  case round =>
    obtain ⟨j, rfl, rfl, hB⟩ := hrel
    have BRH := Lib.hid hB
    by_cases hj : j < ps.length
    · obtain ⟨g, o, rfl, hS, hgl, hc⟩ := sl_get (HSL.out.keep hB.only fun _ _ h => h) j hj
      obtain ⟨p, hp⟩ : ∃ p, p = ps.getD j [] := ⟨_, rfl⟩
      rw [← hp] at hc
      obtain ⟨tt, htt⟩ : ∃ tt, tt = total (ps.take j) := ⟨_, rfl⟩
      rw [← htt]
      have hc' : wr.cell? ⟨g, o + j, none⟩ = some (.string ⟨p.toArray⟩) := hc
      have k0 : (0 : Int) ≤ (j : Int) := by omega
      have k1 : (j : Int) < (ps.length : Int) := by omega
      have hsz : ((⟨p.toArray⟩ : ByteArray).size : Int) = (p.length : Int) := by simp [ByteArray.size]
      have hpm : p ∈ ps := by
        rw [hp, show ps.getD j [] = ps[j] by simp [hj]]
        exact List.getElem_mem _
      have KA := Lib.hid (kind_any ⟨p.toArray⟩ wr (by have := HPL.out p hpm; simp [ByteArray.size]; omega))
      rw [show (⟨p.toArray⟩ : ByteArray).data.toList = p from rfl] at KA
      have wa : wrap64 ((tt : Int) + (p.length : Int)) = (tt : Int) + (p.length : Int) := IntWalk.wrap64_in _ (by have := HPL.out p hpm; have := hB.sm; omega)
      have wj : wrap64 ((j : Int) + 1) = (j : Int) + 1 := IntWalk.wrap64_in _ (by have := HLEN.out; omega)
      have HP := Lib.hid hp
      have HT := Lib.hid htt
      have HJ := Lib.hid hj
      have HPM := Lib.hid hpm
      clear hB hc hp htt hj hS hgl hpm
      by_cases hq : 65536 < tt + p.length
      · have q1 : ((65536 : Int) < (tt : Int) + (p.length : Int)) = True := eq_true (by omega)
        have HF := Lib.hid (show mkT k n [] ps = [] from by
          rw [HMK.out, if_neg (fun q => by
            have h1 := q.2.2.2.2.1
            have h2 := total_take ps (j + 1)
            rw [total_succ HJ.out, ← HT.out, ← HP.out] at h2
            omega)])
        clear hq
        go_wp2_with fail
        go_ret
        exact ⟨O1.out.trans BRH.out.only, by rw [HF.out]; rfl⟩
      have q1 : ((65536 : Int) < (tt : Int) + (p.length : Int)) = False := eq_false (by omega)
      have HQ := Lib.hid hq
      clear hq
      go_wp2_with fail
      refine KA.out.mono ?_
      rintro e w' ⟨rfl, o'⟩
      have O2 := Lib.hid o'
      clear o' KA
      by_cases hz : (trJ.ndOf p).k = 0
      · have z1 : (((trJ.ndOf p).k : Int) == 0) = true := by rw [beq_iff_eq]; omega
        have HF := Lib.hid (show mkT k n [] ps = [] from by
          rw [HMK.out, if_neg (fun q => absurd hz ((isT_kind p).1 (q.2.2.2.1 p HPM.out)))])
        clear hz
        go_wp2_with fail
        go_ret
        exact ⟨(O1.out.trans BRH.out.only).trans O2.out, by rw [HF.out]; rfl⟩
      have z1 : (((trJ.ndOf p).k : Int) == 0) = false := by rw [beq_eq_false_iff_ne]; omega
      have HZ := Lib.hid hz
      clear hz
      go_wp2_with fail
      go_roundw
      case rel =>
        refine ⟨j + 1, by rw [wj]; rfl, ?_, BRH.out.next HJ.out (by rw [← HT.out, ← HP.out]; have := HQ.out; omega) ((isT_kind _).2 (by rw [← HP.out]; exact HZ.out)) O2.out⟩
        rw [total_succ HJ.out, ← HT.out, ← HP.out]
        rfl
      case measure =>
        rw [wj]
        have := HJ.out
        simp only [Lib.intOf]
        omega
    · obtain rfl : j = ps.length := by have := BRH.out.le; omega
      have j1 : ((ps.length : Int) < (ps.length : Int)) = False := eq_false (by omega)
      have AT := Lib.hid (show (∀ p ∈ ps, isT p = true) ∧ total ps ≤ 65536 from by
        have h1 := BRH.out.all
        have h2 := BRH.out.sm
        rw [List.take_length] at h1 h2
        exact ⟨h1, h2⟩)
      obtain ⟨J, hJ⟩ : ∃ J, J = join (qsOf k n ps) := ⟨_, rfl⟩
      have HJ := Lib.hid hJ
      have hjl : J.length ≤ 100000000 := by
        have h1 := join_le (qsOf k n ps)
        have h2 := AT.out.2
        have h3 := HLEN.out
        have h4 : total (qsOf k n ps) + (qsOf k n ps).length ≤ total ps + ps.length + 22 := by
          unfold qsOf
          rw [total_app, List.length_append, srt_len, total_srt]
          split
          · have := dec_len 19 n (by have := HN.out; unfold most at this; omega)
            simp [total]
            omega
          · simp [total]
        rw [← hJ] at h1
        omega
      clear hJ
      obtain ⟨X, hX⟩ : ∃ X, X = (⟨J.toArray⟩ : ByteArray) := ⟨_, rfl⟩
      obtain ⟨Y1, hY1⟩ : ∃ Y, Y = LT ++ ⟨#[40]⟩ := ⟨_, rfl⟩
      obtain ⟨Y2, hY2⟩ : ∃ Y, Y = Y1 ++ X := ⟨_, rfl⟩
      obtain ⟨Y3, hY3⟩ : ∃ Y, Y = Y2 ++ ⟨#[41]⟩ := ⟨_, rfl⟩
      have HTX := Lib.hid (show Y3 = (⟨(letter k :: 40 :: (J ++ [41])).toArray⟩ : ByteArray) from by
        rw [hY3, hY2, hY1, hX, HLT.out]
        exact ByteArray.ext (by simp))
      have zX : X.size = J.length := by rw [hX]; simp [ByteArray.size]
      have zL : LT.size = 1 := by rw [HLT.out]; rfl
      have z40 : (⟨#[40]⟩ : ByteArray).size = 1 := rfl
      have z41 : (⟨#[41]⟩ : ByteArray).size = 1 := rfl
      have z1 : Y1.size = 2 := by rw [hY1, ByteArray.size_append, zL, z40]
      have z2 : Y2.size = J.length + 2 := by rw [hY2, ByteArray.size_append, z1, zX]; omega
      have z3 : Y3.size = J.length + 3 := by rw [hY3, ByteArray.size_append, z2, z41]
      have A1 := fun W => run_string_add_sum (P := Try.prog) W LT ⟨#[40]⟩ (by rw [zL, z40]; omega)
      have A2 := fun W => run_string_add_sum (P := Try.prog) W Y1 X (by rw [z1, zX]; omega)
      have A3 := fun W => run_string_add_sum (P := Try.prog) W Y2 ⟨#[41]⟩ (by rw [z2, z41]; omega)
      rw [← hY1] at A1
      rw [← hY2] at A2
      rw [← hY3] at A3
      have HXX := Lib.hid hX
      have HZ3 := Lib.hid z3
      clear hX hY1 hY2 hY3 zX zL z40 z41 z1 z2 z3 hjl
      have wl : wrap64 ((ps.length : Int) + 1) = (ps.length : Int) + 1 := IntWalk.wrap64_in _ (by have := HLEN.out; omega)
      obtain ⟨i0, hi0, hz0, hz1, hz2⟩ := trC.info_parts trC.info9
      obtain ⟨W2, hmk, hown0, hg0⟩ := run_make_own (P := Try.prog) wr wr.heap.size 25 9 i0 _ 1 Try.underlying25 hi0 hz0 hz1 .i64 .i64 (ps.length + 1) (by rw [hz2]; have := HLEN.out; omega) (by have := HLEN.out; unfold maxLen; omega) (Nat.le_refl _)
      rw [show ((ps.length + 1 : Nat) : Int) = (ps.length : Int) + 1 from Int.natCast_add _ _] at hmk
      have OW := Lib.hid (BRH.out.only.grown hg0 fun k h => by cases h)
      have HB2 := HB.out.keepS OW.out id
      have SL2 := Lib.hid (HSL.out.keep OW.out fun _ _ h => h)
      obtain ⟨c0, c1, c2, c3, c4, c5⟩ := HB2.cells
      rw [KN.out] at c2
      rw [K6.out] at c5
      have OWN := Lib.hid (show W2.ownsRow w.heap.size 9 1 (.slice (some ⟨wr.heap.size, 0, none⟩) 0 (ps.length + 1)) 0 ([].map sv) from owns_base hown0 (by have := (O1.out.trans BRH.out.only).size; omega))
      have OWR := Lib.hid (show W2.ownsRow wr.heap.size 9 1 (.slice (some ⟨wr.heap.size, 0, none⟩) 0 (ps.length + 1)) 0 ([].map sv) from hown0)
      have WRB := Lib.hid (show wr.heap.size ≤ W2.heap.size from hg0.size)
      have WRS := Lib.hid (show w.heap.size ≤ W2.heap.size from ((O1.out.trans OW.out)).size)
      clear hB hj HB2 hown0 hg0 hi0 hz0 hz1 hz2
      have LEN2 := Lib.hid (show ps.length = 2 from by
        have a1 := H1.out
        have a2 := H2.out
        have a3 := H5.out
        rw [a3] at a1 a2
        have q1 : least 6 = 2 := by decide
        have q2 : mostk 6 = 2 := by decide
        omega)
      obtain ⟨pa, pb, hpp⟩ : ∃ pa pb, ps = [pa, pb] := ⟨_, _, two_of LEN2.out⟩
      obtain ⟨ga, oa, hae, hS, hgl, hx0⟩ := sl_get SL2.out 0 (by have := LEN2.out; omega)
      obtain ⟨ga', oa', hae', hS', hgl', hx1⟩ := sl_get SL2.out 1 (by have := LEN2.out; omega)
      subst hae
      injection hae' with q
      injection q with q q'
      subst q q'
      have x0 : W2.cell? ⟨ga, oa, none⟩ = some (.string ⟨pa.toArray⟩) := by rw [hpp] at hx0; exact hx0
      have x1 : W2.cell? ⟨ga, oa + 1, none⟩ = some (.string ⟨pb.toArray⟩) := by rw [hpp] at hx1; exact hx1
      have y0 : (0 : Int) < (ps.length : Int) := by have := LEN2.out; omega
      have y1 : (1 : Int) < (ps.length : Int) := by have := LEN2.out; omega
      have y0n : 0 < ps.length := by have := LEN2.out; omega
      have y1n : 1 < ps.length := by have := LEN2.out; omega
      have HGT := Lib.hid (show gt pa pb = !(Op.bytesLess (ByteArray.toList ⟨pa.toArray⟩) (ByteArray.toList ⟨pb.toArray⟩) || ByteArray.toList ⟨pa.toArray⟩ == ByteArray.toList ⟨pb.toArray⟩) from by
        rw [byteArray_toList, byteArray_toList]
        rfl)
      have HPP := Lib.hid hpp
      obtain ⟨sa, hsa⟩ : ∃ sa : ByteArray, sa = ⟨pa.toArray⟩ := ⟨_, rfl⟩
      obtain ⟨sb, hsb⟩ : ∃ sb : ByteArray, sb = ⟨pb.toArray⟩ := ⟨_, rfl⟩
      rw [← hsa, ← hsb] at HGT
      rw [← hsa] at x0
      rw [← hsb] at x1
      have HSA := Lib.hid hsa
      have HSB := Lib.hid hsb
      clear hsa hsb hpp hx0 hx1 hS hS' hgl hgl'
      go_wp2_with fail
      go_quiet (fail)
      cases hA : Op.bytesLess sa.toList sb.toList <;> cases hB : (sa.toList == sb.toList)
      · have HG := Lib.hid (show gt pa pb = true from by rw [HGT.out, hA, hB]; rfl)
        go_wp2_with fail
        have OD := Lib.hid ((Only.refl (fun _ => False) W2).drewN nq)
        have OX7 := Lib.hid (trC.owns_keep (trC.owns_keep OWN.out OD.out) (Only.drew (Only.refl (fun _ => False) (W2.drewN nq))))
        obtain ⟨i0, hi0, hz0, hz1, hz2⟩ := trC.info_parts trC.info9
        have hWS := WRS.out
        go_region_law (first
          | (refine step_append_lies _ (by rfl) _ _ _ (by rfl) w.heap.size 9 i0 _ 1 16 Try.underlying25 hi0 hz0 hz1 hz2 rfl (by omega) _ 0 ([].map sv) (by rfl) (OX7.out.alloc _) ⟨_, 0, none⟩ 2 2 [.string sb, .string sa] (by rfl) (by rfl) (World.news_of_block (cs := #[.string sb, .string sa]) (t := 9) (fr := (0, 0)) (heap_alloc_new _ _)) (by simp [Value.oneCell']) (by omega) (by unfold maxLen; omega) (by omega) (by simp; omega) _ rfl ?_; intro g' cp W3 own3 hgrow9 hat9 hlt9))
        all_goals
          have hqs : qsOf k n ps = [pb, pa] := by
            rw [qsOf, KN.out, if_neg (by decide), List.nil_append, HPP.out, H5.out, srt_two, HG.out]
            rfl
          have on3 : Only (fun _ => False) w W3 := Only.grownNew (((O1.out.trans OW.out).trans OD.out).drew.alloc _) hgrow9 fun b q => by
            have := (OX7.out.lt b q).1
            omega
          clear hgrow9 hat9 hlt9 hi0 hz0 hz1 hz2 hWS
          go_wp2_with fail
          have OWQ := Lib.hid (show W3.ownsRow w.heap.size 9 1 (.slice (some ⟨g', 0, none⟩) (2) cp) (2) ((qsOf k n ps).map sv) from by
            rw [hqs]
            simpa [HSA.out, HSB.out, sv] using own3)
          have JO := Lib.hid (join_own OWQ.out (by rw [hqs]; have := AT.out.2; have := HLEN.out; (have e : total [pb, pa] = total ps := by rw [HPP.out]; simp [total]; omega); rw [e]; simp only [List.length_cons, List.length_nil]; omega))
          have O3 := Lib.hid (show Only (fun _ => False) w W3 from on3)
          have FT := Lib.hid (fin_text (n := n) (b := []) (ps := ps) (by have := H5.out; omega : 5 ≤ k) (by have := H5.out; omega) H1.out H2.out (fun q => by rw [KN.out] at q; cases q) AT.out.1 AT.out.2)
          rw [← HJ.out] at JO FT
          rw [← HXX.out] at JO
          clear hqs own3 on3
          (with_reducible refine JO.out.mono ?_)
          rintro e w4 ⟨rfl, o4⟩
          have O4 := Lib.hid (O3.out.trans o4)
          clear o4 JO
          by_cases hg : 65536 < J.length + 3
          · have y1 : ((65536 : Int) < (Y3.size : Int)) = True := eq_true (by rw [HZ3.out]; omega)
            have HF := Lib.hid (show mkT k n [] ps = [] from by
              rw [FT.out, if_neg (by simp only [List.length_cons, List.length_append, List.length_nil]; omega)])
            clear hg
            go_wp2_with fail
            go_ret
            exact ⟨O4.out, by rw [HF.out]; rfl⟩
          · have y1 : ((65536 : Int) < (Y3.size : Int)) = False := eq_false (by rw [HZ3.out]; omega)
            have HF := Lib.hid (show mkT k n [] ps = letter k :: 40 :: (J ++ [41]) from by
              rw [FT.out, if_pos (by simp only [List.length_cons, List.length_append, List.length_nil]; omega)])
            clear hg
            go_wp2_with fail
            go_ret
            exact ⟨O4.out, by rw [HF.out, ← HTX.out]; rfl⟩
      · have HG := Lib.hid (show gt pa pb = false from by rw [HGT.out, hA, hB]; rfl)
        have OD := Lib.hid ((Only.refl (fun _ => False) W2).drewN nq)
        obtain ⟨g', cp, W3, hap, own3, on3⟩ := add_all (trC.owns_keep OWN.out OD.out) (SL2.out.keep OD.out fun _ _ h => h) WRS.out (by omega) (by have := HLEN.out; omega)
        go_wp2_with (at_builtin; refine Lib.wpList_append_run _ rfl (.tmp 91) (.tmp 92) 25 25 rfl _ _ rfl rfl _ _ hap ?_)
        have hqs : qsOf k n ps = ps := by
          rw [qsOf, KN.out, if_neg (by decide), List.nil_append, HPP.out, H5.out, srt_two, HG.out]
          rfl
        have OWQ := Lib.hid (show W3.ownsRow w.heap.size 9 1 (.slice (some ⟨g', 0, none⟩) (ps.length) cp) (ps.length) ((qsOf k n ps).map sv) from by
          rw [hqs]
          simpa using own3)
        have JO := Lib.hid (join_own OWQ.out (by rw [hqs]; have := AT.out.2; have := HLEN.out; omega))
        have O3 := Lib.hid (show Only (fun _ => False) w W3 from on3 w ((O1.out.trans OW.out).trans OD.out) (Nat.le_refl _))
        have FT := Lib.hid (fin_text (n := n) (b := []) (ps := ps) (by have := H5.out; omega : 5 ≤ k) (by have := H5.out; omega) H1.out H2.out (fun q => by rw [KN.out] at q; cases q) AT.out.1 AT.out.2)
        rw [← HJ.out] at JO FT
        rw [← HXX.out] at JO
        clear hqs own3 on3
        (with_reducible refine JO.out.mono ?_)
        rintro e w4 ⟨rfl, o4⟩
        have O4 := Lib.hid (O3.out.trans o4)
        clear o4 JO
        by_cases hg : 65536 < J.length + 3
        · have y1 : ((65536 : Int) < (Y3.size : Int)) = True := eq_true (by rw [HZ3.out]; omega)
          have HF := Lib.hid (show mkT k n [] ps = [] from by
            rw [FT.out, if_neg (by simp only [List.length_cons, List.length_append, List.length_nil]; omega)])
          clear hg
          go_wp2_with fail
          go_ret
          exact ⟨O4.out, by rw [HF.out]; rfl⟩
        · have y1 : ((65536 : Int) < (Y3.size : Int)) = False := eq_false (by rw [HZ3.out]; omega)
          have HF := Lib.hid (show mkT k n [] ps = letter k :: 40 :: (J ++ [41]) from by
            rw [FT.out, if_pos (by simp only [List.length_cons, List.length_append, List.length_nil]; omega)])
          clear hg
          go_wp2_with fail
          go_ret
          exact ⟨O4.out, by rw [HF.out, ← HTX.out]; rfl⟩
      · have HG := Lib.hid (show gt pa pb = false from by rw [HGT.out, hA, hB]; rfl)
        have OD := Lib.hid ((Only.refl (fun _ => False) W2).drewN nq)
        obtain ⟨g', cp, W3, hap, own3, on3⟩ := add_all (trC.owns_keep OWN.out OD.out) (SL2.out.keep OD.out fun _ _ h => h) WRS.out (by omega) (by have := HLEN.out; omega)
        go_wp2_with (at_builtin; refine Lib.wpList_append_run _ rfl (.tmp 91) (.tmp 92) 25 25 rfl _ _ rfl rfl _ _ hap ?_)
        have hqs : qsOf k n ps = ps := by
          rw [qsOf, KN.out, if_neg (by decide), List.nil_append, HPP.out, H5.out, srt_two, HG.out]
          rfl
        have OWQ := Lib.hid (show W3.ownsRow w.heap.size 9 1 (.slice (some ⟨g', 0, none⟩) (ps.length) cp) (ps.length) ((qsOf k n ps).map sv) from by
          rw [hqs]
          simpa using own3)
        have JO := Lib.hid (join_own OWQ.out (by rw [hqs]; have := AT.out.2; have := HLEN.out; omega))
        have O3 := Lib.hid (show Only (fun _ => False) w W3 from on3 w ((O1.out.trans OW.out).trans OD.out) (Nat.le_refl _))
        have FT := Lib.hid (fin_text (n := n) (b := []) (ps := ps) (by have := H5.out; omega : 5 ≤ k) (by have := H5.out; omega) H1.out H2.out (fun q => by rw [KN.out] at q; cases q) AT.out.1 AT.out.2)
        rw [← HJ.out] at JO FT
        rw [← HXX.out] at JO
        clear hqs own3 on3
        (with_reducible refine JO.out.mono ?_)
        rintro e w4 ⟨rfl, o4⟩
        have O4 := Lib.hid (O3.out.trans o4)
        clear o4 JO
        by_cases hg : 65536 < J.length + 3
        · have y1 : ((65536 : Int) < (Y3.size : Int)) = True := eq_true (by rw [HZ3.out]; omega)
          have HF := Lib.hid (show mkT k n [] ps = [] from by
            rw [FT.out, if_neg (by simp only [List.length_cons, List.length_append, List.length_nil]; omega)])
          clear hg
          go_wp2_with fail
          go_ret
          exact ⟨O4.out, by rw [HF.out]; rfl⟩
        · have y1 : ((65536 : Int) < (Y3.size : Int)) = False := eq_false (by rw [HZ3.out]; omega)
          have HF := Lib.hid (show mkT k n [] ps = letter k :: 40 :: (J ++ [41]) from by
            rw [FT.out, if_pos (by simp only [List.length_cons, List.length_append, List.length_nil]; omega)])
          clear hg
          go_wp2_with fail
          go_ret
          exact ⟨O4.out, by rw [HF.out, ← HTX.out]; rfl⟩
      · have HG := Lib.hid (show gt pa pb = false from by rw [HGT.out, hA, hB]; rfl)
        have OD := Lib.hid ((Only.refl (fun _ => False) W2).drewN nq)
        obtain ⟨g', cp, W3, hap, own3, on3⟩ := add_all (trC.owns_keep OWN.out OD.out) (SL2.out.keep OD.out fun _ _ h => h) WRS.out (by omega) (by have := HLEN.out; omega)
        go_wp2_with (at_builtin; refine Lib.wpList_append_run _ rfl (.tmp 91) (.tmp 92) 25 25 rfl _ _ rfl rfl _ _ hap ?_)
        have hqs : qsOf k n ps = ps := by
          rw [qsOf, KN.out, if_neg (by decide), List.nil_append, HPP.out, H5.out, srt_two, HG.out]
          rfl
        have OWQ := Lib.hid (show W3.ownsRow w.heap.size 9 1 (.slice (some ⟨g', 0, none⟩) (ps.length) cp) (ps.length) ((qsOf k n ps).map sv) from by
          rw [hqs]
          simpa using own3)
        have JO := Lib.hid (join_own OWQ.out (by rw [hqs]; have := AT.out.2; have := HLEN.out; omega))
        have O3 := Lib.hid (show Only (fun _ => False) w W3 from on3 w ((O1.out.trans OW.out).trans OD.out) (Nat.le_refl _))
        have FT := Lib.hid (fin_text (n := n) (b := []) (ps := ps) (by have := H5.out; omega : 5 ≤ k) (by have := H5.out; omega) H1.out H2.out (fun q => by rw [KN.out] at q; cases q) AT.out.1 AT.out.2)
        rw [← HJ.out] at JO FT
        rw [← HXX.out] at JO
        clear hqs own3 on3
        (with_reducible refine JO.out.mono ?_)
        rintro e w4 ⟨rfl, o4⟩
        have O4 := Lib.hid (O3.out.trans o4)
        clear o4 JO
        by_cases hg : 65536 < J.length + 3
        · have y1 : ((65536 : Int) < (Y3.size : Int)) = True := eq_true (by rw [HZ3.out]; omega)
          have HF := Lib.hid (show mkT k n [] ps = [] from by
            rw [FT.out, if_neg (by simp only [List.length_cons, List.length_append, List.length_nil]; omega)])
          clear hg
          go_wp2_with fail
          go_ret
          exact ⟨O4.out, by rw [HF.out]; rfl⟩
        · have y1 : ((65536 : Int) < (Y3.size : Int)) = False := eq_false (by rw [HZ3.out]; omega)
          have HF := Lib.hid (show mkT k n [] ps = letter k :: 40 :: (J ++ [41]) from by
            rw [FT.out, if_pos (by simp only [List.length_cons, List.length_append, List.length_nil]; omega)])
          clear hg
          go_wp2_with fail
          go_ret
          exact ⟨O4.out, by rw [HF.out, ← HTX.out]; rfl⟩
end Go.Proofs.Ytbjnejnjlidiaaa.prS
namespace Go.Proofs.Ytbjnejnjlidiaaa.prS
open Go.RowKit kit numA numB numC numD numE numF tmA tmB tmC tmD tmE srcA trA trB prA prC prR shJ
set_option linter.unusedVariables false
set_option linter.unusedSimpArgs false

set_option maxRecDepth 100000 in
set_option maxHeartbeats 3200000 in
theorem build_n (k n : Nat) (ps : List Txt) (S : Nat → Prop) (lv : Value) (w : World) (h5 : k = 8 ∨ k = 10) (hn : n ≤ most) (hsl : Sl w S lv (ps.map sv)) (hpl : ∀ p ∈ ps, p.length ≤ 100000000) (hlen : ps.length ≤ 1000000) : Calls Try.prog 108 #[shv k, .string ⟨#[letter k]⟩, .int .u64 n, lv] w (Made w (mkT k n [] ps)) := by
  have k5 : 5 ≤ k ∧ k ≤ 11 := by omega
  obtain ⟨a, m, cap, rfl⟩ : ∃ a m cap, lv = .slice a m cap := by
    obtain ⟨_, a, cap, h, _⟩ := hsl
    exact ⟨a, _, cap, h⟩
  obtain rfl := sl_len hsl
  obtain ⟨W1, hW1⟩ : ∃ W, W = w.alloc (.cells #[.int .i64 (least k : Nat), .int .i64 (mostk k : Nat), .bool (numbered k), .int .u64 (lowk k : Nat), .int .u64 (highk k : Nat), .bool (k == 6)] 134) := ⟨_, rfl⟩
  have o1 : Only (fun _ => False) w W1 := by rw [hW1]; exact (Only.refl _ w).alloc _
  have HB := Lib.hid (show Box6 W1 w.heap.size k from by rw [hW1]; exact heap_alloc_new w _)
  have HSL := Lib.hid (hsl.keep o1 fun _ _ h => h)
  have O1 := Lib.hid o1
  have KN := Lib.hid (show numbered k = true from by rcases h5 with rfl | rfl <;> decide)
  have K6 := Lib.hid (show (k == 6) = false from by rcases h5 with rfl | rfl <;> decide)
  have HMK := Lib.hid (mkT_br (n := n) (b := []) (ps := ps) k5.1 k5.2)
  have HN := Lib.hid hn
  have HPL := Lib.hid hpl
  have HLEN := Lib.hid hlen
  have HW := Lib.hid hW1
  have H5 := Lib.hid h5
  obtain ⟨c0, c1, c2, c3, c4, c5⟩ := HB.out.cells
  rw [KN.out] at c2
  rw [K6.out] at c5
  rw [hW1] at c0 c1 c2 c3 c4 c5
  clear hsl o1 h5 hn hpl hlen hW1 k5
  unfold shv
  obtain ⟨LT, hLT⟩ : ∃ LT, LT = (⟨#[letter k]⟩ : ByteArray) := ⟨_, rfl⟩
  rw [← hLT]
  have HLT := Lib.hid hLT
  clear hLT
  by_cases h1 : ps.length < least k
  · have HF := Lib.hid (show mkT k n [] ps = [] from by rw [HMK.out, if_neg (fun q => by have := q.1; omega)])
    have g1 : ((ps.length : Int) < (least k : Int)) = True := eq_true (by omega)
    clear h1
    go_enter Try.func108, Try.ntmps108
    go_wp2_with fail
    go_ret
    exact ⟨(Only.refl _ w).alloc _, by rw [HF.out]; rfl⟩
  have g1 : ((ps.length : Int) < (least k : Int)) = False := eq_false (by omega)
  have H1 := Lib.hid h1
  clear h1
  by_cases h2 : mostk k < ps.length
  · have HF := Lib.hid (show mkT k n [] ps = [] from by rw [HMK.out, if_neg (fun q => by have := q.2.1; omega)])
    have g2 : ((mostk k : Int) < (ps.length : Int)) = True := eq_true (by omega)
    clear h2
    go_enter Try.func108, Try.ntmps108
    go_wp2_with fail
    go_ret
    exact ⟨(Only.refl _ w).alloc _, by rw [HF.out]; rfl⟩
  have g2 : ((mostk k : Int) < (ps.length : Int)) = False := eq_false (by omega)
  have H2 := Lib.hid h2
  clear h2
  by_cases h3 : n < lowk k
  · have HF := Lib.hid (show mkT k n [] ps = [] from by rw [HMK.out, if_neg (fun q => by have := (q.2.2.1 KN.out).1; omega)])
    have g3 : ((n : Int) < (lowk k : Int)) = True := eq_true (by omega)
    clear h3
    go_enter Try.func108, Try.ntmps108
    go_wp2_with fail
    go_ret
    exact ⟨(Only.refl _ w).alloc _, by rw [HF.out]; rfl⟩
  have g3 : ((n : Int) < (lowk k : Int)) = False := eq_false (by omega)
  have H3 := Lib.hid h3
  clear h3
  by_cases h4 : highk k < n
  · have HF := Lib.hid (show mkT k n [] ps = [] from by rw [HMK.out, if_neg (fun q => by have := (q.2.2.1 KN.out).2; omega)])
    have g4 : ((highk k : Int) < (n : Int)) = True := eq_true (by omega)
    clear h4
    go_enter Try.func108, Try.ntmps108
    go_wp2_with fail
    go_ret
    exact ⟨(Only.refl _ w).alloc _, by rw [HF.out]; rfl⟩
  have g4 : ((highk k : Int) < (n : Int)) = False := eq_false (by omega)
  have HNR := Lib.hid (show lowk k ≤ n ∧ n ≤ highk k from by have := H3.out; omega)
  clear h4
  go_enter Try.func108, Try.ntmps108
  go_wp2_with fail
  rw [← HW.out]
  clear c0 c1 c2 c3 c4 c5
  generalize w.heap.size = B at HB ⊢
  go_loopw [9, 11, 44] (fun sz _ i wr => ∃ j : Nat, i = .int .i64 j ∧ sz = .int .i64 (total (ps.take j) : Nat) ∧ BR W1 ps j wr) (fun _ _ i _ => ps.length - (Lib.intOf i).toNat)
  case atStart => exact ⟨0, rfl, rfl, Nat.zero_le _, Nat.zero_le _, by simp, Only.refl _ W1⟩
  case round =>
    obtain ⟨j, rfl, rfl, hB⟩ := hrel
    have BRH := Lib.hid hB
    by_cases hj : j < ps.length
    · obtain ⟨g, o, rfl, hS, hgl, hc⟩ := sl_get (HSL.out.keep hB.only fun _ _ h => h) j hj
      obtain ⟨p, hp⟩ : ∃ p, p = ps.getD j [] := ⟨_, rfl⟩
      rw [← hp] at hc
      obtain ⟨tt, htt⟩ : ∃ tt, tt = total (ps.take j) := ⟨_, rfl⟩
      rw [← htt]
      have hc' : wr.cell? ⟨g, o + j, none⟩ = some (.string ⟨p.toArray⟩) := hc
      have k0 : (0 : Int) ≤ (j : Int) := by omega
      have k1 : (j : Int) < (ps.length : Int) := by omega
      have hsz : ((⟨p.toArray⟩ : ByteArray).size : Int) = (p.length : Int) := by simp [ByteArray.size]
      have hpm : p ∈ ps := by
        rw [hp, show ps.getD j [] = ps[j] by simp [hj]]
        exact List.getElem_mem _
      have KA := Lib.hid (kind_any ⟨p.toArray⟩ wr (by have := HPL.out p hpm; simp [ByteArray.size]; omega))
      rw [show (⟨p.toArray⟩ : ByteArray).data.toList = p from rfl] at KA
      have wa : wrap64 ((tt : Int) + (p.length : Int)) = (tt : Int) + (p.length : Int) := IntWalk.wrap64_in _ (by have := HPL.out p hpm; have := hB.sm; omega)
      have wj : wrap64 ((j : Int) + 1) = (j : Int) + 1 := IntWalk.wrap64_in _ (by have := HLEN.out; omega)
      have HP := Lib.hid hp
      have HT := Lib.hid htt
      have HJ := Lib.hid hj
      have HPM := Lib.hid hpm
      clear hB hc hp htt hj hS hgl hpm
      by_cases hq : 65536 < tt + p.length
      · have q1 : ((65536 : Int) < (tt : Int) + (p.length : Int)) = True := eq_true (by omega)
        have HF := Lib.hid (show mkT k n [] ps = [] from by
          rw [HMK.out, if_neg (fun q => by
            have h1 := q.2.2.2.2.1
            have h2 := total_take ps (j + 1)
            rw [total_succ HJ.out, ← HT.out, ← HP.out] at h2
            omega)])
        clear hq
        go_wp2_with fail
        go_ret
        exact ⟨O1.out.trans BRH.out.only, by rw [HF.out]; rfl⟩
      have q1 : ((65536 : Int) < (tt : Int) + (p.length : Int)) = False := eq_false (by omega)
      have HQ := Lib.hid hq
      clear hq
      go_wp2_with fail
      refine KA.out.mono ?_
      rintro e w' ⟨rfl, o'⟩
      have O2 := Lib.hid o'
      clear o' KA
      by_cases hz : (trJ.ndOf p).k = 0
      · have z1 : (((trJ.ndOf p).k : Int) == 0) = true := by rw [beq_iff_eq]; omega
        have HF := Lib.hid (show mkT k n [] ps = [] from by
          rw [HMK.out, if_neg (fun q => absurd hz ((isT_kind p).1 (q.2.2.2.1 p HPM.out)))])
        clear hz
        go_wp2_with fail
        go_ret
        exact ⟨(O1.out.trans BRH.out.only).trans O2.out, by rw [HF.out]; rfl⟩
      have z1 : (((trJ.ndOf p).k : Int) == 0) = false := by rw [beq_eq_false_iff_ne]; omega
      have HZ := Lib.hid hz
      clear hz
      go_wp2_with fail
      go_roundw
      case rel =>
        refine ⟨j + 1, by rw [wj]; rfl, ?_, BRH.out.next HJ.out (by rw [← HT.out, ← HP.out]; have := HQ.out; omega) ((isT_kind _).2 (by rw [← HP.out]; exact HZ.out)) O2.out⟩
        rw [total_succ HJ.out, ← HT.out, ← HP.out]
        rfl
      case measure =>
        rw [wj]
        have := HJ.out
        simp only [Lib.intOf]
        omega
    · obtain rfl : j = ps.length := by have := BRH.out.le; omega
      have j1 : ((ps.length : Int) < (ps.length : Int)) = False := eq_false (by omega)
      have AT := Lib.hid (show (∀ p ∈ ps, isT p = true) ∧ total ps ≤ 65536 from by
        have h1 := BRH.out.all
        have h2 := BRH.out.sm
        rw [List.take_length] at h1 h2
        exact ⟨h1, h2⟩)
      obtain ⟨J, hJ⟩ : ∃ J, J = join (qsOf k n ps) := ⟨_, rfl⟩
      have HJ := Lib.hid hJ
      have hjl : J.length ≤ 100000000 := by
        have h1 := join_le (qsOf k n ps)
        have h2 := AT.out.2
        have h3 := HLEN.out
        have h4 : total (qsOf k n ps) + (qsOf k n ps).length ≤ total ps + ps.length + 22 := by
          unfold qsOf
          rw [total_app, List.length_append, srt_len, total_srt]
          split
          · have := dec_len 19 n (by have := HN.out; unfold most at this; omega)
            simp [total]
            omega
          · simp [total]
        rw [← hJ] at h1
        omega
      clear hJ
      obtain ⟨X, hX⟩ : ∃ X, X = (⟨J.toArray⟩ : ByteArray) := ⟨_, rfl⟩
      obtain ⟨Y1, hY1⟩ : ∃ Y, Y = LT ++ ⟨#[40]⟩ := ⟨_, rfl⟩
      obtain ⟨Y2, hY2⟩ : ∃ Y, Y = Y1 ++ X := ⟨_, rfl⟩
      obtain ⟨Y3, hY3⟩ : ∃ Y, Y = Y2 ++ ⟨#[41]⟩ := ⟨_, rfl⟩
      have HTX := Lib.hid (show Y3 = (⟨(letter k :: 40 :: (J ++ [41])).toArray⟩ : ByteArray) from by
        rw [hY3, hY2, hY1, hX, HLT.out]
        exact ByteArray.ext (by simp))
      have zX : X.size = J.length := by rw [hX]; simp [ByteArray.size]
      have zL : LT.size = 1 := by rw [HLT.out]; rfl
      have z40 : (⟨#[40]⟩ : ByteArray).size = 1 := rfl
      have z41 : (⟨#[41]⟩ : ByteArray).size = 1 := rfl
      have z1 : Y1.size = 2 := by rw [hY1, ByteArray.size_append, zL, z40]
      have z2 : Y2.size = J.length + 2 := by rw [hY2, ByteArray.size_append, z1, zX]; omega
      have z3 : Y3.size = J.length + 3 := by rw [hY3, ByteArray.size_append, z2, z41]
      have A1 := fun W => run_string_add_sum (P := Try.prog) W LT ⟨#[40]⟩ (by rw [zL, z40]; omega)
      have A2 := fun W => run_string_add_sum (P := Try.prog) W Y1 X (by rw [z1, zX]; omega)
      have A3 := fun W => run_string_add_sum (P := Try.prog) W Y2 ⟨#[41]⟩ (by rw [z2, z41]; omega)
      rw [← hY1] at A1
      rw [← hY2] at A2
      rw [← hY3] at A3
      have HXX := Lib.hid hX
      have HZ3 := Lib.hid z3
      clear hX hY1 hY2 hY3 zX zL z40 z41 z1 z2 z3 hjl
      have wl : wrap64 ((ps.length : Int) + 1) = (ps.length : Int) + 1 := IntWalk.wrap64_in _ (by have := HLEN.out; omega)
      obtain ⟨i0, hi0, hz0, hz1, hz2⟩ := trC.info_parts trC.info9
      obtain ⟨W2, hmk, hown0, hg0⟩ := run_make_own (P := Try.prog) wr wr.heap.size 25 9 i0 _ 1 Try.underlying25 hi0 hz0 hz1 .i64 .i64 (ps.length + 1) (by rw [hz2]; have := HLEN.out; omega) (by have := HLEN.out; unfold maxLen; omega) (Nat.le_refl _)
      rw [show ((ps.length + 1 : Nat) : Int) = (ps.length : Int) + 1 from Int.natCast_add _ _] at hmk
      have OW := Lib.hid (BRH.out.only.grown hg0 fun k h => by cases h)
      have HB2 := HB.out.keepS OW.out id
      have SL2 := Lib.hid (HSL.out.keep OW.out fun _ _ h => h)
      obtain ⟨c0, c1, c2, c3, c4, c5⟩ := HB2.cells
      rw [KN.out] at c2
      rw [K6.out] at c5
      have OWN := Lib.hid (show W2.ownsRow w.heap.size 9 1 (.slice (some ⟨wr.heap.size, 0, none⟩) 0 (ps.length + 1)) 0 ([].map sv) from owns_base hown0 (by have := (O1.out.trans BRH.out.only).size; omega))
      have OWR := Lib.hid (show W2.ownsRow wr.heap.size 9 1 (.slice (some ⟨wr.heap.size, 0, none⟩) 0 (ps.length + 1)) 0 ([].map sv) from hown0)
      have WRB := Lib.hid (show wr.heap.size ≤ W2.heap.size from hg0.size)
      have WRS := Lib.hid (show w.heap.size ≤ W2.heap.size from ((O1.out.trans OW.out)).size)
      clear hB hj HB2 hown0 hg0 hi0 hz0 hz1 hz2
      go_wp2_with fail
      (with_reducible refine (print_any n _ HN.out).mono ?_)
      rintro e w3 ⟨rfl, o3⟩
      have OA := Lib.hid (o3.alloc (.cells #[.string ⟨(dec n).toArray⟩] 9))
      have OX := Lib.hid (show Only (fun _ => False) w (w3.alloc (.cells #[.string ⟨(dec n).toArray⟩] 9)) from (O1.out.trans OW.out).trans OA.out)
      clear o3
      obtain ⟨g1, cp1, W4, hap1, own4, on4⟩ := add_all (trC.owns_keep OWR.out OA.out) (sl_one w3 (dec n)) (by have := WRB.out; have := OA.out.size; omega) (by omega) (by simp)
      simp only [Nat.zero_add, List.map_nil, List.nil_append] at hap1 own4
      go_wp2_with (at_builtin; refine Lib.wpList_append_run _ rfl (.tmp 66) (.tmp 69) 25 25 rfl _ _ rfl rfl _ _ hap1 ?_)
      have O4 := Lib.hid (on4 w OX.out (O1.out.trans BRH.out.only).size)
      have OWN4 := Lib.hid own4
      have O14 := Lib.hid (show Only (fun _ => False) W1 W4 from on4 W1 (OW.out.trans OA.out) BRH.out.only.size)
      have HB4 := HB.out.keepS O14.out id
      have SL4 := Lib.hid (HSL.out.keep O14.out fun _ _ h => h)
      clear c0 c1 c2 c3 c4 c5
      obtain ⟨c0, c1, c2, c3, c4, c5⟩ := HB4.cells
      rw [KN.out] at c2
      rw [K6.out] at c5
      have OWS4 := Lib.hid (show wr.heap.size ≤ W4.heap.size from by have := (own4.lt g1 rfl).2; have := (own4.lt g1 rfl).1; omega)
      clear own4 on4 HB4 hap1
      go_wp2_with fail
      go_quiet (fail)
      have OD := Lib.hid ((Only.refl (fun _ => False) W4).drewN nq)
      obtain ⟨g', cp, W3, hap, own3, on3⟩ := add_all (trC.owns_keep OWN4.out OD.out) (SL4.out.keep OD.out fun _ _ h => h) OWS4.out (by omega) (by have := HLEN.out; omega)
      go_wp2_with (at_builtin; refine Lib.wpList_append_run _ rfl (.tmp 91) (.tmp 92) 25 25 rfl _ _ rfl rfl _ _ hap ?_)
      have hqs : qsOf k n ps = dec n :: ps := by
        rw [qsOf, if_pos KN.out, srt, if_neg (fun q => by have := K6.out; rw [q.1] at this; cases this)]
        rfl
      have OWQ := Lib.hid (show W3.ownsRow wr.heap.size 9 1 (.slice (some ⟨g', 0, none⟩) (1 + ps.length) cp) (1 + ps.length) ((qsOf k n ps).map sv) from by
        rw [hqs]
        simpa using own3)
      have JO := Lib.hid (join_own OWQ.out (by rw [hqs]; have := AT.out.2; have := HLEN.out; (have := dec_short HN.out; simp only [total, List.map_cons, List.sum_cons, List.length_cons] at *; omega)))
      have O3 := Lib.hid (show Only (fun _ => False) w W3 from on3 w (O4.out.trans OD.out) (O1.out.trans BRH.out.only).size)
      have FT := Lib.hid (fin_text (n := n) (b := []) (ps := ps) (by have := H5.out; omega : 5 ≤ k) (by have := H5.out; omega) H1.out H2.out (fun _ => HNR.out) AT.out.1 AT.out.2)
      rw [← HJ.out] at JO FT
      rw [← HXX.out] at JO
      clear hqs own3 on3
      (with_reducible refine JO.out.mono ?_)
      rintro e w4 ⟨rfl, o4⟩
      have O4 := Lib.hid (O3.out.trans o4)
      clear o4 JO
      by_cases hg : 65536 < J.length + 3
      · have y1 : ((65536 : Int) < (Y3.size : Int)) = True := eq_true (by rw [HZ3.out]; omega)
        have HF := Lib.hid (show mkT k n [] ps = [] from by
          rw [FT.out, if_neg (by simp only [List.length_cons, List.length_append, List.length_nil]; omega)])
        clear hg
        go_wp2_with fail
        go_ret
        exact ⟨O4.out, by rw [HF.out]; rfl⟩
      · have y1 : ((65536 : Int) < (Y3.size : Int)) = False := eq_false (by rw [HZ3.out]; omega)
        have HF := Lib.hid (show mkT k n [] ps = letter k :: 40 :: (J ++ [41]) from by
          rw [FT.out, if_pos (by simp only [List.length_cons, List.length_append, List.length_nil]; omega)])
        clear hg
        go_wp2_with fail
        go_ret
        exact ⟨O4.out, by rw [HF.out, ← HTX.out]; rfl⟩
end Go.Proofs.Ytbjnejnjlidiaaa.prS
namespace Go.Proofs.Ytbjnejnjlidiaaa.prW
open Go.RowKit kit numA numB numC numD numE numF numG numH tmA tmB tmC tmD tmE srcA trA trB prA prC prR prS shJ
set_option linter.unusedVariables false
set_option linter.unusedSimpArgs false

theorem find_no (k : Int) (h : k < 5 ∨ 11 < k) : Instr.findNow (.int .i64) (.int .i64 k) table.toList 0 = some none := by
  have e5 : ((k : Int) == 5) = false := by rw [beq_eq_false_iff_ne]; omega
  rcases MapKept.findNow_spec (d := .int .i64) (k := .int .i64 k) (by simp [MapKept.IsKey]) table.toList 0 (by simp [table, MapKept.IsKey]) with ⟨h1, _⟩ | ⟨j, e, h1, h2, h3⟩
  · exact h1
  · exfalso
    have hm := List.mem_of_getElem? h2
    simp only [table, List.mem_cons, List.not_mem_nil, or_false] at hm
    rcases hm with rfl | rfl | rfl | rfl | rfl | rfl | rfl <;> (simp at h3; omega)

theorem look_ok {w : World} {b k : Nat} (h : w.heap[b]? = some (.map table 7)) (h5 : 5 ≤ k) (h11 : k ≤ 11) : (Instr.lookup 136 (.map (some b)) (.int .i64 k) true).run Try.prog w = .ok (.tuple #[shv k, .bool true]) w := by
  have e : k = 5 ∨ k = 6 ∨ k = 7 ∨ k = 8 ∨ k = 9 ∨ k = 10 ∨ k = 11 := by omega
  rcases e with rfl | rfl | rfl | rfl | rfl | rfl | rfl
  · exact get_some (i := 0) (v := shv 5) h 5 rfl
  · exact get_some (i := 1) (v := shv 6) h 6 rfl
  · exact get_some (i := 2) (v := shv 7) h 7 rfl
  · exact get_some (i := 3) (v := shv 8) h 8 rfl
  · exact get_some (i := 4) (v := shv 9) h 9 rfl
  · exact get_some (i := 5) (v := shv 10) h 10 rfl
  · exact get_some (i := 6) (v := shv 11) h 11 rfl

theorem build_any (k n : Nat) (ps : List Txt) (S : Nat → Prop) (lv : Value) (w : World) (h5 : 5 ≤ k) (h11 : k ≤ 11) (hn : n ≤ most) (hsl : Sl w S lv (ps.map sv)) (hpl : ∀ p ∈ ps, p.length ≤ 100000000) (hlen : ps.length ≤ 1000000) : Calls Try.prog 108 #[shv k, .string ⟨#[letter k]⟩, .int .u64 n, lv] w (Made w (mkT k n [] ps)) := by
  have e : (k = 5 ∨ k = 7 ∨ k = 9 ∨ k = 11) ∨ (k = 8 ∨ k = 10) ∨ k = 6 := by omega
  rcases e with e | e | e
  · exact build_o k n ps S lv w e hn hsl hpl hlen
  · exact build_n k n ps S lv w e hn hsl hpl hlen
  · exact build_6 k n ps S lv w e hn hsl hpl hlen

/-- What is made; nothing of a kind that isn't there. -/
def mkI (k : Int) (n : Nat) (b : Txt) (ps : List Txt) : Txt := if 1 ≤ k ∧ k ≤ 11 then mkT k.toNat n b ps else []

theorem mkI_nat {k n : Nat} {b : Txt} {ps : List Txt} (h1 : 1 ≤ k) (h11 : k ≤ 11) : mkI k n b ps = mkT k n b ps := by
  rw [mkI, if_pos (by omega)]
  rfl

theorem mk_b {k n : Nat} {b : Txt} {ps : List Txt} (h5 : 5 ≤ k) (h11 : k ≤ 11) : mkT k n b ps = mkT k n [] ps := by
  rw [mk_br h5 h11, mk_br h5 h11]

set_option maxRecDepth 100000 in
set_option maxHeartbeats 2000000 in
theorem make_br (k n : Nat) (b : Txt) (ps : List Txt) (S : Nat → Prop) (bv lv : Value) (w : World) (h5 : 5 ≤ k) (h11 : k ≤ 11) (hn : n ≤ most) (hsl : Sl w S lv (ps.map sv)) (hpl : ∀ p ∈ ps, p.length ≤ 100000000) (hlen : ps.length ≤ 1000000) : Calls Try.prog 30 #[.int .i64 k, .int .u64 n, bv, lv] w (Made w (mkT k n b ps)) := by
  have HM := Lib.hid (mk_b (n := n) (b := b) (ps := ps) h5 h11)
  have H5 := Lib.hid (And.intro h5 h11)
  have HB := Lib.hid (fun (X : ByteArray) (hX : X = ⟨#[letter k]⟩) W (o : Only (fun _ => False) w W) => (show Calls Try.prog 108 #[.agg #[.int .i64 (least k : Nat), .int .i64 (mostk k : Nat), .bool (numbered k), .int .u64 (lowk k : Nat), .int .u64 (highk k : Nat), .bool (k == 6)], .string X, .int .u64 n, lv] W (Made W (mkT k n [] ps)) from by rw [hX]; exact build_any k n ps S lv W h5 h11 hn (hsl.keep (T := fun _ => False) o fun _ _ h => h) hpl hlen))
  have LK := fun (W : World) (g : Nat) (hg : W.heap[g]? = some (.map table 7)) => look_ok hg h5 h11
  unfold shv at LK
  have HLK := Lib.hid LK
  clear LK hn hsl hpl hlen
  generalize least k = A0 at HB HLK
  generalize mostk k = A1 at HB HLK
  generalize numbered k = A2 at HB HLK
  generalize lowk k = A3 at HB HLK
  generalize highk k = A4 at HB HLK
  generalize (k == 6) = A5 at HB HLK
  have e : k = 5 ∨ k = 6 ∨ k = 7 ∨ k = 8 ∨ k = 9 ∨ k = 10 ∨ k = 11 := by omega
  clear h5 h11
  rcases e with rfl | rfl | rfl | rfl | rfl | rfl | rfl
  all_goals
    go_enter Try.func30, Try.ntmps30
    go_wp2_with fail
    (with_reducible refine (shapes_any w).mono ?_)
    rintro e w1 ⟨g, rfl, hg, o1⟩
    have O1 := Lib.hid o1
    have LK := HLK.out _ _ hg
    first | simp only [Nat.cast_ofNat] at LK | simp only [Int.cast_ofNat_Int] at LK | simp only [Int.natCast_ofNat] at LK
    clear hg o1
    go_wp2_with fail
    have O2 := Lib.hid (O1.out.alloc (.cells #[.int .i64 (A0 : Nat), .int .i64 (A1 : Nat), .bool A2, .int .u64 (A3 : Nat), .int .u64 (A4 : Nat), .bool A5] 134))
    go_region_with ((go_at_call 108; (with_reducible refine (HB.out _ ?_ _ O2.out.drew).mono ?_); exact rfl; rintro e w3 ⟨o3, rfl⟩))
    all_goals
      have O3 := Lib.hid (O2.out.drew.trans o3)
      clear o3
      go_wp2_with fail
      go_ret
      exact ⟨O3.out, by rw [HM.out]; rfl⟩

theorem mkI_no {k : Int} {n : Nat} {b : Txt} {ps : List Txt} (h : k < 5 ∨ 11 < k) (hp : ps ≠ []) : mkI k n b ps = [] := by
  unfold mkI
  split
  · rename_i hk
    have e : k = 1 ∨ k = 2 ∨ k = 3 ∨ k = 4 := by omega
    rcases e with rfl | rfl | rfl | rfl
    · show mkT 1 n b ps = []
      rw [mkT, if_pos rfl, if_neg hp]
    · show mkT 2 n b ps = []
      rw [mkT, if_neg (by decide), if_pos rfl, if_neg (fun q => hp q.1)]
    · show mkT 3 n b ps = []
      rw [mkT, if_neg (by decide), if_neg (by decide), if_pos rfl, if_neg hp]
    · show mkT 4 n b ps = []
      rw [mkT, if_neg (by decide), if_neg (by decide), if_neg (by decide), if_pos rfl, if_neg (fun q => hp q.1)]
  · rfl

set_option maxRecDepth 100000 in
theorem make_full (k : Int) (n : Nat) (b : Txt) (ps : List Txt) (S : Nat → Prop) (bv lv : Value) (w : World) (h : k < 5 ∨ 11 < k) (hp : ps ≠ []) (hsl : Sl w S lv (ps.map sv)) : Calls Try.prog 30 #[.int .i64 k, .int .u64 n, bv, lv] w (Made w (mkI k n b ps)) := by
  obtain ⟨a, m, cap, rfl⟩ : ∃ a m cap, lv = .slice a m cap := by
    obtain ⟨_, a, cap, h, _⟩ := hsl
    exact ⟨a, _, cap, h⟩
  obtain rfl := sl_len hsl
  have HM := Lib.hid (mkI_no (n := n) (b := b) h hp)
  have HK := Lib.hid h
  have l1 : 0 < ps.length := List.length_pos_iff.2 hp
  clear h hp hsl
  go_enter Try.func30, Try.ntmps30
  go_wp2_with fail
  (with_reducible refine (shapes_any w).mono ?_)
  rintro e w1 ⟨g, rfl, hg, o1⟩
  have O1 := Lib.hid o1
  have LK := get_none hg k (find_no k HK.out)
  clear hg o1
  go_wp2_with fail
  go_ret
  exact ⟨O1.out.alloc _, by rw [HM.out]; rfl⟩

def emp (v : Value) : Prop := ∃ a c, v = .slice a 0 c

set_option maxRecDepth 100000 in
theorem make_leaf (k : Int) (n : Nat) (b : Txt) (T : Nat → Prop) (bv lv : Value) (w : World) (h : k < 5 ∨ 11 < k) (hn : n ≤ most) (hb : Sl w T bv (U8 b)) (hbl : b.length ≤ 100000000) (hsl : emp lv) : Calls Try.prog 30 #[.int .i64 k, .int .u64 n, bv, lv] w (Made w (mkI k n b [])) := by
  obtain ⟨a, cap, rfl⟩ := hsl
  obtain ⟨a', m', cap', rfl⟩ : ∃ a m cap, bv = .slice a m cap := by
    obtain ⟨_, a, cap, h, _⟩ := hb
    exact ⟨a, _, cap, h⟩
  obtain rfl : m' = b.length := by
    obtain ⟨_, a'', cap'', h, _⟩ := hb
    injection h with h1 h2 h3
    rw [U8_len] at h2
    omega
  have HB := Lib.hid (fun (W : World) (o : Only (fun _ => False) w W) => hex_any T _ b W (hb.keep o fun _ _ h => h) hbl)
  have HK := Lib.hid h
  have HN := Lib.hid hn
  have HBL := Lib.hid hbl
  have PN := Lib.hid (fun W => print_any n W hn)
  have dl : (⟨(dec n).toArray⟩ : ByteArray).size ≤ 20 := by have := dec_short hn; simpa [ByteArray.size] using this
  have hl : (⟨(hexs b).toArray⟩ : ByteArray).size = 2 * b.length := by rw [← hexs_len]; simp [ByteArray.size]
  have A1 := fun W => run_string_add_sum (P := Try.prog) W ⟨#[97]⟩ ⟨(dec n).toArray⟩ (by have : (⟨#[97]⟩ : ByteArray).size = 1 := rfl; omega)
  have A2 := fun W => run_string_add_sum (P := Try.prog) W ⟨#[110]⟩ ⟨(dec n).toArray⟩ (by have : (⟨#[110]⟩ : ByteArray).size = 1 := rfl; omega)
  have A3 := fun W => run_string_add_sum (P := Try.prog) W ⟨#[120]⟩ ⟨(hexs b).toArray⟩ (by have : (⟨#[120]⟩ : ByteArray).size = 1 := rfl; omega)
  clear hn hb hbl dl hl
  have key : k = 1 ∨ k = 2 ∨ k = 3 ∨ k = 4 ∨ (k ≠ 1 ∧ k ≠ 2 ∧ k ≠ 3 ∧ k ≠ 4) := by omega
  rcases key with rfl | rfl | rfl | rfl | hk
  · clear h
    go_enter Try.func30, Try.ntmps30
    go_wp2_with fail
    (with_reducible refine (shapes_any w).mono ?_)
    rintro e w1 ⟨g, rfl, hg, o1⟩
    have O1 := Lib.hid o1
    have LK := get_none hg 1 (find_no 1 HK.out)
    clear hg o1
    go_wp2_with fail
    go_ret
    exact ⟨O1.out.alloc _, rfl⟩
  · clear h
    by_cases hc : n ≤ 4294967295
    · have c1 : ((n : Int) ≤ 4294967295) = True := eq_true (by omega)
      have HM := Lib.hid (show mkI 2 n b [] = 97 :: dec n from by
        show mkT 2 n b [] = _
        rw [mkT, if_neg (by decide), if_pos rfl, if_pos ⟨rfl, hc⟩])
      clear hc
      go_enter Try.func30, Try.ntmps30
      go_wp2_with fail
      (with_reducible refine (shapes_any w).mono ?_)
      rintro e w1 ⟨g, rfl, hg, o1⟩
      have O1 := Lib.hid o1
      have LK := get_none hg 2 (find_no 2 HK.out)
      clear hg o1
      go_wp2_with fail
      (with_reducible refine (PN.out _).mono ?_)
      rintro e w2 ⟨rfl, o2⟩
      have O2 := Lib.hid ((O1.out.alloc _).trans o2)
      clear o2
      go_wp2_with fail
      go_ret
      exact ⟨O2.out, by rw [HM.out]; rfl⟩
    · have c1 : ((n : Int) ≤ 4294967295) = False := eq_false (by omega)
      have HM := Lib.hid (show mkI 2 n b [] = [] from by
        show mkT 2 n b [] = _
        rw [mkT, if_neg (by decide), if_pos rfl, if_neg (fun q => hc q.2)])
      clear hc
      go_enter Try.func30, Try.ntmps30
      go_wp2_with fail
      (with_reducible refine (shapes_any w).mono ?_)
      rintro e w1 ⟨g, rfl, hg, o1⟩
      have O1 := Lib.hid o1
      have LK := get_none hg 2 (find_no 2 HK.out)
      clear hg o1
      go_wp2_with fail
      go_ret
      exact ⟨O1.out.alloc _, by rw [HM.out]; rfl⟩
  · clear h
    go_enter Try.func30, Try.ntmps30
    go_wp2_with fail
    (with_reducible refine (shapes_any w).mono ?_)
    rintro e w1 ⟨g, rfl, hg, o1⟩
    have O1 := Lib.hid o1
    have LK := get_none hg 3 (find_no 3 HK.out)
    clear hg o1
    go_wp2_with fail
    (with_reducible refine (PN.out _).mono ?_)
    rintro e w2 ⟨rfl, o2⟩
    have O2 := Lib.hid ((O1.out.alloc _).trans o2)
    clear o2
    go_wp2_with fail
    go_ret
    exact ⟨O2.out, rfl⟩
  · clear h
    by_cases hc : b.length ≤ 32767
    · have c1 : ((b.length : Int) ≤ 32767) = True := eq_true (by omega)
      have HM := Lib.hid (show mkI 4 n b [] = 120 :: hexs b from by
        show mkT 4 n b [] = _
        rw [mkT, if_neg (by decide), if_neg (by decide), if_neg (by decide), if_pos rfl, if_pos ⟨rfl, hc⟩])
      clear hc
      go_enter Try.func30, Try.ntmps30
      go_wp2_with fail
      (with_reducible refine (shapes_any w).mono ?_)
      rintro e w1 ⟨g, rfl, hg, o1⟩
      have O1 := Lib.hid o1
      have LK := get_none hg 4 (find_no 4 HK.out)
      clear hg o1
      go_wp2_with fail
      (with_reducible refine (HB.out _ (O1.out.alloc _)).mono ?_)
      rintro e w2 ⟨rfl, o2⟩
      have O2 := Lib.hid ((O1.out.alloc _).trans o2)
      clear o2
      go_wp2_with fail
      go_ret
      exact ⟨O2.out, by rw [HM.out]; rfl⟩
    · have c1 : ((b.length : Int) ≤ 32767) = False := eq_false (by omega)
      have HM := Lib.hid (show mkI 4 n b [] = [] from by
        show mkT 4 n b [] = _
        rw [mkT, if_neg (by decide), if_neg (by decide), if_neg (by decide), if_pos rfl, if_neg (fun q => hc q.2)])
      clear hc
      go_enter Try.func30, Try.ntmps30
      go_wp2_with fail
      (with_reducible refine (shapes_any w).mono ?_)
      rintro e w1 ⟨g, rfl, hg, o1⟩
      have O1 := Lib.hid o1
      have LK := get_none hg 4 (find_no 4 HK.out)
      clear hg o1
      go_wp2_with fail
      go_ret
      exact ⟨O1.out.alloc _, by rw [HM.out]; rfl⟩
  · have HM := Lib.hid (show mkI k n b [] = [] from by
      unfold mkI
      rw [if_neg (by omega)])
    have e1 : (k == 1) = false := by rw [beq_eq_false_iff_ne]; omega
    have e2 : (k == 2) = false := by rw [beq_eq_false_iff_ne]; omega
    have e3 : (k == 3) = false := by rw [beq_eq_false_iff_ne]; omega
    have e4 : (k == 4) = false := by rw [beq_eq_false_iff_ne]; omega
    clear h hk
    go_enter Try.func30, Try.ntmps30
    go_wp2_with fail
    (with_reducible refine (shapes_any w).mono ?_)
    rintro e w1 ⟨g, rfl, hg, o1⟩
    have O1 := Lib.hid o1
    have LK := get_none hg k (find_no k HK.out)
    clear hg o1
    go_wp2_with fail
    go_ret
    exact ⟨O1.out.alloc _, by rw [HM.out]; rfl⟩

theorem make_any (k : Int) (n : Nat) (b : Txt) (ps : List Txt) (S T : Nat → Prop) (bv lv : Value) (w : World) (hn : n ≤ most) (hb : Sl w T bv (U8 b)) (hbl : b.length ≤ 100000000) (hsl : Sl w S lv (ps.map sv)) (hpl : ∀ p ∈ ps, p.length ≤ 100000000) (hlen : ps.length ≤ 1000000) : Calls Try.prog 30 #[.int .i64 k, .int .u64 n, bv, lv] w (Made w (mkI k n b ps)) := by
  by_cases h : k < 5 ∨ 11 < k
  · by_cases hp : ps = []
    · subst hp
      refine make_leaf k n b T bv lv w h hn hb hbl ?_
      obtain ⟨_, a, c, e, _⟩ := hsl
      exact ⟨a, c, e⟩
    · exact make_full k n b ps S bv lv w h hp hsl
  · obtain ⟨j, rfl⟩ : ∃ j : Nat, k = j := ⟨k.toNat, by omega⟩
    rw [mkI_nat (by omega) (by omega)]
    exact make_br j n b ps S bv lv w (by omega) (by omega) hn hsl hpl hlen
end Go.Proofs.Ytbjnejnjlidiaaa.prW
