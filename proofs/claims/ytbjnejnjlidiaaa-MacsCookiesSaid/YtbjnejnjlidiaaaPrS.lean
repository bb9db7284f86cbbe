/- Term: the program's build. -/
import Derived.Test.YtbjnejnjlidiaaaPrQ
import Derived.Test.YtbjnejnjlidiaaaTmA
import Derived.Test.YtbjnejnjlidiaaaSrcA
import Derived.StillTailTactics
import Derived.Deep.AppendLies
namespace Go.Proofs.Ytbjnejnjlidiaaa.prS
open Go.RowKit Go.Proofs.Ytbjnejnjlidiaaa.kit Go.Proofs.Ytbjnejnjlidiaaa.numA Go.Proofs.Ytbjnejnjlidiaaa.numB Go.Proofs.Ytbjnejnjlidiaaa.numC Go.Proofs.Ytbjnejnjlidiaaa.numD Go.Proofs.Ytbjnejnjlidiaaa.numE Go.Proofs.Ytbjnejnjlidiaaa.numF Go.Proofs.Ytbjnejnjlidiaaa.tmA Go.Proofs.Ytbjnejnjlidiaaa.tmB Go.Proofs.Ytbjnejnjlidiaaa.tmC Go.Proofs.Ytbjnejnjlidiaaa.tmD Go.Proofs.Ytbjnejnjlidiaaa.tmE Go.Proofs.Ytbjnejnjlidiaaa.srcA Go.Proofs.Ytbjnejnjlidiaaa.trA Go.Proofs.Ytbjnejnjlidiaaa.trB Go.Proofs.Ytbjnejnjlidiaaa.prA Go.Proofs.Ytbjnejnjlidiaaa.prC Go.Proofs.Ytbjnejnjlidiaaa.prR Go.Proofs.Ytbjnejnjlidiaaa.shJ
set_option linter.unusedVariables false
set_option linter.unusedSimpArgs false

theorem sl_get {w : World} {S : Nat → Prop} {a : Option Addr} {m cap : Nat} {ps : List Txt} (h : Sl w S (.slice a m cap) (ps.map sv)) (i : Nat) (hi : i < ps.length) : ∃ g o, a = some ⟨g, o, none⟩ ∧ S g ∧ g < w.heap.size ∧ w.cell? ⟨g, o + i, none⟩ = some (sv (ps.getD i [])) := by
  obtain ⟨_, a', cap', h, hx | ⟨g, o, ha, hS, hg, hc⟩⟩ := h
  · have : ps.length = 0 := by rw [← List.length_map (f := sv), hx]; rfl
    omega
  · injection h with h1 h2 h3
    subst h1
    refine ⟨g, o, ha, hS, hg, ?_⟩
    rw [hc i (by simpa using hi)]
    simp [hi]

theorem sl_len {w : World} {S : Nat → Prop} {a : Option Addr} {m cap : Nat} {ps : List Txt} (h : Sl w S (.slice a m cap) (ps.map sv)) : m = ps.length := by
  obtain ⟨_, a', cap', h, _⟩ := h
  injection h with h1 h2 h3
  rw [List.length_map] at h2
  omega

theorem mkT_br {k n : Nat} {b : Txt} {ps : List Txt} (h5 : 5 ≤ k) (h11 : k ≤ 11) : mkT k n b ps = if fitsB k n ps then letter k :: 40 :: (pre k n ++ (join (srt k ps) ++ [41])) else [] := by
  rw [mkT, if_neg (by omega), if_neg (by omega), if_neg (by omega), if_neg (by omega), if_pos ⟨h5, h11⟩]

def Made (w : World) (t : Txt) (e : Ending) (w' : World) : Prop := Only (fun _ => False) w w' ∧ e = .returned (.string ⟨t.toArray⟩)

theorem total_app (a b : List Txt) : total (a ++ b) = total a + total b := by
  unfold total
  rw [List.map_append, List.sum_append]

theorem total_succ {ps : List Txt} {i : Nat} (hi : i < ps.length) : total (ps.take (i + 1)) = total (ps.take i) + (ps.getD i []).length := by
  rw [List.take_succ_eq_append_getElem hi, total_app, show ps.getD i [] = ps[i] by simp [hi]]
  simp [total]

theorem total_take (ps : List Txt) (i : Nat) : total (ps.take i) ≤ total ps := by
  have := total_app (ps.take i) (ps.drop i)
  rw [List.take_append_drop] at this
  omega

/-- What holds at each part. -/
structure BR (W1 : World) (ps : List Txt) (i : Nat) (wr : World) : Prop where
  le : i ≤ ps.length
  sm : total (ps.take i) ≤ 65536
  all : ∀ p ∈ ps.take i, isT p = true
  only : Only (fun _ => False) W1 wr

theorem BR.next {W1 wr w' : World} {ps : List Txt} {i : Nat} (h : BR W1 ps i wr) (hi : i < ps.length) (hs : total (ps.take i) + (ps.getD i []).length ≤ 65536) (hp : isT (ps.getD i []) = true) (o : Only (fun _ => False) wr w') : BR W1 ps (i + 1) w' := by
  refine ⟨hi, by rw [total_succ hi]; exact hs, fun p hp' => ?_, h.only.trans o⟩
  rw [List.take_succ_eq_append_getElem hi, List.mem_append] at hp'
  rcases hp' with q | q
  · exact h.all p q
  · simp at q
    subst q
    simpa [hi] using hp

theorem isT_kind (t : Txt) : isT t = true ↔ (trJ.ndOf t).k ≠ 0 := by
  have := (trJ.ndOf_kind t).2
  unfold isT
  cases h : rdT t with
  | none => simp [this.2 h]
  | some d =>
    simp only [Option.isSome_some, true_iff]
    intro q
    rw [this.1 q] at h
    cases h

theorem lib_join (ps : List Txt) : Lib.join ps [44] = join ps := by
  induction ps with
  | nil => rfl
  | cons p ps ih =>
    cases ps with
    | nil => rw [Lib.join_one]; rfl
    | cons q qs =>
      rw [join_cons p (q :: qs) (by simp), ← ih, Lib.join_cons, Lib.join_cons]
      simp [Lib.joinTail]

theorem join_le (ps : List Txt) : (join ps).length ≤ total ps + ps.length := by
  induction ps with
  | nil => simp [join, total]
  | cons p ps ih =>
    cases ps with
    | nil => simp [join, total]
    | cons q qs =>
      rw [join_cons p (q :: qs) (by simp)]
      simp only [total, List.map_cons, List.sum_cons, List.length_append, List.length_cons] at ih ⊢
      omega

set_option maxRecDepth 100000 in
/-- A row of texts of one's own takes a slice of texts. -/
theorem add_all {w : World} {base g n cap : Nat} {xs : List Value} {S : Nat → Prop} {a : Option Addr} {m c : Nat} {ps : List Txt} (hown : w.ownsRow base 9 1 (.slice (some ⟨g, 0, none⟩) n cap) n xs) (hsl : Sl w S (.slice a m c) (ps.map sv)) (hb : base ≤ w.heap.size) (hn : n ≤ 1000000) (hm : ps.length ≤ 1000000) :
    ∃ g' cp w', (Builtin.append_ #[25, 25] 25 #[.slice (some ⟨g, 0, none⟩) n cap, .slice a m c]).run Try.prog w = .ok (.slice (some ⟨g', 0, none⟩) (n + m : Nat) cp) w' ∧ w'.ownsRow base 9 1 (.slice (some ⟨g', 0, none⟩) (n + m : Nat) cp) (n + m) (xs ++ ps.map sv) ∧ ∀ w0, Only (fun _ => False) w0 w → w0.heap.size ≤ base → Only (fun _ => False) w0 w' := by
  obtain ⟨i0, hi0, hz0, hz1, hz2⟩ := trC.info_parts trC.info9
  obtain rfl := sl_len hsl
  by_cases h0 : ps = []
  · subst h0
    have hr : (Builtin.append_ #[25, 25] 25 #[.slice (some ⟨g, 0, none⟩) n cap, .slice a 0 c]).run Try.prog w = .ok (.slice (some ⟨g, 0, none⟩) n cap) w := by
      rcases hown.2 with ⟨q, _⟩ | ⟨g', cap', cur, q, _, _, hnc, _⟩
      · cases q
      · injection q with q1 q2 q3
        subst q3
        cases a <;> simp [Builtin.append_, run_underlying Try.underlying25, sizeOf, typeInfo, hi0, Builtin.lenOf, Builtin.firstCells, hnc, storeCells, loadCells, loadCellsFrom, Result.andThen]
    exact ⟨g, cap, w, hr, by simpa using hown, fun w0 o _ => o⟩
  · have h1 : 0 < ps.length := List.length_pos_iff.2 h0
    obtain ⟨_, a', cap', h, hx | ⟨ga, o, ha, hS, hg, hc⟩⟩ := hsl
    · exact absurd (List.map_eq_nil_iff.1 hx) h0
    · injection h with e1 e2 e3
      subst e1
      subst ha
      obtain ⟨g', cp, w', hr, hown', hgr, _, _⟩ := run_append_lies (P := Try.prog) w 25 25 base 9 i0 _ 1 16 Try.underlying25 hi0 hz0 hz1 hz2 rfl (by omega) _ n xs hown ⟨ga, o, none⟩ ps.length c (ps.map sv) (by simp) (fun j u hj => by
        have hjl : j < ps.length := by
          have := (List.getElem?_eq_some_iff.1 hj).1
          simpa using this
        rw [Addr.add_lit, hc j (by simpa using hjl)]
        rw [List.getD_eq_getElem?_getD, hj]
        rfl) (fun u hu => by
          obtain ⟨p, _, rfl⟩ := List.mem_map.1 hu
          rfl) h1 (by unfold maxLen; omega) (by omega) hb _ rfl
      exact ⟨g', cp, w', hr, hown', fun w0 o0 h0 => Only.grownNew o0 hgr fun b q => by
        have := (hown.lt b q).1
        omega⟩

theorem sl_one (w : World) (p : Txt) : Sl (w.alloc (.cells #[sv p] 9)) (fun k => w.heap.size ≤ k) (.slice (some ⟨w.heap.size, 0, none⟩) 1 1) ([p].map sv) :=
  ⟨by simp [maxLen], _, 1, rfl, .inr ⟨w.heap.size, 0, rfl, Nat.le_refl _, by simp, fun i hi => by
    obtain rfl : i = 0 := by simp at hi; omega
    rw [cell_of (heap_alloc_new w _)]
    rfl⟩⟩

theorem sl_two (w : World) (p q : Txt) : Sl (w.alloc (.cells #[sv p, sv q] 9)) (fun k => w.heap.size ≤ k) (.slice (some ⟨w.heap.size, 0, none⟩) 2 2) ([p, q].map sv) :=
  ⟨by simp [maxLen], _, 2, rfl, .inr ⟨w.heap.size, 0, rfl, Nat.le_refl _, by simp, fun i hi => by
    simp at hi
    rcases (by omega : i = 0 ∨ i = 1) with rfl | rfl
    · rw [cell_of (heap_alloc_new w _)]
      rfl
    · rw [cell_of (heap_alloc_new w _)]
      rfl⟩⟩

theorem join_own {w : World} {base g n cap : Nat} {qs : List Txt} (hown : w.ownsRow base 9 1 (.slice (some ⟨g, 0, none⟩) n cap) n (qs.map sv)) (hl : total qs + qs.length ≤ 1000000000) : Calls Try.prog 165 #[.slice (some ⟨g, 0, none⟩) n cap, .string ⟨#[44]⟩] w (numA.Told w (.string ⟨(join qs).toArray⟩)) := by
  have hn : n = qs.length := by have := hown.1; simpa using this.symm
  have hjl := join_le qs
  have hmap : (qs.map fun p => (⟨p.toArray⟩ : ByteArray)).map (·.data.toList) = qs := by
    rw [List.map_map]
    exact (List.map_congr_left (fun p _ => by simp)).trans (List.map_id qs)
  have hq : qs.length = (qs.map fun p => (⟨p.toArray⟩ : ByteArray)).length := by simp
  rcases hown.2 with ⟨q, _⟩ | ⟨g', cap', cur, q, _, hg, hnc, _⟩
  · cases q
  · injection q with q1 q2 q3
    subst q3
    injection q1 with q1
    injection q1 with q1
    subst q1
    have hc : ∀ (j : Nat) x, (qs.map fun p => (⟨p.toArray⟩ : ByteArray))[j]? = some x → w.cell? ⟨g, 0 + j, none⟩ = some (.string x) := by
      intro j x hj
      have hjl : j < qs.length := by
        have := (List.getElem?_eq_some_iff.1 hj).1
        simpa using this
      rw [Nat.zero_add, hown.cellAt j (by omega)]
      simp only [List.getElem?_map, Option.map_eq_some_iff] at hj ⊢
      obtain ⟨p, hp, rfl⟩ := hj
      exact ⟨p, hp, rfl⟩
    have h := join_any g 0 cap (qs.map fun p => (⟨p.toArray⟩ : ByteArray)) ⟨#[44]⟩ w hc (lt_of hg) (by rw [← hq]; omega) (by rw [← hq]; omega) (by
      rw [hmap, show (⟨#[44]⟩ : ByteArray).data.toList = [44] from rfl, lib_join]
      omega)
    rw [← hq, ← hn, hmap, show (⟨#[44]⟩ : ByteArray).data.toList = [44] from rfl, lib_join] at h
    exact h

theorem owns_base {w : World} {base base' : Nat} {e : TypeId} {size : Nat} {v : Value} {n : Nat} {xs : List Value} (h : w.ownsRow base e size v n xs) (hb : base' ≤ base) : w.ownsRow base' e size v n xs := by
  refine ⟨h.1, ?_⟩
  rcases h.2 with h0 | ⟨g, cap, cur, hv, hbg, r⟩
  · exact .inl h0
  · exact .inr ⟨g, cap, cur, hv, by omega, r⟩

/-- What is joined. -/
def qsOf (k n : Nat) (ps : List Txt) : List Txt := (if numbered k then [dec n] else []) ++ srt k ps

theorem qs_join {k n : Nat} {ps : List Txt} (h : numbered k = true → ps ≠ []) : join (qsOf k n ps) = pre k n ++ join (srt k ps) := by
  unfold qsOf pre
  by_cases hk : numbered k = true
  · rw [if_pos hk, if_pos hk]
    have : srt k ps ≠ [] := fun q => h hk (List.eq_nil_of_length_eq_zero (by rw [← srt_len k ps, q]; rfl))
    rw [List.singleton_append, join_cons _ _ this, List.append_assoc]
    rfl
  · rw [if_neg hk, if_neg hk]
    rfl

theorem fin_text {k n : Nat} {b : Txt} {ps : List Txt} (h5 : 5 ≤ k) (h11 : k ≤ 11) (h1 : ¬ ps.length < least k) (h2 : ¬ mostk k < ps.length) (hn : numbered k = true → lowk k ≤ n ∧ n ≤ highk k) (ha : ∀ p ∈ ps, isT p = true) (ht : total ps ≤ 65536) :
    mkT k n b ps = if (letter k :: 40 :: (join (qsOf k n ps) ++ [41])).length ≤ 65536 then letter k :: 40 :: (join (qsOf k n ps) ++ [41]) else [] := by
  have hq : join (qsOf k n ps) = pre k n ++ join (srt k ps) := qs_join fun hk e => by
    subst e
    simp only [numbered, Bool.or_eq_true, beq_iff_eq] at hk
    rcases hk with rfl | rfl <;> exact absurd h1 (by decide)
  rw [mkT_br h5 h11, hq, List.append_assoc]
  by_cases hl : (letter k :: 40 :: (pre k n ++ (join (srt k ps) ++ [41]))).length ≤ 65536
  · rw [if_pos hl, if_pos ⟨by omega, by omega, hn, ha, ht, hl⟩]
  · rw [if_neg hl, if_neg (fun q => hl q.2.2.2.2.2)]

end Go.Proofs.Ytbjnejnjlidiaaa.prS
