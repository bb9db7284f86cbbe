/- Wire: what is read, step by step. -/
import Derived.Test.YtbjnejnjlidiaaaWrZ
namespace Go.Proofs.Ytbjnejnjlidiaaa.wsF
open Go.RowKit kit numA numB numC numD numE numF tmA tmD trA trB prR prS prW prX wrA wrB wrC wrD wrE wrF wrG wrH wrI wrJ wrK wrM wrN wrO wrQ wrR wrS wrT wrU wrV wrW
set_option linter.unusedVariables false
set_option linter.unusedSimpArgs false

/-- The end of reading: what is left over, the code, the message. -/
def fin (s : Txt × Nat × Msg) : Nat × Msg := if (if s.1 = [] then s.2.1 else failC s.2.1 5) = 0 then (0, s.2.2) else (if s.1 = [] then s.2.1 else failC s.2.1 5, zeroM 0)
theorem readM_fin (b : Txt) : readM b = fin (bodyR b) := rfl
theorem failC_bad {c k : Nat} (hc : c ≠ 0) : failC c k = c := by unfold failC; rw [if_neg hc]
theorem rowR_bad (fs : List Fl) (s : Txt × Nat × Msg) (hc : s.2.1 ≠ 0) : rowR fs s = s := by
  cases fs with
  | nil => rfl
  | cons f fs => rw [rowR, if_neg hc]
theorem fin_bad (s : Txt × Nat × Msg) (hc : s.2.1 ≠ 0) : fin s = (s.2.1, zeroM 0) := by
  unfold fin
  rw [failC_bad hc, ite_self, if_neg hc]
theorem fin_left {s : Txt × Nat × Msg} (hc : s.2.1 = 0) (hl : s.1 ≠ []) : fin s = (5, zeroM 0) := by
  unfold fin
  rw [if_neg hl, hc]
  rfl
theorem fin_ok {s : Txt × Nat × Msg} (hc : s.2.1 = 0) (hl : s.1 = []) : fin s = (0, s.2.2) := by
  unfold fin
  rw [if_pos hl, hc]
  rfl
theorem zero_bad (l : Txt) {c : Nat} (hc : c ≠ 0) : zeroR (l, c) = (l, c) := by
  unfold zeroR takeR
  by_cases h : l.length < 1
  · simp [h, failC_bad hc, vb]
  · simp [h, hc, vb]
theorem zero_nil : zeroR ([], 0) = ([], 4) := rfl
theorem zero_ok (t : Txt) : zeroR (0 :: t, 0) = (t, 0) := by
  have e : takeR (0 :: t) 0 1 = ([0], t, 0) := by
    unfold takeR
    rw [if_neg (by rw [List.length_cons]; omega), if_pos rfl]
    rfl
  simp [zeroR, e, vb]
theorem zero_not {x : UInt8} (t : Txt) (hx : x ≠ 0) : zeroR (x :: t, 0) = (t, 3) := by
  have e : takeR (x :: t) 0 1 = ([x], t, 0) := by
    unfold takeR
    rw [if_neg (by rw [List.length_cons]; omega), if_pos rfl]
    rfl
  have hn : ¬ x.toNat = 0 := fun h => hx (UInt8.toNat_inj.1 h)
  simp [zeroR, e, vb, hn, failC]
theorem take_one (k : UInt8) (t : Txt) : takeR (k :: t) 0 1 = ([k], t, 0) := by
  unfold takeR
  rw [if_neg (by rw [List.length_cons]; omega), if_pos rfl]
  rfl
theorem vb_one (k : UInt8) : vb [k] = k.toNat := by simp [vb]
theorem row_ne {k : Nat} (h : 1 ≤ k ∧ k ≤ 4) : rowOf (k : Int) ≠ [] := by
  have e : k = 1 ∨ k = 2 ∨ k = 3 ∨ k = 4 := by omega
  rcases e with rfl | rfl | rfl | rfl <;> simp [rowOf]
theorem row_nil {k : Nat} (h : k < 1 ∨ 4 < k) : rowOf (k : Int) = [] := by
  unfold rowOf
  rw [if_neg (by omega), if_neg (by omega), if_neg (by omega), if_neg (by omega)]
theorem read_nil : readM [] = (4, zeroM 0) := rfl
theorem head_cons (k : UInt8) (t : Txt) : wrV.headR (k :: t) = zeroR (zeroR (zeroR (t, if rowOf (k.toNat : Int) = [] then 3 else 0))) := by
  unfold wrV.headR
  rw [take_one, vb_one]
  rfl
theorem body_cons (k : UInt8) (t : Txt) : bodyR (k :: t) = rowR (rowOf (k.toNat : Int)) ((wrV.headR (k :: t)).1, (wrV.headR (k :: t)).2, zeroM (k.toNat : Int)) := by
  unfold bodyR
  rw [take_one, vb_one]
theorem read_kind (k : UInt8) (t : Txt) (h : k.toNat < 1 ∨ 4 < k.toNat) : readM (k :: t) = (3, zeroM 0) := by
  rw [readM_fin, body_cons, head_cons, if_pos (row_nil h), zero_bad t (c := 3) (by decide), zero_bad t (c := 3) (by decide), zero_bad t (c := 3) (by decide), rowR_bad _ _ (by simp), fin_bad _ (by simp)]
theorem read_bad {k : UInt8} {t l : Txt} {c : Nat} (h : wrV.headR (k :: t) = (l, c)) (hc : c ≠ 0) : readM (k :: t) = (c, zeroM 0) := by
  rw [readM_fin, body_cons, h, rowR_bad _ _ hc, fin_bad _ hc]
theorem read_short (k : UInt8) (i : Nat) (hk : 1 ≤ k.toNat ∧ k.toNat ≤ 4) (hi : i < 3) : readM (k :: List.replicate i 0) = (4, zeroM 0) := by
  have e : i = 0 ∨ i = 1 ∨ i = 2 := by omega
  refine read_bad (l := []) ?_ (by decide)
  rw [head_cons, if_neg (row_ne hk)]
  rcases e with rfl | rfl | rfl
  · rw [List.replicate_zero, zero_nil, zero_bad _ (by decide), zero_bad _ (by decide)]
  · rw [show List.replicate 1 (0 : UInt8) = 0 :: [] from rfl, zero_ok, zero_nil, zero_bad _ (by decide)]
  · rw [show List.replicate 2 (0 : UInt8) = 0 :: 0 :: [] from rfl, zero_ok, zero_ok, zero_nil]
theorem read_byte (k x : UInt8) (t : Txt) (i : Nat) (hk : 1 ≤ k.toNat ∧ k.toNat ≤ 4) (hi : i < 3) (hx : x ≠ 0) : readM (k :: (List.replicate i 0 ++ x :: t)) = (3, zeroM 0) := by
  have e : i = 0 ∨ i = 1 ∨ i = 2 := by omega
  rcases e with rfl | rfl | rfl
  · refine read_bad (l := t) ?_ (by decide)
    rw [head_cons, if_neg (row_ne hk), show List.replicate 0 (0 : UInt8) ++ x :: t = x :: t from rfl, zero_not _ hx, zero_bad t (c := 3) (by decide), zero_bad t (c := 3) (by decide)]
  · refine read_bad (l := t) ?_ (by decide)
    rw [head_cons, if_neg (row_ne hk), show List.replicate 1 (0 : UInt8) ++ x :: t = 0 :: x :: t from rfl, zero_ok, zero_not _ hx, zero_bad _ (by decide)]
  · refine read_bad (l := t) ?_ (by decide)
    rw [head_cons, if_neg (row_ne hk), show List.replicate 2 (0 : UInt8) ++ x :: t = 0 :: 0 :: x :: t from rfl, zero_ok, zero_ok, zero_not _ hx]
theorem read_head (k : UInt8) (t : Txt) (hk : 1 ≤ k.toNat ∧ k.toNat ≤ 4) : readM (k :: 0 :: 0 :: 0 :: t) = fin (rowR (rowOf (k.toNat : Int)) (t, 0, zeroM (k.toNat : Int))) := by
  rw [readM_fin, body_cons, head_cons, if_neg (row_ne hk), zero_ok, zero_ok, zero_ok]
/-- A number's field: too short, or read. -/
theorem num_short {f : Fl} {n : Nat} (hf : (∃ i, f = .n i ∧ n = 4) ∨ (f = .c ∧ n = 8)) (fs : List Fl) (l : Txt) (m : Msg) (h : l.length < n) : fin (rowR (f :: fs) (l, 0, m)) = (4, zeroM 0) := by
  have e : (fieldR f (l, 0, m)).2.1 = 4 := by
    rcases hf with ⟨i, rfl, rfl⟩ | ⟨rfl, rfl⟩ <;> simp [fieldR, takeR, h, failC]
  rw [rowR, if_pos rfl, rowR_bad _ _ (by rw [e]; decide), fin_bad _ (by rw [e]; decide), e]
def setN (f : Fl) (u : Int) (m : Msg) : Msg := match f with
  | .n i => if i = 1 then { m with s := u } else { m with r := u }
  | .c => { m with c := u }
  | .t _ => m
theorem num_ok {f : Fl} {n : Nat} (hf : (∃ i, f = .n i ∧ n = 4) ∨ (f = .c ∧ n = 8)) (fs : List Fl) (l : Txt) (m : Msg) (h : ¬ l.length < n) : rowR (f :: fs) (l, 0, m) = rowR fs (l.drop n, 0, setN f (vb (l.take n) : Nat) m) := by
  rw [rowR, if_pos rfl]
  rcases hf with ⟨i, rfl, rfl⟩ | ⟨rfl, rfl⟩ <;> simp [fieldR, takeR, h, setN]
theorem txt_short (i : Nat) (fs : List Fl) (l : Txt) (m : Msg) (h : l.length < 2 ∨ l.length < 2 + vb (l.take 2)) : fin (rowR (.t i :: fs) (l, 0, m)) = (4, zeroM 0) := by
  have e : (fieldR (.t i) (l, 0, m)).2.1 = 4 := by
    by_cases h2 : l.length < 2
    · have e1 : takeR l 0 2 = ([], l, 4) := by unfold takeR; rw [if_pos h2]; rfl
      have e2 : takeR l 4 0 = ([], l, 4) := by unfold takeR; rw [if_neg (by omega), if_neg (by decide)]
      simp only [fieldR, e1, vb, e2]
      rw [termC, show fitB [] = false from by decide +kernel]
      rfl
    · have e1 : takeR l 0 2 = (l.take 2, l.drop 2, 0) := by unfold takeR; rw [if_neg h2, if_pos rfl]
      have e2 : takeR (l.drop 2) 0 (vb (l.take 2)) = ([], l.drop 2, 4) := by unfold takeR; rw [if_pos (by rw [List.length_drop]; omega)]; rfl
      simp only [fieldR, e1, e2]
      rw [termC, show fitB [] = false from by decide +kernel]
      rfl
  rw [rowR, if_pos rfl, rowR_bad _ _ (by rw [e]; decide), fin_bad _ (by rw [e]; decide), e]
theorem txt_is {l : Txt} {N : Nat} (hN : N ≤ 65535) : fitB (l.take N) = isT (l.take N) := by
  unfold fitB
  rw [decide_eq_true (by rw [List.length_take]; omega), Bool.true_and]
theorem vb_two (l : Txt) : vb (l.take 2) ≤ 65535 := vb_le (n := 2) (by rw [List.length_take]; omega) (by decide)
theorem txt_bad (i : Nat) (fs : List Fl) (l : Txt) (m : Msg) (h : ¬ l.length < 2) (h2 : ¬ l.length < 2 + vb (l.take 2)) (hT : isT ((l.drop 2).take (vb (l.take 2))) = false) : fin (rowR (.t i :: fs) (l, 0, m)) = (3, zeroM 0) := by
  have e1 : takeR l 0 2 = (l.take 2, l.drop 2, 0) := by unfold takeR; rw [if_neg h, if_pos rfl]
  have e2 : takeR (l.drop 2) 0 (vb (l.take 2)) = ((l.drop 2).take (vb (l.take 2)), (l.drop 2).drop (vb (l.take 2)), 0) := by unfold takeR; rw [if_neg (by rw [List.length_drop]; omega), if_pos rfl]
  have e : (fieldR (.t i) (l, 0, m)).2.1 = 3 := by
    simp only [fieldR, e1, e2]
    rw [termC, txt_is (vb_two l), hT]
    rfl
  rw [rowR, if_pos rfl, rowR_bad _ _ (by rw [e]; decide), fin_bad _ (by rw [e]; decide), e]
theorem txt_ok (i : Nat) (fs : List Fl) (l : Txt) (m : Msg) (h : ¬ l.length < 2) (h2 : ¬ l.length < 2 + vb (l.take 2)) (hT : isT ((l.drop 2).take (vb (l.take 2))) = true) : rowR (.t i :: fs) (l, 0, m) = rowR fs (l.drop (2 + vb (l.take 2)), 0, m.put i ⟨((l.drop 2).take (vb (l.take 2))).toArray⟩) := by
  have e1 : takeR l 0 2 = (l.take 2, l.drop 2, 0) := by unfold takeR; rw [if_neg h, if_pos rfl]
  have e2 : takeR (l.drop 2) 0 (vb (l.take 2)) = ((l.drop 2).take (vb (l.take 2)), (l.drop 2).drop (vb (l.take 2)), 0) := by unfold takeR; rw [if_neg (by rw [List.length_drop]; omega), if_pos rfl]
  have e : fieldR (.t i) (l, 0, m) = (l.drop (2 + vb (l.take 2)), 0, m.put i ⟨((l.drop 2).take (vb (l.take 2))).toArray⟩) := by
    simp only [fieldR, e1, e2]
    rw [termC, txt_is (vb_two l), hT, if_pos rfl, List.drop_drop]
  rw [rowR, if_pos rfl, e]

end Go.Proofs.Ytbjnejnjlidiaaa.wsF
