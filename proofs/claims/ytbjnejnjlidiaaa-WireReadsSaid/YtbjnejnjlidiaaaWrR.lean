/- Wire: the reader. -/
import Derived.Test.YtbjnejnjlidiaaaWrE
namespace Go.Proofs.Ytbjnejnjlidiaaa.wrR
open Go.RowKit kit numA numB numC numD numE numF tmA tmD trA trB prR prS prW prX wrA wrB wrC wrD wrE wrF
set_option linter.unusedVariables false
set_option linter.unusedSimpArgs false

/-- A reader: what is left of its bytes, which lie in blocks of which S holds, and its code. -/
structure RdAt (w : World) (R : Nat) (S : Nat → Prop) (l : Txt) (c : Nat) : Prop where
  blk : ∃ a cap, w.heap[R]? = some (.cells #[.slice a l.length cap, .int .i64 (c : Nat)] 161 (0, 0)) ∧ Sl w S (.slice a l.length cap) (U8 l) ∧ l.length ≤ cap ∧ cap ≤ maxLen
theorem RdAt.lt {w : World} {R : Nat} {S : Nat → Prop} {l : Txt} {c : Nat} (h : RdAt w R S l c) : R < w.heap.size := by
  obtain ⟨a, cap, h, -⟩ := h.blk
  exact lt_of h
theorem RdAt.keep {w w' : World} {R : Nat} {S T : Nat → Prop} {l : Txt} {c : Nat} (h : RdAt w R S l c) (o : Only T w w') (hR : ¬ T R) (hS : ∀ k, S k → ¬ T k) : RdAt w' R S l c := by
  obtain ⟨a, cap, h1, h2, h3, h4⟩ := h.blk
  exact ⟨a, cap, o.keep h1 hR, h2.keep o hS, h3, h4⟩
def failC (c k : Nat) : Nat := if c = 0 then k else c
theorem U8_len (l : Txt) : (U8 l).length = l.length := by simp [U8]
theorem sl_same {w w' : World} {S T : Nat → Prop} {v : Value} {xs : List Value} (h : Sl w S v xs) (o : Only T w w') (hS : ∀ k, S k → ¬ T k) : Sl w' S v xs := h.keep o hS
set_option maxRecDepth 100000 in
theorem fail_any (R : Nat) (S : Nat → Prop) (l : Txt) (c k : Nat) (w : World) (h : RdAt w R S l c) (hS : ¬ S R) : Calls Try.prog 122 #[.pointer (some ⟨R, 0, none⟩), .int .i64 (k : Nat)] w (fun e w' => (∃ v, e = .returned v) ∧ RdAt w' R S l (failC c k) ∧ Only (fun q => q = R) w w') := by
  obtain ⟨a, cap, hb, hs, h3, h4⟩ := h.blk
  have c1 : w.cell? ⟨R, 1, none⟩ = some (.int .i64 (c : Nat)) := cell_of hb
  have f1 := free_of hb (o := 1)
  by_cases hc : c = 0
  · have q : ((c : Int) == 0) = true := by rw [beq_iff_eq]; omega
    have HP := Lib.hid (show RdAt (w.setCell ⟨R, 1, none⟩ (.int .i64 (k : Nat))) R S l (failC c k) from by
      have e := heap_set (o := 1) (v := .int .i64 (k : Nat)) hb
      exact ⟨a, cap, by rw [failC, if_pos hc]; exact e, hs.keep ((Only.refl (fun q => q = R) w).set rfl) (fun q hq e => hS (by rw [← e]; exact hq)), h3, h4⟩)
    clear h hb hs h3 h4 hc
    go_enter Try.func122, Try.ntmps122
    go_wp2_with fail
    refine bodyPost_end (v := .tuple #[]) (by simp [results, Try.results122, go_sem]) rfl ?_
    exact ⟨⟨_, rfl⟩, HP.out, (Only.refl _ _).set rfl⟩
  · have q : ((c : Int) == 0) = false := by rw [beq_eq_false_iff_ne]; omega
    have HP := Lib.hid (show RdAt w R S l (failC c k) from by rw [failC, if_neg hc]; exact h)
    clear h hb hs h3 h4 hc
    go_enter Try.func122, Try.ntmps122
    go_wp2_with fail
    refine bodyPost_end (v := .tuple #[]) (by simp [results, Try.results122, go_sem]) rfl ?_
    exact ⟨⟨_, rfl⟩, HP.out, Only.refl _ _⟩

theorem len_take {l : Txt} {n : Nat} (h : n ≤ l.length) : (l.take n).length = n := by rw [List.length_take]; omega
theorem len_drop (l : Txt) (n : Nat) : (l.drop n).length = l.length - n := List.length_drop
theorem u8_get (l : Txt) (i : Nat) (h : i < l.length) : (U8 l).getD i undef = .int .u8 ((l.getD i 0).toNat : Int) := by
  simp [U8, h]
theorem sl_tk {w : World} {S : Nat → Prop} {a : Option Addr} {cap n : Nat} {l : Txt} (h : Sl w S (.slice a l.length cap) (U8 l)) (hn : n ≤ l.length) : Sl w S (.slice a n cap) (U8 (l.take n)) := by
  obtain ⟨hm, a', cap', hv, hx⟩ := h
  injection hv with q1 q2 q3
  subst q1 q3
  rw [U8_len] at hm
  refine ⟨by rw [U8_len, len_take hn]; omega, a, cap, by rw [U8_len, len_take hn], ?_⟩
  rcases hx with hx | ⟨g, o, rfl, hS, hg, hc⟩
  · have : l = [] := by simpa [U8] using hx
    subst this
    left; simp [U8]
  · by_cases h0 : n = 0
    · left; simp [U8, h0]
    · refine .inr ⟨g, o, rfl, hS, hg, fun i hi => ?_⟩
      rw [U8_len, len_take hn] at hi
      rw [hc i (by rw [U8_len]; omega), u8_get _ _ (by omega), u8_get _ _ (by rw [len_take hn]; exact hi)]
      simp [List.getD_eq_getElem?_getD, List.getElem?_take, hi]
theorem sl_dp {w : World} {S : Nat → Prop} {a : Option Addr} {cap n : Nat} {l : Txt} (h : Sl w S (.slice a l.length cap) (U8 l)) (hn : n ≤ l.length) : Sl w S (.slice (Option.map (fun x => x.add n) a) (l.length - n) (cap - n)) (U8 (l.drop n)) := by
  obtain ⟨hm, a', cap', hv, hx⟩ := h
  injection hv with q1 q2 q3
  subst q1 q3
  rw [U8_len] at hm
  refine ⟨by rw [U8_len, len_drop]; omega, _, cap - n, by rw [U8_len, len_drop], ?_⟩
  rcases hx with hx | ⟨g, o, rfl, hS, hg, hc⟩
  · have : l = [] := by simpa [U8] using hx
    subst this
    left; simp [U8]
  · by_cases h0 : n = l.length
    · left; simp [U8, h0]
    · refine .inr ⟨g, o + n, by simp [Addr.add], hS, hg, fun i hi => ?_⟩
      rw [U8_len, len_drop] at hi
      have e := hc (n + i) (by rw [U8_len]; omega)
      rw [show o + n + i = o + (n + i) by omega, e, u8_get _ _ (by omega), u8_get _ _ (by rw [len_drop]; exact hi)]
      simp [List.getD_eq_getElem?_getD, List.getElem?_drop]
/-- What take gives: the bytes, the rest, the code. -/
def takeR (l : Txt) (c n : Nat) : Txt × Txt × Nat := if l.length < n then ([], l, failC c 4) else if c = 0 then (l.take n, l.drop n, 0) else ([], l, c)
structure TkP (w : World) (R : Nat) (S : Nat → Prop) (r : Txt × Txt × Nat) (e : Ending) (w' : World) : Prop where
  val : ∃ a cap, e = .returned (.slice a r.1.length cap) ∧ Sl w' S (.slice a r.1.length cap) (U8 r.1) ∧ r.1.length ≤ cap ∧ cap ≤ maxLen
  rd : RdAt w' R S r.2.1 r.2.2
  only : Only (fun q => q = R) w w'
set_option maxRecDepth 100000 in
theorem take_long (R : Nat) (S : Nat → Prop) (l : Txt) (c n : Nat) (w : World) (h : RdAt w R S l c) (hS : ¬ S R) (hl : l.length < n) : Calls Try.prog 175 #[.pointer (some ⟨R, 0, none⟩), .int .i64 (n : Nat)] w (TkP w R S (takeR l c n)) := by
  have HT := Lib.hid (show takeR l c n = ([], l, failC c 4) from if_pos hl)
  have hnz : failC c 4 ≠ 0 := by unfold failC; split <;> omega
  have CF := Lib.hid (fun W (hW : RdAt W R S l c) => (show Calls Try.prog 122 #[.pointer (some ⟨R, 0, none⟩), .int .i64 4] W (fun e w' => (∃ v, e = .returned v) ∧ RdAt w' R S l (failC c 4) ∧ Only (fun q => q = R) W w') from fail_any R S l c 4 W hW hS))
  obtain ⟨a, cap, hb, -⟩ := h.blk
  have H := Lib.hid h
  have c0 : w.cell? ⟨R, 0, none⟩ = some (.slice a l.length cap) := cell_of hb
  have g1 : ((l.length : Int) < (n : Int)) = True := eq_true (by omega)
  have q : ((failC c 4 : Int) != 0) = true := by rw [bne_iff_ne]; omega
  clear h hb hl hS hnz
  go_enter Try.func175, Try.ntmps175
  go_wp2_with fail
  (with_reducible refine (CF.out _ H.out).mono ?_)
  rintro e w2 ⟨⟨v, rfl⟩, hr, o⟩
  have HR := Lib.hid hr
  have O := Lib.hid o
  obtain ⟨a', cap', hb, -⟩ := hr.blk
  have c1 : w2.cell? ⟨R, 1, none⟩ = some (.int .i64 (failC c 4 : Nat)) := cell_of hb
  clear o hr hb c0
  go_wp2_with fail
  go_ret
  rw [HT.out]
  exact ⟨⟨none, 0, rfl, sl_nil _ _, Nat.le_refl _, Nat.zero_le _⟩, HR.out, O.out⟩

set_option maxRecDepth 100000 in
theorem take_bad (R : Nat) (S : Nat → Prop) (l : Txt) (c n : Nat) (w : World) (h : RdAt w R S l c) (hS : ¬ S R) (hl : ¬ l.length < n) (hc : c ≠ 0) : Calls Try.prog 175 #[.pointer (some ⟨R, 0, none⟩), .int .i64 (n : Nat)] w (TkP w R S (takeR l c n)) := by
  have HT := Lib.hid (show takeR l c n = ([], l, c) from by rw [takeR, if_neg hl, if_neg hc])
  obtain ⟨a, cap, hb, -⟩ := h.blk
  have H := Lib.hid h
  have c0 : w.cell? ⟨R, 0, none⟩ = some (.slice a l.length cap) := cell_of hb
  have c1 : w.cell? ⟨R, 1, none⟩ = some (.int .i64 (c : Nat)) := cell_of hb
  have g1 : ((l.length : Int) < (n : Int)) = False := eq_false (by omega)
  have q : ((c : Int) != 0) = true := by rw [bne_iff_ne]; omega
  clear h hb hl hS hc
  go_enter Try.func175, Try.ntmps175
  go_wp2_with fail
  go_ret
  rw [HT.out]
  exact ⟨⟨none, 0, rfl, sl_nil _ _, Nat.le_refl _, Nat.zero_le _⟩, H.out, Only.refl _ _⟩

set_option maxRecDepth 100000 in
theorem take_ok (R : Nat) (S : Nat → Prop) (l : Txt) (c n : Nat) (w : World) (h : RdAt w R S l c) (hS : ¬ S R) (hl : ¬ l.length < n) (hc : c = 0) : Calls Try.prog 175 #[.pointer (some ⟨R, 0, none⟩), .int .i64 (n : Nat)] w (TkP w R S (takeR l c n)) := by
  have HT := Lib.hid (show takeR l c n = (l.take n, l.drop n, 0) from by rw [takeR, if_neg hl, if_pos hc])
  subst hc
  obtain ⟨a, cap, hb, hs, h3, h4⟩ := h.blk
  have H := Lib.hid h
  have c0 : w.cell? ⟨R, 0, none⟩ = some (.slice a l.length cap) := cell_of hb
  have c1 : w.cell? ⟨R, 1, none⟩ = some (.int .i64 0) := cell_of hb
  have f0 := free_of hb (o := 0)
  have g1 : ((l.length : Int) < (n : Int)) = False := eq_false (by omega)
  have n1 : (n : Int) ≤ (l.length : Int) := by omega
  have n2 : (n : Int) ≤ (cap : Int) := by omega
  have n3 : (l.length : Int) ≤ (cap : Int) := by omega
  have n4 : n ≤ l.length := by omega
  have n5 : n ≤ cap := by omega
  have hb0 := hb
  have hSR := hS
  clear h hb hl hS
  have HS2 := Lib.hid (And.intro hs (And.intro h3 h4))
  have HB := Lib.hid hb0
  have HSR := Lib.hid hSR
  clear hs h3 h4 hb0 hSR
  go_enter Try.func175, Try.ntmps175
  go_wp2_with fail
  · go_ret
    obtain ⟨s1, s2, s3⟩ := HS2.out
    rw [h] at s1
    have o1 : Only (fun q => q = R) w (w.setCell ⟨R, 0, none⟩ (.slice a (l.length - n) 0)) := (Only.refl _ _).set rfl
    have hk : ∀ k, S k → ¬ k = R := fun k hk e => HSR.out (by rw [← e]; exact hk)
    rw [HT.out]
    have e2 := len_drop l n
    have e3 : l.length - n = 0 := by omega
    have e4 : l.drop n = [] := List.drop_eq_nil_of_le (by omega)
    refine ⟨⟨a, n, by rw [len_take n4]; rfl, (by have h := (sl_tk s1 n4).keep o1 hk; rw [len_take n4]; exact h), by rw [len_take n4]; exact Nat.le_refl _, by omega⟩, ⟨a, 0, ?_, ?_, ?_, Nat.zero_le _⟩, o1⟩
    · have h := heap_set (o := 0) (v := .slice a (l.length - n) 0) HB.out
      rw [e2]; exact h
    · rw [e2, e4, e3]; exact ⟨Nat.zero_le _, a, 0, rfl, .inl rfl⟩
    · rw [e2, e3]; exact Nat.le_refl _
  · go_ret
    obtain ⟨s1, s2, s3⟩ := HS2.out
    have o1 : Only (fun q => q = R) w (w.setCell ⟨R, 0, none⟩ (.slice (Option.map (fun x => x.add n) a) (l.length - n) (cap - n))) := (Only.refl _ _).set rfl
    have hk : ∀ k, S k → ¬ k = R := fun k hk e => HSR.out (by rw [← e]; exact hk)
    rw [HT.out]
    have e2 := len_drop l n
    refine ⟨⟨a, cap, by rw [len_take n4]; rfl, (by have h := (sl_tk s1 n4).keep o1 hk; rw [len_take n4]; exact h), by rw [len_take n4]; exact n5, s3⟩, ⟨Option.map (fun x => x.add n) a, cap - n, ?_, ?_, ?_, ?_⟩, o1⟩
    · have h := heap_set (o := 0) (v := .slice (Option.map (fun x => x.add n) a) (l.length - n) (cap - n)) HB.out
      rw [e2]; exact h
    · rw [e2]; exact (sl_dp s1 n4).keep o1 hk
    · rw [e2]; omega
    · omega

theorem take_any (R : Nat) (S : Nat → Prop) (l : Txt) (c n : Nat) (w : World) (h : RdAt w R S l c) (hS : ¬ S R)  : Calls Try.prog 175 #[.pointer (some ⟨R, 0, none⟩), .int .i64 (n : Nat)] w (TkP w R S (takeR l c n)) := by
  by_cases hl : l.length < n
  · exact take_long R S l c n w h hS hl
  by_cases hc : c = 0
  · exact take_ok R S l c n w h hS hl hc
  · exact take_bad R S l c n w h hS hl hc


end Go.Proofs.Ytbjnejnjlidiaaa.wrR
