/- Wire: what is read. -/
import Derived.Test.YtbjnejnjlidiaaaWrU
namespace Go.Proofs.Ytbjnejnjlidiaaa.wrV
open Go.RowKit kit numA numB numC numD numE numF numG numH numI tmA tmD trA trB prR prS prW prX wrA wrB wrC wrD wrE wrF wrR wrS wrT wrU
set_option linter.unusedVariables false
set_option linter.unusedSimpArgs false

/-- A field is read: what is left, the code, the message. -/
def fieldR (f : Fl) (s : Txt × Nat × Msg) : Txt × Nat × Msg := match f with
  | .n i => ((takeR s.1 s.2.1 4).2.1, (takeR s.1 s.2.1 4).2.2, if i = 1 then { s.2.2 with s := (vb (takeR s.1 s.2.1 4).1 : Nat) } else { s.2.2 with r := (vb (takeR s.1 s.2.1 4).1 : Nat) })
  | .c => ((takeR s.1 s.2.1 8).2.1, (takeR s.1 s.2.1 8).2.2, { s.2.2 with c := (vb (takeR s.1 s.2.1 8).1 : Nat) })
  | .t i => ((takeR (takeR s.1 s.2.1 2).2.1 (takeR s.1 s.2.1 2).2.2 (vb (takeR s.1 s.2.1 2).1)).2.1, termC (takeR (takeR s.1 s.2.1 2).2.1 (takeR s.1 s.2.1 2).2.2 (vb (takeR s.1 s.2.1 2).1)).1 (takeR (takeR s.1 s.2.1 2).2.1 (takeR s.1 s.2.1 2).2.2 (vb (takeR s.1 s.2.1 2).1)).2.2, s.2.2.put i ⟨(takeR (takeR s.1 s.2.1 2).2.1 (takeR s.1 s.2.1 2).2.2 (vb (takeR s.1 s.2.1 2).1)).1.toArray⟩)
def rowR : List Fl → Txt × Nat × Msg → Txt × Nat × Msg
  | [], s => s
  | f :: fs, s => if s.2.1 = 0 then rowR fs (fieldR f s) else s
/-- A byte that has to be zero. -/
def zeroR (s : Txt × Nat) : Txt × Nat := ((takeR s.1 s.2 1).2.1, if vb (takeR s.1 s.2 1).1 = 0 then (takeR s.1 s.2 1).2.2 else failC (takeR s.1 s.2 1).2.2 3)
def headR (b : Txt) : Txt × Nat := zeroR (zeroR (zeroR ((takeR b 0 1).2.1, if rowOf (vb (takeR b 0 1).1 : Nat) = [] then failC (takeR b 0 1).2.2 3 else (takeR b 0 1).2.2)))
def bodyR (b : Txt) : Txt × Nat × Msg := rowR (rowOf (vb (takeR b 0 1).1 : Nat)) ((headR b).1, (headR b).2, zeroM (vb (takeR b 0 1).1 : Nat))
/-- What the program reads: the code, the message. -/
def codeR (b : Txt) : Nat := if (bodyR b).1 = [] then (bodyR b).2.1 else failC (bodyR b).2.1 5
def readM (b : Txt) : Nat × Msg := if codeR b = 0 then (0, (bodyR b).2.2) else (codeR b, zeroM 0)
theorem field_any (f : Fl) (hf : okFl f) (b : Nat) (R A : Nat) (S : Nat → Prop) (l : Txt) (c : Nat) (m : Msg) (w : World) (h : RdAt w R S l c) (hS : ¬ S R) (hSA : ¬ S A) (hm : MsgAt w A m) (hb : ∀ i, f = .n i → BoxF w b (fnN i)) : Calls Try.prog 123 #[.pointer (some ⟨R, 0, none⟩), .agg (fcells f b).toArray, .pointer (some ⟨A, 0, none⟩)] w (FdP w R A S (fieldR f (l, c, m)).1 (fieldR f (l, c, m)).2.1 (fieldR f (l, c, m)).2.2) := by
  cases f with
  | t i => exact field_t i hf.1 hf.2 R A S l c m w h hS hSA hm
  | n i =>
    have hi : i = 1 ∨ i = 2 := hf
    rcases hi with rfl | rfl
    · exact field_n1 R A b S l c m w h hS hSA hm (hb 1 rfl)
    · exact field_n2 R A b S l c m w h hS hSA hm (hb 2 rfl)
  | c => exact field_c R A S l c m w h hS hSA hm
theorem RowV.keepT {w w' : World} {v : Value} {fs : List Fl} {T : Nat → Prop} (h : RowV w v fs) (k : Only T w w') (hg : ∀ g o f, Fld w g o f → ¬ T g) (hB : ∀ b i, BoxF w b (fnN i) → ¬ T b) : RowV w' v fs := by
  rcases h with h | ⟨g, o, cap, hv, h1, h2, h3, h4⟩
  · exact .inl h
  · exact .inr ⟨g, o, cap, hv, h1, h2, Nat.lt_of_lt_of_le h3 k.size, fun i f hf => (h4 i f hf).keepT h3 (hg _ _ _ (h4 i f hf)) k hB⟩
theorem fld_rd {w : World} {R g o : Nat} {f : Fl} {S : Nat → Prop} {l : Txt} {c : Nat} (h : RdAt w R S l c) (k : Fld w g o f) : g ≠ R := by
  rintro rfl
  obtain ⟨a, cap, hb, -⟩ := h.blk
  obtain ⟨b, ⟨-, -, -, k3⟩, -⟩ := k
  have e := cell_of hb (o := o + 3)
  rw [k3] at e
  simp at e
theorem fld_msg {w : World} {A g o : Nat} {f : Fl} {m : Msg} (h : MsgAt w A m) (k : Fld w g o f) : g ≠ A := by
  rintro rfl
  obtain ⟨b, ⟨-, k1, -, k3⟩, -⟩ := k
  have e1 := (cell_of h (o := o + 1)).symm.trans k1
  have e3 := (cell_of h (o := o + 3)).symm.trans k3
  have hlen : o + 3 < 13 := by
    rcases Nat.lt_or_ge (o + 3) 13 with hh | hh
    · exact hh
    · rw [Array.getElem?_eq_none (by show m.row.size ≤ o + 3; simp [Msg.row]; omega)] at e3
      cases f <;> simp [fcells] at e3
  have ho : o = 0 ∨ o = 1 ∨ o = 2 ∨ o = 3 ∨ o = 4 ∨ o = 5 ∨ o = 6 ∨ o = 7 ∨ o = 8 ∨ o = 9 := by omega
  rcases ho with rfl | rfl | rfl | rfl | rfl | rfl | rfl | rfl | rfl | rfl <;> cases f <;> simp [fcells, Msg.row] at e1 e3
theorem box_rd {w : World} {R b fn : Nat} {S : Nat → Prop} {l : Txt} {c : Nat} (h : RdAt w R S l c) (k : BoxF w b fn) : b ≠ R := rd_box h k
theorem box_msg {w : World} {A b fn : Nat} {m : Msg} (h : MsgAt w A m) (k : BoxF w b fn) : b ≠ A := by
  rintro rfl
  unfold MsgAt at h
  unfold BoxF at k
  rw [k] at h
  simp at h

end Go.Proofs.Ytbjnejnjlidiaaa.wrV
