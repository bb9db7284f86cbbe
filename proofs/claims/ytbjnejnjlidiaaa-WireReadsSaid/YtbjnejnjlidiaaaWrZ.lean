/- Wire: what is printed is read. -/
import Derived.Test.YtbjnejnjlidiaaaWrW
import Derived.Test.YtbjnejnjlidiaaaWrY
import Derived.Test.YtbjnejnjlidiaaaWrH
namespace Go.Proofs.Ytbjnejnjlidiaaa.wrZ
open Go.RowKit kit numA numB numC numD numE numF tmA tmD trA trB prR prS prW prX wrA wrB wrC wrD wrE wrF wrG wrH wrI wrJ wrK wrM wrN wrO wrQ wrR wrS wrT wrU wrV wrY
set_option linter.unusedVariables false
set_option linter.unusedSimpArgs false

theorem print_eq {m : Msg} (hr : rightM m = true) : printM m = outB m (goodF m) := by
  rw [goodF_eq, if_pos hr]
  have hk := rightM_k hr
  have e : m.k = 1 ∨ m.k = 2 ∨ m.k = 3 ∨ m.k = 4 := by omega
  unfold printM outB rtexts rowOf
  rcases e with e | e | e | e <;> simp [e, fB, textB]
theorem vb_leb : ∀ (k u : Nat), u < 256 ^ k → vb (leb k u) = u
  | 0, u, h => by simp [leb, vb] at *; omega
  | k + 1, u, h => by
    rw [leb, vb, vb_leb k (u / 256) (by rw [Nat.pow_succ] at h; omega)]
    simp
    omega
theorem take_leb (k u : Nat) (rest : Txt) : takeR (leb k u ++ rest) 0 k = (leb k u, rest, 0) := by
  unfold takeR
  rw [if_neg (by rw [List.length_append, leb_len]; omega), if_pos rfl]
  have h := leb_len k u
  rw [List.take_left' h, List.drop_left' h]
theorem take_txt (t rest : Txt) : takeR (t ++ rest) 0 t.length = (t, rest, 0) := by
  unfold takeR
  rw [if_neg (by rw [List.length_append]; omega), if_pos rfl, List.take_left' rfl, List.drop_left' rfl]
/-- A field that is set as it was printed. -/
def setF (m : Msg) (f : Fl) (m0 : Msg) : Msg := match f with
  | .n i => if i = 1 then { m0 with s := m.s } else { m0 with r := m.r }
  | .c => { m0 with c := m.c }
  | .t i => m0.put i (m.t i)
theorem field_eq (m m0 : Msg) (f : Fl) (rest : Txt) (hs : 0 ≤ m.s ∧ m.s ≤ 4294967295) (hr : 0 ≤ m.r ∧ m.r ≤ 4294967295) (hc : 0 ≤ m.c ∧ m.c ≤ (most : Nat)) (h : okT m f = true) : fieldR f (fB m f ++ rest, 0, m0) = (rest, 0, setF m f m0) := by
  cases f with
  | n i =>
    by_cases hi : i = 1
    · simp only [fieldR, fB, if_pos hi, take_leb, setF]
      rw [vb_leb 4 _ (by omega), Int.toNat_of_nonneg hs.1]
    · simp only [fieldR, fB, if_neg hi, take_leb, setF]
      rw [vb_leb 4 _ (by omega), Int.toNat_of_nonneg hr.1]
  | c =>
    simp only [fieldR, fB, take_leb, setF]
    rw [vb_leb 8 _ (by have := hc.2; unfold most at this; omega), Int.toNat_of_nonneg hc.1]
  | t i =>
    simp only [okT] at h
    have hl : (m.t i).size ≤ 65535 := by
      have h1 := h
      unfold fitB at h1
      rw [Bool.and_eq_true, decide_eq_true_eq, tl_size] at h1
      exact h1.1
    have e2 : takeR (leb 2 (m.t i).size ++ ((m.t i).data.toList ++ rest)) 0 2 = (leb 2 (m.t i).size, (m.t i).data.toList ++ rest, 0) := take_leb _ _ _
    have e3 : takeR ((m.t i).data.toList ++ rest) 0 (m.t i).size = ((m.t i).data.toList, rest, 0) := by
      have h1 := take_txt (m.t i).data.toList rest
      rw [tl_size] at h1
      exact h1
    simp only [fieldR, fB, List.append_assoc, e2, setF]
    rw [vb_leb 2 _ (by omega)]
    simp only [e3, termC, h, if_true]
theorem row_eq (m : Msg) (hs : 0 ≤ m.s ∧ m.s ≤ 4294967295) (hr : 0 ≤ m.r ∧ m.r ≤ 4294967295) (hc : 0 ≤ m.c ∧ m.c ≤ (most : Nat)) : ∀ (fs : List Fl) (m0 : Msg), fs.all (okT m) = true → rowR fs (fs.flatMap (fB m), 0, m0) = ([], 0, fs.foldl (fun x f => setF m f x) m0)
  | [], m0, _ => rfl
  | f :: fs, m0, h => by
    rw [List.all_cons, Bool.and_eq_true] at h
    rw [rowR, if_pos rfl, List.flatMap_cons, field_eq m m0 f _ hs hr hc h.1, row_eq m hs hr hc fs _ h.2]
    rfl
theorem head_eq (k : Nat) (h : 1 ≤ k ∧ k ≤ 4) (rest : Txt) : (takeR ([UInt8.ofNat k, 0, 0, 0] ++ rest) 0 1).1 = [UInt8.ofNat k] ∧ wrV.headR ([UInt8.ofNat k, 0, 0, 0] ++ rest) = (rest, 0) := by
  have e : k = 1 ∨ k = 2 ∨ k = 3 ∨ k = 4 := by omega
  have z : ∀ (r : Txt), zeroR (0 :: r, 0) = (r, 0) := by
    intro r
    have e : takeR (0 :: r) 0 1 = ([0], r, 0) := by
      unfold takeR
      rw [if_neg (by rw [List.length_cons]; omega), if_pos rfl]
      rfl
    simp [zeroR, e, vb]
  have e1 : takeR ([UInt8.ofNat k, 0, 0, 0] ++ rest) 0 1 = ([UInt8.ofNat k], 0 :: 0 :: 0 :: rest, 0) := by
    unfold takeR
    rw [if_neg (by rw [List.length_append]; simp), if_pos rfl]
    rfl
  refine ⟨by rw [e1], ?_⟩
  unfold wrV.headR
  rw [e1]
  have e2 : (if rowOf (vb [UInt8.ofNat k] : Nat) = [] then failC 0 3 else 0) = 0 := by
    rcases e with rfl | rfl | rfl | rfl <;> rfl
  simp only [e2, z]
theorem row_msg {a b : Msg} (h : eqM a b = true) : a.row = b.row := by
  rw [eqM_iff] at h
  obtain ⟨h0, h1, h2, h3, h4, h5, h6, h7, h8, h9, h10, h11, h12⟩ := h
  simp only [byteArray_toList] at h4 h5 h6 h7 h8 h9 h10 h11 h12
  unfold Msg.row
  have ex : ∀ {x y : ByteArray}, x.data.toList = y.data.toList → x = y := fun {x y} e => by cases x; cases y; simp at e; simp [e]
  rw [h0, h1, h2, h3, ex h4, ex h5, ex h6, ex h7, ex h8, ex h9, ex h10, ex h11, ex h12]
/-- What is printed is read. -/
theorem read_print {m : Msg} (h : rightM m = true) (hs : 0 ≤ m.s ∧ m.s ≤ 4294967295) (hr : 0 ≤ m.r ∧ m.r ≤ 4294967295) (hc : 0 ≤ m.c ∧ m.c ≤ (most : Nat)) : (readM (outB m (goodF m))).1 = 0 ∧ (readM (outB m (goodF m))).2.row = m.row := by
  rw [goodF_eq, if_pos h]
  have hk := rightM_k h
  obtain ⟨k, hkk⟩ : ∃ k : Nat, m.k = k := Int.eq_ofNat_of_zero_le (by omega)
  have hk4 : 1 ≤ k ∧ k ≤ 4 := by omega
  have hg : (rowOf m.k).all (okT m) = true ∧ eqM (keepM m) m = true := by
    have e : m.k = 1 ∨ m.k = 2 ∨ m.k = 3 ∨ m.k = 4 := by omega
    have hg : goodM m = true := by 
      rcases e with e | e | e | e
      · rw [good_1 e, h]
      · rw [good_2 e, h]
      · rw [good_3 e, h]
      · rw [good_4 e, h]
    unfold goodM at hg
    rw [Bool.and_eq_true] at hg
    have hh := h
    unfold rightM at hh
    rw [Bool.and_eq_true, Bool.and_eq_true] at hh
    exact ⟨hg.1, hh.2.2⟩
  have hd : headB m = [UInt8.ofNat k, 0, 0, 0] := by unfold headB; rw [hkk]; rfl
  obtain ⟨q1, q2⟩ := head_eq k hk4 ((rowOf m.k).flatMap (fB m))
  have v1 : ((vb [UInt8.ofNat k] : Nat) : Int) = m.k := by
    rw [hkk]
    have e : k = 1 ∨ k = 2 ∨ k = 3 ∨ k = 4 := by omega
    rcases e with rfl | rfl | rfl | rfl <;> rfl
  have hb : bodyR (outB m (rowOf m.k)) = ([], 0, (rowOf m.k).foldl (fun x f => setF m f x) (zeroM m.k)) := by
    unfold bodyR outB
    rw [hd, q1, q2, v1]
    exact row_eq m hs hr hc _ _ hg.1
  have hcd : codeR (outB m (rowOf m.k)) = 0 := by unfold codeR; rw [hb]; rfl
  unfold readM
  rw [if_pos hcd, hb]
  refine ⟨rfl, ?_⟩
  have hrow := row_msg hg.2
  rw [← hrow]
  have e : m.k = 1 ∨ m.k = 2 ∨ m.k = 3 ∨ m.k = 4 := by omega
  clear hb hcd hrow q1 q2 hg hd v1
  rcases e with e | e | e | e <;> simp [keepM, e, rowOf, setF, zeroM, Msg.put, Msg.row]

end Go.Proofs.Ytbjnejnjlidiaaa.wrZ
