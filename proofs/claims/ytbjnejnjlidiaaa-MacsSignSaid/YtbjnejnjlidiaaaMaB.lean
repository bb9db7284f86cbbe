/- Macs: the program's small functions. -/
import Derived.Test.YtbjnejnjlidiaaaTsI
import Derived.Test.YtbjnejnjlidiaaaPrQ
import Derived.Test.YtbjnejnjlidiaaaMaA
namespace Go.Proofs.Ytbjnejnjlidiaaa.maB
open Go.RowKit kit numA numB numC numD numE tmA tmB tmC tmD tmE trA trB prR prS prW prX tsA tsF tsI wrA wrB wrC wrD wrE wrF wrG wrH wrI wrJ wrK wrL mkA maA
set_option linter.unusedVariables false
set_option linter.unusedSimpArgs false

/-- A text that is told. -/
theorem str_of {b : ByteArray} {t : Txt} (h : b.data.toList = t) : Value.string b = .string ⟨t.toArray⟩ := by subst h; rfl
theorem told_str {f : FuncId} {args : Array Value} {w0 w : World} {t : Txt} {b : ByteArray} (hb : b.data.toList = t) (h : Calls Try.prog f args w0 (Made w t)) : Calls Try.prog f args w0 (numA.Told w (.string b)) := made_told h hb

theorem termsOf_pos {m : Msg} : (0 < (termsOf m).length) ↔ rightM m = true := by
  rw [termsOf_eq]
  by_cases hr : rightM m = true
  · rw [if_pos hr]
    have hk := rightM_k hr
    have : 0 < (rterms m).length := by
      have e : m.k = 1 ∨ m.k = 2 ∨ m.k = 3 ∨ m.k = 4 := by omega
      unfold rterms rtexts
      rcases e with e | e | e | e <;> rw [e] <;> simp
    exact ⟨fun _ => hr, fun _ => this⟩
  · rw [if_neg hr]
    exact ⟨fun h => absurd h (by decide), fun h => absurd h hr⟩

theorem ret_bool {a b : Bool} (h : a = b) : Ending.returned (.bool a) = .returned (.bool b) := by rw [h]

set_option maxRecDepth 100000 in
theorem ismsg_any (m : Msg) (a : Bool) (w : World) (h : rightM m = a) (ht : ∀ i, (m.t i).size ≤ 100000000) : Calls Try.prog 146 #[mval m] w (numA.Told w (.bool a)) := by
  have HA := Lib.hid (show MsgAt (w.alloc (.cells m.row 61)) w.heap.size m from heap_alloc_new w _)
  have O := Lib.hid (show Only (fun _ => False) w (w.alloc (.cells m.row 61)) from (Only.refl _ w).alloc _)
  have C := Lib.hid (fun W => terms_any m W ht)
  simp only [mval] at C
  have L0 := Lib.hid (@termsOf_pos m)
  have HH := Lib.hid h
  obtain ⟨d0, d1, d2, d3, d4, d5, d6, d7, d8, d9, d10, d11, d12⟩ := MsgAt.cells HA.out
  simp only [mval, Msg.row] at d0 d1 d2 d3 d4 d5 d6 d7 d8 d9 d10 d11 d12
  unfold mval
  clear ht h
  go_enter Try.func146, Try.ntmps146
  go_wp2_with fail
  (with_reducible refine (C.out _).mono ?_)
  rintro e w2 ⟨o, a, c, rfl, -, -, -⟩
  replace O := Lib.hid (O.out.trans o)
  clear d0 d1 d2 d3 d4 d5 d6 d7 d8 d9 d10 d11 d12
  clear o C
  obtain ⟨L, hL⟩ : ∃ L, L = (termsOf m).length := ⟨_, rfl⟩
  rw [← hL] at L0 ⊢
  clear hL
  go_wp2_with fail
  go_ret
  exact ⟨ret_bool (by rw [← HH.out, Bool.eq_iff_iff, ← L0.out, decide_eq_true_eq]), O.out⟩

theorem asks_or (m : Msg) : asksM m = (((m.k == 1) || (m.k == 2)) && rightM m) := by
  unfold asksM
  rw [Bool.eq_iff_iff]
  simp only [Bool.and_eq_true, Bool.or_eq_true, beq_iff_eq, decide_eq_true_eq]
  constructor
  · rintro ⟨h1, h2⟩
    have := rightM_k h1
    exact ⟨by omega, h1⟩
  · rintro ⟨h1, h2⟩
    exact ⟨h2, by omega⟩

set_option maxRecDepth 100000 in
theorem issig_1 (m : Msg) (w : World) (hk : m.k = 1) (ht : ∀ i, (m.t i).size ≤ 100000000) : Calls Try.prog 142 #[mval m] w (numA.Told w (.bool (asksM m))) := by
  have HA := Lib.hid (show MsgAt (w.alloc (.cells m.row 61)) w.heap.size m from heap_alloc_new w _)
  have O := Lib.hid (show Only (fun _ => False) w (w.alloc (.cells m.row 61)) from (Only.refl _ w).alloc _)
  have C := Lib.hid (fun W => ismsg_any m (rightM m) W rfl ht)
  simp only [mval] at C
  obtain ⟨d0, d1, d2, d3, d4, d5, d6, d7, d8, d9, d10, d11, d12⟩ := MsgAt.cells HA.out
  simp only [mval, Msg.row] at d0 d1 d2 d3 d4 d5 d6 d7 d8 d9 d10 d11 d12
  have HQ := Lib.hid (asks_or m)
  have c1 : (m.k == 1) = true := by rw [beq_iff_eq]; exact hk
  have HC := Lib.hid (show asksM m = rightM m from by rw [HQ.out, c1]; rfl)
  unfold mval
  clear ht hk HQ
  obtain ⟨r, hr⟩ : ∃ r, r = rightM m := ⟨_, rfl⟩
  rw [← hr] at C HC
  clear hr
  go_enter Try.func142, Try.ntmps142
  go_wp2_with fail
  (with_reducible refine (C.out _).mono ?_)
  rintro e wx1 ⟨rfl, o⟩
  replace O := Lib.hid (O.out.trans o)
  clear o
  go_wp2_with fail
  go_ret
  exact ⟨by rw [HC.out]; rfl, O.out⟩

set_option maxRecDepth 100000 in
theorem issig_2 (m : Msg) (w : World) (hk : m.k = 2) (ht : ∀ i, (m.t i).size ≤ 100000000) : Calls Try.prog 142 #[mval m] w (numA.Told w (.bool (asksM m))) := by
  have HA := Lib.hid (show MsgAt (w.alloc (.cells m.row 61)) w.heap.size m from heap_alloc_new w _)
  have O := Lib.hid (show Only (fun _ => False) w (w.alloc (.cells m.row 61)) from (Only.refl _ w).alloc _)
  have C := Lib.hid (fun W => ismsg_any m (rightM m) W rfl ht)
  simp only [mval] at C
  obtain ⟨d0, d1, d2, d3, d4, d5, d6, d7, d8, d9, d10, d11, d12⟩ := MsgAt.cells HA.out
  simp only [mval, Msg.row] at d0 d1 d2 d3 d4 d5 d6 d7 d8 d9 d10 d11 d12
  have HQ := Lib.hid (asks_or m)
  have c1 : (m.k == 1) = false := by rw [beq_eq_false_iff_ne]; omega
  have c2 : (m.k == 2) = true := by rw [beq_iff_eq]; exact hk
  have HC := Lib.hid (show asksM m = rightM m from by rw [HQ.out, c1, c2]; rfl)
  unfold mval
  clear ht hk HQ
  obtain ⟨r, hr⟩ : ∃ r, r = rightM m := ⟨_, rfl⟩
  rw [← hr] at C HC
  clear hr
  go_enter Try.func142, Try.ntmps142
  go_wp2_with fail
  (with_reducible refine (C.out _).mono ?_)
  rintro e wx2 ⟨rfl, o⟩
  replace O := Lib.hid (O.out.trans o)
  clear o
  go_wp2_with fail
  go_ret
  exact ⟨by rw [HC.out]; rfl, O.out⟩

set_option maxRecDepth 100000 in
theorem issig_3 (m : Msg) (w : World) (hk : m.k ≠ 1 ∧ m.k ≠ 2) (ht : ∀ i, (m.t i).size ≤ 100000000) : Calls Try.prog 142 #[mval m] w (numA.Told w (.bool (asksM m))) := by
  have HA := Lib.hid (show MsgAt (w.alloc (.cells m.row 61)) w.heap.size m from heap_alloc_new w _)
  have O := Lib.hid (show Only (fun _ => False) w (w.alloc (.cells m.row 61)) from (Only.refl _ w).alloc _)
  have C := Lib.hid (fun W => ismsg_any m (rightM m) W rfl ht)
  simp only [mval] at C
  obtain ⟨d0, d1, d2, d3, d4, d5, d6, d7, d8, d9, d10, d11, d12⟩ := MsgAt.cells HA.out
  simp only [mval, Msg.row] at d0 d1 d2 d3 d4 d5 d6 d7 d8 d9 d10 d11 d12
  have HQ := Lib.hid (asks_or m)
  have c1 : (m.k == 1) = false := by rw [beq_eq_false_iff_ne]; omega
  have c2 : (m.k == 2) = false := by rw [beq_eq_false_iff_ne]; omega
  have HC := Lib.hid (show asksM m = false from by rw [HQ.out, c1, c2]; rfl)
  unfold mval
  clear ht hk HQ
  obtain ⟨r, hr⟩ : ∃ r, r = rightM m := ⟨_, rfl⟩
  rw [← hr] at C
  clear hr
  go_enter Try.func142, Try.ntmps142
  go_wp2_with fail
  go_ret
  exact ⟨by rw [HC.out]; rfl, O.out⟩

theorem issig_any (m : Msg) (a : Bool) (w : World) (h : asksM m = a) (ht : ∀ i, (m.t i).size ≤ 100000000) : Calls Try.prog 142 #[mval m] w (numA.Told w (.bool a)) := by
  subst h
  by_cases h1 : m.k = 1
  · exact issig_1 m w h1 ht
  by_cases h2 : m.k = 2
  · exact issig_2 m w h2 ht
  exact issig_3 m w ⟨h1, h2⟩ ht

set_option maxRecDepth 100000 in
theorem ispub_any (s : ByteArray) (a : Bool) (w : World) (h : pubB s.data.toList = a) (hm : s.size ≤ 100000000) : Calls Try.prog 143 #[.string s] w (numA.Told w (.bool a)) := by
  have C := Lib.hid (fun W => prR.kind_any s W hm)
  obtain ⟨k, hk⟩ : ∃ k, (trJ.ndOf s.data.toList).k = k := ⟨_, rfl⟩
  have O := Lib.hid (Only.refl (fun _ => False) w)
  have HF := Lib.hid (show ((k : Int) == 5) = a from by
    rw [← h, pubB, show nd s.data.toList = trJ.ndOf s.data.toList from rfl, hk, Bool.eq_iff_iff, beq_iff_eq, beq_iff_eq]
    omega)
  rw [hk] at C
  clear hk h hm
  go_enter Try.func143, Try.ntmps143
  go_wp2_with fail
  (with_reducible refine (C.out _).mono ?_)
  rintro e wx3 ⟨rfl, o⟩
  replace O := Lib.hid (O.out.trans o)
  clear o
  go_wp2_with fail
  rw [HF.out]
  go_ret
  exact ⟨rfl, O.out⟩

set_option maxRecDepth 100000 in
theorem mac_any (k u b : ByteArray) (w : World) (hb : b.data.toList = macT k.data.toList u.data.toList) (h1 : k.size ≤ 100000000) (h2 : u.size ≤ 100000000) : Calls Try.prog 144 #[.string k, .string u] w (numA.Told w (.string b)) := by
  have C := Lib.hid (fun W => told_str (b := b) (by rw [hb]; rfl) (make2 9 0 0 rfl (by decide) k u W h1 h2))
  have O := Lib.hid (Only.refl (fun _ => False) w)
  clear hb h1 h2
  go_enter Try.func144, Try.ntmps144
  go_wp2_with fail
  (with_reducible refine (C.out _).mono ?_)
  rintro e wx4 ⟨rfl, o⟩
  replace O := Lib.hid (O.out.trans o)
  clear o
  go_wp2_with fail
  go_ret
  exact ⟨rfl, O.out⟩

set_option maxRecDepth 100000 in
theorem door_any (p b : ByteArray) (w : World) (hb : b.data.toList = doorT p.data.toList) (h1 : p.size ≤ 100000000) : Calls Try.prog 145 #[.string p] w (numA.Told w (.string b)) := by
  have C := Lib.hid (fun W => told_str (b := b) (by rw [hb]; rfl) (make2 7 0 0 rfl (by decide) ⟨#[120, 54, 100, 54, 49, 54, 51, 51, 49]⟩ p W (by decide) h1))
  have O := Lib.hid (Only.refl (fun _ => False) w)
  clear hb h1
  go_enter Try.func145, Try.ntmps145
  go_wp2_with fail
  (with_reducible refine (C.out _).mono ?_)
  rintro e wx5 ⟨rfl, o⟩
  replace O := Lib.hid (O.out.trans o)
  clear o
  go_wp2_with fail
  go_ret
  exact ⟨rfl, O.out⟩

set_option maxRecDepth 100000 in
theorem jar_any (p b : ByteArray) (w : World) (hb : b.data.toList = jarT p.data.toList) (h1 : p.size ≤ 100000000) : Calls Try.prog 149 #[.string p] w (numA.Told w (.string b)) := by
  have C := Lib.hid (fun W => told_str (b := b) (by rw [hb]; rfl) (make2 7 0 0 rfl (by decide) ⟨#[120, 54, 51, 54, 102, 54, 102, 54, 98, 54, 57, 54, 53]⟩ p W (by decide) h1))
  have O := Lib.hid (Only.refl (fun _ => False) w)
  clear hb h1
  go_enter Try.func149, Try.ntmps149
  go_wp2_with fail
  (with_reducible refine (C.out _).mono ?_)
  rintro e wx6 ⟨rfl, o⟩
  replace O := Lib.hid (O.out.trans o)
  clear o
  go_wp2_with fail
  go_ret
  exact ⟨rfl, O.out⟩


end Go.Proofs.Ytbjnejnjlidiaaa.maB
