/- Macs: Accept. -/
import Derived.Test.YtbjnejnjlidiaaaMaI
import Derived.Test.YtbjnejnjlidiaaaRgA
namespace Go.Proofs.Ytbjnejnjlidiaaa.maL
open Go.RowKit kit numA numB numC numD numE tmA tmB tmC tmD tmE trA trB prR prS prW prX tsA tsB tsF tsI wrA wrB wrC wrD wrE wrF wrG wrH wrI wrJ wrK wrL mkA maA maB maC maD maE maF maG maI
set_option linter.unusedVariables false
set_option linter.unusedSimpArgs false

def accB (m : Msg) (p : Txt) : Bool := m.k == 3 && (rightM m && ((nd (m.t 8).data.toList).k == 3 && pubB p))
def acceptM (m : Msg) (p x : Txt) : Txt × Nat := if accB m p = true then (if (opn (m.t 9).data.toList (jarT p) (nd (m.t 8).data.toList).n x).2 = 0 then ((opn (m.t 9).data.toList (jarT p) (nd (m.t 8).data.toList).n x).1, 0) else ([], 8)) else ([], 3)

theorem open_let (s key : ByteArray) (n : Nat) (v b : ByteArray) (c : Nat) (w : World) (hm : s.size ≤ 100000000) (hb : b.data.toList = (opn s.data.toList key.data.toList n v.data.toList).1) (hc : c = (opn s.data.toList key.data.toList n v.data.toList).2) : Calls Try.prog 33 #[.string s, .string key, .int .u64 n, .string v] w (numA.Told w (.tuple #[.string b, .int .i64 (c : Nat)])) := by
  have h := prX.open_any s key n v w hm
  rw [← hb, ← hc] at h
  have e : (⟨b.data.toList.toArray⟩ : ByteArray) = b := by simp
  rw [e] at h
  exact h
theorem refopen_let (s key : ByteArray) (n : Nat) (v b : ByteArray) (c : Nat) (w : World) (hm : s.size ≤ 100000000) (hb : b.data.toList = (opn s.data.toList key.data.toList n v.data.toList).1) (hc : c = (opn s.data.toList key.data.toList n v.data.toList).2) : Calls Try.prog 34 #[.string s, .string key, .int .u64 n, .string v] w (numA.Told w (.tuple #[.string b, .int .i64 (c : Nat)])) := by
  have h := tsG.refopen_any s key n v w hm
  rw [← hb, ← hc] at h
  have e : (⟨b.data.toList.toArray⟩ : ByteArray) = b := by simp
  rw [e] at h
  exact h

theorem refright_let (m : Msg) (a : Bool) (w : World) (h : rightM m = a) (ht : ∀ i, (m.t i).size ≤ 100000000) : Calls Try.prog 56 #[mval m] w (numA.Told w (.bool a)) := by
  subst h
  exact refright_any m w ht

set_option maxRecDepth 100000 in
set_option maxHeartbeats 1600000 in
theorem accept_1 (m : Msg) (p x : ByteArray) (w : World) (hA : accB m p.data.toList = false) (hk : m.k ≠ 3) (ht : ∀ i, (m.t i).size ≤ 100000000) (hz : p.size ≤ 100000000) : Calls Try.prog 86 #[mval m, .string p, .string x] w (numA.Told w (.tuple #[.string ⟨(acceptM m p.data.toList x.data.toList).1.toArray⟩, .int .i64 ((acceptM m p.data.toList x.data.toList).2 : Nat)])) := by
  have HC0 := Lib.hid (show acceptM m p.data.toList x.data.toList = ([], 3) from by rw [acceptM, if_neg (by rw [Bool.not_eq_true]; exact hA)])
  have k3 : (m.k != 3) = true := by rw [bne_iff_ne]; exact hk
  have HA := Lib.hid (show MsgAt (w.alloc (.cells m.row 61)) w.heap.size m from heap_alloc_new w _)
  have O := Lib.hid (show Only (fun _ => False) w (w.alloc (.cells m.row 61)) from (Only.refl _ w).alloc _)
  unfold mval
  clear ht hz hA hk
  go_enter Try.func86, Try.ntmps86
  go_wp2_with fail
  go_ret2
  exact ⟨by rw [HC0.out]; rfl, O.out⟩

set_option maxRecDepth 100000 in
set_option maxHeartbeats 1600000 in
theorem accept_2 (m : Msg) (p x : ByteArray) (w : World) (hA : accB m p.data.toList = false) (hk : m.k = 3) (hr0 : rightM m = false) (ht : ∀ i, (m.t i).size ≤ 100000000) (hz : p.size ≤ 100000000) : Calls Try.prog 86 #[mval m, .string p, .string x] w (numA.Told w (.tuple #[.string ⟨(acceptM m p.data.toList x.data.toList).1.toArray⟩, .int .i64 ((acceptM m p.data.toList x.data.toList).2 : Nat)])) := by
  have HC0 := Lib.hid (show acceptM m p.data.toList x.data.toList = ([], 3) from by rw [acceptM, if_neg (by rw [Bool.not_eq_true]; exact hA)])
  have k3 : (m.k != 3) = false := by rw [bne_eq_false_iff_eq]; exact hk
  have CR := Lib.hid (fun W => ismsg_any m false W hr0 ht)
  simp only [mval] at CR
  have HA := Lib.hid (show MsgAt (w.alloc (.cells m.row 61)) w.heap.size m from heap_alloc_new w _)
  have O := Lib.hid (show Only (fun _ => False) w (w.alloc (.cells m.row 61)) from (Only.refl _ w).alloc _)
  obtain ⟨X, hX⟩ : ∃ X, X = w.alloc (.cells m.row 61) := ⟨_, rfl⟩
  rw [← hX] at HA O
  obtain ⟨A, hA⟩ : ∃ A, A = w.heap.size := ⟨_, rfl⟩
  rw [← hA] at HA
  have HX := Lib.hid hX
  have HAE := Lib.hid hA
  simp only [Msg.row] at HX
  clear hX hA
  unfold mval
  clear ht hz hA hk hr0
  go_enter Try.func86, Try.ntmps86
  go_wp2_with fail
  rw [← HX.out, ← HAE.out]
  (with_reducible refine (CR.out _).mono ?_)
  rintro e w2 ⟨rfl, o⟩
  replace O := Lib.hid (O.out.trans o)
  replace HA := Lib.hid (MsgAt.keep HA.out o id)
  clear o
  obtain ⟨d0, d1, d2, d3, d4, d5, d6, d7, d8, d9, d10, d11, d12⟩ := MsgAt.cells HA.out
  go_wp2_with fail
  go_ret2
  exact ⟨by rw [HC0.out]; rfl, O.out⟩

set_option maxRecDepth 100000 in
set_option maxHeartbeats 1600000 in
theorem accept_3 (m : Msg) (p x : ByteArray) (w : World) (hA : accB m p.data.toList = false) (hk : m.k = 3) (hr0 : rightM m = true) (hnk : (trJ.ndOf (m.t 8).data.toList).k ≠ 3) (ht : ∀ i, (m.t i).size ≤ 100000000) (hz : p.size ≤ 100000000) : Calls Try.prog 86 #[mval m, .string p, .string x] w (numA.Told w (.tuple #[.string ⟨(acceptM m p.data.toList x.data.toList).1.toArray⟩, .int .i64 ((acceptM m p.data.toList x.data.toList).2 : Nat)])) := by
  have HC0 := Lib.hid (show acceptM m p.data.toList x.data.toList = ([], 3) from by rw [acceptM, if_neg (by rw [Bool.not_eq_true]; exact hA)])
  have k3 : (m.k != 3) = false := by rw [bne_eq_false_iff_eq]; exact hk
  have CR := Lib.hid (fun W => ismsg_any m true W hr0 ht)
  obtain ⟨n, hn⟩ : ∃ n, n = (trJ.ndOf (m.t 8).data.toList).k := ⟨_, rfl⟩
  have n3 : ((n : Int) != 3) = true := by
    have hnn : n ≠ 3 := hn ▸ hnk
    rw [bne_iff_ne]; omega
  have CK := Lib.hid (fun W => prR.kind_any (m.t 8) W (ht 8))
  rw [← hn] at CK
  simp only [mval] at CR
  have HA := Lib.hid (show MsgAt (w.alloc (.cells m.row 61)) w.heap.size m from heap_alloc_new w _)
  have O := Lib.hid (show Only (fun _ => False) w (w.alloc (.cells m.row 61)) from (Only.refl _ w).alloc _)
  obtain ⟨X, hX⟩ : ∃ X, X = w.alloc (.cells m.row 61) := ⟨_, rfl⟩
  rw [← hX] at HA O
  obtain ⟨A, hA⟩ : ∃ A, A = w.heap.size := ⟨_, rfl⟩
  rw [← hA] at HA
  have HX := Lib.hid hX
  have HAE := Lib.hid hA
  simp only [Msg.row] at HX
  clear hX hA
  unfold mval
  clear ht hz hA hk hr0 hnk hn
  go_enter Try.func86, Try.ntmps86
  go_wp2_with fail
  rw [← HX.out, ← HAE.out]
  (with_reducible refine (CR.out _).mono ?_)
  rintro e w2 ⟨rfl, o⟩
  replace O := Lib.hid (O.out.trans o)
  replace HA := Lib.hid (MsgAt.keep HA.out o id)
  clear o
  obtain ⟨d0, d1, d2, d3, d4, d5, d6, d7, d8, d9, d10, d11, d12⟩ := MsgAt.cells HA.out
  go_wp2_with fail
  (with_reducible refine (CK.out _).mono ?_)
  rintro e w2 ⟨rfl, o⟩
  replace O := Lib.hid (O.out.trans o)
  replace HA := Lib.hid (MsgAt.keep HA.out o id)
  clear o
  obtain ⟨d0, d1, d2, d3, d4, d5, d6, d7, d8, d9, d10, d11, d12⟩ := MsgAt.cells HA.out
  go_wp2_with fail
  go_ret2
  exact ⟨by rw [HC0.out]; rfl, O.out⟩

set_option maxRecDepth 100000 in
set_option maxHeartbeats 1600000 in
theorem accept_4 (m : Msg) (p x : ByteArray) (w : World) (hA : accB m p.data.toList = false) (hk : m.k = 3) (hr0 : rightM m = true) (hnk : (trJ.ndOf (m.t 8).data.toList).k = 3) (hp : pubB p.data.toList = false) (ht : ∀ i, (m.t i).size ≤ 100000000) (hz : p.size ≤ 100000000) : Calls Try.prog 86 #[mval m, .string p, .string x] w (numA.Told w (.tuple #[.string ⟨(acceptM m p.data.toList x.data.toList).1.toArray⟩, .int .i64 ((acceptM m p.data.toList x.data.toList).2 : Nat)])) := by
  have HC0 := Lib.hid (show acceptM m p.data.toList x.data.toList = ([], 3) from by rw [acceptM, if_neg (by rw [Bool.not_eq_true]; exact hA)])
  have k3 : (m.k != 3) = false := by rw [bne_eq_false_iff_eq]; exact hk
  have CR := Lib.hid (fun W => ismsg_any m true W hr0 ht)
  obtain ⟨n, hn⟩ : ∃ n, n = (trJ.ndOf (m.t 8).data.toList).k := ⟨_, rfl⟩
  have n3 : ((n : Int) != 3) = false := by
    have hnn : n = 3 := hn ▸ hnk
    rw [bne_eq_false_iff_eq]; omega
  have CK := Lib.hid (fun W => prR.kind_any (m.t 8) W (ht 8))
  rw [← hn] at CK
  have CP := Lib.hid (fun W => ispub_any p false W hp hz)
  simp only [mval] at CR
  have HA := Lib.hid (show MsgAt (w.alloc (.cells m.row 61)) w.heap.size m from heap_alloc_new w _)
  have O := Lib.hid (show Only (fun _ => False) w (w.alloc (.cells m.row 61)) from (Only.refl _ w).alloc _)
  obtain ⟨X, hX⟩ : ∃ X, X = w.alloc (.cells m.row 61) := ⟨_, rfl⟩
  rw [← hX] at HA O
  obtain ⟨A, hA⟩ : ∃ A, A = w.heap.size := ⟨_, rfl⟩
  rw [← hA] at HA
  have HX := Lib.hid hX
  have HAE := Lib.hid hA
  simp only [Msg.row] at HX
  clear hX hA
  unfold mval
  clear ht hz hA hk hr0 hnk hn hp
  go_enter Try.func86, Try.ntmps86
  go_wp2_with fail
  rw [← HX.out, ← HAE.out]
  (with_reducible refine (CR.out _).mono ?_)
  rintro e w2 ⟨rfl, o⟩
  replace O := Lib.hid (O.out.trans o)
  replace HA := Lib.hid (MsgAt.keep HA.out o id)
  clear o
  obtain ⟨d0, d1, d2, d3, d4, d5, d6, d7, d8, d9, d10, d11, d12⟩ := MsgAt.cells HA.out
  go_wp2_with fail
  (with_reducible refine (CK.out _).mono ?_)
  rintro e w2 ⟨rfl, o⟩
  replace O := Lib.hid (O.out.trans o)
  replace HA := Lib.hid (MsgAt.keep HA.out o id)
  clear o
  obtain ⟨d0, d1, d2, d3, d4, d5, d6, d7, d8, d9, d10, d11, d12⟩ := MsgAt.cells HA.out
  go_wp2_with fail
  (with_reducible refine (CP.out _).mono ?_)
  rintro e w2 ⟨rfl, o⟩
  replace O := Lib.hid (O.out.trans o)
  replace HA := Lib.hid (MsgAt.keep HA.out o id)
  clear o
  obtain ⟨d0, d1, d2, d3, d4, d5, d6, d7, d8, d9, d10, d11, d12⟩ := MsgAt.cells HA.out
  go_wp2_with fail
  go_ret2
  exact ⟨by rw [HC0.out]; rfl, O.out⟩

set_option maxRecDepth 100000 in
set_option maxHeartbeats 1600000 in
theorem accept_5 (m : Msg) (p x : ByteArray) (w : World) (hA : accB m p.data.toList = true) (hk : m.k = 3) (hr0 : rightM m = true) (hnk : (trJ.ndOf (m.t 8).data.toList).k = 3) (hp : pubB p.data.toList = true) (ho : (opn (m.t 9).data.toList (jarT p.data.toList) (nd (m.t 8).data.toList).n x.data.toList).2 = 0) (ht : ∀ i, (m.t i).size ≤ 100000000) (hz : p.size ≤ 100000000) : Calls Try.prog 86 #[mval m, .string p, .string x] w (numA.Told w (.tuple #[.string ⟨(acceptM m p.data.toList x.data.toList).1.toArray⟩, .int .i64 ((acceptM m p.data.toList x.data.toList).2 : Nat)])) := by
  have k3 : (m.k != 3) = false := by rw [bne_eq_false_iff_eq]; exact hk
  have CR := Lib.hid (fun W => ismsg_any m true W hr0 ht)
  obtain ⟨n, hn⟩ : ∃ n, n = (trJ.ndOf (m.t 8).data.toList).k := ⟨_, rfl⟩
  have n3 : ((n : Int) != 3) = false := by
    have hnn : n = 3 := hn ▸ hnk
    rw [bne_eq_false_iff_eq]; omega
  have CK := Lib.hid (fun W => prR.kind_any (m.t 8) W (ht 8))
  rw [← hn] at CK
  have CP := Lib.hid (fun W => ispub_any p true W hp hz)
  obtain ⟨N, hN⟩ : ∃ N, N = (trJ.ndOf (m.t 8).data.toList).n := ⟨_, rfl⟩
  obtain ⟨j, hj⟩ : ∃ j : ByteArray, j.data.toList = jarT p.data.toList := ⟨⟨(jarT p.data.toList).toArray⟩, rfl⟩
  obtain ⟨b, hb⟩ : ∃ b : ByteArray, b.data.toList = (opn (m.t 9).data.toList (jarT p.data.toList) N x.data.toList).1 := ⟨⟨((opn (m.t 9).data.toList (jarT p.data.toList) N x.data.toList).1).toArray⟩, rfl⟩
  obtain ⟨c, hc⟩ : ∃ c, c = (opn (m.t 9).data.toList (jarT p.data.toList) N x.data.toList).2 := ⟨_, rfl⟩
  have CO := Lib.hid (fun W => open_let (m.t 9) j N x b c W (ht 9) (by rw [hj]; exact hb) (by rw [hj]; exact hc))
  have HC0 := Lib.hid (show acceptM m p.data.toList x.data.toList = (b.data.toList, 0) from by rw [acceptM, if_pos hA, show (nd (m.t 8).data.toList).n = N from hN.symm, ← hc, if_pos (by rw [hc, hN]; exact ho), hb])
  have c0 : ((c : Int) != 0) = false := by
    have h := ho
    rw [show (nd (m.t 8).data.toList).n = N from hN.symm, ← hc] at h
    rw [bne_eq_false_iff_eq]; omega
  have cz : (c : Int) = 0 := by rwa [bne_eq_false_iff_eq] at c0
  have CV := Lib.hid (fun W => prR.value_any (m.t 8) W (ht 8))
  rw [← hN] at CV
  obtain ⟨hv, hhv⟩ : ∃ hv, hv = prR.hasN (trJ.ndOf (m.t 8).data.toList).k := ⟨_, rfl⟩
  rw [← hhv] at CV
  have CJ := Lib.hid (fun W => jar_any p j W hj hz)
  clear hhv
  simp only [mval] at CR
  have HA := Lib.hid (show MsgAt (w.alloc (.cells m.row 61)) w.heap.size m from heap_alloc_new w _)
  have O := Lib.hid (show Only (fun _ => False) w (w.alloc (.cells m.row 61)) from (Only.refl _ w).alloc _)
  obtain ⟨X, hX⟩ : ∃ X, X = w.alloc (.cells m.row 61) := ⟨_, rfl⟩
  rw [← hX] at HA O
  obtain ⟨A, hA⟩ : ∃ A, A = w.heap.size := ⟨_, rfl⟩
  rw [← hA] at HA
  have HX := Lib.hid hX
  have HAE := Lib.hid hA
  simp only [Msg.row] at HX
  clear hX hA
  unfold mval
  clear ht hz hA hk hr0 hnk hn hp hN hj hb hc ho
  go_enter Try.func86, Try.ntmps86
  go_wp2_with fail
  rw [← HX.out, ← HAE.out]
  (with_reducible refine (CR.out _).mono ?_)
  rintro e w2 ⟨rfl, o⟩
  replace O := Lib.hid (O.out.trans o)
  replace HA := Lib.hid (MsgAt.keep HA.out o id)
  clear o
  obtain ⟨d0, d1, d2, d3, d4, d5, d6, d7, d8, d9, d10, d11, d12⟩ := MsgAt.cells HA.out
  go_wp2_with fail
  (with_reducible refine (CK.out _).mono ?_)
  rintro e w2 ⟨rfl, o⟩
  replace O := Lib.hid (O.out.trans o)
  replace HA := Lib.hid (MsgAt.keep HA.out o id)
  clear o
  obtain ⟨d0, d1, d2, d3, d4, d5, d6, d7, d8, d9, d10, d11, d12⟩ := MsgAt.cells HA.out
  go_wp2_with fail
  (with_reducible refine (CP.out _).mono ?_)
  rintro e w2 ⟨rfl, o⟩
  replace O := Lib.hid (O.out.trans o)
  replace HA := Lib.hid (MsgAt.keep HA.out o id)
  clear o
  obtain ⟨d0, d1, d2, d3, d4, d5, d6, d7, d8, d9, d10, d11, d12⟩ := MsgAt.cells HA.out
  go_wp2_with fail
  (with_reducible refine (CV.out _).mono ?_)
  rintro e w5 ⟨rfl, o⟩
  replace O := Lib.hid (O.out.trans o)
  replace HA := Lib.hid (MsgAt.keep HA.out o id)
  clear o
  obtain ⟨d0, d1, d2, d3, d4, d5, d6, d7, d8, d9, d10, d11, d12⟩ := MsgAt.cells HA.out
  go_upto_region 4 with fail
  have R := Lib.hid ((Only.refl (fun _ => False) w5).drew)
  refine wp_region_held_drew (S := (fun w' => w'.cell? ⟨A, 0, none⟩ = some (.int .i64 m.k) ∧ w'.cell? ⟨A, 1, none⟩ = some (.int .u32 m.s) ∧ w'.cell? ⟨A, 2, none⟩ = some (.int .u32 m.r) ∧ w'.cell? ⟨A, 3, none⟩ = some (.int .u64 m.c) ∧ w'.cell? ⟨A, 4, none⟩ = some (.string (m.t 4)) ∧ w'.cell? ⟨A, 5, none⟩ = some (.string (m.t 5)) ∧ w'.cell? ⟨A, 6, none⟩ = some (.string (m.t 6)) ∧ w'.cell? ⟨A, 7, none⟩ = some (.string (m.t 7)) ∧ w'.cell? ⟨A, 8, none⟩ = some (.string (m.t 8)) ∧ w'.cell? ⟨A, 9, none⟩ = some (.string (m.t 9)) ∧ w'.cell? ⟨A, 10, none⟩ = some (.string (m.t 10)) ∧ w'.cell? ⟨A, 11, none⟩ = some (.string (m.t 11)) ∧ w'.cell? ⟨A, 12, none⟩ = some (.string (m.t 12)))) (by kernel_rfl) ?_ (fun hHeld => ?_)
  · exact MsgAt.cells (MsgAt.keep HA.out R.out id)
  refine rgA.tk 0 hHeld ?_
  refine rgA.tk 1 hHeld ?_
  refine rgA.tk 2 hHeld ?_
  refine rgA.tk 4 hHeld ?_
  refine rgA.tk 5 hHeld ?_
  refine rgA.rd 3 (fun K hK => ?_)
  go_simp
  (with_reducible refine (CJ.out _).mono ?_)
  rintro e w2 ⟨rfl, o⟩
  replace R := Lib.hid (R.out.trans o)
  clear o
  go_wp2_with fail
  refine hK.out _ _ ?_ (fun hHeld => ?_)
  · exact MsgAt.cells (MsgAt.keep HA.out R.out id)
  clear hK K
  try simp only [List.getElem_toArray, List.getElem_cons_succ, List.getElem_cons_zero, Act.put, List.setIfInBounds_toArray, List.set_cons_zero, List.set_cons_succ]
  refine rgA.rd 6 (fun K hK => ?_)
  go_simp
  (with_reducible refine (CO.out _).mono ?_)
  rintro e w2 ⟨rfl, o⟩
  replace R := Lib.hid (R.out.trans o)
  clear o
  go_wp2_with fail
  refine hK.out _ _ ?_ (fun hHeld => ?_)
  · exact MsgAt.cells (MsgAt.keep HA.out R.out id)
  clear hK K
  try simp only [List.getElem_toArray, List.getElem_cons_succ, List.getElem_cons_zero, Act.put, List.setIfInBounds_toArray, List.set_cons_zero, List.set_cons_succ]
  refine rgA.tk 7 hHeld ?_
  refine rgA.tk 8 hHeld ?_
  refine rgA.tk 9 hHeld ?_
  refine rgA.tk 10 hHeld ?_
  refine rgA.tk 11 hHeld ?_
  refine wpAnyH_done (by kernel_rfl) ?_ _
  go_wp2_with fail
  go_ret2
  exact ⟨by rw [HC0.out]; rfl, O.out.trans R.out⟩

set_option maxRecDepth 100000 in
set_option maxHeartbeats 1600000 in
theorem accept_6 (m : Msg) (p x : ByteArray) (w : World) (hA : accB m p.data.toList = true) (hk : m.k = 3) (hr0 : rightM m = true) (hnk : (trJ.ndOf (m.t 8).data.toList).k = 3) (hp : pubB p.data.toList = true) (ho : ¬ (opn (m.t 9).data.toList (jarT p.data.toList) (nd (m.t 8).data.toList).n x.data.toList).2 = 0) (ht : ∀ i, (m.t i).size ≤ 100000000) (hz : p.size ≤ 100000000) : Calls Try.prog 86 #[mval m, .string p, .string x] w (numA.Told w (.tuple #[.string ⟨(acceptM m p.data.toList x.data.toList).1.toArray⟩, .int .i64 ((acceptM m p.data.toList x.data.toList).2 : Nat)])) := by
  have k3 : (m.k != 3) = false := by rw [bne_eq_false_iff_eq]; exact hk
  have CR := Lib.hid (fun W => ismsg_any m true W hr0 ht)
  obtain ⟨n, hn⟩ : ∃ n, n = (trJ.ndOf (m.t 8).data.toList).k := ⟨_, rfl⟩
  have n3 : ((n : Int) != 3) = false := by
    have hnn : n = 3 := hn ▸ hnk
    rw [bne_eq_false_iff_eq]; omega
  have CK := Lib.hid (fun W => prR.kind_any (m.t 8) W (ht 8))
  rw [← hn] at CK
  have CP := Lib.hid (fun W => ispub_any p true W hp hz)
  obtain ⟨N, hN⟩ : ∃ N, N = (trJ.ndOf (m.t 8).data.toList).n := ⟨_, rfl⟩
  obtain ⟨j, hj⟩ : ∃ j : ByteArray, j.data.toList = jarT p.data.toList := ⟨⟨(jarT p.data.toList).toArray⟩, rfl⟩
  obtain ⟨b, hb⟩ : ∃ b : ByteArray, b.data.toList = (opn (m.t 9).data.toList (jarT p.data.toList) N x.data.toList).1 := ⟨⟨((opn (m.t 9).data.toList (jarT p.data.toList) N x.data.toList).1).toArray⟩, rfl⟩
  obtain ⟨c, hc⟩ : ∃ c, c = (opn (m.t 9).data.toList (jarT p.data.toList) N x.data.toList).2 := ⟨_, rfl⟩
  have CO := Lib.hid (fun W => open_let (m.t 9) j N x b c W (ht 9) (by rw [hj]; exact hb) (by rw [hj]; exact hc))
  have HC0 := Lib.hid (show acceptM m p.data.toList x.data.toList = ([], 8) from by rw [acceptM, if_pos hA, show (nd (m.t 8).data.toList).n = N from hN.symm, ← hc, if_neg (by rw [hc, hN]; exact ho)])
  have c0 : ((c : Int) != 0) = true := by
    have h := ho
    rw [show (nd (m.t 8).data.toList).n = N from hN.symm, ← hc] at h
    rw [bne_iff_ne]; omega
  have CV := Lib.hid (fun W => prR.value_any (m.t 8) W (ht 8))
  rw [← hN] at CV
  obtain ⟨hv, hhv⟩ : ∃ hv, hv = prR.hasN (trJ.ndOf (m.t 8).data.toList).k := ⟨_, rfl⟩
  rw [← hhv] at CV
  have CJ := Lib.hid (fun W => jar_any p j W hj hz)
  clear hhv
  simp only [mval] at CR
  have HA := Lib.hid (show MsgAt (w.alloc (.cells m.row 61)) w.heap.size m from heap_alloc_new w _)
  have O := Lib.hid (show Only (fun _ => False) w (w.alloc (.cells m.row 61)) from (Only.refl _ w).alloc _)
  obtain ⟨X, hX⟩ : ∃ X, X = w.alloc (.cells m.row 61) := ⟨_, rfl⟩
  rw [← hX] at HA O
  obtain ⟨A, hA⟩ : ∃ A, A = w.heap.size := ⟨_, rfl⟩
  rw [← hA] at HA
  have HX := Lib.hid hX
  have HAE := Lib.hid hA
  simp only [Msg.row] at HX
  clear hX hA
  unfold mval
  clear ht hz hA hk hr0 hnk hn hp hN hj hb hc ho
  go_enter Try.func86, Try.ntmps86
  go_wp2_with fail
  rw [← HX.out, ← HAE.out]
  (with_reducible refine (CR.out _).mono ?_)
  rintro e w2 ⟨rfl, o⟩
  replace O := Lib.hid (O.out.trans o)
  replace HA := Lib.hid (MsgAt.keep HA.out o id)
  clear o
  obtain ⟨d0, d1, d2, d3, d4, d5, d6, d7, d8, d9, d10, d11, d12⟩ := MsgAt.cells HA.out
  go_wp2_with fail
  (with_reducible refine (CK.out _).mono ?_)
  rintro e w2 ⟨rfl, o⟩
  replace O := Lib.hid (O.out.trans o)
  replace HA := Lib.hid (MsgAt.keep HA.out o id)
  clear o
  obtain ⟨d0, d1, d2, d3, d4, d5, d6, d7, d8, d9, d10, d11, d12⟩ := MsgAt.cells HA.out
  go_wp2_with fail
  (with_reducible refine (CP.out _).mono ?_)
  rintro e w2 ⟨rfl, o⟩
  replace O := Lib.hid (O.out.trans o)
  replace HA := Lib.hid (MsgAt.keep HA.out o id)
  clear o
  obtain ⟨d0, d1, d2, d3, d4, d5, d6, d7, d8, d9, d10, d11, d12⟩ := MsgAt.cells HA.out
  go_wp2_with fail
  (with_reducible refine (CV.out _).mono ?_)
  rintro e w5 ⟨rfl, o⟩
  replace O := Lib.hid (O.out.trans o)
  replace HA := Lib.hid (MsgAt.keep HA.out o id)
  clear o
  obtain ⟨d0, d1, d2, d3, d4, d5, d6, d7, d8, d9, d10, d11, d12⟩ := MsgAt.cells HA.out
  go_upto_region 4 with fail
  have R := Lib.hid ((Only.refl (fun _ => False) w5).drew)
  refine wp_region_held_drew (S := (fun w' => w'.cell? ⟨A, 0, none⟩ = some (.int .i64 m.k) ∧ w'.cell? ⟨A, 1, none⟩ = some (.int .u32 m.s) ∧ w'.cell? ⟨A, 2, none⟩ = some (.int .u32 m.r) ∧ w'.cell? ⟨A, 3, none⟩ = some (.int .u64 m.c) ∧ w'.cell? ⟨A, 4, none⟩ = some (.string (m.t 4)) ∧ w'.cell? ⟨A, 5, none⟩ = some (.string (m.t 5)) ∧ w'.cell? ⟨A, 6, none⟩ = some (.string (m.t 6)) ∧ w'.cell? ⟨A, 7, none⟩ = some (.string (m.t 7)) ∧ w'.cell? ⟨A, 8, none⟩ = some (.string (m.t 8)) ∧ w'.cell? ⟨A, 9, none⟩ = some (.string (m.t 9)) ∧ w'.cell? ⟨A, 10, none⟩ = some (.string (m.t 10)) ∧ w'.cell? ⟨A, 11, none⟩ = some (.string (m.t 11)) ∧ w'.cell? ⟨A, 12, none⟩ = some (.string (m.t 12)))) (by kernel_rfl) ?_ (fun hHeld => ?_)
  · exact MsgAt.cells (MsgAt.keep HA.out R.out id)
  refine rgA.tk 0 hHeld ?_
  refine rgA.tk 1 hHeld ?_
  refine rgA.tk 2 hHeld ?_
  refine rgA.tk 4 hHeld ?_
  refine rgA.tk 5 hHeld ?_
  refine rgA.rd 3 (fun K hK => ?_)
  go_simp
  (with_reducible refine (CJ.out _).mono ?_)
  rintro e w2 ⟨rfl, o⟩
  replace R := Lib.hid (R.out.trans o)
  clear o
  go_wp2_with fail
  refine hK.out _ _ ?_ (fun hHeld => ?_)
  · exact MsgAt.cells (MsgAt.keep HA.out R.out id)
  clear hK K
  try simp only [List.getElem_toArray, List.getElem_cons_succ, List.getElem_cons_zero, Act.put, List.setIfInBounds_toArray, List.set_cons_zero, List.set_cons_succ]
  refine rgA.rd 6 (fun K hK => ?_)
  go_simp
  (with_reducible refine (CO.out _).mono ?_)
  rintro e w2 ⟨rfl, o⟩
  replace R := Lib.hid (R.out.trans o)
  clear o
  go_wp2_with fail
  refine hK.out _ _ ?_ (fun hHeld => ?_)
  · exact MsgAt.cells (MsgAt.keep HA.out R.out id)
  clear hK K
  try simp only [List.getElem_toArray, List.getElem_cons_succ, List.getElem_cons_zero, Act.put, List.setIfInBounds_toArray, List.set_cons_zero, List.set_cons_succ]
  refine rgA.tk 7 hHeld ?_
  refine rgA.tk 8 hHeld ?_
  refine rgA.tk 9 hHeld ?_
  refine rgA.tk 10 hHeld ?_
  refine rgA.tk 11 hHeld ?_
  refine wpAnyH_done (by kernel_rfl) ?_ _
  go_wp2_with fail
  go_ret2
  exact ⟨by rw [HC0.out]; rfl, O.out.trans R.out⟩

theorem accept_any (m : Msg) (p x : ByteArray) (w : World) (ht : ∀ i, (m.t i).size ≤ 100000000) (hz : p.size ≤ 100000000) : Calls Try.prog 86 #[mval m, .string p, .string x] w (numA.Told w (.tuple #[.string ⟨(acceptM m p.data.toList x.data.toList).1.toArray⟩, .int .i64 ((acceptM m p.data.toList x.data.toList).2 : Nat)])) := by
  by_cases hk : m.k = 3
  case neg => exact accept_1 m p x w (by rw [accB, beq_eq_false_iff_ne.2 hk]; rfl) hk ht hz
  have b1 : (m.k == 3) = true := beq_iff_eq.2 hk
  cases hr0 : rightM m
  · exact accept_2 m p x w (by rw [accB, b1, hr0]; rfl) hk hr0 ht hz
  by_cases hnk : (trJ.ndOf (m.t 8).data.toList).k = 3
  case neg => exact accept_3 m p x w (by rw [accB, b1, hr0, show ((nd (m.t 8).data.toList).k == 3) = false from beq_eq_false_iff_ne.2 hnk]; rfl) hk hr0 hnk ht hz
  have b2 : ((nd (m.t 8).data.toList).k == 3) = true := beq_iff_eq.2 hnk
  cases hp : pubB p.data.toList
  · exact accept_4 m p x w (by rw [accB, b1, hr0, b2, hp]; rfl) hk hr0 hnk hp ht hz
  have hA : accB m p.data.toList = true := by rw [accB, b1, hr0, b2, hp]; rfl
  by_cases ho : (opn (m.t 9).data.toList (jarT p.data.toList) (nd (m.t 8).data.toList).n x.data.toList).2 = 0
  · exact accept_5 m p x w hA hk hr0 hnk hp ho ht hz
  · exact accept_6 m p x w hA hk hr0 hnk hp ho ht hz

set_option maxRecDepth 100000 in
set_option maxHeartbeats 1600000 in
theorem refaccept_1 (m : Msg) (p x : ByteArray) (w : World) (hA : accB m p.data.toList = false) (hk : m.k ≠ 3) (ht : ∀ i, (m.t i).size ≤ 100000000) (hz : p.size ≤ 100000000) (hz10 : p.size ≤ 10000000) : Calls Try.prog 87 #[mval m, .string p, .string x] w (numA.Told w (.tuple #[.string ⟨(acceptM m p.data.toList x.data.toList).1.toArray⟩, .int .i64 ((acceptM m p.data.toList x.data.toList).2 : Nat)])) := by
  have HC0 := Lib.hid (show acceptM m p.data.toList x.data.toList = ([], 3) from by rw [acceptM, if_neg (by rw [Bool.not_eq_true]; exact hA)])
  have k3 : (m.k != 3) = true := by rw [bne_iff_ne]; exact hk
  have HA := Lib.hid (show MsgAt (w.alloc (.cells m.row 61)) w.heap.size m from heap_alloc_new w _)
  have O := Lib.hid (show Only (fun _ => False) w (w.alloc (.cells m.row 61)) from (Only.refl _ w).alloc _)
  unfold mval
  clear ht hz hA hk hz10
  go_enter Try.func87, Try.ntmps87
  go_wp2_with fail
  go_ret2
  exact ⟨by rw [HC0.out]; rfl, O.out⟩

set_option maxRecDepth 100000 in
set_option maxHeartbeats 1600000 in
theorem refaccept_2 (m : Msg) (p x : ByteArray) (w : World) (hA : accB m p.data.toList = false) (hk : m.k = 3) (hr0 : rightM m = false) (ht : ∀ i, (m.t i).size ≤ 100000000) (hz : p.size ≤ 100000000) (hz10 : p.size ≤ 10000000) : Calls Try.prog 87 #[mval m, .string p, .string x] w (numA.Told w (.tuple #[.string ⟨(acceptM m p.data.toList x.data.toList).1.toArray⟩, .int .i64 ((acceptM m p.data.toList x.data.toList).2 : Nat)])) := by
  have HC0 := Lib.hid (show acceptM m p.data.toList x.data.toList = ([], 3) from by rw [acceptM, if_neg (by rw [Bool.not_eq_true]; exact hA)])
  have k3 : (m.k != 3) = false := by rw [bne_eq_false_iff_eq]; exact hk
  have CR := Lib.hid (fun W => refright_let m false W hr0 ht)
  simp only [mval] at CR
  have HA := Lib.hid (show MsgAt (w.alloc (.cells m.row 61)) w.heap.size m from heap_alloc_new w _)
  have O := Lib.hid (show Only (fun _ => False) w (w.alloc (.cells m.row 61)) from (Only.refl _ w).alloc _)
  obtain ⟨X, hX⟩ : ∃ X, X = w.alloc (.cells m.row 61) := ⟨_, rfl⟩
  rw [← hX] at HA O
  obtain ⟨A, hA⟩ : ∃ A, A = w.heap.size := ⟨_, rfl⟩
  rw [← hA] at HA
  have HX := Lib.hid hX
  have HAE := Lib.hid hA
  simp only [Msg.row] at HX
  clear hX hA
  unfold mval
  clear ht hz hA hk hr0 hz10
  go_enter Try.func87, Try.ntmps87
  go_wp2_with fail
  rw [← HX.out, ← HAE.out]
  (with_reducible refine (CR.out _).mono ?_)
  rintro e w2 ⟨rfl, o⟩
  replace O := Lib.hid (O.out.trans o)
  replace HA := Lib.hid (MsgAt.keep HA.out o id)
  clear o
  obtain ⟨d0, d1, d2, d3, d4, d5, d6, d7, d8, d9, d10, d11, d12⟩ := MsgAt.cells HA.out
  go_wp2_with fail
  go_ret2
  exact ⟨by rw [HC0.out]; rfl, O.out⟩

set_option maxRecDepth 100000 in
set_option maxHeartbeats 1600000 in
theorem refaccept_3 (m : Msg) (p x : ByteArray) (w : World) (hA : accB m p.data.toList = false) (hk : m.k = 3) (hr0 : rightM m = true) (hnk : (trJ.ndOf (m.t 8).data.toList).k ≠ 3) (ht : ∀ i, (m.t i).size ≤ 100000000) (hz : p.size ≤ 100000000) (hz10 : p.size ≤ 10000000) : Calls Try.prog 87 #[mval m, .string p, .string x] w (numA.Told w (.tuple #[.string ⟨(acceptM m p.data.toList x.data.toList).1.toArray⟩, .int .i64 ((acceptM m p.data.toList x.data.toList).2 : Nat)])) := by
  have HC0 := Lib.hid (show acceptM m p.data.toList x.data.toList = ([], 3) from by rw [acceptM, if_neg (by rw [Bool.not_eq_true]; exact hA)])
  have k3 : (m.k != 3) = false := by rw [bne_eq_false_iff_eq]; exact hk
  have CR := Lib.hid (fun W => refright_let m true W hr0 ht)
  obtain ⟨n, hn⟩ : ∃ n, n = (trJ.ndOf (m.t 8).data.toList).k := ⟨_, rfl⟩
  have n3 : ((n : Int) != 3) = true := by
    have hnn : n ≠ 3 := hn ▸ hnk
    rw [bne_iff_ne]; omega
  have CK := Lib.hid (fun W => trJ.read_nd (m.t 8) W (ht 8))
  have HN := Lib.hid hn.symm
  simp only [mval] at CR
  have HA := Lib.hid (show MsgAt (w.alloc (.cells m.row 61)) w.heap.size m from heap_alloc_new w _)
  have O := Lib.hid (show Only (fun _ => False) w (w.alloc (.cells m.row 61)) from (Only.refl _ w).alloc _)
  obtain ⟨X, hX⟩ : ∃ X, X = w.alloc (.cells m.row 61) := ⟨_, rfl⟩
  rw [← hX] at HA O
  obtain ⟨A, hA⟩ : ∃ A, A = w.heap.size := ⟨_, rfl⟩
  rw [← hA] at HA
  have HX := Lib.hid hX
  have HAE := Lib.hid hA
  simp only [Msg.row] at HX
  clear hX hA
  unfold mval
  clear ht hz hA hk hr0 hnk hn hz10
  go_enter Try.func87, Try.ntmps87
  go_wp2_with fail
  rw [← HX.out, ← HAE.out]
  (with_reducible refine (CR.out _).mono ?_)
  rintro e w2 ⟨rfl, o⟩
  replace O := Lib.hid (O.out.trans o)
  replace HA := Lib.hid (MsgAt.keep HA.out o id)
  clear o
  obtain ⟨d0, d1, d2, d3, d4, d5, d6, d7, d8, d9, d10, d11, d12⟩ := MsgAt.cells HA.out
  go_wp2_with fail
  (with_reducible refine (CK.out _).mono ?_)
  rintro e w2 ⟨o, v, rfl, ab, nb, cb, a', n', c', rfl, -, -⟩
  replace O := Lib.hid (O.out.trans o)
  replace HA := Lib.hid (MsgAt.keep HA.out o id)
  clear o
  rw [HN.out]
  have hf := fun W => trJ.field0 (.int .i64 n) (.int .u64 (trJ.ndOf (m.t 8).data.toList).n) (.slice ab nb cb) (.slice a' n' c') W
  obtain ⟨d0, d1, d2, d3, d4, d5, d6, d7, d8, d9, d10, d11, d12⟩ := MsgAt.cells HA.out
  go_wp2_with fail
  go_ret2
  exact ⟨by rw [HC0.out]; rfl, O.out⟩

set_option maxRecDepth 100000 in
set_option maxHeartbeats 1600000 in
theorem refaccept_4 (m : Msg) (p x : ByteArray) (w : World) (hA : accB m p.data.toList = false) (hk : m.k = 3) (hr0 : rightM m = true) (hnk : (trJ.ndOf (m.t 8).data.toList).k = 3) (hp : pubB p.data.toList = false) (ht : ∀ i, (m.t i).size ≤ 100000000) (hz : p.size ≤ 100000000) (hz10 : p.size ≤ 10000000) : Calls Try.prog 87 #[mval m, .string p, .string x] w (numA.Told w (.tuple #[.string ⟨(acceptM m p.data.toList x.data.toList).1.toArray⟩, .int .i64 ((acceptM m p.data.toList x.data.toList).2 : Nat)])) := by
  have HC0 := Lib.hid (show acceptM m p.data.toList x.data.toList = ([], 3) from by rw [acceptM, if_neg (by rw [Bool.not_eq_true]; exact hA)])
  have k3 : (m.k != 3) = false := by rw [bne_eq_false_iff_eq]; exact hk
  have CR := Lib.hid (fun W => refright_let m true W hr0 ht)
  obtain ⟨n, hn⟩ : ∃ n, n = (trJ.ndOf (m.t 8).data.toList).k := ⟨_, rfl⟩
  have n3 : ((n : Int) != 3) = false := by
    have hnn : n = 3 := hn ▸ hnk
    rw [bne_eq_false_iff_eq]; omega
  have CK := Lib.hid (fun W => trJ.read_nd (m.t 8) W (ht 8))
  have HN := Lib.hid hn.symm
  have CP := Lib.hid (fun W => refpub_any p false W hp hz)
  simp only [mval] at CR
  have HA := Lib.hid (show MsgAt (w.alloc (.cells m.row 61)) w.heap.size m from heap_alloc_new w _)
  have O := Lib.hid (show Only (fun _ => False) w (w.alloc (.cells m.row 61)) from (Only.refl _ w).alloc _)
  obtain ⟨X, hX⟩ : ∃ X, X = w.alloc (.cells m.row 61) := ⟨_, rfl⟩
  rw [← hX] at HA O
  obtain ⟨A, hA⟩ : ∃ A, A = w.heap.size := ⟨_, rfl⟩
  rw [← hA] at HA
  have HX := Lib.hid hX
  have HAE := Lib.hid hA
  simp only [Msg.row] at HX
  clear hX hA
  unfold mval
  clear ht hz hA hk hr0 hnk hn hp hz10
  go_enter Try.func87, Try.ntmps87
  go_wp2_with fail
  rw [← HX.out, ← HAE.out]
  (with_reducible refine (CR.out _).mono ?_)
  rintro e w2 ⟨rfl, o⟩
  replace O := Lib.hid (O.out.trans o)
  replace HA := Lib.hid (MsgAt.keep HA.out o id)
  clear o
  obtain ⟨d0, d1, d2, d3, d4, d5, d6, d7, d8, d9, d10, d11, d12⟩ := MsgAt.cells HA.out
  go_wp2_with fail
  (with_reducible refine (CK.out _).mono ?_)
  rintro e w2 ⟨o, v, rfl, ab, nb, cb, a', n', c', rfl, -, -⟩
  replace O := Lib.hid (O.out.trans o)
  replace HA := Lib.hid (MsgAt.keep HA.out o id)
  clear o
  rw [HN.out]
  have hf := fun W => trJ.field0 (.int .i64 n) (.int .u64 (trJ.ndOf (m.t 8).data.toList).n) (.slice ab nb cb) (.slice a' n' c') W
  obtain ⟨d0, d1, d2, d3, d4, d5, d6, d7, d8, d9, d10, d11, d12⟩ := MsgAt.cells HA.out
  go_wp2_with fail
  (with_reducible refine (CP.out _).mono ?_)
  rintro e w2 ⟨rfl, o⟩
  replace O := Lib.hid (O.out.trans o)
  replace HA := Lib.hid (MsgAt.keep HA.out o id)
  clear o
  obtain ⟨d0, d1, d2, d3, d4, d5, d6, d7, d8, d9, d10, d11, d12⟩ := MsgAt.cells HA.out
  go_wp2_with fail
  go_ret2
  exact ⟨by rw [HC0.out]; rfl, O.out⟩

set_option maxRecDepth 100000 in
set_option maxHeartbeats 1600000 in
theorem refaccept_5 (m : Msg) (p x : ByteArray) (w : World) (hA : accB m p.data.toList = true) (hk : m.k = 3) (hr0 : rightM m = true) (hnk : (trJ.ndOf (m.t 8).data.toList).k = 3) (hp : pubB p.data.toList = true) (ho : (opn (m.t 9).data.toList (jarT p.data.toList) (nd (m.t 8).data.toList).n x.data.toList).2 = 0) (ht : ∀ i, (m.t i).size ≤ 100000000) (hz : p.size ≤ 100000000) (hz10 : p.size ≤ 10000000) : Calls Try.prog 87 #[mval m, .string p, .string x] w (numA.Told w (.tuple #[.string ⟨(acceptM m p.data.toList x.data.toList).1.toArray⟩, .int .i64 ((acceptM m p.data.toList x.data.toList).2 : Nat)])) := by
  have k3 : (m.k != 3) = false := by rw [bne_eq_false_iff_eq]; exact hk
  have CR := Lib.hid (fun W => refright_let m true W hr0 ht)
  obtain ⟨n, hn⟩ : ∃ n, n = (trJ.ndOf (m.t 8).data.toList).k := ⟨_, rfl⟩
  have n3 : ((n : Int) != 3) = false := by
    have hnn : n = 3 := hn ▸ hnk
    rw [bne_eq_false_iff_eq]; omega
  have CK := Lib.hid (fun W => trJ.read_nd (m.t 8) W (ht 8))
  have HN := Lib.hid hn.symm
  have CP := Lib.hid (fun W => refpub_any p true W hp hz)
  obtain ⟨N, hN⟩ : ∃ N, N = (trJ.ndOf (m.t 8).data.toList).n := ⟨_, rfl⟩
  obtain ⟨j, hj⟩ : ∃ j : ByteArray, j.data.toList = jarT p.data.toList := ⟨⟨(jarT p.data.toList).toArray⟩, rfl⟩
  obtain ⟨b, hb⟩ : ∃ b : ByteArray, b.data.toList = (opn (m.t 9).data.toList (jarT p.data.toList) N x.data.toList).1 := ⟨⟨((opn (m.t 9).data.toList (jarT p.data.toList) N x.data.toList).1).toArray⟩, rfl⟩
  obtain ⟨c, hc⟩ : ∃ c, c = (opn (m.t 9).data.toList (jarT p.data.toList) N x.data.toList).2 := ⟨_, rfl⟩
  have CO := Lib.hid (fun W => refopen_let (m.t 9) j N x b c W (ht 9) (by rw [hj]; exact hb) (by rw [hj]; exact hc))
  have HC0 := Lib.hid (show acceptM m p.data.toList x.data.toList = (b.data.toList, 0) from by rw [acceptM, if_pos hA, show (nd (m.t 8).data.toList).n = N from hN.symm, ← hc, if_pos (by rw [hc, hN]; exact ho), hb])
  have c0 : ((c : Int) != 0) = false := by
    have h := ho
    rw [show (nd (m.t 8).data.toList).n = N from hN.symm, ← hc] at h
    rw [bne_eq_false_iff_eq]; omega
  have cz : (c : Int) = 0 := by rwa [bne_eq_false_iff_eq] at c0
  have CJ := Lib.hid (fun W => refhash_any ⟨#[120, 54, 51, 54, 102, 54, 102, 54, 98, 54, 57, 54, 53]⟩ p j W (by rw [hj]; rfl) (by decide) hz10 W.heap.size rfl)
  have HNN := Lib.hid hN.symm
  simp only [mval] at CR
  have HA := Lib.hid (show MsgAt (w.alloc (.cells m.row 61)) w.heap.size m from heap_alloc_new w _)
  have O := Lib.hid (show Only (fun _ => False) w (w.alloc (.cells m.row 61)) from (Only.refl _ w).alloc _)
  obtain ⟨X, hX⟩ : ∃ X, X = w.alloc (.cells m.row 61) := ⟨_, rfl⟩
  rw [← hX] at HA O
  obtain ⟨A, hA⟩ : ∃ A, A = w.heap.size := ⟨_, rfl⟩
  rw [← hA] at HA
  have HX := Lib.hid hX
  have HAE := Lib.hid hA
  simp only [Msg.row] at HX
  clear hX hA
  unfold mval
  clear ht hz hA hk hr0 hnk hn hp hN hj hb hc ho hz10
  go_enter Try.func87, Try.ntmps87
  go_wp2_with fail
  rw [← HX.out, ← HAE.out]
  (with_reducible refine (CR.out _).mono ?_)
  rintro e w2 ⟨rfl, o⟩
  replace O := Lib.hid (O.out.trans o)
  replace HA := Lib.hid (MsgAt.keep HA.out o id)
  clear o
  obtain ⟨d0, d1, d2, d3, d4, d5, d6, d7, d8, d9, d10, d11, d12⟩ := MsgAt.cells HA.out
  go_wp2_with fail
  (with_reducible refine (CK.out _).mono ?_)
  rintro e w2 ⟨o, v, rfl, ab, nb, cb, a', n', c', rfl, -, -⟩
  replace O := Lib.hid (O.out.trans o)
  replace HA := Lib.hid (MsgAt.keep HA.out o id)
  clear o
  rw [HN.out]
  have hf := fun W => trJ.field0 (.int .i64 n) (.int .u64 (trJ.ndOf (m.t 8).data.toList).n) (.slice ab nb cb) (.slice a' n' c') W
  obtain ⟨d0, d1, d2, d3, d4, d5, d6, d7, d8, d9, d10, d11, d12⟩ := MsgAt.cells HA.out
  go_wp2_with fail
  (with_reducible refine (CP.out _).mono ?_)
  rintro e w2 ⟨rfl, o⟩
  replace O := Lib.hid (O.out.trans o)
  replace HA := Lib.hid (MsgAt.keep HA.out o id)
  clear o
  obtain ⟨d0, d1, d2, d3, d4, d5, d6, d7, d8, d9, d10, d11, d12⟩ := MsgAt.cells HA.out
  go_wp2_with fail
  (with_reducible refine (CJ.out _).mono ?_)
  rintro e w5 ⟨rfl, o⟩
  replace O := Lib.hid (O.out.trans o)
  replace HA := Lib.hid (MsgAt.keep HA.out o id)
  clear o
  obtain ⟨d0, d1, d2, d3, d4, d5, d6, d7, d8, d9, d10, d11, d12⟩ := MsgAt.cells HA.out
  go_upto_region 4 with fail
  clear hf
  have R := Lib.hid ((Only.refl (fun _ => False) w5).drew)
  refine wp_region_held_drew (S := (fun w' => w'.cell? ⟨A, 0, none⟩ = some (.int .i64 m.k) ∧ w'.cell? ⟨A, 1, none⟩ = some (.int .u32 m.s) ∧ w'.cell? ⟨A, 2, none⟩ = some (.int .u32 m.r) ∧ w'.cell? ⟨A, 3, none⟩ = some (.int .u64 m.c) ∧ w'.cell? ⟨A, 4, none⟩ = some (.string (m.t 4)) ∧ w'.cell? ⟨A, 5, none⟩ = some (.string (m.t 5)) ∧ w'.cell? ⟨A, 6, none⟩ = some (.string (m.t 6)) ∧ w'.cell? ⟨A, 7, none⟩ = some (.string (m.t 7)) ∧ w'.cell? ⟨A, 8, none⟩ = some (.string (m.t 8)) ∧ w'.cell? ⟨A, 9, none⟩ = some (.string (m.t 9)) ∧ w'.cell? ⟨A, 10, none⟩ = some (.string (m.t 10)) ∧ w'.cell? ⟨A, 11, none⟩ = some (.string (m.t 11)) ∧ w'.cell? ⟨A, 12, none⟩ = some (.string (m.t 12)))) (by kernel_rfl) ?_ (fun hHeld => ?_)
  · exact MsgAt.cells (MsgAt.keep HA.out R.out id)
  refine rgA.tk 0 hHeld ?_
  refine rgA.tk 1 hHeld ?_
  refine rgA.tk 2 hHeld ?_
  refine rgA.tk 3 hHeld ?_
  refine rgA.tk 4 hHeld ?_
  refine rgA.tk 7 hHeld ?_
  refine rgA.rd 5 (fun K hK => ?_)
  go_simp
  (with_reducible refine (CK.out _).mono ?_)
  rintro e w2 ⟨o, v, rfl, ab, nb, cb, a', n', c', rfl, -, -⟩
  replace R := Lib.hid (R.out.trans o)
  clear o
  rw [HNN.out]
  have hf1 := fun W => trJ.field1 (.int .i64 (trJ.ndOf (m.t 8).data.toList).k) (.int .u64 N) (.slice ab nb cb) (.slice a' n' c') W
  go_wp2_with fail
  refine hK.out _ _ ?_ (fun hHeld => ?_)
  · exact MsgAt.cells (MsgAt.keep HA.out R.out id)
  clear hK K
  try simp only [List.getElem_toArray, List.getElem_cons_succ, List.getElem_cons_zero, Act.put, List.setIfInBounds_toArray, List.set_cons_zero, List.set_cons_succ]
  refine rgA.tk 6 hHeld ?_
  refine rgA.rd 8 (fun K hK => ?_)
  go_simp
  (with_reducible refine (CO.out _).mono ?_)
  rintro e w2 ⟨rfl, o⟩
  replace R := Lib.hid (R.out.trans o)
  clear o
  go_wp2_with fail
  refine hK.out _ _ ?_ (fun hHeld => ?_)
  · exact MsgAt.cells (MsgAt.keep HA.out R.out id)
  clear hK K
  try simp only [List.getElem_toArray, List.getElem_cons_succ, List.getElem_cons_zero, Act.put, List.setIfInBounds_toArray, List.set_cons_zero, List.set_cons_succ]
  refine rgA.tk 9 hHeld ?_
  refine rgA.tk 10 hHeld ?_
  refine rgA.tk 11 hHeld ?_
  refine rgA.tk 12 hHeld ?_
  refine rgA.tk 13 hHeld ?_
  refine wpAnyH_done (by kernel_rfl) ?_ _
  go_wp2_with fail
  go_ret2
  exact ⟨by rw [HC0.out]; rfl, O.out.trans R.out⟩

set_option maxRecDepth 100000 in
set_option maxHeartbeats 1600000 in
theorem refaccept_6 (m : Msg) (p x : ByteArray) (w : World) (hA : accB m p.data.toList = true) (hk : m.k = 3) (hr0 : rightM m = true) (hnk : (trJ.ndOf (m.t 8).data.toList).k = 3) (hp : pubB p.data.toList = true) (ho : ¬ (opn (m.t 9).data.toList (jarT p.data.toList) (nd (m.t 8).data.toList).n x.data.toList).2 = 0) (ht : ∀ i, (m.t i).size ≤ 100000000) (hz : p.size ≤ 100000000) (hz10 : p.size ≤ 10000000) : Calls Try.prog 87 #[mval m, .string p, .string x] w (numA.Told w (.tuple #[.string ⟨(acceptM m p.data.toList x.data.toList).1.toArray⟩, .int .i64 ((acceptM m p.data.toList x.data.toList).2 : Nat)])) := by
  have k3 : (m.k != 3) = false := by rw [bne_eq_false_iff_eq]; exact hk
  have CR := Lib.hid (fun W => refright_let m true W hr0 ht)
  obtain ⟨n, hn⟩ : ∃ n, n = (trJ.ndOf (m.t 8).data.toList).k := ⟨_, rfl⟩
  have n3 : ((n : Int) != 3) = false := by
    have hnn : n = 3 := hn ▸ hnk
    rw [bne_eq_false_iff_eq]; omega
  have CK := Lib.hid (fun W => trJ.read_nd (m.t 8) W (ht 8))
  have HN := Lib.hid hn.symm
  have CP := Lib.hid (fun W => refpub_any p true W hp hz)
  obtain ⟨N, hN⟩ : ∃ N, N = (trJ.ndOf (m.t 8).data.toList).n := ⟨_, rfl⟩
  obtain ⟨j, hj⟩ : ∃ j : ByteArray, j.data.toList = jarT p.data.toList := ⟨⟨(jarT p.data.toList).toArray⟩, rfl⟩
  obtain ⟨b, hb⟩ : ∃ b : ByteArray, b.data.toList = (opn (m.t 9).data.toList (jarT p.data.toList) N x.data.toList).1 := ⟨⟨((opn (m.t 9).data.toList (jarT p.data.toList) N x.data.toList).1).toArray⟩, rfl⟩
  obtain ⟨c, hc⟩ : ∃ c, c = (opn (m.t 9).data.toList (jarT p.data.toList) N x.data.toList).2 := ⟨_, rfl⟩
  have CO := Lib.hid (fun W => refopen_let (m.t 9) j N x b c W (ht 9) (by rw [hj]; exact hb) (by rw [hj]; exact hc))
  have HC0 := Lib.hid (show acceptM m p.data.toList x.data.toList = ([], 8) from by rw [acceptM, if_pos hA, show (nd (m.t 8).data.toList).n = N from hN.symm, ← hc, if_neg (by rw [hc, hN]; exact ho)])
  have c0 : ((c : Int) != 0) = true := by
    have h := ho
    rw [show (nd (m.t 8).data.toList).n = N from hN.symm, ← hc] at h
    rw [bne_iff_ne]; omega
  have CJ := Lib.hid (fun W => refhash_any ⟨#[120, 54, 51, 54, 102, 54, 102, 54, 98, 54, 57, 54, 53]⟩ p j W (by rw [hj]; rfl) (by decide) hz10 W.heap.size rfl)
  have HNN := Lib.hid hN.symm
  simp only [mval] at CR
  have HA := Lib.hid (show MsgAt (w.alloc (.cells m.row 61)) w.heap.size m from heap_alloc_new w _)
  have O := Lib.hid (show Only (fun _ => False) w (w.alloc (.cells m.row 61)) from (Only.refl _ w).alloc _)
  obtain ⟨X, hX⟩ : ∃ X, X = w.alloc (.cells m.row 61) := ⟨_, rfl⟩
  rw [← hX] at HA O
  obtain ⟨A, hA⟩ : ∃ A, A = w.heap.size := ⟨_, rfl⟩
  rw [← hA] at HA
  have HX := Lib.hid hX
  have HAE := Lib.hid hA
  simp only [Msg.row] at HX
  clear hX hA
  unfold mval
  clear ht hz hA hk hr0 hnk hn hp hN hj hb hc ho hz10
  go_enter Try.func87, Try.ntmps87
  go_wp2_with fail
  rw [← HX.out, ← HAE.out]
  (with_reducible refine (CR.out _).mono ?_)
  rintro e w2 ⟨rfl, o⟩
  replace O := Lib.hid (O.out.trans o)
  replace HA := Lib.hid (MsgAt.keep HA.out o id)
  clear o
  obtain ⟨d0, d1, d2, d3, d4, d5, d6, d7, d8, d9, d10, d11, d12⟩ := MsgAt.cells HA.out
  go_wp2_with fail
  (with_reducible refine (CK.out _).mono ?_)
  rintro e w2 ⟨o, v, rfl, ab, nb, cb, a', n', c', rfl, -, -⟩
  replace O := Lib.hid (O.out.trans o)
  replace HA := Lib.hid (MsgAt.keep HA.out o id)
  clear o
  rw [HN.out]
  have hf := fun W => trJ.field0 (.int .i64 n) (.int .u64 (trJ.ndOf (m.t 8).data.toList).n) (.slice ab nb cb) (.slice a' n' c') W
  obtain ⟨d0, d1, d2, d3, d4, d5, d6, d7, d8, d9, d10, d11, d12⟩ := MsgAt.cells HA.out
  go_wp2_with fail
  (with_reducible refine (CP.out _).mono ?_)
  rintro e w2 ⟨rfl, o⟩
  replace O := Lib.hid (O.out.trans o)
  replace HA := Lib.hid (MsgAt.keep HA.out o id)
  clear o
  obtain ⟨d0, d1, d2, d3, d4, d5, d6, d7, d8, d9, d10, d11, d12⟩ := MsgAt.cells HA.out
  go_wp2_with fail
  (with_reducible refine (CJ.out _).mono ?_)
  rintro e w5 ⟨rfl, o⟩
  replace O := Lib.hid (O.out.trans o)
  replace HA := Lib.hid (MsgAt.keep HA.out o id)
  clear o
  obtain ⟨d0, d1, d2, d3, d4, d5, d6, d7, d8, d9, d10, d11, d12⟩ := MsgAt.cells HA.out
  go_upto_region 4 with fail
  clear hf
  have R := Lib.hid ((Only.refl (fun _ => False) w5).drew)
  refine wp_region_held_drew (S := (fun w' => w'.cell? ⟨A, 0, none⟩ = some (.int .i64 m.k) ∧ w'.cell? ⟨A, 1, none⟩ = some (.int .u32 m.s) ∧ w'.cell? ⟨A, 2, none⟩ = some (.int .u32 m.r) ∧ w'.cell? ⟨A, 3, none⟩ = some (.int .u64 m.c) ∧ w'.cell? ⟨A, 4, none⟩ = some (.string (m.t 4)) ∧ w'.cell? ⟨A, 5, none⟩ = some (.string (m.t 5)) ∧ w'.cell? ⟨A, 6, none⟩ = some (.string (m.t 6)) ∧ w'.cell? ⟨A, 7, none⟩ = some (.string (m.t 7)) ∧ w'.cell? ⟨A, 8, none⟩ = some (.string (m.t 8)) ∧ w'.cell? ⟨A, 9, none⟩ = some (.string (m.t 9)) ∧ w'.cell? ⟨A, 10, none⟩ = some (.string (m.t 10)) ∧ w'.cell? ⟨A, 11, none⟩ = some (.string (m.t 11)) ∧ w'.cell? ⟨A, 12, none⟩ = some (.string (m.t 12)))) (by kernel_rfl) ?_ (fun hHeld => ?_)
  · exact MsgAt.cells (MsgAt.keep HA.out R.out id)
  refine rgA.tk 0 hHeld ?_
  refine rgA.tk 1 hHeld ?_
  refine rgA.tk 2 hHeld ?_
  refine rgA.tk 3 hHeld ?_
  refine rgA.tk 4 hHeld ?_
  refine rgA.tk 7 hHeld ?_
  refine rgA.rd 5 (fun K hK => ?_)
  go_simp
  (with_reducible refine (CK.out _).mono ?_)
  rintro e w2 ⟨o, v, rfl, ab, nb, cb, a', n', c', rfl, -, -⟩
  replace R := Lib.hid (R.out.trans o)
  clear o
  rw [HNN.out]
  have hf1 := fun W => trJ.field1 (.int .i64 (trJ.ndOf (m.t 8).data.toList).k) (.int .u64 N) (.slice ab nb cb) (.slice a' n' c') W
  go_wp2_with fail
  refine hK.out _ _ ?_ (fun hHeld => ?_)
  · exact MsgAt.cells (MsgAt.keep HA.out R.out id)
  clear hK K
  try simp only [List.getElem_toArray, List.getElem_cons_succ, List.getElem_cons_zero, Act.put, List.setIfInBounds_toArray, List.set_cons_zero, List.set_cons_succ]
  refine rgA.tk 6 hHeld ?_
  refine rgA.rd 8 (fun K hK => ?_)
  go_simp
  (with_reducible refine (CO.out _).mono ?_)
  rintro e w2 ⟨rfl, o⟩
  replace R := Lib.hid (R.out.trans o)
  clear o
  go_wp2_with fail
  refine hK.out _ _ ?_ (fun hHeld => ?_)
  · exact MsgAt.cells (MsgAt.keep HA.out R.out id)
  clear hK K
  try simp only [List.getElem_toArray, List.getElem_cons_succ, List.getElem_cons_zero, Act.put, List.setIfInBounds_toArray, List.set_cons_zero, List.set_cons_succ]
  refine rgA.tk 9 hHeld ?_
  refine rgA.tk 10 hHeld ?_
  refine rgA.tk 11 hHeld ?_
  refine rgA.tk 12 hHeld ?_
  refine rgA.tk 13 hHeld ?_
  refine wpAnyH_done (by kernel_rfl) ?_ _
  go_wp2_with fail
  go_ret2
  exact ⟨by rw [HC0.out]; rfl, O.out.trans R.out⟩

theorem refaccept_any (m : Msg) (p x : ByteArray) (w : World) (ht : ∀ i, (m.t i).size ≤ 100000000) (hz : p.size ≤ 100000000) (hz10 : p.size ≤ 10000000) : Calls Try.prog 87 #[mval m, .string p, .string x] w (numA.Told w (.tuple #[.string ⟨(acceptM m p.data.toList x.data.toList).1.toArray⟩, .int .i64 ((acceptM m p.data.toList x.data.toList).2 : Nat)])) := by
  by_cases hk : m.k = 3
  case neg => exact refaccept_1 m p x w (by rw [accB, beq_eq_false_iff_ne.2 hk]; rfl) hk ht hz hz10
  have b1 : (m.k == 3) = true := beq_iff_eq.2 hk
  cases hr0 : rightM m
  · exact refaccept_2 m p x w (by rw [accB, b1, hr0]; rfl) hk hr0 ht hz hz10
  by_cases hnk : (trJ.ndOf (m.t 8).data.toList).k = 3
  case neg => exact refaccept_3 m p x w (by rw [accB, b1, hr0, show ((nd (m.t 8).data.toList).k == 3) = false from beq_eq_false_iff_ne.2 hnk]; rfl) hk hr0 hnk ht hz hz10
  have b2 : ((nd (m.t 8).data.toList).k == 3) = true := beq_iff_eq.2 hnk
  cases hp : pubB p.data.toList
  · exact refaccept_4 m p x w (by rw [accB, b1, hr0, b2, hp]; rfl) hk hr0 hnk hp ht hz hz10
  have hA : accB m p.data.toList = true := by rw [accB, b1, hr0, b2, hp]; rfl
  by_cases ho : (opn (m.t 9).data.toList (jarT p.data.toList) (nd (m.t 8).data.toList).n x.data.toList).2 = 0
  · exact refaccept_5 m p x w hA hk hr0 hnk hp ho ht hz hz10
  · exact refaccept_6 m p x w hA hk hr0 hnk hp ho ht hz hz10


end Go.Proofs.Ytbjnejnjlidiaaa.maL
