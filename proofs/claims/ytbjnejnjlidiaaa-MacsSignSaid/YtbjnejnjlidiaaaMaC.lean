/- Macs: the document's small functions. -/
import Derived.Test.YtbjnejnjlidiaaaMaB
import Derived.Deep.RegionHeld3
namespace Go.Proofs.Ytbjnejnjlidiaaa.maC
open Go.RowKit kit numA numB numC numD numE tmA tmB tmC tmD tmE trA trB prR prS prW prX tsA tsB tsF tsI wrA wrB wrC wrD wrE wrF wrG wrH wrI wrJ wrK wrL mkA maA maB
set_option linter.unusedVariables false
set_option linter.unusedSimpArgs false

theorem u_le {t : Txt} {b : ByteArray} (hb : b.data.toList = t) {n : Nat} (h : t.length ≤ n) : b.size ≤ n := by rw [sz_of hb]; exact h

set_option maxRecDepth 100000 in
theorem refmac_any (k u b : ByteArray) (w : World) (hb : b.data.toList = macT k.data.toList u.data.toList) (h1 : k.size ≤ 10000000) (h2 : u.size ≤ 10000000) : Calls Try.prog 147 #[.string k, .string u] w (numA.Told w (.string b)) := by
  have C := Lib.hid (fun W => told_str (b := b) (by rw [hb]; rfl) (refmake2 9 0 0 rfl (by decide) k u W h1 h2))
  have O := Lib.hid (Only.refl (fun _ => False) w)
  clear hb h1 h2
  go_enter Try.func147, Try.ntmps147
  go_wp2_with fail
  (with_reducible refine (C.out _).mono ?_)
  rintro e wx1 ⟨rfl, o⟩
  replace O := Lib.hid (O.out.trans o)
  clear o
  go_wp2_with fail
  go_ret
  exact ⟨rfl, O.out⟩

set_option maxRecDepth 100000 in
theorem refhash_any (x y b : ByteArray) (w : World) (hb : b.data.toList = mkT 7 0 [] [x.data.toList, y.data.toList]) (h1 : x.size ≤ 10000000) (h2 : y.size ≤ 10000000) (G : Nat) (hG : w.heap.size = G) : Calls Try.prog 148 #[.slice (some ⟨G, 0, none⟩) 2 2] (w.alloc (.cells #[.string x, .string y] 9)) (numA.Told w (.string b)) := by
  have C := Lib.hid (told_str (b := b) (by rw [hb]; rfl) (refmake2 7 0 0 rfl (by decide) x y w h1 h2))
  rw [hG] at C
  clear hb h1 h2 hG
  go_enter Try.func148, Try.ntmps148
  go_wp2_with fail
  (with_reducible refine C.out.mono ?_)
  rintro e wx ⟨rfl, o⟩
  have O := Lib.hid o
  clear o
  go_wp2_with fail
  go_ret
  exact ⟨rfl, O.out⟩

set_option maxRecDepth 100000 in
theorem refpub_any (s : ByteArray) (a : Bool) (w : World) (h : pubB s.data.toList = a) (hm : s.size ≤ 100000000) : Calls Try.prog 81 #[.string s] w (numA.Told w (.bool a)) := by
  have C := Lib.hid (fun W => trJ.read_nd s W hm)
  obtain ⟨k, hk⟩ : ∃ k, (trJ.ndOf s.data.toList).k = k := ⟨_, rfl⟩
  have O := Lib.hid (Only.refl (fun _ => False) w)
  have HF := Lib.hid (show ((k : Int) == 5) = a from by
    rw [← h, pubB, show nd s.data.toList = trJ.ndOf s.data.toList from rfl, hk, Bool.eq_iff_iff, beq_iff_eq, beq_iff_eq]
    omega)
  have HK := Lib.hid hk
  clear hk h hm
  go_enter Try.func81, Try.ntmps81
  go_wp2_with fail
  (with_reducible refine (C.out _).mono ?_)
  rintro e w2 ⟨o, v, rfl, ab, nb, cb, a', n', c', rfl, -, -⟩
  replace O := Lib.hid (O.out.trans o)
  clear o
  rw [HK.out]
  have hf := fun W => trJ.field0 (.int .i64 k) (.int .u64 (trJ.ndOf s.data.toList).n) (.slice ab nb cb) (.slice a' n' c') W
  go_wp2_with fail
  go_ret
  exact ⟨ret_bool HF.out, O.out⟩

set_option maxRecDepth 100000 in
theorem asks_1 (m : Msg) (w : World) (hk : m.k ≤ 2) (ht : ∀ i, (m.t i).size ≤ 100000000) : Calls Try.prog 79 #[mval m] w (numA.Told w (.bool (asksM m))) := by
  have HA := Lib.hid (show MsgAt (w.alloc (.cells m.row 61)) w.heap.size m from heap_alloc_new w _)
  have O := Lib.hid (show Only (fun _ => False) w (w.alloc (.cells m.row 61)) from (Only.refl _ w).alloc _)
  have C := Lib.hid (fun W => refright_any m W ht)
  simp only [mval] at C
  obtain ⟨d0, d1, d2, d3, d4, d5, d6, d7, d8, d9, d10, d11, d12⟩ := MsgAt.cells HA.out
  simp only [mval, Msg.row] at d0 d1 d2 d3 d4 d5 d6 d7 d8 d9 d10 d11 d12
  have c1 : (m.k ≤ 2) = True := eq_true hk
  have HC := Lib.hid (show asksM m = rightM m from by unfold asksM; rw [decide_eq_true hk, Bool.and_true])
  unfold mval
  clear ht hk
  obtain ⟨r, hr⟩ : ∃ r, r = rightM m := ⟨_, rfl⟩
  rw [← hr] at C HC
  clear hr
  go_enter Try.func79, Try.ntmps79
  go_wp2_with fail
  (with_reducible refine (C.out _).mono ?_)
  rintro e wx2 ⟨rfl, o⟩
  replace O := Lib.hid (O.out.trans o)
  clear o
  go_wp2_with fail
  go_ret
  exact ⟨by rw [HC.out]; rfl, O.out⟩

set_option maxRecDepth 100000 in
theorem asks_0 (m : Msg) (w : World) (hk : ¬ m.k ≤ 2) (ht : ∀ i, (m.t i).size ≤ 100000000) : Calls Try.prog 79 #[mval m] w (numA.Told w (.bool (asksM m))) := by
  have HA := Lib.hid (show MsgAt (w.alloc (.cells m.row 61)) w.heap.size m from heap_alloc_new w _)
  have O := Lib.hid (show Only (fun _ => False) w (w.alloc (.cells m.row 61)) from (Only.refl _ w).alloc _)
  obtain ⟨d0, d1, d2, d3, d4, d5, d6, d7, d8, d9, d10, d11, d12⟩ := MsgAt.cells HA.out
  simp only [mval, Msg.row] at d0 d1 d2 d3 d4 d5 d6 d7 d8 d9 d10 d11 d12
  have c1 : (m.k ≤ 2) = False := eq_false hk
  have HC := Lib.hid (show asksM m = false from by unfold asksM; rw [decide_eq_false hk, Bool.and_false])
  unfold mval
  clear ht hk
  go_enter Try.func79, Try.ntmps79
  go_wp2_with fail
  go_ret
  exact ⟨by rw [HC.out]; rfl, O.out⟩

theorem asks_any (m : Msg) (a : Bool) (w : World) (h : asksM m = a) (ht : ∀ i, (m.t i).size ≤ 100000000) : Calls Try.prog 79 #[mval m] w (numA.Told w (.bool a)) := by
  subst h
  by_cases h1 : m.k ≤ 2
  · exact asks_1 m w h1 ht
  · exact asks_0 m w h1 ht

set_option maxRecDepth 100000 in
set_option maxHeartbeats 1600000 in
theorem reffirst_any (m : Msg) (p b : ByteArray) (w : World) (hb : b.data.toList = firstT m p.data.toList) (ht : ∀ i, (m.t i).size ≤ 10000000) (hp : p.size ≤ 10000000) (hs : 0 ≤ m.s ∧ m.s ≤ 4294967295) (hr : 0 ≤ m.r ∧ m.r ≤ 4294967295) : Calls Try.prog 82 #[mval m, .string p] w (numA.Told w (.string b)) := by
  obtain ⟨d, hd⟩ : ∃ d : ByteArray, d.data.toList = doorT p.data.toList := ⟨⟨(doorT p.data.toList).toArray⟩, rfl⟩
  obtain ⟨y, hy⟩ : ∃ y : ByteArray, y.data.toList = bodyM m := ⟨⟨(bodyM m).toArray⟩, rfl⟩
  have C1 := Lib.hid (fun W G (hG : W.heap.size = G) => refhash_any ⟨#[120, 54, 100, 54, 49, 54, 51, 51, 49]⟩ p d W (by rw [hd]; rfl) (by decide) hp G hG)
  have C2 := Lib.hid (fun W => told_str hy (rbody_any m W (fun i => Nat.le_trans (ht i) (by decide)) hs hr))
  have C3 := Lib.hid (fun W => refmac_any d y b W (by rw [hb, hd, hy]; rfl) (u_le hd (Nat.le_trans (mk_most (by decide)) (by decide))) (u_le hy (Nat.le_trans (bodyM_len m) (by decide))))
  clear hb ht hp hs hr hd hy
  have HA := Lib.hid (show MsgAt (w.alloc (.cells m.row 61)) w.heap.size m from heap_alloc_new w _)
  have O := Lib.hid (show Only (fun _ => False) w (w.alloc (.cells m.row 61)) from (Only.refl _ w).alloc _)
  have HE := Lib.hid (show (w.alloc (.cells m.row 61)).heap.size = w.heap.size + 1 from World.size_alloc _ _)
  obtain ⟨X, hX⟩ : ∃ X, X = w.alloc (.cells m.row 61) := ⟨_, rfl⟩
  rw [← hX] at HA O HE
  obtain ⟨A, hA⟩ : ∃ A, A = w.heap.size := ⟨_, rfl⟩
  rw [← hA] at HA HE
  have HX := Lib.hid hX
  have HAE := Lib.hid hA
  simp only [Msg.row] at HX
  simp only [mval] at C2
  unfold mval
  clear hX hA
  have R := Lib.hid ((Only.refl (fun _ => False) X).drew)
  have C1 := Lib.hid (show Calls Try.prog 148 #[.slice (some ⟨X.heap.size, 0, none⟩) 2 2] (X.alloc (.cells #[.string ⟨#[120, 54, 100, 54, 49, 54, 51, 51, 49]⟩, .string p] 9)).drew (numA.Told X.drew (.string d)) from C1.out X.drew X.heap.size rfl)
  go_enter Try.func82, Try.ntmps82
  go_wp2_with fail
  rw [← HX.out, ← HAE.out]
  go_region_held3 (fun w' => w'.cell? ⟨A, 0, none⟩ = some (.int .i64 m.k) ∧ w'.cell? ⟨A, 1, none⟩ = some (.int .u32 m.s) ∧ w'.cell? ⟨A, 2, none⟩ = some (.int .u32 m.r) ∧ w'.cell? ⟨A, 3, none⟩ = some (.int .u64 m.c) ∧ w'.cell? ⟨A, 4, none⟩ = some (.string (m.t 4)) ∧ w'.cell? ⟨A, 5, none⟩ = some (.string (m.t 5)) ∧ w'.cell? ⟨A, 6, none⟩ = some (.string (m.t 6)) ∧ w'.cell? ⟨A, 7, none⟩ = some (.string (m.t 7)) ∧ w'.cell? ⟨A, 8, none⟩ = some (.string (m.t 8)) ∧ w'.cell? ⟨A, 9, none⟩ = some (.string (m.t 9)) ∧ w'.cell? ⟨A, 10, none⟩ = some (.string (m.t 10)) ∧ w'.cell? ⟨A, 11, none⟩ = some (.string (m.t 11)) ∧ w'.cell? ⟨A, 12, none⟩ = some (.string (m.t 12))) (first | exact MsgAt.cells (MsgAt.keep HA.out R.out id) | exact MsgAt.cells (MsgAt.keep HA.out (R.out.alloc _) id))
    (first
      | (go_at_call 148; (with_reducible refine Calls.mono (C1.out) ?_); rintro e w7 ⟨rfl, o'⟩; have R := Lib.hid (R.out.trans o'); clear o')
      | (go_at_call 63; (with_reducible refine Calls.mono (C2.out _) ?_); rintro e w7 ⟨rfl, o'⟩; have R := Lib.hid (R.out.trans o'); clear o')
      | (go_at_call 147; (with_reducible refine Calls.mono (C3.out _) ?_); rintro e w7 ⟨rfl, o'⟩; have R := Lib.hid (R.out.trans o'); clear o'))
  go_wp2_with fail
  go_ret
  exact ⟨rfl, O.out.trans R.out⟩


end Go.Proofs.Ytbjnejnjlidiaaa.maC
