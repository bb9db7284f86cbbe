/- Term: the program's Open, Signed, Agree. -/
import Derived.Test.YtbjnejnjlidiaaaPrS
namespace Go.Proofs.Ytbjnejnjlidiaaa.prX
open Go.RowKit kit numA numB numC numD numE numF tmA tmB tmC tmD tmE srcA trA trB prA prC prQ prR prS shJ prW
set_option linter.unusedVariables false
set_option linter.unusedSimpArgs false

/-- What is opened. -/
def opn (t key : Txt) (n : Nat) (v : Txt) : Txt × Nat :=
  if (nd t).k = 10 then (if (nd t).ps.getD 0 [] = key ∧ (nd t).n = n ∧ (nd t).ps.getD 2 [] = v then ((nd t).ps.getD 1 [], 0) else ([], 8)) else ([], 3)

theorem nd3 {t : Txt} (h : (nd t).k = 10) : ∃ a b c, (nd t).ps = [a, b, c] := by
  have := nd_right (t := t) (by omega)
  rw [h] at this
  have e : (nd t).ps.length = 3 := by simpa [right] using this
  generalize (nd t).ps = l at e
  match l, e with
  | [a, b, c], _ => exact ⟨a, b, c, rfl⟩

theorem nd1 {t : Txt} (h : (nd t).k = 5) : ∃ a, (nd t).ps = [a] := by
  have := nd_right (t := t) (by omega)
  rw [h] at this
  have e : (nd t).ps.length = 1 := by simpa [right] using this
  generalize (nd t).ps = l at e
  match l, e with
  | [a], _ => exact ⟨a, rfl⟩

/-- A slice that reads as texts, and isn't empty. -/
theorem sl_lits {w : World} {S : Nat → Prop} {v : Value} {ps : List Txt} (h : Sl w S v (ps.map sv)) (hp : 0 < ps.length) : ∃ g o c, v = .slice (some ⟨g, o, none⟩) ps.length c ∧ S g ∧ g < w.heap.size ∧ ∀ i, i < ps.length → w.cell? ⟨g, o + i, none⟩ = some (.string ⟨(ps.getD i []).toArray⟩) := by
  obtain ⟨_, a', cap', rfl, hx | ⟨g, o, rfl, hS, hg, hc⟩⟩ := h
  · have := congrArg List.length hx
    simp at this
    subst this
    cases hp
  · refine ⟨g, o, cap', by rw [List.length_map], hS, hg, fun i hi => ?_⟩
    rw [hc i (by simpa using hi)]
    simp [hi, sv]

theorem bytes_eq (s : ByteArray) (l : Txt) : ((⟨l.toArray⟩ : ByteArray) = s) ↔ l = s.data.toList := by
  constructor
  · rintro rfl
    rfl
  · rintro rfl
    rfl

theorem beq_t {a b : ByteArray} (h : a = b) : (a.toList == b.toList) = true := by rw [h]; exact beq_self_eq_true _
theorem beq_f {a b : ByteArray} (h : ¬ a = b) : (a.toList == b.toList) = false := by
  rw [beq_eq_false_iff_ne]
  intro q
  rw [byteArray_toList, byteArray_toList] at q
  exact h (ByteArray.ext (Array.ext' q))
theorem eq_t {a b : ByteArray} (h : a = b) : (a.toList = b.toList) = True := eq_true (by rw [h])
theorem eq_f {a b : ByteArray} (h : ¬ a = b) : (a.toList = b.toList) = False := eq_false fun q => by
  rw [byteArray_toList, byteArray_toList] at q
  exact h (ByteArray.ext (Array.ext' q))

set_option maxRecDepth 100000 in
theorem open_any (s key : ByteArray) (n : Nat) (v : ByteArray) (w : World) (hm : s.size ≤ 100000000) : Calls Try.prog 33 #[.string s, .string key, .int .u64 n, .string v] w (numA.Told w (.tuple #[.string ⟨(opn s.data.toList key.data.toList n v.data.toList).1.toArray⟩, .int .i64 ((opn s.data.toList key.data.toList n v.data.toList).2 : Nat)])) := by
  have PT := Lib.hid (parse_told s w hm)
  clear hm
  obtain ⟨k, hk⟩ : ∃ k, k = (nd s.data.toList).k := ⟨_, rfl⟩
  obtain ⟨m, hmm⟩ : ∃ m, m = (nd s.data.toList).n := ⟨_, rfl⟩
  have HK := Lib.hid (show (trJ.ndOf s.data.toList).k = k from hk.symm)
  have HM := Lib.hid (show (trJ.ndOf s.data.toList).n = m from hmm.symm)
  by_cases h10 : k = 10
  · obtain ⟨a, b, c, hps⟩ := nd3 (by rw [← hk]; exact h10)
    have HPS := Lib.hid (show (trJ.ndOf s.data.toList).ps = [a, b, c] from hps)
    have ho : opn s.data.toList key.data.toList n v.data.toList = if a = key.data.toList ∧ m = n ∧ c = v.data.toList then (b, 0) else ([], 8) := by
      rw [opn, if_pos (by rw [← hk]; exact h10), hps, ← hmm]
      rfl
    have c10 : ((k : Int) != 10) = false := by rw [bne_eq_false_iff_eq]; omega
    obtain ⟨sa, hsa⟩ : ∃ sa : ByteArray, sa = ⟨a.toArray⟩ := ⟨_, rfl⟩
    obtain ⟨sc, hsc⟩ : ∃ sc : ByteArray, sc = ⟨c.toArray⟩ := ⟨_, rfl⟩
    have HSA := Lib.hid hsa
    have HSC := Lib.hid hsc
    have ea : a = key.data.toList ↔ sa = key := by rw [hsa, bytes_eq]
    have ec : c = v.data.toList ↔ sc = v := by rw [hsc, bytes_eq]
    have HO := Lib.hid ho
    have EA := Lib.hid ea
    have EC := Lib.hid ec
    clear hk hmm h10 hps ho hsa hsc ea ec
    have fin : ∀ (X : Txt × Nat), opn s.data.toList key.data.toList n v.data.toList = X → Hid (opn s.data.toList key.data.toList n v.data.toList = X) := fun X h => Lib.hid h
    by_cases h1 : sa = key
    · by_cases h2 : m = n
      · by_cases h3 : sc = v
        · have HR := fin (b, 0) (by rw [HO.out, if_pos ⟨EA.out.2 h1, h2, EC.out.2 h3⟩])
          have q1 : (sa.toList == key.toList) = true := beq_t h1
          have q1' : (sa.toList = key.toList) = True := eq_t h1
          have q2 : ((m : Int) == n) = true := by simp [h2]
          have q2' : ((m : Int) != n) = false := by simp [h2]
          have q3 : (sc.toList == v.toList) = true := beq_t h3
          have q3' : (sc.toList = v.toList) = True := eq_t h3
          clear h1 h2 h3 HO fin
          go_enter Try.func33, Try.ntmps33
          go_wp2_with fail
          (with_reducible refine PT.out.mono ?_)
          rintro e w2 ⟨o, x, rfl, sl⟩
          have O := Lib.hid o
          rw [HPS.out] at sl
          obtain ⟨g, oo, cc, rfl, -, -, hc⟩ := sl_lits sl (by simp)
          have x0 := hc 0 (by simp)
          have x1 := hc 1 (by simp)
          have x2 := hc 2 (by simp)
          simp only [List.getD_cons_zero, List.getD_cons_succ, Nat.add_zero] at x0 x1 x2
          rw [← HSA.out] at x0
          rw [← HSC.out] at x2
          clear o sl PT hc
          rw [HK.out, HM.out]
          simp only [List.length_cons, List.length_nil, Nat.zero_add, Nat.reduceAdd]
          go_wp2_with fail
          go_ret2
          exact ⟨by rw [HR.out]; rfl, O.out⟩
        · have HR := fin ([], 8) (by rw [HO.out, if_neg (fun q => h3 (EC.out.1 q.2.2))])
          have q1 : (sa.toList == key.toList) = true := beq_t h1
          have q1' : (sa.toList = key.toList) = True := eq_t h1
          have q2 : ((m : Int) == n) = true := by simp [h2]
          have q2' : ((m : Int) != n) = false := by simp [h2]
          have q3 : (sc.toList == v.toList) = false := beq_f h3
          have q3' : (sc.toList = v.toList) = False := eq_f h3
          clear h1 h2 h3 HO fin
          go_enter Try.func33, Try.ntmps33
          go_wp2_with fail
          (with_reducible refine PT.out.mono ?_)
          rintro e w2 ⟨o, x, rfl, sl⟩
          have O := Lib.hid o
          rw [HPS.out] at sl
          obtain ⟨g, oo, cc, rfl, -, -, hc⟩ := sl_lits sl (by simp)
          have x0 := hc 0 (by simp)
          have x1 := hc 1 (by simp)
          have x2 := hc 2 (by simp)
          simp only [List.getD_cons_zero, List.getD_cons_succ, Nat.add_zero] at x0 x1 x2
          rw [← HSA.out] at x0
          rw [← HSC.out] at x2
          clear o sl PT hc
          rw [HK.out, HM.out]
          simp only [List.length_cons, List.length_nil, Nat.zero_add, Nat.reduceAdd]
          go_wp2_with fail
          go_ret2
          exact ⟨by rw [HR.out]; rfl, O.out⟩
      · have HR := fin ([], 8) (by rw [HO.out, if_neg (fun q => h2 q.2.1)])
        have q1 : (sa.toList == key.toList) = true := beq_t h1
        have q1' : (sa.toList = key.toList) = True := eq_t h1
        have q2 : ((m : Int) == n) = false := by rw [beq_eq_false_iff_ne]; omega
        have q2' : ((m : Int) != n) = true := by rw [bne_iff_ne]; omega
        clear h1 h2 HO fin
        go_enter Try.func33, Try.ntmps33
        go_wp2_with fail
        (with_reducible refine PT.out.mono ?_)
        rintro e w2 ⟨o, x, rfl, sl⟩
        have O := Lib.hid o
        rw [HPS.out] at sl
        obtain ⟨g, oo, cc, rfl, -, -, hc⟩ := sl_lits sl (by simp)
        have x0 := hc 0 (by simp)
        have x1 := hc 1 (by simp)
        have x2 := hc 2 (by simp)
        simp only [List.getD_cons_zero, List.getD_cons_succ, Nat.add_zero] at x0 x1 x2
        rw [← HSA.out] at x0
        rw [← HSC.out] at x2
        clear o sl PT hc
        rw [HK.out, HM.out]
        simp only [List.length_cons, List.length_nil, Nat.zero_add, Nat.reduceAdd]
        go_wp2_with fail
        go_ret2
        exact ⟨by rw [HR.out]; rfl, O.out⟩
    · have HR := fin ([], 8) (by rw [HO.out, if_neg (fun q => h1 (EA.out.1 q.1))])
      have q1 : (sa.toList == key.toList) = false := beq_f h1
      have q1' : (sa.toList = key.toList) = False := eq_f h1
      clear h1 HO fin
      go_enter Try.func33, Try.ntmps33
      go_wp2_with fail
      (with_reducible refine PT.out.mono ?_)
      rintro e w2 ⟨o, x, rfl, sl⟩
      have O := Lib.hid o
      rw [HPS.out] at sl
      obtain ⟨g, oo, cc, rfl, -, -, hc⟩ := sl_lits sl (by simp)
      have x0 := hc 0 (by simp)
      have x1 := hc 1 (by simp)
      have x2 := hc 2 (by simp)
      simp only [List.getD_cons_zero, List.getD_cons_succ, Nat.add_zero] at x0 x1 x2
      rw [← HSA.out] at x0
      rw [← HSC.out] at x2
      clear o sl PT hc
      rw [HK.out, HM.out]
      simp only [List.length_cons, List.length_nil, Nat.zero_add, Nat.reduceAdd]
      go_wp2_with fail
      go_ret2
      exact ⟨by rw [HR.out]; rfl, O.out⟩
  · have HR := Lib.hid (show opn s.data.toList key.data.toList n v.data.toList = ([], 3) from by rw [opn, if_neg (by rw [← hk]; exact h10)])
    have c10 : ((k : Int) != 10) = true := by rw [bne_iff_ne]; omega
    clear hk hmm h10
    go_enter Try.func33, Try.ntmps33
    go_wp2_with fail
    (with_reducible refine PT.out.mono ?_)
    rintro e w2 ⟨o, x, rfl, sl⟩
    have O := Lib.hid o
    clear o sl PT
    rw [HK.out, HM.out]
    go_wp2_with fail
    go_ret2
    exact ⟨by rw [HR.out]; rfl, O.out⟩

theorem sl_strs (w : World) (xs : List ByteArray) (hl : xs.length ≤ 1000) : Sl (w.alloc (.cells (xs.map Value.string).toArray 9)) (fun k => w.heap.size ≤ k) (.slice (some ⟨w.heap.size, 0, none⟩) xs.length xs.length) ((xs.map (·.data.toList)).map sv) := by
  refine ⟨by rw [List.length_map, List.length_map]; unfold maxLen; omega, some ⟨w.heap.size, 0, none⟩, xs.length, by rw [List.length_map, List.length_map], .inr ⟨w.heap.size, 0, rfl, Nat.le_refl _, by simp, fun i hi => ?_⟩⟩
  rw [List.length_map, List.length_map] at hi
  rw [cell_of (heap_alloc_new w _)]
  simp [hi, sv]

theorem strs_le {xs : List ByteArray} (hx : ∀ x ∈ xs, x.size ≤ 100000000) : ∀ p ∈ xs.map (·.data.toList), p.length ≤ 100000000 := by
  intro p hp
  obtain ⟨x, hm, rfl⟩ := List.mem_map.1 hp
  have := hx x hm
  rw [tl_size]
  exact this

theorem make_lst (k n : Int) (N : Nat) (hN : (N : Int) = n) (hm : N ≤ most) (xs : List ByteArray) (w : World) (hx : ∀ x ∈ xs, x.size ≤ 100000000) (hl : xs.length ≤ 1000) : Calls Try.prog 30 #[.int .i64 k, .int .u64 n, .slice none 0 0, .slice (some ⟨w.heap.size, 0, none⟩) xs.length xs.length] (w.alloc (.cells (xs.map Value.string).toArray 9)) (Made w (mkI k N [] (xs.map (·.data.toList)))) := by
  subst hN
  refine (make_any k N [] (xs.map (·.data.toList)) _ (fun _ => False) (.slice none 0 0) _ _ hm (sl_nil _ _) (Nat.zero_le _) (sl_strs w xs hl) (strs_le hx) (by rw [List.length_map]; omega)).mono ?_
  rintro e w' ⟨o, rfl⟩
  exact ⟨((Only.refl _ w).alloc _).trans o, rfl⟩

theorem make1 (k n : Int) (N : Nat) (hN : (N : Int) = n) (hm : N ≤ most) (x : ByteArray) (w : World) (hx : x.size ≤ 100000000) : Calls Try.prog 30 #[.int .i64 k, .int .u64 n, .slice none 0 0, .slice (some ⟨w.heap.size, 0, none⟩) 1 1] (w.alloc (.cells #[.string x] 9)) (Made w (mkI k N [] [x.data.toList])) :=
  make_lst k n N hN hm [x] w (by simpa using hx) (by simp)

theorem make2 (k n : Int) (N : Nat) (hN : (N : Int) = n) (hm : N ≤ most) (x y : ByteArray) (w : World) (hx : x.size ≤ 100000000) (hy : y.size ≤ 100000000) : Calls Try.prog 30 #[.int .i64 k, .int .u64 n, .slice none 0 0, .slice (some ⟨w.heap.size, 0, none⟩) 2 2] (w.alloc (.cells #[.string x, .string y] 9)) (Made w (mkI k N [] [x.data.toList, y.data.toList])) :=
  make_lst k n N hN hm [x, y] w (by simpa using ⟨hx, hy⟩) (by simp)

theorem make3 (k n : Int) (N : Nat) (hN : (N : Int) = n) (hm : N ≤ most) (x y z : ByteArray) (w : World) (hx : x.size ≤ 100000000) (hy : y.size ≤ 100000000) (hz : z.size ≤ 100000000) : Calls Try.prog 30 #[.int .i64 k, .int .u64 n, .slice none 0 0, .slice (some ⟨w.heap.size, 0, none⟩) 3 3] (w.alloc (.cells #[.string x, .string y, .string z] 9)) (Made w (mkI k N [] [x.data.toList, y.data.toList, z.data.toList])) :=
  make_lst k n N hN hm [x, y, z] w (by simpa using ⟨hx, hy, hz⟩) (by simp)

set_option maxRecDepth 100000 in
theorem agree_any (x p : ByteArray) (w : World) (hx : x.size ≤ 100000000) (hm : p.size ≤ 100000000) : Calls Try.prog 36 #[.string x, .string p] w (Made w (agr x.data.toList p.data.toList)) := by
  have KA := Lib.hid (kind_any p w hm)
  have PA := Lib.hid (fun W => parts_any p W hm)
  obtain ⟨k, hk⟩ : ∃ k, k = (nd p.data.toList).k := ⟨_, rfl⟩
  have HK := Lib.hid (show (trJ.ndOf p.data.toList).k = k from hk.symm)
  by_cases h5 : k = 5
  · obtain ⟨a, hps⟩ := nd1 (t := p.data.toList) (by rw [← hk]; exact h5)
    have HPS := Lib.hid (show (trJ.ndOf p.data.toList).ps = [a] from hps)
    have al : a.length ≤ 100000000 := by
      have := (nd_parts (t := p.data.toList) (p := a) (by rw [hps]; simp)).2
      rw [tl_size] at this
      omega
    have HA := Lib.hid (show agr x.data.toList p.data.toList = mkT 6 0 [] [x.data.toList, a] from by
      rw [agr, if_pos (by rw [← hk]; exact h5), hps]
      rfl)
    have c5 : ((k : Int) != 5) = false := by rw [bne_eq_false_iff_eq]; omega
    obtain ⟨sa, hsa⟩ : ∃ sa : ByteArray, sa = ⟨a.toArray⟩ := ⟨_, rfl⟩
    have HSA := Lib.hid hsa
    have HX := Lib.hid hx
    have AL := Lib.hid al
    clear hk h5 hps hsa hx hm al
    go_enter Try.func36, Try.ntmps36
    go_wp2_with fail
    (with_reducible refine KA.out.mono ?_)
    rintro e w2 ⟨rfl, o⟩
    have O := Lib.hid o
    clear o
    rw [HK.out]
    go_wp2_with fail
    (with_reducible refine (PA.out _).mono ?_)
    rintro e w3 ⟨o, v, rfl, sl⟩
    have O3 := Lib.hid (O.out.trans o)
    rw [HPS.out] at sl
    obtain ⟨g, oo, cc, rfl, -, -, hc⟩ := sl_lits sl (by simp)
    have x0 := hc 0 (by simp)
    simp only [List.getD_cons_zero, List.getD_cons_succ, Nat.add_zero] at x0
    rw [← HSA.out] at x0
    clear o sl hc PA KA
    simp only [List.length_cons, List.length_nil, Nat.zero_add, Nat.reduceAdd]
    go_wp2_with fail
    have MA := Lib.hid (make2 6 0 0 rfl (by decide) x sa w3 HX.out (by rw [HSA.out]; simpa [ByteArray.size] using AL.out))
    (with_reducible refine MA.out.mono ?_)
    rintro e w4 ⟨o, rfl⟩
    have O4 := Lib.hid (O3.out.trans o)
    clear o MA
    go_wp2_with fail
    go_ret
    exact ⟨O4.out, by rw [HA.out, HSA.out]; rfl⟩
  · have HA := Lib.hid (show agr x.data.toList p.data.toList = [] from by rw [agr, if_neg (by rw [← hk]; exact h5)])
    have c5 : ((k : Int) != 5) = true := by rw [bne_iff_ne]; omega
    clear hk h5 hx hm
    go_enter Try.func36, Try.ntmps36
    go_wp2_with fail
    (with_reducible refine KA.out.mono ?_)
    rintro e w2 ⟨rfl, o⟩
    have O := Lib.hid o
    clear o
    rw [HK.out]
    go_wp2_with fail
    go_ret
    exact ⟨O.out, by rw [HA.out]; rfl⟩
end Go.Proofs.Ytbjnejnjlidiaaa.prX
