/- Noise: small functions. -/
import Derived.Test.YtbjnejnjlidiaaaNoB
namespace Go.Proofs.Ytbjnejnjlidiaaa.noC
open Go.RowKit kit numA numB numC numD numE tmA tmB tmC tmD tmE trA trB prR prS prW prX tsA tsB tsF tsI wrA wrB wrC wrD wrE wrF wrG wrH wrI wrJ mkA maA maB maC noA noB
set_option linter.unusedVariables false
set_option linter.unusedSimpArgs false

theorem numk_le {k : Nat} {b : Txt} {t : Txt} (h : t = mkT k 0 b []) : t.length ≤ 65536 := by rw [h]; exact mk_most (by decide)
theorem kdf_most (n : Nat) (hn : n ≤ 3) (c u : Txt) : (kdfT n c u).length ≤ 65536 := mk_most (by unfold most; omega)
theorem hash_most (a b : Txt) : (hashT a b).length ≤ 65536 := mk_most (by decide)
theorem pub_most (a : Txt) : (pubT a).length ≤ 65536 := mk_most (by decide)
theorem seal_most (a b c : Txt) : (sealT a b c).length ≤ 65536 := mk_most (by decide)
theorem agr_most (a b : Txt) : (agr a b).length ≤ 65536 := by
  unfold agr
  split
  · exact mk_most (by decide)
  · exact Nat.zero_le _
theorem chain_most (c : Txt) : ∀ ps, c.length ≤ 100000000 → (chainT c ps).length ≤ 100000000 := by
  intro ps
  induction ps generalizing c with
  | nil => exact fun h => h
  | cons p ps ih => exact fun _ => ih (kdfT 1 c p) (Nat.le_trans (kdf_most 1 (by decide) c p) (by decide))
theorem sum_most (c : Txt) : ∀ ps, c.length ≤ 100000000 → (sumT c ps).length ≤ 100000000 := by
  intro ps
  induction ps generalizing c with
  | nil => exact fun h => h
  | cons p ps ih => exact fun _ => ih (hashT c p) (Nat.le_trans (hash_most c p) (by decide))

set_option maxRecDepth 100000 in
theorem derive_any (n : Nat) (c u : ByteArray) (b : ByteArray) (w : World) (hb : b.data.toList = kdfT n c.data.toList u.data.toList) (hn : n ≤ 3) (h1 : c.size ≤ 100000000) (h2 : u.size ≤ 100000000) : Calls Try.prog 135 #[.int .u64 n, .string c, .string u] w (numA.Told w (.string b)) := by
  have C := Lib.hid (fun W => told_str (b := b) (by rw [hb]; rfl) (make2 8 n n rfl (by unfold most; omega) c u W h1 h2))
  have O := Lib.hid (Only.refl (fun _ => False) w)
  clear hb hn h1 h2
  go_enter Try.func135, Try.ntmps135
  go_wp2_with fail
  (with_reducible refine (C.out _).mono ?_)
  rintro e wx1 ⟨rfl, o⟩
  replace O := Lib.hid (O.out.trans o)
  clear o
  go_wp2_with fail
  go_ret
  exact ⟨rfl, O.out⟩

set_option maxRecDepth 100000 in
theorem kdf_any (n : Nat) (c u : ByteArray) (b : ByteArray) (w : World) (hb : b.data.toList = kdfT n c.data.toList u.data.toList) (hn : n ≤ 3) (h1 : c.size ≤ 10000000) (h2 : u.size ≤ 10000000) : Calls Try.prog 139 #[.int .u64 n, .string c, .string u] w (numA.Told w (.string b)) := by
  have C := Lib.hid (fun W => told_str (b := b) (by rw [hb]; rfl) (refmake2 8 n n rfl (by unfold most; omega) c u W h1 h2))
  have O := Lib.hid (Only.refl (fun _ => False) w)
  clear hb hn h1 h2
  go_enter Try.func139, Try.ntmps139
  go_wp2_with fail
  (with_reducible refine (C.out _).mono ?_)
  rintro e wx2 ⟨rfl, o⟩
  replace O := Lib.hid (O.out.trans o)
  clear o
  go_wp2_with fail
  go_ret
  exact ⟨rfl, O.out⟩

set_option maxRecDepth 100000 in
theorem public_any (s : ByteArray) (b : ByteArray) (w : World) (hb : b.data.toList = pubT s.data.toList) (h1 : s.size ≤ 100000000) : Calls Try.prog 131 #[.string s] w (numA.Told w (.string b)) := by
  have C := Lib.hid (fun W => told_str (b := b) (by rw [hb]; rfl) (make1 5 0 0 rfl (by decide) s W h1))
  have O := Lib.hid (Only.refl (fun _ => False) w)
  clear hb h1
  go_enter Try.func131, Try.ntmps131
  go_wp2_with fail
  (with_reducible refine (C.out _).mono ?_)
  rintro e wx3 ⟨rfl, o⟩
  replace O := Lib.hid (O.out.trans o)
  clear o
  go_wp2_with fail
  go_ret
  exact ⟨rfl, O.out⟩

set_option maxRecDepth 100000 in
theorem nseal_any (k u v : ByteArray) (b : ByteArray) (w : World) (hb : b.data.toList = sealT k.data.toList u.data.toList v.data.toList) (h1 : k.size ≤ 100000000) (h2 : u.size ≤ 100000000) (h3 : v.size ≤ 100000000) : Calls Try.prog 134 #[.string k, .string u, .string v] w (numA.Told w (.string b)) := by
  have C := Lib.hid (fun W => told_str (b := b) (by rw [hb]; rfl) (make3 10 0 0 rfl (by decide) k u v W h1 h2 h3))
  have O := Lib.hid (Only.refl (fun _ => False) w)
  clear hb h1 h2 h3
  go_enter Try.func134, Try.ntmps134
  go_wp2_with fail
  (with_reducible refine (C.out _).mono ?_)
  rintro e wx4 ⟨rfl, o⟩
  replace O := Lib.hid (O.out.trans o)
  clear o
  go_wp2_with fail
  go_ret
  exact ⟨rfl, O.out⟩

set_option maxRecDepth 100000 in
theorem hash_any (x y b : ByteArray) (w : World) (hb : b.data.toList = hashT x.data.toList y.data.toList) (h1 : x.size ≤ 10000000) (h2 : y.size ≤ 10000000) : Calls Try.prog 140 #[.string x, .string y] w (numA.Told w (.string b)) := by
  have C := Lib.hid (fun W => refhash_any x y b W (by rw [hb]; rfl) h1 h2 W.heap.size rfl)
  have O := Lib.hid (Only.refl (fun _ => False) w)
  clear hb h1 h2
  go_enter Try.func140, Try.ntmps140
  go_wp2_with fail
  (with_reducible refine (C.out _).mono ?_)
  rintro e wx5 ⟨rfl, o⟩
  replace O := Lib.hid (O.out.trans o)
  clear o
  go_wp2_with fail
  go_ret
  exact ⟨rfl, O.out⟩

set_option maxRecDepth 100000 in
theorem sum_blk (xs : List ByteArray) (b : ByteArray) (w : World) (G : Nat) (hb : b.data.toList = mkT 7 0 [] (xs.map (·.data.toList))) (hl : xs.length ≤ 1000) (hx : ∀ x ∈ xs, x.size ≤ 100000000) (h : w.heap[G]? = some (.cells (xs.map Value.string).toArray 9 (0, 0))) : Calls Try.prog 130 #[.slice (some ⟨G, 0, none⟩) xs.length xs.length] w (numA.Told w (.string b)) := by
  have C := Lib.hid (fun W (o : Only (fun _ => False) w W) => show Calls Try.prog 30 #[.int .i64 7, .int .u64 0, .slice none 0 0, .slice (some ⟨G, 0, none⟩) xs.length xs.length] W (numA.Told W (.string b)) from told_str (b := b) (by rw [hb]; rfl) (make_any 7 0 [] (xs.map (·.data.toList)) _ (fun _ => False) (.slice none 0 0) _ W (by decide) (sl_nil _ _) (Nat.zero_le _) ((sl_blk xs hl h).keep o fun _ _ h => h) (fun p hp => by
      obtain ⟨x, hx', rfl⟩ := List.mem_map.1 hp
      rw [tl_size]
      exact hx x hx') (by rw [List.length_map]; omega)))
  have O := Lib.hid (Only.refl (fun _ => False) w)
  clear hb h hl hx
  go_enter Try.func130, Try.ntmps130
  go_wp2_with fail
  (with_reducible refine (C.out _ O.out).mono ?_)
  rintro e w2 ⟨rfl, o⟩
  replace O := Lib.hid (O.out.trans o)
  clear o
  go_wp2_with fail
  go_ret
  exact ⟨rfl, O.out⟩

set_option maxRecDepth 100000 in
set_option maxHeartbeats 1600000 in
theorem chained_sl (c r : ByteArray) (ps : List Txt) (S : Nat → Prop) (a : Value) (w : World) (hres : r.data.toList = chainT c.data.toList ps) (ha : Sl w S a (ps.map sv)) (hx : ps.length ≤ 1000) (hl : ∀ p ∈ ps, p.length ≤ 100000000) (hc : c.size ≤ 100000000) : Calls Try.prog 132 #[.string c, a] w (numA.Told w (.string r)) := by
  obtain ⟨a', n, cp, rfl⟩ : ∃ a' n c, a = .slice a' n c := by obtain ⟨_, a', c, h, _⟩ := ha; exact ⟨a', _, c, h⟩
  obtain rfl := sl_len ha
  have HS := Lib.hid ha
  have HX := Lib.hid hx
  have HL := Lib.hid hl
  have HC0 := Lib.hid (show c.data.toList.length ≤ 100000000 from by rw [tl_size]; exact hc)
  have O0 := Lib.hid (Only.refl (fun _ => False) w)
  have HRES := Lib.hid hres
  clear ha hx hl hc hres
  go_enter Try.func132, Try.ntmps132
  go_wp2_with fail
  go_loopw [0, 6, 9] (fun v _ i wr => ∃ (j : Nat) (b : ByteArray), i = .int .i64 j ∧ v = .string b ∧ b.data.toList = chainT c.data.toList (ps.take j) ∧ j ≤ ps.length ∧ Only (fun _ => False) w wr) (fun _ _ i _ => ps.length - (Lib.intOf i).toNat)
  case atStart => exact ⟨0, c, rfl, rfl, rfl, Nat.zero_le _, O0.out⟩
  case round =>
    obtain ⟨j, b, rfl, rfl, hbt, hj, ho⟩ := hrel
    by_cases hlt : j < ps.length
    · have HR := Lib.hid ho
      obtain ⟨g, o, rfl, -, -, x0⟩ := sl_get (HS.out.keep ho fun _ _ h => h) j hlt
      unfold sv at x0
      obtain ⟨u, hu⟩ : ∃ b : ByteArray, b = ⟨(ps.getD j []).toArray⟩ := ⟨_, rfl⟩
      rw [← hu] at x0
      have hut : u.data.toList = ps.getD j [] := by rw [hu]
      have uz : u.size ≤ 100000000 := by
        rw [sz_of hut]
        exact HL.out _ (by rw [List.getD_eq_getElem?_getD, List.getElem?_eq_getElem hlt]; exact List.getElem_mem _)
      obtain ⟨d, hd⟩ : ∃ d : ByteArray, d.data.toList = kdfT 1 (chainT c.data.toList (ps.take j)) (ps.getD j []) := ⟨⟨(kdfT 1 (chainT c.data.toList (ps.take j)) (ps.getD j [])).toArray⟩, rfl⟩
      have CD := Lib.hid (fun W => show Calls Try.prog 135 #[.int .u64 1, .string b, .string u] W (numA.Told W (.string d)) from derive_any 1 b u d W (by rw [hd, hbt, hut]) (by decide) (by rw [sz_of hbt]; exact chain_most _ _ HC0.out) uz)
      have k0 : (0 : Int) ≤ (j : Int) := by omega
      have k1 : (j : Int) < (ps.length : Int) := by omega
      have k1' : ((j : Int) < (ps.length : Int)) = True := eq_true k1
      have wj : wrap64 ((j : Int) + 1) = (j : Int) + 1 := IntWalk.wrap64_in _ (by have := HX.out; omega)
      have HJ := Lib.hid hlt
      have HD := Lib.hid (show d.data.toList = chainT c.data.toList (ps.take (j + 1)) from by rw [hd, take_snoc ps j hlt [], chainT_snoc])
      clear hj hlt ho hbt hut uz hu hd
      go_wp2_with fail
      (with_reducible refine (CD.out _).mono ?_)
      rintro e w2 ⟨rfl, o'⟩
      have O2 := Lib.hid (HR.out.trans o')
      clear o'
      go_wp2_with fail
      go_roundw
      case rel => exact ⟨j + 1, d, by rw [wj]; rfl, rfl, HD.out, HJ.out, O2.out⟩
      case measure =>
        rw [wj]
        have := HJ.out
        simp only [Lib.intOf]
        omega
    · obtain rfl : j = ps.length := by omega
      have k1 : ((ps.length : Int) < (ps.length : Int)) = False := eq_false (by omega)
      have HB := Lib.hid (show Value.string b = .string r from by
        rw [List.take_length, ← HRES.out] at hbt
        rw [str_of hbt, str_of (rfl : r.data.toList = r.data.toList)])
      have HR := Lib.hid ho
      clear hj hlt ho hbt
      go_wp2_with fail
      go_ret
      exact ⟨by rw [← HB.out]; rfl, HR.out⟩

theorem chained_blk (c : ByteArray) (xs : List ByteArray) (r : ByteArray) (hr : r.data.toList = chainT c.data.toList (xs.map (·.data.toList))) (hl : xs.length ≤ 1000) (hx : ∀ x ∈ xs, x.size ≤ 100000000) (hc : c.size ≤ 100000000) (W : World) (G : Nat) (h : W.heap[G]? = some (.cells (xs.map Value.string).toArray 9 (0, 0))) : Calls Try.prog 132 #[.string c, .slice (some ⟨G, 0, none⟩) xs.length xs.length] W (numA.Told W (.string r)) :=
  chained_sl c r (xs.map (·.data.toList)) _ _ W hr (sl_blk xs hl h) (by rw [List.length_map]; exact hl) (fun p hp => by
    obtain ⟨x, hx', rfl⟩ := List.mem_map.1 hp
    rw [tl_size]
    exact hx x hx') hc

set_option maxRecDepth 100000 in
set_option maxHeartbeats 1600000 in
theorem summed_sl (c r : ByteArray) (ps : List Txt) (S : Nat → Prop) (a : Value) (w : World) (hres : r.data.toList = sumT c.data.toList ps) (ha : Sl w S a (ps.map sv)) (hx : ps.length ≤ 1000) (hl : ∀ p ∈ ps, p.length ≤ 100000000) (hc : c.size ≤ 100000000) : Calls Try.prog 133 #[.string c, a] w (numA.Told w (.string r)) := by
  obtain ⟨a', n, cp, rfl⟩ : ∃ a' n c, a = .slice a' n c := by obtain ⟨_, a', c, h, _⟩ := ha; exact ⟨a', _, c, h⟩
  obtain rfl := sl_len ha
  have HS := Lib.hid ha
  have HX := Lib.hid hx
  have HL := Lib.hid hl
  have HC0 := Lib.hid (show c.data.toList.length ≤ 100000000 from by rw [tl_size]; exact hc)
  have O0 := Lib.hid (Only.refl (fun _ => False) w)
  have HRES := Lib.hid hres
  clear ha hx hl hc hres
  go_enter Try.func133, Try.ntmps133
  go_wp2_with fail
  go_loopw [0, 6, 9] (fun v _ i wr => ∃ (j : Nat) (b : ByteArray), i = .int .i64 j ∧ v = .string b ∧ b.data.toList = sumT c.data.toList (ps.take j) ∧ j ≤ ps.length ∧ Only (fun _ => False) w wr) (fun _ _ i _ => ps.length - (Lib.intOf i).toNat)
  case atStart => exact ⟨0, c, rfl, rfl, rfl, Nat.zero_le _, O0.out⟩
  case round =>
    obtain ⟨j, b, rfl, rfl, hbt, hj, ho⟩ := hrel
    by_cases hlt : j < ps.length
    · have HR := Lib.hid ho
      obtain ⟨g, o, rfl, -, -, x0⟩ := sl_get (HS.out.keep ho fun _ _ h => h) j hlt
      unfold sv at x0
      obtain ⟨u, hu⟩ : ∃ b : ByteArray, b = ⟨(ps.getD j []).toArray⟩ := ⟨_, rfl⟩
      rw [← hu] at x0
      have hut : u.data.toList = ps.getD j [] := by rw [hu]
      have uz : u.size ≤ 100000000 := by
        rw [sz_of hut]
        exact HL.out _ (by rw [List.getD_eq_getElem?_getD, List.getElem?_eq_getElem hlt]; exact List.getElem_mem _)
      obtain ⟨d, hd⟩ : ∃ d : ByteArray, d.data.toList = hashT (sumT c.data.toList (ps.take j)) (ps.getD j []) := ⟨⟨(hashT (sumT c.data.toList (ps.take j)) (ps.getD j [])).toArray⟩, rfl⟩
      have CD := Lib.hid (fun W => (show Calls Try.prog 130 #[.slice (some ⟨W.heap.size, 0, none⟩) 2 2] (W.alloc (.cells #[.string b, .string u] 9)) (numA.Told W (.string d)) from (sum_blk [b, u] d (W.alloc (.cells #[.string b, .string u] 9)) W.heap.size (by rw [hd, ← hbt, ← hut]; rfl) (by simp) (by intro x hx; simp at hx; rcases hx with rfl | rfl; exact (by rw [sz_of hbt]; exact sum_most _ _ HC0.out); exact uz) (blk_new W _)).mono (fun e w' h => ⟨h.1, ((Only.refl _ W).alloc _).trans h.2⟩)))
      have k0 : (0 : Int) ≤ (j : Int) := by omega
      have k1 : (j : Int) < (ps.length : Int) := by omega
      have k1' : ((j : Int) < (ps.length : Int)) = True := eq_true k1
      have wj : wrap64 ((j : Int) + 1) = (j : Int) + 1 := IntWalk.wrap64_in _ (by have := HX.out; omega)
      have HJ := Lib.hid hlt
      have HD := Lib.hid (show d.data.toList = sumT c.data.toList (ps.take (j + 1)) from by rw [hd, take_snoc ps j hlt [], sumT_snoc])
      clear hj hlt ho hbt hut uz hu hd
      go_wp2_with fail
      (with_reducible refine (CD.out _).mono ?_)
      rintro e w2 ⟨rfl, o'⟩
      have O2 := Lib.hid (HR.out.trans o')
      clear o'
      go_wp2_with fail
      go_roundw
      case rel => exact ⟨j + 1, d, by rw [wj]; rfl, rfl, HD.out, HJ.out, O2.out⟩
      case measure =>
        rw [wj]
        have := HJ.out
        simp only [Lib.intOf]
        omega
    · obtain rfl : j = ps.length := by omega
      have k1 : ((ps.length : Int) < (ps.length : Int)) = False := eq_false (by omega)
      have HB := Lib.hid (show Value.string b = .string r from by
        rw [List.take_length, ← HRES.out] at hbt
        rw [str_of hbt, str_of (rfl : r.data.toList = r.data.toList)])
      have HR := Lib.hid ho
      clear hj hlt ho hbt
      go_wp2_with fail
      go_ret
      exact ⟨by rw [← HB.out]; rfl, HR.out⟩

theorem summed_blk (c : ByteArray) (xs : List ByteArray) (r : ByteArray) (hr : r.data.toList = sumT c.data.toList (xs.map (·.data.toList))) (hl : xs.length ≤ 1000) (hx : ∀ x ∈ xs, x.size ≤ 100000000) (hc : c.size ≤ 100000000) (W : World) (G : Nat) (h : W.heap[G]? = some (.cells (xs.map Value.string).toArray 9 (0, 0))) : Calls Try.prog 133 #[.string c, .slice (some ⟨G, 0, none⟩) xs.length xs.length] W (numA.Told W (.string r)) :=
  summed_sl c r (xs.map (·.data.toList)) _ _ W hr (sl_blk xs hl h) (by rw [List.length_map]; exact hl) (fun p hp => by
    obtain ⟨x, hx', rfl⟩ := List.mem_map.1 hp
    rw [tl_size]
    exact hx x hx') hc

set_option maxRecDepth 100000 in
theorem is_t (m : Msg) (k : Int) (w : World) (hk : m.k = k) (ht : ∀ i, (m.t i).size ≤ 100000000) : Calls Try.prog 138 #[mval m, .int .i64 k] w (numA.Told w (.bool (rightM m))) := by
  have HA := Lib.hid (show MsgAt (w.alloc (.cells m.row 61)) w.heap.size m from heap_alloc_new w _)
  have O := Lib.hid (show Only (fun _ => False) w (w.alloc (.cells m.row 61)) from (Only.refl _ w).alloc _)
  have C := Lib.hid (fun W => terms_any m W ht)
  simp only [mval] at C
  have L0 := Lib.hid (@termsOf_pos m)
  obtain ⟨d0, d1, d2, d3, d4, d5, d6, d7, d8, d9, d10, d11, d12⟩ := MsgAt.cells HA.out
  simp only [mval, Msg.row] at d0 d1 d2 d3 d4 d5 d6 d7 d8 d9 d10 d11 d12
  have c1 : (m.k == k) = true := by rw [beq_iff_eq]; exact hk
  unfold mval
  clear ht hk
  go_enter Try.func138, Try.ntmps138
  go_wp2_with fail
  (with_reducible refine (C.out _).mono ?_)
  rintro e w2 ⟨o, a, c, rfl, -, -, -⟩
  replace O := Lib.hid (O.out.trans o)
  clear d0 d1 d2 d3 d4 d5 d6 d7 d8 d9 d10 d11 d12
  clear o C
  obtain ⟨L, hL⟩ : ∃ L, L = (termsOf m).length := ⟨_, rfl⟩
  rw [← hL] at L0 ⊢
  clear hL
  go_wp2_with fail
  go_ret
  exact ⟨ret_bool (by rw [Bool.eq_iff_iff, ← L0.out, decide_eq_true_eq]), O.out⟩

set_option maxRecDepth 100000 in
theorem is_f (m : Msg) (k : Int) (w : World) (hk : ¬ m.k = k) (ht : ∀ i, (m.t i).size ≤ 100000000) : Calls Try.prog 138 #[mval m, .int .i64 k] w (numA.Told w (.bool false)) := by
  have HA := Lib.hid (show MsgAt (w.alloc (.cells m.row 61)) w.heap.size m from heap_alloc_new w _)
  have O := Lib.hid (show Only (fun _ => False) w (w.alloc (.cells m.row 61)) from (Only.refl _ w).alloc _)
  have C := Lib.hid (fun W => terms_any m W ht)
  simp only [mval] at C
  have L0 := Lib.hid (@termsOf_pos m)
  obtain ⟨d0, d1, d2, d3, d4, d5, d6, d7, d8, d9, d10, d11, d12⟩ := MsgAt.cells HA.out
  simp only [mval, Msg.row] at d0 d1 d2 d3 d4 d5 d6 d7 d8 d9 d10 d11 d12
  have c1 : (m.k == k) = false := by rw [beq_eq_false_iff_ne]; exact hk
  unfold mval
  clear ht hk
  go_enter Try.func138, Try.ntmps138
  go_wp2_with fail
  go_ret
  exact ⟨rfl, O.out⟩

theorem is_any (m : Msg) (k : Int) (a : Bool) (w : World) (h : (m.k == k && rightM m) = a) (ht : ∀ i, (m.t i).size ≤ 100000000) : Calls Try.prog 138 #[mval m, .int .i64 k] w (numA.Told w (.bool a)) := by
  subst h
  by_cases hk : m.k = k
  · rw [beq_iff_eq.2 hk, Bool.true_and]
    exact is_t m k w hk ht
  · rw [beq_eq_false_iff_ne.2 hk, Bool.false_and]
    exact is_f m k w hk ht

end Go.Proofs.Ytbjnejnjlidiaaa.noC
