/- Term: the program's parse. -/
import Derived.Test.YtbjnejnjlidiaaaPrL
import Derived.Test.YtbjnejnjlidiaaaNumF
namespace Go.Proofs.Ytbjnejnjlidiaaa.prQ
open Go.RowKit kit numA numB numC numD numE numF tmA tmB tmC srcA trA trB trD trE trJ prA prB prC prD prL prP
set_option linter.unusedVariables false
set_option linter.unusedSimpArgs false

/-- The three results' blocks. -/
def Res (w : World) (K : Nat) (x y z : Value) : Prop := w.heap[K]? = some (.cells #[x] 3 (0, 0)) ∧ w.heap[K + 1]? = some (.cells #[y] 23 (0, 0)) ∧ w.heap[K + 1 + 1]? = some (.cells #[z] 25 (0, 0))

theorem Res.cells {w : World} {K : Nat} {x y z : Value} (h : Res w K x y z) : w.cell? ⟨K, 0, none⟩ = some x ∧ w.cell? ⟨K + 1, 0, none⟩ = some y ∧ w.cell? ⟨K + 1 + 1, 0, none⟩ = some z := ⟨cell_of h.1, cell_of h.2.1, cell_of h.2.2⟩
theorem Res.free {w : World} {K : Nat} {x y z : Value} (h : Res w K x y z) : w.frozen? ⟨K, 0, none⟩ = false ∧ w.frozen? ⟨K + 1, 0, none⟩ = false ∧ w.frozen? ⟨K + 1 + 1, 0, none⟩ = false := ⟨free_of h.1, free_of h.2.1, free_of h.2.2⟩
theorem Res.set0 {w : World} {K : Nat} {x y z : Value} (h : Res w K x y z) (v : Value) : Res (w.setCell ⟨K, 0, none⟩ v) K v y z := ⟨heap_set h.1, (heap_other (by omega)).trans h.2.1, (heap_other (by omega)).trans h.2.2⟩
theorem Res.set1 {w : World} {K : Nat} {x y z : Value} (h : Res w K x y z) (v : Value) : Res (w.setCell ⟨K + 1, 0, none⟩ v) K x v z := ⟨(heap_other (by omega)).trans h.1, heap_set h.2.1, (heap_other (by omega)).trans h.2.2⟩
theorem Res.set2 {w : World} {K : Nat} {x y z : Value} (h : Res w K x y z) (v : Value) : Res (w.setCell ⟨K + 1 + 1, 0, none⟩ v) K x y v := ⟨(heap_other (by omega)).trans h.1, (heap_other (by omega)).trans h.2.1, heap_set h.2.2⟩
theorem Res.drew {w : World} {K : Nat} {x y z : Value} (h : Res w K x y z) : Res w.drew K x y z := h

abbrev w3 (w : World) : World := ((w.alloc (.cells #[.int .i64 0] 3)).alloc (.cells #[.int .u64 0] 23)).alloc (.cells #[.slice none 0 0] 25)
abbrev w4 (w : World) (s : ByteArray) : World := (w3 w).alloc (.cells #[.string s, .int .i64 0, .map none] 195)

theorem w3_res (w : World) : Res (w3 w) w.heap.size (.int .i64 0) (.int .u64 0) (.slice none 0 0) := by
  refine ⟨?_, ?_, ?_⟩
  · rw [Below.heap_alloc _ _ _ (by simp <;> omega), Below.heap_alloc _ _ _ (by simp <;> omega)]
    exact heap_alloc_new _ _
  · rw [Below.heap_alloc _ _ _ (by simp)]
    have := heap_alloc_new (w.alloc (.cells #[.int .i64 0] 3)) (.cells #[.int .u64 0] 23)
    rw [World.size_alloc] at this
    exact this
  · have := heap_alloc_new ((w.alloc (.cells #[.int .i64 0] 3)).alloc (.cells #[.int .u64 0] 23)) (.cells #[.slice none 0 0] 25)
    rw [World.size_alloc, World.size_alloc] at this
    exact this
theorem w3_size (w : World) : (w3 w).heap.size = w.heap.size + 1 + 1 + 1 := by rw [World.size_alloc, World.size_alloc, World.size_alloc]
theorem w4_res (w : World) (s : ByteArray) : Res (w4 w s) w.heap.size (.int .i64 0) (.int .u64 0) (.slice none 0 0) := by
  obtain ⟨h1, h2, h3⟩ := w3_res w
  have := w3_size w
  exact ⟨(Below.heap_alloc _ _ _ (by omega)).trans h1, (Below.heap_alloc _ _ _ (by omega)).trans h2, (Below.heap_alloc _ _ _ (by omega)).trans h3⟩
theorem w4_rs (w : World) (s : ByteArray) : RS (w4 w s) (w.heap.size + 1 + 1 + 1) s 0 := by
  have := heap_alloc_new (w3 w) (.cells #[.string s, .int .i64 0, .map none] 195)
  rw [w3_size] at this
  exact ⟨.map none, this, .inl rfl⟩
theorem w3_only (w : World) : Only (fun _ => False) w (w3 w) := (((Only.refl _ w).alloc _).alloc _).alloc _
theorem w4_only (w : World) (s : ByteArray) : Only (fun _ => False) w (w4 w s) := (w3_only w).alloc _

theorem only_own {T : Nat → Prop} {a w w' : World} (h : Only (fun _ => False) a w) (k : Only T w w') (hB : ∀ i, T i → a.heap.size ≤ i) : Only (fun _ => False) a w' :=
  ⟨k.os.trans h.os, k.tape.trans h.tape, k.output.trans h.output, Nat.le_trans h.size k.size, fun i hi hs => (k.block i (Nat.lt_of_lt_of_le hi h.size) (fun q => by have := hB i q; omega)).trans (h.block i hi id)⟩

/-- What parse answers. -/
def Prs (w : World) (t : Txt) (ps : List Txt) (e : Ending) (w' : World) : Prop := Only (fun _ => False) w w' ∧ ∃ v, e = .returned (.tuple #[.int .i64 (ndOf t).k, .int .u64 (ndOf t).n, v]) ∧ Sl w' (fun k => w.heap.size ≤ k) v (ps.map sv)

theorem zap_post {a w : World} (ho : Only (fun _ => False) a w) {x y z : Value} (h : Res w a.heap.size x y z) : Only (fun _ => False) a (zap w ⟨a.heap.size, 0, none⟩ ⟨a.heap.size + 1, 0, none⟩ ⟨a.heap.size + 1 + 1, 0, none⟩) ∧ Res (zap w ⟨a.heap.size, 0, none⟩ ⟨a.heap.size + 1, 0, none⟩ ⟨a.heap.size + 1 + 1, 0, none⟩) a.heap.size (.int .i64 0) (.int .u64 0) (.slice none 0 0) :=
  ⟨only_setNew (only_setNew (only_setNew ho (by omega)) (by omega)) (by omega), ((h.set0 _).set1 _).set2 _⟩

/-- The three ways of the reader's end. -/
theorem ways (s : ByteArray) (hs : s.size ≤ 65536) : (∃ d, ndOf s.data.toList = d ∧ tmC (2 * s.size) s.data.toList = some (d.k, d.n, d.ps, [])) ∨ (ndOf s.data.toList = ⟨0, 0, [], []⟩ ∧ (tmC (2 * s.size) s.data.toList = none ∨ ∃ k n ps rest, tmC (2 * s.size) s.data.toList = some (k, n, ps, rest) ∧ behind s rest < s.size)) := by
  have hl := tl_size s
  rcases parseC (t := s.data.toList) (f := 2 * s.size) (by omega) (by omega) with ⟨d, h1, h2⟩ | ⟨h1, h2⟩
  · exact .inl ⟨d, by rw [ndOf, h1]; rfl, h2⟩
  · refine .inr ⟨by rw [ndOf, h1]; rfl, ?_⟩
    cases h : tmC (2 * s.size) s.data.toList with
    | none => exact .inl rfl
    | some q =>
      obtain ⟨k, n, ps, rest⟩ := q
      refine .inr ⟨k, n, ps, rest, rfl, ?_⟩
      cases rest with
      | nil => exact absurd h (h2 k n ps)
      | cons c r =>
        obtain ⟨t, _, e⟩ := (sufC _).1 _ _ _ _ _ h
        have := congrArg List.length e
        rw [hl, List.length_append, List.length_cons] at this
        simp only [behind, List.length_cons]
        omega

theorem leave105 {tmps : Array Value} {R : Ending → World → Prop} {w : World} {K : Nat} {x y z : Value} (h4 : tmps.getD 4 undef = .pointer (some ⟨K, 0, none⟩)) (h5 : tmps.getD 5 undef = .pointer (some ⟨K + 1, 0, none⟩)) (h6 : tmps.getD 6 undef = .pointer (some ⟨K + 1 + 1, 0, none⟩)) (h : Res w K x y z) (hR : R (.returned (.tuple #[x, y, z])) w) : Leaves Try.prog Try.f105 tmps R [] .returning w := by
  obtain ⟨y0, y1, y2⟩ := h.cells
  refine ⟨.tuple #[x, y, z], ?_, hR⟩
  simp only [Array.getD_eq_getD_getElem?] at h4 h5 h6
  simp [results, Try.results105, go_sem, h4, h5, h6, y0, y1, y2]

set_option maxRecDepth 100000 in
set_option maxHeartbeats 1000000 in
theorem parse_idle (s : ByteArray) (w : World) (hm : s.size ≤ 100000000) : Calls Try.prog 105 #[.string s, .bool false] w (Prs w s.data.toList []) := by
  have hmf : ∀ (fn : Fn) (first cap : Array Value) (w : World), (Instr.makeFunc fn first cap).run Try.prog w = .ok (.func fn first cap) w := fun _ _ _ _ => rfl
  by_cases hl : 65536 < s.size
  · have hq : ndOf s.data.toList = ⟨0, 0, [], []⟩ := by rw [ndOf, rdT_long (by rw [tl_size]; exact hl)]; rfl
    have k1 : (65536 : Int) < (s.size : Int) := by omega
    have R0 := w3_res w
    obtain ⟨c0, c1, c2⟩ := R0.cells
    obtain ⟨f0, f1, f2⟩ := R0.free
    have Z := Lib.hid R0
    have HQ := Lib.hid hq
    clear R0 hl hm hq
    go_enter_defers Try.func105, Try.ntmps105
    go_wp2_with fail
    exact leave105 rfl rfl rfl Z.out ⟨w3_only w, _, by rw [HQ.out]; rfl, sl_nil _ _⟩
  have k1 : ¬ ((65536 : Int) < (s.size : Int)) := by omega
  have WY := Lib.hid (ways s (by omega))
  have HS := Lib.hid (show s.size ≤ 65536 by omega)
  have T := Lib.hid (rterm_any s (w.heap.size + 1 + 1 + 1) (w4 w s) hm (w4_rs w s))
  obtain ⟨q, hq⟩ : ∃ q, q = tmC (2 * s.size) s.data.toList := ⟨_, rfl⟩
  rw [← hq] at T WY
  have R4 := Lib.hid (w4_res w s)
  have O4 := Lib.hid (w4_only w s)
  clear hq hl hm
  go_enter_defers Try.func105, Try.ntmps105
  go_wp2_with fail
  refine T.out.mono ?_
  rintro e w5 ⟨o5, hr5⟩
  have O5 := Lib.hid (show Only (fun _ => False) w w5 from only_own O4.out o5 fun i hi => by have hi : i = w.heap.size + 1 + 1 + 1 := hi; omega)
  have KR := Lib.hid (fun z (hz : w5.heap[w.heap.size + 1 + 1]? = some (.cells #[z] 25 (0, 0))) => (show Res w5 w.heap.size (.int .i64 0) (.int .u64 0) z from ⟨o5.keep R4.out.1 (by show ¬ w.heap.size = w.heap.size + 1 + 1 + 1; omega), o5.keep R4.out.2.1 (by show ¬ w.heap.size + 1 = w.heap.size + 1 + 1 + 1; omega), hz⟩))
  have K2 := Lib.hid (show w5.heap[w.heap.size + 1 + 1]? = some (.cells #[.slice none 0 0] 25 (0, 0)) from o5.keep R4.out.2.2 (by show ¬ w.heap.size + 1 + 1 = w.heap.size + 1 + 1 + 1; omega))
  clear o5 T R4 O4
  rcases WY.out with ⟨d, hd, rfl⟩ | ⟨hd, rfl | ⟨k, n, ps, rest, rfl, hb⟩⟩
  · obtain ⟨rfl, hr5⟩ := hr5
    have hz := K2.out
    have R5 := Lib.hid (KR.out _ hz)
    obtain ⟨c0, c1, c2⟩ := R5.out.cells
    obtain ⟨f0, f1, f2⟩ := R5.out.free
    obtain ⟨M, hrd, _⟩ := hr5
    have z3 : w5.cell? ⟨w.heap.size + 1 + 1 + 1, 1, none⟩ = some (.int .i64 (behind s [] : Nat)) := cell_of hrd
    have hbh : ((behind s [] : Nat) : Int) = (s.size : Int) := by simp [behind]
    rw [hbh] at z3
    have j1 : ¬ ((s.size : Int) < (s.size : Int)) := by omega
    have HD := Lib.hid hd
    clear hd hz hrd hbh KR WY HS
    go_wp2_with fail
    go_region
    all_goals
      go_wp2_with fail
      refine leaves_cons (f := 162) (args := #[.pointer (some ⟨w.heap.size, 0, none⟩), .pointer (some ⟨w.heap.size + 1, 0, none⟩), .pointer (some ⟨w.heap.size + 1 + 1, 0, none⟩)]) (by simp) (by simp [go_sem]) ?_
      refine (catch_idle ⟨w.heap.size, 0, none⟩ ⟨w.heap.size + 1, 0, none⟩ ⟨w.heap.size + 1 + 1, 0, none⟩ _).mono ?_
      rintro e u' w'' ⟨rfl, rfl, rfl⟩
      refine leave105 rfl rfl rfl (((((R5.out.set0 (.int .i64 d.k)).set1 (.int .u64 d.n)).set0 (.int .i64 d.k)).set1 (.int .u64 d.n)).set2 (.slice none 0 0)).drew ⟨(only_setNew (only_setNew (only_setNew (only_setNew (only_setNew O5.out (by omega)) (by omega)) (by omega)) (by omega)) (by omega)).drew, _, by rw [HD.out], ?_⟩
      exact sl_nil _ _

  · obtain ⟨v, rfl⟩ := hr5
    have hz := K2.out
    have R5 := Lib.hid (KR.out _ hz)
    have HD := Lib.hid hd
    clear hd hz KR WY HS
    go_wp2_with fail
    refine leaves_cons (f := 162) (args := #[.pointer (some ⟨w.heap.size, 0, none⟩), .pointer (some ⟨w.heap.size + 1, 0, none⟩), .pointer (some ⟨w.heap.size + 1 + 1, 0, none⟩)]) (by simp) (by simp [go_sem]) ?_
    refine (catch_panicking w.heap.size _ _ _ v _ R5.out.1 R5.out.2.1 R5.out.2.2).mono ?_
    rintro e u' w'' ⟨rfl, rfl, rfl⟩
    exact leave105 rfl rfl rfl (zap_post O5.out R5.out).2 ⟨(zap_post O5.out R5.out).1, _, by rw [HD.out]; rfl, sl_nil _ _⟩
  · obtain ⟨rfl, hr5⟩ := hr5
    have hz := K2.out
    have R5 := Lib.hid (KR.out _ hz)
    obtain ⟨c0, c1, c2⟩ := R5.out.cells
    obtain ⟨f0, f1, f2⟩ := R5.out.free
    obtain ⟨M, hrd, _⟩ := hr5
    have z3 : w5.cell? ⟨w.heap.size + 1 + 1 + 1, 1, none⟩ = some (.int .i64 (behind s rest : Nat)) := cell_of hrd
    have j1 : ((behind s rest : Nat) : Int) < (s.size : Int) := by omega
    have HD := Lib.hid hd
    clear hd hz hrd KR WY HS hb
    go_wp2_with fail
    refine leaves_cons (f := 162) (args := #[.pointer (some ⟨w.heap.size, 0, none⟩), .pointer (some ⟨w.heap.size + 1, 0, none⟩), .pointer (some ⟨w.heap.size + 1 + 1, 0, none⟩)]) (by simp) (by simp [go_sem]) ?_
    have R6 := (R5.out.set0 (.int .i64 k)).set1 (.int .u64 n)
    have O6 := only_setNew (only_setNew O5.out (o := 0) (v := .int .i64 k) (Nat.le_refl w.heap.size)) (o := 0) (v := .int .u64 n) (show w.heap.size ≤ w.heap.size + 1 by omega)
    refine (catch_panicking w.heap.size _ _ _ _ _ R6.1 R6.2.1 R6.2.2).mono ?_
    rintro e u' w'' ⟨rfl, rfl, rfl⟩
    exact leave105 rfl rfl rfl (zap_post O6 R6).2 ⟨(zap_post O6 R6).1, _, by rw [HD.out]; rfl, sl_nil _ _⟩
set_option maxRecDepth 100000 in
set_option maxHeartbeats 1000000 in
theorem parse_told (s : ByteArray) (w : World) (hm : s.size ≤ 100000000) : Calls Try.prog 105 #[.string s, .bool true] w (Prs w s.data.toList (ndOf s.data.toList).ps) := by
  have hmf : ∀ (fn : Fn) (first cap : Array Value) (w : World), (Instr.makeFunc fn first cap).run Try.prog w = .ok (.func fn first cap) w := fun _ _ _ _ => rfl
  by_cases hl : 65536 < s.size
  · have hq : ndOf s.data.toList = ⟨0, 0, [], []⟩ := by rw [ndOf, rdT_long (by rw [tl_size]; exact hl)]; rfl
    have k1 : (65536 : Int) < (s.size : Int) := by omega
    have R0 := w3_res w
    obtain ⟨c0, c1, c2⟩ := R0.cells
    obtain ⟨f0, f1, f2⟩ := R0.free
    have Z := Lib.hid R0
    have HQ := Lib.hid hq
    clear R0 hl hm hq
    go_enter_defers Try.func105, Try.ntmps105
    go_wp2_with fail
    exact leave105 rfl rfl rfl Z.out ⟨w3_only w, _, by rw [HQ.out]; rfl, by rw [HQ.out]; exact sl_nil _ _⟩
  have k1 : ¬ ((65536 : Int) < (s.size : Int)) := by omega
  have WY := Lib.hid (ways s (by omega))
  have HS := Lib.hid (show s.size ≤ 65536 by omega)
  have T := Lib.hid (rterm_told s (w.heap.size + 1 + 1) (w.heap.size + 1 + 1 + 1) (w4 w s) hm (w4_rs w s) (by omega) (TP.zero (w4_res w s).2.2))
  obtain ⟨q, hq⟩ : ∃ q, q = tmC (2 * s.size) s.data.toList := ⟨_, rfl⟩
  rw [← hq] at T WY
  have R4 := Lib.hid (w4_res w s)
  have O4 := Lib.hid (w4_only w s)
  clear hq hl hm
  go_enter_defers Try.func105, Try.ntmps105
  go_wp2_with fail
  refine T.out.mono ?_
  rintro e w5 ⟨o5, hr5⟩
  have O5 := Lib.hid (show Only (fun _ => False) w w5 from only_own O4.out o5 fun i hi => by have hi : w.heap.size + 1 + 1 ≤ i := hi; omega)
  have KR := Lib.hid (fun z (hz : w5.heap[w.heap.size + 1 + 1]? = some (.cells #[z] 25 (0, 0))) => (show Res w5 w.heap.size (.int .i64 0) (.int .u64 0) z from ⟨o5.keep R4.out.1 (by show ¬ w.heap.size + 1 + 1 ≤ w.heap.size; omega), o5.keep R4.out.2.1 (by show ¬ w.heap.size + 1 + 1 ≤ w.heap.size + 1; omega), hz⟩))
  clear o5 T R4 O4
  rcases WY.out with ⟨d, hd, rfl⟩ | ⟨hd, rfl | ⟨k, n, ps, rest, rfl, hb⟩⟩
  · obtain ⟨rfl, hr5, hp5⟩ := hr5
    obtain ⟨z, hz, hown⟩ := hp5
    have SL5 := Lib.hid ((own_sl hown).mono (T := fun k => w.heap.size + 1 + 1 < k) fun k hk => by omega)
    rcases hown.2 with ⟨rfl, _⟩ | ⟨g, cap, cur, rfl, -⟩
    · clear hown
      have R5 := Lib.hid (KR.out _ hz)
      obtain ⟨c0, c1, c2⟩ := R5.out.cells
      obtain ⟨f0, f1, f2⟩ := R5.out.free
      obtain ⟨M, hrd, _⟩ := hr5
      have z3 : w5.cell? ⟨w.heap.size + 1 + 1 + 1, 1, none⟩ = some (.int .i64 (behind s [] : Nat)) := cell_of hrd
      have hbh : ((behind s [] : Nat) : Int) = (s.size : Int) := by simp [behind]
      rw [hbh] at z3
      have j1 : ¬ ((s.size : Int) < (s.size : Int)) := by omega
      have HD := Lib.hid hd
      clear hd hz hrd hbh KR WY HS
      go_wp2_with fail
      go_region
      all_goals
        go_wp2_with fail
        refine leaves_cons (f := 162) (args := #[.pointer (some ⟨w.heap.size, 0, none⟩), .pointer (some ⟨w.heap.size + 1, 0, none⟩), .pointer (some ⟨w.heap.size + 1 + 1, 0, none⟩)]) (by simp) (by simp [go_sem]) ?_
        refine (catch_idle ⟨w.heap.size, 0, none⟩ ⟨w.heap.size + 1, 0, none⟩ ⟨w.heap.size + 1 + 1, 0, none⟩ _).mono ?_
        rintro e u' w'' ⟨rfl, rfl, rfl⟩
        refine leave105 rfl rfl rfl (((((R5.out.set0 (.int .i64 d.k)).set1 (.int .u64 d.n)).set0 (.int .i64 d.k)).set1 (.int .u64 d.n)).set2 (.slice none 0 0)).drew ⟨(only_setNew (only_setNew (only_setNew (only_setNew (only_setNew O5.out (by omega)) (by omega)) (by omega)) (by omega)) (by omega)).drew, _, by rw [HD.out], ?_⟩
        rw [HD.out]
        exact (SL5.out.keep ((((((Only.refl (fun k => k ≤ w.heap.size + 1 + 1) w5).set (by show _ ≤ _; omega)).set (by show _ ≤ _; omega)).set (by show _ ≤ _; omega)).set (by show _ ≤ _; omega)).set (by show _ ≤ _; omega)).drew fun k h q => by omega).mono fun k h => by omega
    · clear hown
      have R5 := Lib.hid (KR.out _ hz)
      obtain ⟨c0, c1, c2⟩ := R5.out.cells
      obtain ⟨f0, f1, f2⟩ := R5.out.free
      obtain ⟨M, hrd, _⟩ := hr5
      have z3 : w5.cell? ⟨w.heap.size + 1 + 1 + 1, 1, none⟩ = some (.int .i64 (behind s [] : Nat)) := cell_of hrd
      have hbh : ((behind s [] : Nat) : Int) = (s.size : Int) := by simp [behind]
      rw [hbh] at z3
      have j1 : ¬ ((s.size : Int) < (s.size : Int)) := by omega
      have HD := Lib.hid hd
      clear hd hz hrd hbh KR WY HS
      go_wp2_with fail
      go_region
      all_goals
        go_wp2_with fail
        refine leaves_cons (f := 162) (args := #[.pointer (some ⟨w.heap.size, 0, none⟩), .pointer (some ⟨w.heap.size + 1, 0, none⟩), .pointer (some ⟨w.heap.size + 1 + 1, 0, none⟩)]) (by simp) (by simp [go_sem]) ?_
        refine (catch_idle ⟨w.heap.size, 0, none⟩ ⟨w.heap.size + 1, 0, none⟩ ⟨w.heap.size + 1 + 1, 0, none⟩ _).mono ?_
        rintro e u' w'' ⟨rfl, rfl, rfl⟩
        refine leave105 rfl rfl rfl (((((R5.out.set0 (.int .i64 d.k)).set1 (.int .u64 d.n)).set0 (.int .i64 d.k)).set1 (.int .u64 d.n)).set2 (.slice (some ⟨g, 0, none⟩) d.ps.length cap)).drew ⟨(only_setNew (only_setNew (only_setNew (only_setNew (only_setNew O5.out (by omega)) (by omega)) (by omega)) (by omega)) (by omega)).drew, _, by rw [HD.out], ?_⟩
        rw [HD.out]
        exact (SL5.out.keep ((((((Only.refl (fun k => k ≤ w.heap.size + 1 + 1) w5).set (by show _ ≤ _; omega)).set (by show _ ≤ _; omega)).set (by show _ ≤ _; omega)).set (by show _ ≤ _; omega)).set (by show _ ≤ _; omega)).drew fun k h q => by omega).mono fun k h => by omega

  · obtain ⟨⟨v, rfl⟩, z, hz⟩ := hr5
    have R5 := Lib.hid (KR.out _ hz)
    have HD := Lib.hid hd
    clear hd hz KR WY HS
    go_wp2_with fail
    refine leaves_cons (f := 162) (args := #[.pointer (some ⟨w.heap.size, 0, none⟩), .pointer (some ⟨w.heap.size + 1, 0, none⟩), .pointer (some ⟨w.heap.size + 1 + 1, 0, none⟩)]) (by simp) (by simp [go_sem]) ?_
    refine (catch_panicking w.heap.size _ _ _ v _ R5.out.1 R5.out.2.1 R5.out.2.2).mono ?_
    rintro e u' w'' ⟨rfl, rfl, rfl⟩
    exact leave105 rfl rfl rfl (zap_post O5.out R5.out).2 ⟨(zap_post O5.out R5.out).1, _, by rw [HD.out]; rfl, by rw [HD.out]; exact sl_nil _ _⟩
  · obtain ⟨rfl, hr5, hp5⟩ := hr5
    obtain ⟨z, hz, hown⟩ := hp5
    clear hown
    have R5 := Lib.hid (KR.out _ hz)
    obtain ⟨c0, c1, c2⟩ := R5.out.cells
    obtain ⟨f0, f1, f2⟩ := R5.out.free
    obtain ⟨M, hrd, _⟩ := hr5
    have z3 : w5.cell? ⟨w.heap.size + 1 + 1 + 1, 1, none⟩ = some (.int .i64 (behind s rest : Nat)) := cell_of hrd
    have j1 : ((behind s rest : Nat) : Int) < (s.size : Int) := by omega
    have HD := Lib.hid hd
    clear hd hz hrd KR WY HS hb
    go_wp2_with fail
    refine leaves_cons (f := 162) (args := #[.pointer (some ⟨w.heap.size, 0, none⟩), .pointer (some ⟨w.heap.size + 1, 0, none⟩), .pointer (some ⟨w.heap.size + 1 + 1, 0, none⟩)]) (by simp) (by simp [go_sem]) ?_
    have R6 := (R5.out.set0 (.int .i64 k)).set1 (.int .u64 n)
    have O6 := only_setNew (only_setNew O5.out (o := 0) (v := .int .i64 k) (Nat.le_refl w.heap.size)) (o := 0) (v := .int .u64 n) (show w.heap.size ≤ w.heap.size + 1 by omega)
    refine (catch_panicking w.heap.size _ _ _ _ _ R6.1 R6.2.1 R6.2.2).mono ?_
    rintro e u' w'' ⟨rfl, rfl, rfl⟩
    exact leave105 rfl rfl rfl (zap_post O6 R6).2 ⟨(zap_post O6 R6).1, _, by rw [HD.out]; rfl, by rw [HD.out]; exact sl_nil _ _⟩
end Go.Proofs.Ytbjnejnjlidiaaa.prQ
namespace Go.Proofs.Ytbjnejnjlidiaaa.prR
open Go.RowKit kit numA numB numC numD numE numF numG tmA tmB tmC srcA trA trB trD trE trJ prA prQ
set_option linter.unusedVariables false
set_option linter.unusedSimpArgs false

theorem kind_any (s : ByteArray) (w : World) (hm : s.size ≤ 100000000) : Calls Try.prog 27 #[.string s] w (numA.Told w (.int .i64 (ndOf s.data.toList).k)) := by
  have PI := Lib.hid (parse_idle s w hm)
  clear hm
  go_enter Try.func27, Try.ntmps27
  go_wp2_with fail
  (with_reducible refine PI.out.mono ?_)
  rintro e w2 ⟨o, v, rfl, -⟩
  have O := Lib.hid o
  clear o
  go_wp2_with fail
  go_ret
  exact ⟨rfl, O.out⟩

def Prts (w : World) (t : Txt) (e : Ending) (w' : World) : Prop := Only (fun _ => False) w w' ∧ ∃ v, e = .returned v ∧ Sl w' (fun k => w.heap.size ≤ k) v ((ndOf t).ps.map sv)

theorem parts_any (s : ByteArray) (w : World) (hm : s.size ≤ 100000000) : Calls Try.prog 26 #[.string s] w (Prts w s.data.toList) := by
  have PI := Lib.hid (parse_told s w hm)
  clear hm
  go_enter Try.func26, Try.ntmps26
  go_wp2_with fail
  (with_reducible refine PI.out.mono ?_)
  rintro e w2 ⟨o, v, rfl, sl⟩
  have O := Lib.hid o
  have SL := Lib.hid sl
  clear o sl
  go_wp2_with fail
  go_ret
  exact ⟨O.out, _, rfl, SL.out⟩

def hasN (k : Nat) : Bool := k == 2 || k == 3 || k == 8 || k == 10

theorem nd_n (t : Txt) (h : hasN (ndOf t).k = false) : (ndOf t).n = 0 := by
  unfold ndOf at h ⊢
  cases hr : rdT t with
  | none => rfl
  | some d =>
    rw [hr] at h
    obtain ⟨hT, _⟩ := rdT_iff.1 hr
    simp only [Option.getD_some] at h ⊢
    cases hT with
    | zero => rfl
    | atom n hn => cases h
    | num n hn => cases h
    | data b => rfl
    | node k n ps h5 h11 hn hr hs g hp =>
      simp only [hasN, Bool.or_eq_false_iff, beq_eq_false_iff_ne] at h
      simp only [nOk, if_neg h.1.2, if_neg h.2, beq_iff_eq] at hn
      exact hn

theorem value_any (s : ByteArray) (w : World) (hm : s.size ≤ 100000000) : Calls Try.prog 24 #[.string s] w (numA.Told w (.tuple #[.int .u64 (ndOf s.data.toList).n, .bool (hasN (ndOf s.data.toList).k)])) := by
  have PI := Lib.hid (parse_idle s w hm)
  have NN := Lib.hid (nd_n s.data.toList)
  clear hm
  obtain ⟨k, hk⟩ : ∃ k, k = (ndOf s.data.toList).k := ⟨_, rfl⟩
  have HK := Lib.hid hk
  have c2 : ((k : Int) == 2) = (k == 2) := by rw [Bool.eq_iff_iff, beq_iff_eq, beq_iff_eq]; omega
  have c3 : ((k : Int) == 3) = (k == 3) := by rw [Bool.eq_iff_iff, beq_iff_eq, beq_iff_eq]; omega
  have c8 : ((k : Int) == 8) = (k == 8) := by rw [Bool.eq_iff_iff, beq_iff_eq, beq_iff_eq]; omega
  have c10 : ((k : Int) == 10) = (k == 10) := by rw [Bool.eq_iff_iff, beq_iff_eq, beq_iff_eq]; omega
  clear hk
  go_enter Try.func24, Try.ntmps24
  go_wp2_with fail
  (with_reducible refine PI.out.mono ?_)
  rintro e w2 ⟨o, v, rfl, -⟩
  rw [← HK.out] at NN ⊢
  have O := Lib.hid o
  clear o
  cases h2 : (k == 2) <;> cases h3 : (k == 3) <;> cases h8 : (k == 8) <;> cases h10 : (k == 10)
  all_goals rw [h2] at c2; rw [h3] at c3; rw [h8] at c8; rw [h10] at c10
  all_goals
    have HN := Lib.hid (show hasN k = _ from by rw [hasN, h2, h3, h8, h10])
    clear h2 h3 h8 h10
    go_wp2_with fail
    go_ret2
  all_goals first
    | exact ⟨by rw [← HK.out, HN.out]; rfl, O.out⟩
    | exact ⟨by rw [← HK.out, HN.out, NN.out HN.out]; rfl, O.out⟩

end Go.Proofs.Ytbjnejnjlidiaaa.prR
