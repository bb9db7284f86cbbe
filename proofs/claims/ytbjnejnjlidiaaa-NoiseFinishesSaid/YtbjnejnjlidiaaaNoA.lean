/- Noise: plain facts. -/
import Derived.Test.YtbjnejnjlidiaaaMaC
namespace Go.Proofs.Ytbjnejnjlidiaaa.noA
open Go.RowKit kit numA numB numC numD numE tmA tmB tmC tmD tmE trA trB prR prS prW prX tsA tsB tsF tsI wrA wrB wrC wrD wrE wrF wrG wrH wrI wrJ mkA maA maB maC
set_option linter.unusedVariables false
set_option linter.unusedSimpArgs false

/-- Keys, sums, seals. -/
def kdfT (n : Nat) (c u : Txt) : Txt := mkT 8 n [] [c, u]
def hashT (a b : Txt) : Txt := mkT 7 0 [] [a, b]
def pubT (s : Txt) : Txt := mkT 5 0 [] [s]
def sealT (k u v : Txt) : Txt := mkT 10 0 [] [k, u, v]
def nameT : Txt := [120, 55, 51, 54, 101, 54, 57, 54, 51, 54, 98, 54, 53, 55, 52]
def c0T : Txt := mkT 7 0 [] [nameT]
def chainT (c : Txt) (ps : List Txt) : Txt := ps.foldl (fun c u => kdfT 1 c u) c
def sumT (h : Txt) (ps : List Txt) : Txt := ps.foldl (fun h u => hashT h u) h

/-- A term of so many bytes at most. -/
def Ok (t : Txt) (n : Nat) : Prop := isT t = true ∧ t.length ≤ n

theorem Ok.mono {t : Txt} {n k : Nat} (h : Ok t n) (hk : n ≤ k) : Ok t k := ⟨h.1, Nat.le_trans h.2 hk⟩
theorem ok_kdf {n a b : Nat} {c u : Txt} (h1 : 1 ≤ n) (h3 : n ≤ 3) (hc : Ok c a) (hu : Ok u b) (hl : a + b ≤ 60000) : Ok (kdfT n c u) (a + b + 26) := by
  have hn : n ≤ most := by unfold most; omega
  have hcl := hc.2
  have hul := hu.2
  have hne : kdfT n c u ≠ [] := mk_good (by decide) (by decide) hn (by simp [least]) (by simp [mostk]) (fun _ => ⟨by simp [lowk]; omega, by simp [highk]; omega⟩) (by simp [hc.1, hu.1]) (by simp [total]; omega)
  refine ⟨(mk_isT hn).2 hne, ?_⟩
  have h := mk_le (k := 8) (n := n) (b := []) (ps := [c, u]) (by decide) (by decide) hn
  simp only [total, List.map_cons, List.map_nil, List.sum_cons, List.sum_nil, List.length_cons, List.length_nil] at h
  unfold kdfT
  omega
theorem ok_hash {a b : Nat} {x y : Txt} (hx : Ok x a) (hy : Ok y b) (hl : a + b ≤ 60000) : Ok (hashT x y) (a + b + 26) := by
  have h := hash2 hx.1 hy.1 (by have := hx.2; have := hy.2; omega)
  exact ⟨h.1, by have := h.2.1; have := hx.2; have := hy.2; unfold hashT; omega⟩
theorem ok_pub {a : Nat} {x : Txt} (hx : Ok x a) (hl : a ≤ 60000) : Ok (pubT x) (a + 3) ∧ nd (pubT x) = ⟨5, 0, [], [x]⟩ := by
  have hxl := hx.2
  have e := pub_ok (x := x) (by omega)
  rw [if_pos hx.1] at e
  have hne : pubT x ≠ [] := by rw [pubT, e]; exact List.cons_ne_nil _ _
  refine ⟨⟨(mk_isT (by decide)).2 hne, ?_⟩, nd_pub (by omega) hx.1⟩
  rw [pubT, e]
  simp
  omega
theorem ok_seal {a b c : Nat} {k u v : Txt} (hk : Ok k a) (hu : Ok u b) (hv : Ok v c) (hl : a + b + c ≤ 60000) : Ok (sealT k u v) (a + b + c + 27) := by
  have := hk.2; have := hu.2; have := hv.2
  have hne : sealT k u v ≠ [] := mk_good (by decide) (by decide) (by decide) (by simp [least]) (by simp [mostk]) (fun _ => ⟨Nat.zero_le _, Nat.zero_le _⟩) (by simp [hk.1, hu.1, hv.1]) (by simp [total]; omega)
  refine ⟨(mk_isT (by decide)).2 hne, ?_⟩
  have h := mk_le (k := 10) (n := 0) (b := []) (ps := [k, u, v]) (by decide) (by decide) (by decide)
  simp only [total, List.map_cons, List.map_nil, List.sum_cons, List.sum_nil, List.length_cons, List.length_nil] at h
  unfold sealT
  omega
theorem ok_agr {a b : Nat} {x p : Txt} (hx : Ok x a) (hp : (nd p).k = 5) (hl : p.length ≤ b) (hs : a + b ≤ 60000) : Ok (agr x p) (a + b + 26) := by
  have hxl := hx.2
  have hr := nd_right (t := p) (by omega)
  rw [hp] at hr
  have hl1 : (nd p).ps.length = 1 := by simpa [right] using hr
  obtain ⟨y, hy⟩ : ∃ y, (nd p).ps = [y] := by
    match h : (nd p).ps, hl1 with
    | [y], _ => exact ⟨y, rfl⟩
  have hyp := nd_parts (t := p) (p := y) (by rw [hy]; simp)
  have e : agr x p = mkT 6 0 [] [x, y] := by rw [agr, if_pos hp, hy]; rfl
  have hne : mkT 6 0 [] [x, y] ≠ [] := mk_good (by decide) (by decide) (by decide) (by simp [least]) (by simp [mostk]) (fun h => by cases h) (by simp [hx.1, hyp.1]) (by have := hyp.2; simp [total]; omega)
  rw [e]
  refine ⟨(mk_isT (by decide)).2 hne, ?_⟩
  have h := mk_le (k := 6) (n := 0) (b := []) (ps := [x, y]) (by decide) (by decide) (by decide)
  simp only [total, List.map_cons, List.map_nil, List.sum_cons, List.sum_nil, List.length_cons, List.length_nil] at h
  have := hyp.2
  omega
theorem ok_num {n : Int} (h0 : 0 ≤ n) (h1 : n ≤ (most : Nat)) : Ok (numT n) 21 := numT_ok h0 h1
theorem ok_c0 : Ok c0T 20 := by
  constructor
  · decide +kernel
  · decide +kernel
theorem ok_zero : Ok zeroT 1 := ⟨zeroT_is, by decide⟩
theorem ok_fit {t : Txt} {n : Nat} (h : Ok t n) (hn : n ≤ 65535) : fitB t = true := by rw [fitB, h.1, decide_eq_true (Nat.le_trans h.2 hn)]; rfl

theorem chainT_snoc (c : Txt) (ps : List Txt) (u : Txt) : chainT c (ps ++ [u]) = kdfT 1 (chainT c ps) u := by simp [chainT]
theorem sumT_snoc (h : Txt) (ps : List Txt) (u : Txt) : sumT h (ps ++ [u]) = hashT (sumT h ps) u := by simp [sumT]

theorem sl_blk {w : World} {B : Nat} {fr : Nat × Nat} (xs : List ByteArray) (hl : xs.length ≤ 1000) (h : w.heap[B]? = some (.cells (xs.map Value.string).toArray 9 fr)) : Sl w (fun k => k = B) (.slice (some ⟨B, 0, none⟩) xs.length xs.length) ((xs.map (·.data.toList)).map sv) := by
  have e : ((xs.map (·.data.toList)).map sv) = xs.map Value.string := by simp [sv]
  have el : ((xs.map (·.data.toList)).map sv).length = xs.length := by simp
  refine ⟨by rw [el]; unfold maxLen; omega, _, xs.length, by rw [el], .inr ⟨B, 0, rfl, rfl, lt_of h, fun i hi => ?_⟩⟩
  rw [el] at hi
  rw [cell_of h, Nat.zero_add, e]
  simp [hi]
theorem blk_new (W : World) (cs : Array Value) : (W.alloc (.cells cs 9)).heap[W.heap.size]? = some (.cells cs 9 (0, 0)) := heap_alloc_new W _

end Go.Proofs.Ytbjnejnjlidiaaa.noA
