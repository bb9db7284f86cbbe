/- Loops of sky: points, numbers. -/
import Derived.Test.YtklcanjlkmkmmaaSkyB
import Derived.Lib.AppendZeros
namespace Go.Proofs.Ytklcanjlkmkmmaa.skyC
open Go.RowKit Go.Lib Go.Proofs.Ytklcanjlkmkmmaa.kit Go.Proofs.Ytklcanjlkmkmmaa.floA Go.Proofs.Ytklcanjlkmkmmaa.skyA Go.Proofs.Ytklcanjlkmkmmaa.skyB
set_option linter.unusedVariables false
set_option linter.unusedSimpArgs false

theorem info31 : (Try.prog.info? 54).map (fun i => (i.zero, i.size, i.bytes)) = some (some (.agg #[.int .i64 0, .int .i64 0]), 2, 16) := by kernel_rfl
theorem info65 : (Try.prog.info? 80).map (fun i => (i.zero, i.size, i.bytes)) = some (some (.complex .f64 0 0), 1, 16) := by kernel_rfl

/-- One more element behind a row of one's own. -/
theorem app {t e : TypeId} {z : Value} {size bytes : Nat} (ht : Try.prog.underlying t = some (.slice e)) (info : (Try.prog.info? e).map (fun i => (i.zero, i.size, i.bytes)) = some (some z, size, bytes)) (hz : z.cells.size = size) (hsz : 0 < size) (hb : bytes ≤ 1000)
    {w0 W : World} (o : Only (fun _ => False) w0 W) {v : Value} {n : Nat} {xs : List Value} (h : W.ownsRow w0.heap.size e size v n xs) (news : List Value) (hl : news.length = size) (h1 : ∀ u ∈ news, u.oneCell' = true) (hn : n ≤ 100000) :
    ∃ v' w', (Builtin.append_ #[t, t] t #[v, .slice (some ⟨W.heap.size, 0, none⟩) 1 1]).run Try.prog (W.alloc (.cells news.toArray e)) = .ok v' w' ∧ w'.ownsRow w0.heap.size e size v' (n + 1) (xs ++ news) ∧ Only (fun _ => False) w0 w' := by
  have o' : Only (fun _ => False) w0 (W.alloc (.cells news.toArray e)) := o.alloc _
  have h' := h.alloc (.cells news.toArray e)
  have hh := heap_alloc_new W (.cells news.toArray e)
  obtain ⟨i0, hi0, hz0, hz1, hz2⟩ := info_parts info
  obtain ⟨v', w', hr, hown', hgrow, hnil⟩ := run_append_own (P := Try.prog) (W.alloc (.cells news.toArray e)) w0.heap.size t t e i0 z size bytes ht hi0 hz0 hz1 hz2 hz hsz v n xs h' ⟨W.heap.size, 0, none⟩ 1 1 news (by omega) (fun j u hj => by
      rw [Addr.add_lit, cell_of hh, Nat.zero_add]
      simpa using hj) h1 (by unfold maxLen; omega) (by
        have : (n + 1) * bytes ≤ 100001 * 1000 := Nat.mul_le_mul (by omega) hb
        omega) o'.size
  exact ⟨v', w', hr, hown', Only.grownNew o' hgrow fun k hk => (World.ownsRow.lt h' k hk).1⟩

/-- The cells of points. -/
def flat (l : List (Int × Int)) : List Value := l.flatMap fun p => [.int .i64 p.1, .int .i64 p.2]

theorem flat_snoc (l : List (Int × Int)) (k : Nat) (h : k < l.length) : flat (l.take (k + 1)) = flat (l.take k) ++ [.int .i64 (px l k), .int .i64 (py l k)] := by
  rw [take_snoc l k h (0, 0), flat, List.flatMap_append]
  simp [flat, px, py]

theorem flat_get (l : List (Int × Int)) : ∀ i, i < l.length → (flat l)[i * 2]? = some (.int .i64 (px l i)) ∧ (flat l)[i * 2 + 1]? = some (.int .i64 (py l i)) := by
  induction l with
  | nil => intro i hi; simp at hi
  | cons p l ih =>
    intro i hi
    cases i with
    | zero => simp [flat, px, py]
    | succ i =>
      have := ih i (by simpa using hi)
      have e : (i + 1) * 2 = i * 2 + 2 := by omega
      have e' : i * 2 + 2 + 1 = (i * 2 + 1) + 2 := by omega
      rw [e, e']
      simpa [flat, px, py] using this

theorem take_get {c : List Value} {xs : List Value} {n i : Nat} {u : Value} (h : c.take n = xs) (hu : xs[i]? = some u) : c[i]? = some u := by
  subst h
  rw [List.getElem?_take] at hu
  split at hu
  · exact hu
  · cases hu

theorem pts_of_owns {w : World} {base : Nat} {e : TypeId} {v : Value} {l : List (Int × Int)} (h : w.ownsRow base e 2 v l.length (flat l)) (hm : l.length ≤ maxLen) : ∃ a cap, v = .slice a l.length cap ∧ Pts w a l := by
  rcases h.2 with ⟨rfl, h0⟩ | ⟨g, cap, cur, rfl, hb, hg, hn, hc, hs, ht⟩
  · exact ⟨none, 0, by rw [h0], hm, .inl h0⟩
  · refine ⟨_, cap, rfl, hm, .inr ⟨g, 0, rfl, lt_of hg, fun i hi => ?_⟩⟩
    obtain ⟨h0, h1⟩ := flat_get l i hi
    rw [Nat.zero_add, cell_of hg, cell_of hg, ← Array.getElem?_toList, ← Array.getElem?_toList]
    exact ⟨take_get ht h0, take_get ht h1⟩

theorem owns_keep {w w' : World} {base : Nat} {e : TypeId} {size : Nat} {v : Value} {n : Nat} {xs : List Value} (h : w.ownsRow base e size v n xs) (o : Only (fun _ => False) w w') : w'.ownsRow base e size v n xs := by
  refine ⟨h.1, ?_⟩
  rcases h.2 with h0 | ⟨g, cap, cur, hv, hb, hg, r⟩
  · exact .inl h0
  · exact .inr ⟨g, cap, cur, hv, hb, o.keep hg id, r⟩
end Go.Proofs.Ytklcanjlkmkmmaa.skyC
