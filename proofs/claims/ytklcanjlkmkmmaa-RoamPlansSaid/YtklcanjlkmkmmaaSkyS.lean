/- sky: the legs as the document's. -/
import Derived.Test.YtklcanjlkmkmmaaSkyP
import Derived.Deep.AppendLies
namespace Go.Proofs.Ytklcanjlkmkmmaa.skyS
open Go.RowKit Go.Lib Go.Proofs.Ytklcanjlkmkmmaa.kit Go.Proofs.Ytklcanjlkmkmmaa.floA Go.Proofs.Ytklcanjlkmkmmaa.skyA Go.Proofs.Ytklcanjlkmkmmaa.skyB Go.Proofs.Ytklcanjlkmkmmaa.skyC Go.Proofs.Ytklcanjlkmkmmaa.skyD Go.Proofs.Ytklcanjlkmkmmaa.skyE Go.Proofs.Ytklcanjlkmkmmaa.skyF Go.Proofs.Ytklcanjlkmkmmaa.skyG Go.Proofs.Ytklcanjlkmkmmaa.skyH Go.Proofs.Ytklcanjlkmkmmaa.skyP
set_option linter.unusedVariables false
set_option linter.unusedSimpArgs false

theorem info63 : (Try.prog.info? 61).map (fun i => (i.zero, i.size, i.bytes)) = some (some (.agg #[.int .i64 0, .int .i64 0, .int .i64 0]), 3, 24) := by kernel_rfl

/-- The cells of legs. -/
def flat3 (l : List Leg3) : List Value := l.flatMap fun p => [.int .i64 p.x, .int .i64 p.y, .int .i64 p.s]

theorem flat3_snoc (l : List Leg3) (k : Nat) (h : k < l.length) : flat3 (l.take (k + 1)) = flat3 (l.take k) ++ [.int .i64 (lx l k), .int .i64 (ly l k), .int .i64 (ls l k)] := by
  rw [take_snoc l k h nol, flat3, List.flatMap_append]
  simp [flat3, lx, ly, ls]

theorem flat3_get (l : List Leg3) : ∀ i, i < l.length → (flat3 l)[i * 3]? = some (.int .i64 (lx l i)) ∧ (flat3 l)[i * 3 + 1]? = some (.int .i64 (ly l i)) ∧ (flat3 l)[i * 3 + 2]? = some (.int .i64 (ls l i)) := by
  induction l with
  | nil => intro i hi; simp at hi
  | cons p l ih =>
    intro i hi
    cases i with
    | zero => simp [flat3, lx, ly, ls]
    | succ i =>
      have := ih i (by simpa using hi)
      have e : (i + 1) * 3 = i * 3 + 3 := by omega
      have e1 : i * 3 + 3 + 1 = (i * 3 + 1) + 3 := by omega
      have e2 : i * 3 + 3 + 2 = (i * 3 + 2) + 3 := by omega
      rw [e, e1, e2]
      simpa [flat3, lx, ly, ls] using this

theorem lgs_of_owns {w : World} {base : Nat} {e : TypeId} {v : Value} {l : List Leg3} (h : w.ownsRow base e 3 v l.length (flat3 l)) (hm : l.length ≤ maxLen) : ∃ a cap, v = .slice a l.length cap ∧ Lgs w a l := by
  rcases h.2 with ⟨rfl, h0⟩ | ⟨g, cap, cur, rfl, hb, hg, hn, hc, hs, ht⟩
  · exact ⟨none, 0, by rw [h0], hm, .inl h0⟩
  · refine ⟨_, cap, rfl, hm, .inr ⟨g, 0, rfl, lt_of hg, fun i hi => ?_⟩⟩
    obtain ⟨h0, h1, h2⟩ := flat3_get l i hi
    rw [Nat.zero_add, cell_of hg, cell_of hg, cell_of hg, ← Array.getElem?_toList, ← Array.getElem?_toList, ← Array.getElem?_toList]
    exact ⟨take_get ht h0, take_get ht h1, take_get ht h2⟩
end Go.Proofs.Ytklcanjlkmkmmaa.skyS
