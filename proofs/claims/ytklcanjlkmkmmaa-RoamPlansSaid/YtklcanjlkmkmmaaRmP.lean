/- Roam: a row of routes. -/
import Derived.Test.YtklcanjlkmkmmaaRmO
import Derived.Test.YtklcanjlkmkmmaaSkyS
namespace Go.Proofs.Ytklcanjlkmkmmaa.rmP
open Go.RowKit Go.Proofs.Ytklcanjlkmkmmaa.kit Go.Proofs.Ytklcanjlkmkmmaa.skyB Go.Proofs.Ytklcanjlkmkmmaa.skyC Go.Proofs.Ytklcanjlkmkmmaa.skyD Go.Proofs.Ytklcanjlkmkmmaa.skyG Go.Proofs.Ytklcanjlkmkmmaa.skyS Go.Proofs.Ytklcanjlkmkmmaa.rmA Go.Proofs.Ytklcanjlkmkmmaa.rmO
set_option linter.unusedVariables false
set_option linter.unusedSimpArgs false

theorem info54 : (Try.prog.info? 54).map (fun i => (i.zero, i.size, i.bytes)) = some (some (.agg #[.int .i64 0, .int .i64 0]), 2, 16) := by kernel_rfl
theorem info57 : (Try.prog.info? 57).map (fun i => (i.zero, i.size, i.bytes)) = some (some (.agg #[.int .i64 0, .int .i64 0, .slice none 0 0]), 3, 40) := by kernel_rfl

def rt3 (r : Rt) : List Value := [.int .i64 r.x, .int .i64 r.y, .slice r.a r.l.length r.cap]
def flatR (l : List Rt) : List Value := l.flatMap rt3

theorem flatR_snoc (l : List Rt) (x : Rt) : flatR (l ++ [x]) = flatR l ++ rt3 x := by
  rw [flatR, List.flatMap_append]
  simp [flatR]

theorem flatR_get (l : List Rt) : ∀ i, i < l.length → (flatR l)[i * 3]? = some (.int .i64 (rr l i).x) ∧ (flatR l)[i * 3 + 1]? = some (.int .i64 (rr l i).y) ∧ (flatR l)[i * 3 + 2]? = some (.slice (rr l i).a (rr l i).l.length (rr l i).cap) := by
  induction l with
  | nil => intro i hi; simp at hi
  | cons p l ih =>
    intro i hi
    cases i with
    | zero => simp [flatR, rt3, rr]
    | succ i =>
      have := ih i (by simpa using hi)
      have e : (i + 1) * 3 = i * 3 + 3 := by omega
      have e1 : i * 3 + 3 + 1 = (i * 3 + 1) + 3 := by omega
      have e2 : i * 3 + 3 + 2 = (i * 3 + 2) + 3 := by omega
      rw [e, e1, e2]
      simpa [flatR, rt3, rr] using this

theorem rts_of_owns {w : World} {base : Nat} {e : TypeId} {v : Value} {l : List Rt} (h : w.ownsRow base e 3 v l.length (flatR l)) (hm : l.length ≤ maxLen) (hl : ∀ k, k < l.length → Lgs w (rr l k).a (rr l k).l) : ∃ a cap, v = .slice a l.length cap ∧ Rts w a l := by
  rcases h.2 with ⟨rfl, h0⟩ | ⟨g, cap, cur, rfl, hb, hg, hn, hc, hs, ht⟩
  · exact ⟨none, 0, by rw [h0], hm, .inl h0⟩
  · refine ⟨_, cap, rfl, hm, .inr ⟨g, 0, rfl, lt_of hg, fun i hi => ?_⟩⟩
    obtain ⟨h0, h1, h2⟩ := flatR_get l i hi
    rw [Nat.zero_add, cell_of hg, cell_of hg, cell_of hg, ← Array.getElem?_toList, ← Array.getElem?_toList, ← Array.getElem?_toList]
    exact ⟨take_get ht h0, take_get ht h1, take_get ht h2, hl i hi⟩

/-- The first k routes, with their legs laid elsewhere. -/
structure Got (rs got : List Rt) (k : Nat) (w : World) : Prop where
  len : got.length = k
  same : ∀ j, j < k → (rr got j).x = (rr rs j).x ∧ (rr got j).y = (rr rs j).y ∧ (rr got j).l = (rr rs j).l
  legs : ∀ j, j < k → Lgs w (rr got j).a (rr got j).l

theorem Got.nil (rs : List Rt) (w : World) : Got rs [] 0 w := ⟨rfl, fun j h => absurd h (Nat.not_lt_zero j), fun j h => absurd h (Nat.not_lt_zero j)⟩

theorem Got.snoc {rs got : List Rt} {k : Nat} {w : World} (h : Got rs got k w) {a : Option Addr} {cap : Nat} (hl : Lgs w a (rr rs k).l) : Got rs (got ++ [⟨(rr rs k).x, (rr rs k).y, a, cap, (rr rs k).l⟩]) (k + 1) w := by
  have old : ∀ j, j < k → rr (got ++ [⟨(rr rs k).x, (rr rs k).y, a, cap, (rr rs k).l⟩]) j = rr got j := fun j hj => by
    have : j < got.length := by rw [h.len]; exact hj
    simp [rr, List.getElem?_append_left this]
  have new : rr (got ++ [⟨(rr rs k).x, (rr rs k).y, a, cap, (rr rs k).l⟩]) k = ⟨(rr rs k).x, (rr rs k).y, a, cap, (rr rs k).l⟩ := by
    have e : k = got.length := h.len.symm
    simp [rr, e]
  refine ⟨by simp [h.len], fun j hj => ?_, fun j hj => ?_⟩
  · rcases Nat.lt_or_eq_of_le (Nat.le_of_lt_succ hj) with q | q
    · rw [old j q]
      exact h.same j q
    · rw [q, new]
      exact ⟨rfl, rfl, rfl⟩
  · rcases Nat.lt_or_eq_of_le (Nat.le_of_lt_succ hj) with q | q
    · rw [old j q]
      exact h.legs j q
    · rw [q, new]
      exact hl

theorem Got.like {rs got : List Rt} {w : World} (h : Got rs got rs.length w) : Like rs got := ⟨h.len, h.same⟩
end Go.Proofs.Ytklcanjlkmkmmaa.rmP
