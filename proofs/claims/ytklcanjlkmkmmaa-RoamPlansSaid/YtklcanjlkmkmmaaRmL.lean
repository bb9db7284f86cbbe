/- Roam: the acts of the seconds, one behind another: memory. -/
import Derived.Test.YtklcanjlkmkmmaaRmJ
import Derived.Deep.Upon
namespace Go.Proofs.Ytklcanjlkmkmmaa.rmL
open Go.RowKit Go.Proofs.Ytklcanjlkmkmmaa.kit Go.Proofs.Ytklcanjlkmkmmaa.skyB Go.Proofs.Ytklcanjlkmkmmaa.skyC Go.Proofs.Ytklcanjlkmkmmaa.skyG Go.Proofs.Ytklcanjlkmkmmaa.skyP Go.Proofs.Ytklcanjlkmkmmaa.rmA Go.Proofs.Ytklcanjlkmkmmaa.rmD Go.Proofs.Ytklcanjlkmkmmaa.rmE Go.Proofs.Ytklcanjlkmkmmaa.rmG Go.Proofs.Ytklcanjlkmkmmaa.rmJ
set_option linter.unusedVariables false
set_option linter.unusedSimpArgs false

structure Tail (W1 : World) (Mb U : Nat) (vs : Nat → Value) (f : Nat → List Ac) (i : Nat) (v : Value) (xs : List Ac) (wr : World) : Prop where
  o1 : Only (fun _ => False) W1 wr
  blk : ∃ c, wr.heap[Mb]? = some (.cells c 33 (0, 0)) ∧ ∀ s, s ≤ U → c[s]? = some (vs s)
  own : wr.ownsRow (Mb + 1) 45 5 v xs.length (flatA xs)
  rows : ∀ s, i < s → s ≤ U → wr.ownsRow (Mb + 1) 45 5 (vs s) (f s).length (flatA (f s))
  apart : ∀ s g, i < s → s ≤ U → (vs s).ownBlock = some g → v.ownBlock ≠ some g

theorem Tail.start {W1 wr : World} {Mb U : Nat} {vs : Nat → Value} {f : Nat → List Ac} (h : Mvs wr Mb U vs f) (o : Only (fun _ => False) W1 wr) : Tail W1 Mb U vs f 0 (vs 0) (f 0) wr :=
  ⟨o, h.blk, h.rows 0 (Nat.zero_le _), fun s _ hs => h.rows s hs, fun s g h1 hs hg e => by
    have := h.apart s 0 g hs (Nat.zero_le _) hg e
    omega⟩

theorem Tail.next {W1 wr : World} {Mb U : Nat} {vs : Nat → Value} {f : Nat → List Ac} {i : Nat} {v : Value} {xs : List Ac} (h : Tail W1 Mb U vs f i v xs wr) : Tail W1 Mb U vs f (i + 1) v xs wr :=
  ⟨h.o1, h.blk, h.own, fun s h1 => h.rows s (by omega), fun s g h1 => h.apart s g (by omega)⟩

theorem Tail.alloc {W1 wr : World} {Mb U : Nat} {vs : Nat → Value} {f : Nat → List Ac} {i : Nat} {v : Value} {xs : List Ac} (h : Tail W1 Mb U vs f i v xs wr) (o : Obj) : Tail W1 Mb U vs f i v xs (wr.alloc o) := by
  obtain ⟨c, hc, hs⟩ := h.blk
  exact ⟨h.o1.alloc o, ⟨c, ((Only.refl (fun _ => False) wr).alloc o).keep hc id, hs⟩, h.own.alloc o, fun s h1 h2 => (h.rows s h1 h2).alloc o, h.apart⟩

theorem Tail.grown {W1 W w9 : World} {Mb U : Nat} {vs : Nat → Value} {f : Nat → List Ac} {i : Nat} {v : Value} {xs ys : List Ac} (h : Tail W1 Mb U vs f i v xs W) (hM : W1.heap.size ≤ Mb) (g : W.grownBy w9 v.ownBlock) {gb n cap : Nat}
    (hown : w9.ownsRow (Mb + 1) 45 5 (.slice (some ⟨gb, 0, none⟩) n cap) n (flatA ys)) (hn : n = ys.length) (hat : v.ownBlock = some gb ∨ gb = W.heap.size) : Tail W1 Mb U vs f i (.slice (some ⟨gb, 0, none⟩) n cap) ys w9 := by
  obtain ⟨c, hc, hs⟩ := h.blk
  refine ⟨Only.grownNew h.o1 g fun b e => ?_, ⟨c, (g.block Mb (lt_of hc) fun e => ?_).trans hc, hs⟩, hn ▸ hown, fun s h1 h2 => ?_, fun s q h1 h2 hq e => ?_⟩
  · have := (h.own.lt b e).1
    omega
  · have := (h.own.lt Mb e.symm).1
    omega
  · refine (h.rows s h1 h2).kept g ?_
    cases hv : (vs s).ownBlock with
    | none => exact .inl rfl
    | some b => exact .inr fun e => h.apart s b h1 h2 hv e.symm
  · injection e with e
    have e : gb = q := e
    subst e
    rcases hat with p | p
    · exact h.apart s gb h1 h2 hq p
    · have := ((h.rows s h1 h2).lt gb hq).2
      omega

theorem flatA_len (l : List Ac) : (flatA l).length = l.length * 5 := by
  induction l with
  | nil => rfl
  | cons x l ih =>
    rw [flatA, List.flatMap_cons, List.length_append, List.length_cons]
    rw [flatA] at ih
    rw [ih]
    simp [ac5]
    omega

theorem flatA_app (l k : List Ac) : flatA (l ++ k) = flatA l ++ flatA k := List.flatMap_append

theorem one_ac {l : List Ac} : ∀ u ∈ flatA l, u.oneCell' = true := by
  intro u hu
  rw [flatA, List.mem_flatMap] at hu
  obtain ⟨x, _, hx⟩ := hu
  simp [ac5] at hx
  rcases hx with rfl | rfl | rfl | rfl | rfl <;> rfl

/-- One act more, out of a block of its own. -/
theorem Tail.wait {W1 W : World} {Mb U : Nat} {vs : Nat → Value} {f : Nat → List Ac} {i : Nat} {v : Value} {xs : List Ac} (h : Tail W1 Mb U vs f i v xs W) (hM : W1.heap.size ≤ Mb) (x : Ac) (hn : xs.length ≤ 100000) :
    ∃ v' w', (Builtin.append_ #[33, 33] 33 #[v, .slice (some ⟨W.heap.size, 0, none⟩) 1 1]).run Try.prog (W.alloc (.cells (ac5 x).toArray 45)) = .ok v' w' ∧ Tail W1 Mb U vs f i v' (xs ++ [x]) w' := by
  obtain ⟨i0, hi0, hz0, hz1, hz2⟩ := info_parts info45
  have h' := h.alloc (.cells (ac5 x).toArray 45)
  have hh := heap_alloc_new W (.cells (ac5 x).toArray 45)
  have hb : Mb + 1 ≤ (W.alloc (.cells (ac5 x).toArray 45)).heap.size := lt_of h'.blk.choose_spec.1
  obtain ⟨g, cap, w', hr, hown, hg, hat, _⟩ := run_append_lies (P := Try.prog) (W.alloc (.cells (ac5 x).toArray 45)) 33 33 (Mb + 1) 45 i0 _ 5 56 Try.underlying33 hi0 hz0 hz1 hz2 rfl (by omega) v xs.length (flatA xs) h'.own ⟨W.heap.size, 0, none⟩ 1 1 (ac5 x) rfl (fun j u hj => by
    rw [Addr.add_lit, cell_of hh, Nat.zero_add]
    simpa using hj) (fun u hu => by simp [ac5] at hu; rcases hu with rfl | rfl | rfl | rfl | rfl <;> rfl) (by omega) (by unfold maxLen; omega) (by omega) hb _ rfl
  rw [← flatA_snoc] at hown
  exact ⟨_, _, hr, h'.grown hM hg hown (by simp) hat⟩

theorem src_none (w : World) : Src Try.prog 5 33 (.slice none 0 0) 0 [] w :=
  ⟨.inl ⟨_, Try.underlying33⟩, fun _ => rfl, rfl, rfl, rfl, fun _ hu => by cases hu⟩

/-- The acts of the next second. -/
theorem Tail.row {W1 W : World} {Mb U : Nat} {vs : Nat → Value} {f : Nat → List Ac} {i : Nat} {v : Value} {xs : List Ac} (h : Tail W1 Mb U vs f i v xs W) (hM : W1.heap.size ≤ Mb) (hi : i + 1 ≤ U) (hn : xs.length ≤ 100000) (hf : (f (i + 1)).length ≤ 1000) :
    ∃ v' w', (Builtin.append_ #[33, 33] 33 #[v, vs (i + 1)]).run Try.prog W = .ok v' w' ∧ Tail W1 Mb U vs f (i + 1) v' (xs ++ f (i + 1)) w' := by
  obtain ⟨i0, hi0, hz0, hz1, hz2⟩ := info_parts info45
  have hb : Mb + 1 ≤ W.heap.size := lt_of h.blk.choose_spec.1
  have hr := h.rows (i + 1) (by omega) hi
  by_cases h0 : (f (i + 1)).length = 0
  · have e0 : f (i + 1) = [] := List.length_eq_zero_iff.1 h0
    have hv : ∃ b n c, v = .slice b n c ∧ n ≤ c := by
      rcases h.own.2 with ⟨q, _⟩ | ⟨g, cap, cur, q, _, _, q2, _⟩
      · exact ⟨_, _, _, q, Nat.le_refl _⟩
      · exact ⟨_, _, _, q, q2⟩
    obtain ⟨b, n, c, rfl, hnc⟩ := hv
    refine ⟨_, _, run_append_nothing (P := Try.prog) W 33 33 33 45 i0 Try.underlying33 hi0 b n c hnc _ ?_, ?_⟩
    · rw [hz1]
      rcases hr.2 with ⟨q, _⟩ | ⟨g, cap, cur, q, _, _, q2, _⟩
      · rw [q]
        exact src_none W
      · rw [q, h0]
        exact ⟨.inl ⟨_, Try.underlying33⟩, fun _ => rfl, rfl, rfl, rfl, fun _ hu => by cases hu⟩
    · rw [e0, List.append_nil]
      exact h.next
  · obtain ⟨g0, c0, hv, _, _⟩ := hr.form (by omega)
    rw [hv] at hr ⊢
    obtain ⟨g, cap, w', hrun, hown, hg, hat, _⟩ := run_append_lies (P := Try.prog) W 33 33 (Mb + 1) 45 i0 _ 5 56 Try.underlying33 hi0 hz0 hz1 hz2 rfl (by omega) v xs.length (flatA xs) h.own ⟨g0, 0, none⟩ (f (i + 1)).length c0 (flatA (f (i + 1))) (flatA_len _) (hr.cells rfl) one_ac (by omega) (by unfold maxLen; omega) (by omega) hb _ rfl
    rw [← flatA_app] at hown
    exact ⟨_, _, hrun, h.next.grown hM hg hown (by simp) hat⟩
end Go.Proofs.Ytklcanjlkmkmmaa.rmL
