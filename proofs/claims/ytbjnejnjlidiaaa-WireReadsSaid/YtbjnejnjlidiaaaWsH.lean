/- Wire: what the document's Read needs. -/
import Derived.Test.YtbjnejnjlidiaaaWsF
import Derived.Test.YtbjnejnjlidiaaaWsE
import Derived.Deep.AppendLies
namespace Go.Proofs.Ytbjnejnjlidiaaa.wsH
open Go.RowKit kit numA numB numC numD numE numF numG numH numI tmA tmD trA trB prR prS prW prX wrA wrB wrC wrD wrE wrF wrG wrH wrI wrJ wrK wrM wrN wrO wrQ wrR wrS wrT wrU wrV wrW wrZ wsE wsF
set_option linter.unusedVariables false
set_option linter.unusedSimpArgs false

theorem info23 : (Try.prog.info? 23).map (fun i => (i.zero, i.size, i.bytes)) = some (some (.int .u64 0), 1, 8) := by kernel_rfl
def U64 (l : List Nat) : List Value := l.map fun (u : Nat) => .int .u64 ((u : Nat) : Int)
theorem putn {w : World} {base : Nat} {v : Value} {acc : List Nat} (own : w.ownsRow base 23 1 v acc.length (U64 acc)) (hb : base ≤ w.heap.size) (hk : acc.length ≤ 100000000) (x : Nat) :
    ∃ g cp w', (Builtin.append_ #[170, 170] 170 #[v, .slice (some ⟨w.heap.size, 0, none⟩) 1 1]).run Try.prog (w.alloc (.cells #[.int .u64 (x : Int)] 23)) = .ok (.slice (some ⟨g, 0, none⟩) (acc.length + 1 : Nat) cp) w' ∧ w'.ownsRow base 23 1 (.slice (some ⟨g, 0, none⟩) (acc.length + 1 : Nat) cp) (acc.length + 1) (U64 (acc ++ [x])) ∧ ∀ w0, Only (fun k => base ≤ k) w0 w → Only (fun k => base ≤ k) w0 w' := by
  obtain ⟨i0, hi0, hz0, hz1, hz2⟩ := trC.info_parts info23
  have oA : Only (fun _ => False) w (w.alloc (.cells #[.int .u64 (x : Int)] 23)) := (Only.refl (fun _ => False) w).alloc _
  have own' := trC.owns_keep own oA
  have hh := heap_alloc_new w (.cells #[.int .u64 (x : Int)] 23)
  have hs : (w.alloc (.cells #[.int .u64 (x : Int)] 23)).heap.size = w.heap.size + 1 := World.size_alloc _ _
  obtain ⟨g, cp, w', hrun, hown, hg, hat, _⟩ := run_append_lies (P := Try.prog) (w.alloc (.cells #[.int .u64 (x : Int)] 23)) 170 170 base 23 i0 _ 1 8 Try.underlying170 hi0 hz0 hz1 hz2 rfl (by omega) v acc.length (U64 acc) own' ⟨w.heap.size, 0, none⟩ 1 1 [.int .u64 (x : Int)] rfl (fun j u hj => by
    rw [Addr.add_lit, cell_of hh, Nat.zero_add]
    simpa using hj) (fun u hu => by simp at hu; rcases hu with rfl; rfl) (by omega) (by unfold maxLen; omega) (by omega) (by omega) _ rfl
  refine ⟨g, cp, w', hrun, ?_, fun w0 o0 => ((o0.trans (oA.mono fun _ h => h.elim))).trans ((Only.refl _ _).grown hg fun q hq => ?_)⟩
  · rw [U64, List.map_append]
    exact hown
  · exact (own'.lt q hq.symm.symm).1
theorem putn2 {w : World} {base : Nat} {v : Value} {acc : List Nat} (own : w.ownsRow base 23 1 v acc.length (U64 acc)) (hb : base ≤ w.heap.size) (hk : acc.length ≤ 100000000) (x : Nat) :
    ∃ g cp w', (Builtin.append_ #[170, 170] 170 #[v, .slice (some ⟨w.heap.size, 0, none⟩) 1 1]).run Try.prog (w.alloc (.cells #[.int .u64 (x : Int)] 23)) = .ok (.slice (some ⟨g, 0, none⟩) (acc.length + 1 : Nat) cp) w' ∧ w'.ownsRow base 23 1 (.slice (some ⟨g, 0, none⟩) (acc.length + 1 : Nat) cp) (acc.length + 1) (U64 (acc ++ [x])) ∧ ∀ (S' : Nat → Prop) (w0 : World), Only S' w0 w → (∀ q, v.ownBlock = some q → S' q) → Only S' w0 w' := by
  obtain ⟨i0, hi0, hz0, hz1, hz2⟩ := trC.info_parts info23
  have oA : Only (fun _ => False) w (w.alloc (.cells #[.int .u64 (x : Int)] 23)) := (Only.refl (fun _ => False) w).alloc _
  have own' := trC.owns_keep own oA
  have hh := heap_alloc_new w (.cells #[.int .u64 (x : Int)] 23)
  have hs : (w.alloc (.cells #[.int .u64 (x : Int)] 23)).heap.size = w.heap.size + 1 := World.size_alloc _ _
  obtain ⟨g, cp, w', hrun, hown, hg, hat, _⟩ := run_append_lies (P := Try.prog) (w.alloc (.cells #[.int .u64 (x : Int)] 23)) 170 170 base 23 i0 _ 1 8 Try.underlying170 hi0 hz0 hz1 hz2 rfl (by omega) v acc.length (U64 acc) own' ⟨w.heap.size, 0, none⟩ 1 1 [.int .u64 (x : Int)] rfl (fun j u hj => by
    rw [Addr.add_lit, cell_of hh, Nat.zero_add]
    simpa using hj) (fun u hu => by simp at hu; rcases hu with rfl; rfl) (by omega) (by unfold maxLen; omega) (by omega) (by omega) _ rfl
  refine ⟨g, cp, w', hrun, ?_, fun S' w0 o0 hS => ((o0.trans (oA.mono fun _ h => h.elim))).trans ((Only.refl _ _).grown hg fun q hq => ?_)⟩
  · rw [U64, List.map_append]
    exact hown
  · exact hS q hq.symm.symm
theorem sl_sub {w : World} {S : Nat → Prop} {g q n cap : Nat} {l : Txt} (h : Sl w S (.slice (some ⟨g, q, none⟩) n cap) (U8 l)) {a m : Nat} (ha : a + m ≤ l.length) (c : Nat) : Sl w S (.slice (some ⟨g, q + a, none⟩) m c) (U8 ((l.drop a).take m)) := by
  have hl : (U8 ((l.drop a).take m)).length = m := by rw [wrR.U8_len, List.length_take, List.length_drop]; omega
  obtain ⟨hm, a', cap', hv, hx⟩ := h
  injection hv with q1 q2 q3
  subst q1
  rw [wrR.U8_len] at hm
  refine ⟨by rw [hl]; omega, _, c, by rw [hl], ?_⟩
  rcases hx with hx | ⟨g', o', e, hS, hg, hc⟩
  · left
    have : l = [] := by simpa [U8] using hx
    subst this
    simp [U8]
  · injection e with e
    injection e with e1 e2
    subst e1 e2
    refine .inr ⟨g, q + a, rfl, hS, hg, fun i hi => ?_⟩
    rw [hl] at hi
    have h1 := hc (a + i) (by rw [wrR.U8_len]; omega)
    rw [wrR.u8_get _ _ (by omega)] at h1
    rw [Nat.add_assoc, h1, wrR.u8_get _ _ (by rw [List.length_take, List.length_drop]; omega)]
    simp [List.getElem?_take, hi]
theorem own_num (w : World) : (w.alloc (.cells #[] 23)).ownsRow w.heap.size 23 1 (.slice (some ⟨w.heap.size, 0, none⟩) 0 0) 0 (U64 []) := by
  refine ⟨by simp [U64], .inr ⟨w.heap.size, 0, _, rfl, Nat.le_refl _, heap_alloc_new w _, Nat.le_refl _, by unfold maxLen; omega, by simp [U64], by simp [U64]⟩⟩
theorem own_txt0 (w : World) : (w.alloc (.cells #[] 9)).ownsRow w.heap.size 9 1 (.slice (some ⟨w.heap.size, 0, none⟩) 0 0) 0 [] := by
  refine ⟨by simp, .inr ⟨w.heap.size, 0, _, rfl, Nat.le_refl _, heap_alloc_new w _, Nat.le_refl _, by unfold maxLen; omega, by simp, by simp⟩⟩
/-- The tables of sizes and of counts. -/
structure Tabs (w : World) (E : Nat) : Prop where
  b1 : w.heap[E + 1]? = some (.cells #[.int .i64 4] 3 (0, 0))
  b2 : w.heap[E + 1 + 1]? = some (.cells #[.int .i64 4, .int .i64 4] 3 (0, 0))
  b3 : w.heap[E + 1 + 1 + 1]? = some (.cells #[.int .i64 4] 3 (0, 0))
  b4 : w.heap[E + 1 + 1 + 1 + 1]? = some (.cells #[.int .i64 4, .int .i64 8] 3 (0, 0))
  b5 : w.heap[E + 1 + 1 + 1 + 1 + 1]? = some (.cells #[.slice (some ⟨E, 0, none⟩) 0 0, .slice (some ⟨E + 1, 0, none⟩) 1 1, .slice (some ⟨E + 1 + 1, 0, none⟩) 2 2, .slice (some ⟨E + 1 + 1 + 1, 0, none⟩) 1 1, .slice (some ⟨E + 1 + 1 + 1 + 1, 0, none⟩) 2 2] 168 (0, 0))
  b6 : w.heap[E + 1 + 1 + 1 + 1 + 1 + 1]? = some (.cells #[.int .i64 0, .int .i64 5, .int .i64 4, .int .i64 2, .int .i64 1] 3 (0, 0))
theorem Tabs.keep {w w' : World} {E : Nat} {T : Nat → Prop} (h : Tabs w E) (o : Only T w w') (hT : ∀ k, k < E + 7 → ¬ T k) : Tabs w' E := ⟨o.keep h.b1 (hT _ (by omega)), o.keep h.b2 (hT _ (by omega)), o.keep h.b3 (hT _ (by omega)), o.keep h.b4 (hT _ (by omega)), o.keep h.b5 (hT _ (by omega)), o.keep h.b6 (hT _ (by omega))⟩
theorem tabs (w : World) (E : Nat) (hE : E = w.heap.size) (Z : World) (hZ : Z = ((((((((w.alloc (.cells #[] 3)).alloc (.cells #[.int .i64 4] 3)).alloc (.cells #[.int .i64 4, .int .i64 4] 3)).alloc (.cells #[.int .i64 4] 3)).alloc (.cells #[.int .i64 4, .int .i64 8] 3)).alloc (.cells #[.slice (some ⟨w.heap.size, 0, none⟩) 0 0, .slice (some ⟨w.heap.size + 1, 0, none⟩) 1 1, .slice (some ⟨w.heap.size + 1 + 1, 0, none⟩) 2 2, .slice (some ⟨w.heap.size + 1 + 1 + 1, 0, none⟩) 1 1, .slice (some ⟨w.heap.size + 1 + 1 + 1 + 1, 0, none⟩) 2 2] 168)).alloc (.cells #[.int .i64 0, .int .i64 5, .int .i64 4, .int .i64 2, .int .i64 1] 3)).alloc (.cells #[] 23))) : Only (fun _ => False) w Z ∧ Tabs Z E ∧ Z.ownsRow (E + 1 + 1 + 1 + 1 + 1 + 1 + 1) 23 1 (.slice (some ⟨E + 1 + 1 + 1 + 1 + 1 + 1 + 1, 0, none⟩) 0 0) 0 (U64 []) ∧ E + 8 ≤ Z.heap.size := by
  subst hE hZ
  have n := fun (w : World) (o : Obj) => World.size_alloc w o
  refine ⟨(((((((((Only.refl _ w).alloc _).alloc _).alloc _).alloc _).alloc _).alloc _).alloc _).alloc _), ⟨?_, ?_, ?_, ?_, ?_, ?_⟩, ?_, ?_⟩
  · have h := heap_alloc_new (w.alloc (.cells #[] 3)) (.cells #[.int .i64 4] 3)
    simp only [n] at h
    exact Only.keep (((((((Only.refl (fun _ => False) _).alloc _).alloc _).alloc _).alloc _).alloc _).alloc _) h id
  · have h := heap_alloc_new ((w.alloc (.cells #[] 3)).alloc (.cells #[.int .i64 4] 3)) (.cells #[.int .i64 4, .int .i64 4] 3)
    simp only [n] at h
    exact Only.keep ((((((Only.refl (fun _ => False) _).alloc _).alloc _).alloc _).alloc _).alloc _) h id
  · have h := heap_alloc_new (((w.alloc (.cells #[] 3)).alloc (.cells #[.int .i64 4] 3)).alloc (.cells #[.int .i64 4, .int .i64 4] 3)) (.cells #[.int .i64 4] 3)
    simp only [n] at h
    exact Only.keep (((((Only.refl (fun _ => False) _).alloc _).alloc _).alloc _).alloc _) h id
  · have h := heap_alloc_new ((((w.alloc (.cells #[] 3)).alloc (.cells #[.int .i64 4] 3)).alloc (.cells #[.int .i64 4, .int .i64 4] 3)).alloc (.cells #[.int .i64 4] 3)) (.cells #[.int .i64 4, .int .i64 8] 3)
    simp only [n] at h
    exact Only.keep ((((Only.refl (fun _ => False) _).alloc _).alloc _).alloc _) h id
  · have h := heap_alloc_new (((((w.alloc (.cells #[] 3)).alloc (.cells #[.int .i64 4] 3)).alloc (.cells #[.int .i64 4, .int .i64 4] 3)).alloc (.cells #[.int .i64 4] 3)).alloc (.cells #[.int .i64 4, .int .i64 8] 3)) (.cells #[.slice (some ⟨w.heap.size, 0, none⟩) 0 0, .slice (some ⟨w.heap.size + 1, 0, none⟩) 1 1, .slice (some ⟨w.heap.size + 1 + 1, 0, none⟩) 2 2, .slice (some ⟨w.heap.size + 1 + 1 + 1, 0, none⟩) 1 1, .slice (some ⟨w.heap.size + 1 + 1 + 1 + 1, 0, none⟩) 2 2] 168)
    simp only [n] at h
    exact Only.keep (((Only.refl (fun _ => False) _).alloc _).alloc _) h id
  · have h := heap_alloc_new ((((((w.alloc (.cells #[] 3)).alloc (.cells #[.int .i64 4] 3)).alloc (.cells #[.int .i64 4, .int .i64 4] 3)).alloc (.cells #[.int .i64 4] 3)).alloc (.cells #[.int .i64 4, .int .i64 8] 3)).alloc (.cells #[.slice (some ⟨w.heap.size, 0, none⟩) 0 0, .slice (some ⟨w.heap.size + 1, 0, none⟩) 1 1, .slice (some ⟨w.heap.size + 1 + 1, 0, none⟩) 2 2, .slice (some ⟨w.heap.size + 1 + 1 + 1, 0, none⟩) 1 1, .slice (some ⟨w.heap.size + 1 + 1 + 1 + 1, 0, none⟩) 2 2] 168)) (.cells #[.int .i64 0, .int .i64 5, .int .i64 4, .int .i64 2, .int .i64 1] 3)
    simp only [n] at h
    exact Only.keep ((Only.refl (fun _ => False) _).alloc _) h id
  · have h := own_num (((((((w.alloc (.cells #[] 3)).alloc (.cells #[.int .i64 4] 3)).alloc (.cells #[.int .i64 4, .int .i64 4] 3)).alloc (.cells #[.int .i64 4] 3)).alloc (.cells #[.int .i64 4, .int .i64 8] 3)).alloc (.cells #[.slice (some ⟨w.heap.size, 0, none⟩) 0 0, .slice (some ⟨w.heap.size + 1, 0, none⟩) 1 1, .slice (some ⟨w.heap.size + 1 + 1, 0, none⟩) 2 2, .slice (some ⟨w.heap.size + 1 + 1 + 1, 0, none⟩) 1 1, .slice (some ⟨w.heap.size + 1 + 1 + 1 + 1, 0, none⟩) 2 2] 168)).alloc (.cells #[.int .i64 0, .int .i64 5, .int .i64 4, .int .i64 2, .int .i64 1] 3))
    simp only [n] at h
    exact h
  · simp only [n]
    omega

end Go.Proofs.Ytbjnejnjlidiaaa.wsH
