/- Wire: more that the document's Read needs. -/
import Derived.Test.YtbjnejnjlidiaaaWsH
namespace Go.Proofs.Ytbjnejnjlidiaaa.wsJ
open Go.RowKit kit numA numB numC numD numE numF numG numH numI tmA tmD trA trB prR prS prW prX wrA wrB wrC wrD wrE wrF wrG wrH wrI wrJ wrK wrM wrN wrO wrQ wrR wrS wrT wrU wrV wrW wrZ wsE wsF wsH
set_option linter.unusedVariables false
set_option linter.unusedSimpArgs false

theorem putn2x {w : World} {base : Nat} {v : Value} {acc : List Nat} (own : w.ownsRow base 23 1 v acc.length (U64 acc)) (hb : base ≤ w.heap.size) (hk : acc.length ≤ 100000000) (x : Nat) :
    ∃ g cp w', (Builtin.append_ #[170, 170] 170 #[v, .slice (some ⟨w.heap.size, 0, none⟩) 1 1]).run Try.prog (w.alloc (.cells #[.int .u64 (x : Int)] 23)) = .ok (.slice (some ⟨g, 0, none⟩) (acc.length + 1 : Nat) cp) w' ∧ w'.ownsRow base 23 1 (.slice (some ⟨g, 0, none⟩) (acc.length + 1 : Nat) cp) (acc.length + 1) (U64 (acc ++ [x])) ∧ True ∧ ∀ (S' : Nat → Prop) (w0 : World), Only S' w0 w → (∀ q, v.ownBlock = some q → S' q) → Only S' w0 w' := by
  obtain ⟨g, cp, w', a, b, c⟩ := putn2 own hb hk x
  exact ⟨g, cp, w', a, b, trivial, c⟩
theorem len2 {l : List Nat} (h : l.length = 2) : ∃ a b, l = [a, b] := by
  match l, h with
  | [a, b], _ => exact ⟨a, b, rfl⟩
theorem own_keepT {w w' : World} {base n : Nat} {e : TypeId} {v : Value} {xs : List Value} {T : Nat → Prop} (h : w.ownsRow base e 1 v n xs) (o : Only T w w') (hT : ∀ q, v.ownBlock = some q → ¬ T q) : w'.ownsRow base e 1 v n xs := by
  refine ⟨h.1, ?_⟩
  rcases h.2 with h2 | ⟨g, cap, cur, hv, hb, hg, r⟩
  · exact .inl h2
  · exact .inr ⟨g, cap, cur, hv, hb, o.keep hg (hT g (by rw [hv]; rfl)), r⟩
theorem wrapA {a : Nat} (ha : a ≤ 100000) (n : Int) (h0 : 0 ≤ n) (h1 : n ≤ 100) : wrap64 ((a : Int) + n) = (a : Int) + n := IntWalk.wrap64_in _ (by omega)
theorem wrapB {a u : Nat} (ha : a ≤ 100000) (hu : u ≤ 65535) : wrap64 ((a : Int) + 2 + (u : Int)) = (a : Int) + 2 + (u : Int) := IntWalk.wrap64_in _ (by omega)
theorem wrapU {u : Nat} (hu : u ≤ 65535) : wrap64 (u : Int) = (u : Int) := IntWalk.wrap64_in _ (by omega)
def mT : List Nat → List Txt → Msg → Msg
  | i :: is, x :: xs, m => mT is xs (m.put i ⟨x.toArray⟩)
  | _, _, m => m
theorem mT_snoc : ∀ (is : List Nat) (xs : List Txt) (m : Msg) (x : Txt) (h : xs.length < is.length), mT is (xs ++ [x]) m = (mT is xs m).put (is.getD xs.length 0) ⟨x.toArray⟩
  | [], xs, m, x, h => by simp at h
  | i :: is, [], m, x, h => by simp [mT]
  | i :: is, y :: xs, m, x, h => by
    rw [List.cons_append, mT, mT, mT_snoc is xs _ x (by simpa using h)]
    simp
theorem drop_map (is : List Nat) (j : Nat) (h : j < is.length) : (is.drop j).map Fl.t = .t (is.getD j 0) :: (is.drop (j + 1)).map Fl.t := by
  rw [List.drop_eq_getElem_cons h, List.map_cons, List.getD_eq_getElem?_getD, List.getElem?_eq_getElem h]
  rfl
def mN : List Fl → List Nat → Msg → Msg
  | f :: fs, u :: us, m => mN fs us (setN f (u : Nat) m)
  | _, _, m => m
theorem sl_at {w : World} {S : Nat → Prop} {g q n cap : Nat} {l : Txt} (h : Sl w S (.slice (some ⟨g, q, none⟩) n cap) (U8 l)) {j : Nat} (hj : j < l.length) : w.cell? ⟨g, q + j, none⟩ = some (.int .u8 ((l.getD j 0).toNat : Int)) := by
  obtain ⟨g', q', e, x⟩ := sl_u8 h hj
  injection e with e
  injection e with e1 e2
  subst e1 e2
  exact x
theorem fin_1 (u0 : Nat) (ts : List Txt) (hl : ts.length = 5) {E : Nat} (w : World) (G cp : Nat) (own : w.ownsRow E 9 1 (.slice (some ⟨G, 0, none⟩) ts.length cp) ts.length (ts.map sv)) : Calls Try.prog 74 #[.int .i64 1, .int .u32 ((u0 : Nat) : Int), .int .u32 0, .int .u64 0, .slice (some ⟨G, 0, none⟩) 5 cp] w (numA.Told w (.agg (mT [4, 5, 6, 11, 12] ts (mN [.n 1] [u0] (zeroM 1))).row)) := by
  have L := Lst.of_owns own
  have hg : G < w.heap.size := (own.lt G rfl).2
  have hc : ∀ i, i < ts.length → w.cell? ⟨G, 0 + i, none⟩ = some ((ts.map sv).getD i undef) := fun i hi => L.cell (by rwa [List.length_map])
  clear L own
  match ts, hl with
  | [a, b, c, d, e], _ =>
    refine (with_1 (mT [4, 5, 6, 11, 12] [a, b, c, d, e] (mN [.n 1] [u0] (zeroM 1))) w G 0 cp hg ?_).mono ?_
    · intro i hi
      rw [hc i hi]
      have e : i = 0 ∨ i = 1 ∨ i = 2 ∨ i = 3 ∨ i = 4 := by omega
      rcases e with rfl | rfl | rfl | rfl | rfl <;> rfl
    · rintro e w' ⟨o, he⟩
      exact ⟨he, o⟩
theorem fin_2 (u0 u1 : Nat) (ts : List Txt) (hl : ts.length = 4) {E : Nat} (w : World) (G cp : Nat) (own : w.ownsRow E 9 1 (.slice (some ⟨G, 0, none⟩) ts.length cp) ts.length (ts.map sv)) : Calls Try.prog 74 #[.int .i64 2, .int .u32 ((u0 : Nat) : Int), .int .u32 ((u1 : Nat) : Int), .int .u64 0, .slice (some ⟨G, 0, none⟩) 4 cp] w (numA.Told w (.agg (mT [4, 7, 11, 12] ts (mN [.n 1, .n 2] [u0, u1] (zeroM 2))).row)) := by
  have L := Lst.of_owns own
  have hg : G < w.heap.size := (own.lt G rfl).2
  have hc : ∀ i, i < ts.length → w.cell? ⟨G, 0 + i, none⟩ = some ((ts.map sv).getD i undef) := fun i hi => L.cell (by rwa [List.length_map])
  clear L own
  match ts, hl with
  | [a, b, c, d], _ =>
    refine (with_2 (mT [4, 7, 11, 12] [a, b, c, d] (mN [.n 1, .n 2] [u0, u1] (zeroM 2))) w G 0 cp hg ?_).mono ?_
    · intro i hi
      rw [hc i hi]
      have e : i = 0 ∨ i = 1 ∨ i = 2 ∨ i = 3 := by omega
      rcases e with rfl | rfl | rfl | rfl <;> rfl
    · rintro e w' ⟨o, he⟩
      exact ⟨he, o⟩
theorem fin_3 (u0 : Nat) (ts : List Txt) (hl : ts.length = 2) {E : Nat} (w : World) (G cp : Nat) (own : w.ownsRow E 9 1 (.slice (some ⟨G, 0, none⟩) ts.length cp) ts.length (ts.map sv)) : Calls Try.prog 74 #[.int .i64 3, .int .u32 0, .int .u32 ((u0 : Nat) : Int), .int .u64 0, .slice (some ⟨G, 0, none⟩) 2 cp] w (numA.Told w (.agg (mT [8, 9] ts (mN [.n 2] [u0] (zeroM 3))).row)) := by
  have L := Lst.of_owns own
  have hg : G < w.heap.size := (own.lt G rfl).2
  have hc : ∀ i, i < ts.length → w.cell? ⟨G, 0 + i, none⟩ = some ((ts.map sv).getD i undef) := fun i hi => L.cell (by rwa [List.length_map])
  clear L own
  match ts, hl with
  | [a, b], _ =>
    refine (with_3 (mT [8, 9] [a, b] (mN [.n 2] [u0] (zeroM 3))) w G 0 cp hg ?_).mono ?_
    · intro i hi
      rw [hc i hi]
      have e : i = 0 ∨ i = 1 := by omega
      rcases e with rfl | rfl <;> rfl
    · rintro e w' ⟨o, he⟩
      exact ⟨he, o⟩
theorem fin_4 (u0 u1 : Nat) (ts : List Txt) (hl : ts.length = 1) {E : Nat} (w : World) (G cp : Nat) (own : w.ownsRow E 9 1 (.slice (some ⟨G, 0, none⟩) ts.length cp) ts.length (ts.map sv)) : Calls Try.prog 74 #[.int .i64 4, .int .u32 0, .int .u32 ((u0 : Nat) : Int), .int .u64 ((u1 : Nat) : Int), .slice (some ⟨G, 0, none⟩) 1 cp] w (numA.Told w (.agg (mT [10] ts (mN [.n 2, .c] [u0, u1] (zeroM 4))).row)) := by
  have L := Lst.of_owns own
  have hg : G < w.heap.size := (own.lt G rfl).2
  have hc : ∀ i, i < ts.length → w.cell? ⟨G, 0 + i, none⟩ = some ((ts.map sv).getD i undef) := fun i hi => L.cell (by rwa [List.length_map])
  clear L own
  match ts, hl with
  | [a], _ =>
    refine (with_4 (mT [10] [a] (mN [.n 2, .c] [u0, u1] (zeroM 4))) w G 0 cp hg ?_).mono ?_
    · intro i hi
      rw [hc i hi]
      have e : i = 0 := by omega
      subst e
      rfl
    · rintro e w' ⟨o, he⟩
      exact ⟨he, o⟩
theorem cells_1 (u0 : Nat) {E G cp n : Nat} {w : World} (own : w.ownsRow E 23 1 (.slice (some ⟨G, 0, none⟩) n cp) n (U64 ([u0] ++ [0]))) : w.cell? ⟨G, 0, none⟩ = some (.int .u64 ((u0 : Nat) : Int)) := (Lst.of_owns own).cell (i := 0) (by simp [U64])
theorem cells_2 (u0 u1 : Nat) {E G cp n : Nat} {w : World} (own : w.ownsRow E 23 1 (.slice (some ⟨G, 0, none⟩) n cp) n (U64 ([u0, u1] ++ [0]))) : w.cell? ⟨G, 0, none⟩ = some (.int .u64 ((u0 : Nat) : Int)) ∧ w.cell? ⟨G, 1, none⟩ = some (.int .u64 ((u1 : Nat) : Int)) := by
  have h0 := (Lst.of_owns own).cell (i := 0) (by simp [U64])
  have h1 := (Lst.of_owns own).cell (i := 1) (by simp [U64])
  exact ⟨h0, h1⟩
theorem wrap32 {u : Nat} (h : u < 256 ^ 4) : IntKind.u32.wrap ((u : Nat) : Int) = (u : Int) := IntWalk.u32_in _ (by omega)

end Go.Proofs.Ytbjnejnjlidiaaa.wsJ
