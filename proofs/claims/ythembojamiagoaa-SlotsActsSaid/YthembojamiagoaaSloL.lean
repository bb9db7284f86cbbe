/- The state of SlotsActs' loop. -/
import Derived.Test.YthembojamiagoaaSloI
import Derived.OwnWalk
namespace Go.Proofs.Ythembojamiagoaa.sloL
open Go.RowKit Go.Lib Go.Proofs.Ythembojamiagoaa.kit Go.Proofs.Ythembojamiagoaa.sloA Go.Proofs.Ythembojamiagoaa.sloB Go.Proofs.Ythembojamiagoaa.sloI
set_option linter.unusedVariables false
set_option linter.unusedSimpArgs false

theorem info33 : (Try.prog.info? 33).map (fun i => (i.zero, i.size, i.bytes)) = some (some (.pointer none), 1, 8) := by kernel_rfl

def PV (ids : List Pr) : List Value := ids.map fun x => .pointer (some ⟨x.1, 0, none⟩)

theorem PV_len (ids : List Pr) : (PV ids).length = ids.length := by simp [PV]
theorem PV_get (ids : List Pr) (k : Nat) (h : k < ids.length) : (PV ids).getD k undef = .pointer (some ⟨blk ids k, 0, none⟩) := by simp [PV, blk, h]

/-- The slots at S, the document's at Mb, all pairs at the slice v. -/
structure St (w0 w : World) (S Mb : Nat) (v : Value) (ids : List Pr) (q1 q2 q3 : Int) (p1 p2 p3 : Option Addr) : Prop where
  only : Only (fun _ => False) w0 w
  leS : w0.heap.size ≤ S
  leM : w0.heap.size ≤ Mb
  slots : SlotsAt w S p1 p2 p3
  m : w.heap[Mb]? = some (.cells #[.int .i64 q1, .int .i64 q2, .int .i64 q3] 28 (0, 0))
  own : w.ownsRow w0.heap.size 33 1 v ids.length (PV ids)
  nn : v ≠ .slice none 0 0
  pairs : ∀ k, k < ids.length → PairAt w (blk ids k) (loc ids k) (mad ids k) ∧ 0 ≤ mad ids k ∧ mad ids k ≤ 1000000
  apart : ∀ j k, j < ids.length → k < ids.length → blk ids j = blk ids k → j = k

theorem own_keep {w w' : World} {base n : Nat} {v : Value} {xs : List Value} (h : w.ownsRow base 33 1 v n xs) (k : ∀ (g : Nat) (c : Array Value), w.heap[g]? = some (.cells c 33 (0, 0)) → w'.heap[g]? = w.heap[g]?) : w'.ownsRow base 33 1 v n xs := by
  refine ⟨h.1, ?_⟩
  rcases h.2 with h | ⟨g, cap, cur, hv, hb, hg, r⟩
  · exact .inl h
  · exact .inr ⟨g, cap, cur, hv, hb, (k g cur hg).trans hg, r⟩

/-- What leaves all blocks but one, of another type than 33 and 68, as they were. -/
theorem St.change {w0 w w' : World} {S Mb X : Nat} {v : Value} {ids : List Pr} {q1 q2 q3 r1 r2 r3 : Int} {p1 p2 p3 s1 s2 s3 : Option Addr} (h : St w0 w S Mb v ids q1 q2 q3 p1 p2 p3) (o : Only (fun i => i = X) w w') (hX : w0.heap.size ≤ X) {c : Array Value} {e : TypeId} (hx : w.heap[X]? = some (.cells c e (0, 0))) (e1 : e ≠ 33) (e2 : e ≠ 68)
    (hs : SlotsAt w' S s1 s2 s3) (hm : w'.heap[Mb]? = some (.cells #[.int .i64 r1, .int .i64 r2, .int .i64 r3] 28 (0, 0))) : St w0 w' S Mb v ids r1 r2 r3 s1 s2 s3 := by
  refine ⟨prsB.Only.own h.only o hX, h.leS, h.leM, hs, hm, own_keep h.own fun g c' hg => o.block g (lt_of hg) fun eq => ?_, h.nn, fun k hk => ⟨?_, (h.pairs k hk).2⟩, h.apart⟩
  · subst eq
    rw [hx] at hg
    injection hg with hg
    injection hg with a b
    exact e1 b
  · obtain ⟨c', hc'⟩ := (h.pairs k hk).1
    refine ⟨c', o.keep hc' fun eq => ?_⟩
    have eq : blk ids k = X := eq
    rw [eq, hx] at hc'
    injection hc' with hc'
    injection hc' with a b
    exact e2 b

theorem St.ne {w0 w : World} {S Mb : Nat} {v : Value} {ids : List Pr} {q1 q2 q3 : Int} {p1 p2 p3 : Option Addr} (h : St w0 w S Mb v ids q1 q2 q3 p1 p2 p3) : Mb ≠ S := fun e => by
  have h1 := h.m
  have h2 : w.heap[S]? = _ := h.slots
  rw [e, h2] at h1
  injection h1 with h1
  injection h1 with a b
  exact absurd b (by decide)

theorem St.ofSlots {w0 w w' : World} {S Mb : Nat} {v : Value} {ids : List Pr} {q1 q2 q3 : Int} {p1 p2 p3 s1 s2 s3 : Option Addr} (h : St w0 w S Mb v ids q1 q2 q3 p1 p2 p3) (k : SlotsAt w' S s1 s2 s3) (o : Only (fun i => i = S) w w') : St w0 w' S Mb v ids q1 q2 q3 s1 s2 s3 :=
  h.change o h.leS h.slots (by decide) (by decide) k (o.keep h.m h.ne)

theorem St.ofM {w0 w w' : World} {S Mb : Nat} {v : Value} {ids : List Pr} {q1 q2 q3 r1 r2 r3 : Int} {p1 p2 p3 : Option Addr} (h : St w0 w S Mb v ids q1 q2 q3 p1 p2 p3) (k : w'.heap[Mb]? = some (.cells #[.int .i64 r1, .int .i64 r2, .int .i64 r3] 28 (0, 0))) (o : Only (fun i => i = Mb) w w') : St w0 w' S Mb v ids r1 r2 r3 p1 p2 p3 :=
  h.change o h.leM h.m (by decide) (by decide) (o.keep h.slots fun e => h.ne e.symm) k

theorem St.step {w0 w w' : World} {S Mb : Nat} {v : Value} {ids : List Pr} {q1 q2 q3 : Int} {p1 p2 p3 : Option Addr} (h : St w0 w S Mb v ids q1 q2 q3 p1 p2 p3) (o : Only (fun _ => False) w w') : St w0 w' S Mb v ids q1 q2 q3 p1 p2 p3 :=
  h.ofSlots (o.keep h.slots id) (o.mono fun _ => False.elim)

/-- All three cells of the document's slots are written. -/
theorem St.store {w0 w : World} {S Mb : Nat} {v : Value} {ids : List Pr} {q1 q2 q3 r1 r2 r3 : Int} {p1 p2 p3 : Option Addr} (h : St w0 w S Mb v ids q1 q2 q3 p1 p2 p3) : St w0 (((w.setCell ⟨Mb, 0, none⟩ (.int .i64 r1)).setCell ⟨Mb, 1, none⟩ (.int .i64 r2)).setCell ⟨Mb, 2, none⟩ (.int .i64 r3)) S Mb v ids r1 r2 r3 p1 p2 p3 :=
  h.ofM (heap_set (o := 2) (v := .int .i64 r3) (heap_set (o := 1) (v := .int .i64 r2) (heap_set (o := 0) (v := .int .i64 r1) h.m))) (by only_close)

theorem St.store2 {w0 w : World} {S Mb : Nat} {v : Value} {ids : List Pr} {q1 q2 q3 r3 : Int} {p1 p2 p3 : Option Addr} (h : St w0 w S Mb v ids q1 q2 q3 p1 p2 p3) : St w0 (w.setCell ⟨Mb, 2, none⟩ (.int .i64 r3)) S Mb v ids q1 q2 r3 p1 p2 p3 :=
  h.ofM (heap_set (o := 2) (v := .int .i64 r3) h.m) (by only_close)

theorem St.mcell {w0 w : World} {S Mb : Nat} {v : Value} {ids : List Pr} {q1 q2 q3 : Int} {p1 p2 p3 : Option Addr} (h : St w0 w S Mb v ids q1 q2 q3 p1 p2 p3) : w.cell? ⟨Mb, 0, none⟩ = some (.int .i64 q1) ∧ w.cell? ⟨Mb, 1, none⟩ = some (.int .i64 q2) ∧ w.cell? ⟨Mb, 2, none⟩ = some (.int .i64 q3) ∧ w.frozen? ⟨Mb, 0, none⟩ = false ∧ w.frozen? ⟨Mb, 1, none⟩ = false ∧ w.frozen? ⟨Mb, 2, none⟩ = false :=
  ⟨cell_of h.m, cell_of h.m, cell_of h.m, free_of h.m, free_of h.m, free_of h.m⟩

theorem St.all {w0 w : World} {S Mb : Nat} {v : Value} {ids : List Pr} {q1 q2 q3 : Int} {p1 p2 p3 : Option Addr} (h : St w0 w S Mb v ids q1 q2 q3 p1 p2 p3) (hs : ids.length ≤ 1000) : ∃ g cap, v = .slice (some ⟨g, 0, none⟩) ids.length cap ∧ All w g 0 ids.length cap ids := by
  have L := Lst.of_owns h.own
  rcases id L with ⟨hv, _⟩ | ⟨g, o, cap, hv, hb, hn, hm, c, fr, hg, _, _⟩
  · exact absurd hv h.nn
  rcases h.own.2 with hv' | ⟨g', cap', cur, hv', _, _, _⟩
  · exact absurd hv'.1 h.nn
  rw [PV_len] at hv
  have hv2 := hv
  rw [hv'] at hv2
  injection hv2 with a1 a2 a3
  injection a1 with a1
  injection a1 with a1 a4
  subst a1 a4
  refine ⟨_, cap, hv, rfl, hs, fun k hk => ?_, lt_of hg, h.pairs⟩
  have e : v = .slice (some ⟨g', 0, none⟩) (PV ids).length cap := by rw [PV_len]; exact hv
  rw [e] at L
  exact (L.cell (by rw [PV_len]; exact hk)).trans (by rw [PV_get ids k hk])

theorem blk_old (ids : List Pr) (x : Pr) (k : Nat) (h : k < ids.length) : blk (ids ++ [x]) k = blk ids k ∧ loc (ids ++ [x]) k = loc ids k ∧ mad (ids ++ [x]) k = mad ids k := by
  simp [blk, loc, mad, List.getElem?_append_left h]
theorem blk_new (ids : List Pr) (x : Pr) : blk (ids ++ [x]) ids.length = x.1 ∧ loc (ids ++ [x]) ids.length = x.2.1 ∧ mad (ids ++ [x]) ids.length = x.2.2 := by
  simp [blk, loc, mad]

theorem Sd.app {ids : List Pr} {x : Pr} {q : Int} {p : Option Addr} (h : Sd ids q p) : Sd (ids ++ [x]) q p := by
  rcases h with h | ⟨k, rfl, hk, rfl⟩
  · exact .inl h
  · exact .inr ⟨k, rfl, by simp; omega, by rw [(blk_old ids x k hk).1]⟩

theorem Sd.new (ids : List Pr) (x : Pr) : Sd (ids ++ [x]) (ids.length : Int) (some ⟨x.1, 0, none⟩) :=
  .inr ⟨ids.length, rfl, by simp, by rw [(blk_new ids x).1]⟩

theorem St.append {w0 w : World} {S Mb : Nat} {v : Value} {ids : List Pr} {q1 q2 q3 : Int} {p1 p2 p3 : Option Addr} (h : St w0 w S Mb v ids q1 q2 q3 p1 p2 p3) (hs : ids.length ≤ 100) (b : Nat) (l m : Int) (hp : PairAt w b l m) (m0 : 0 ≤ m) (m1 : m ≤ 1000000) (hn : ∀ k, k < ids.length → blk ids k ≠ b) :
    ∃ v' w', (Builtin.append_ #[29, 29] 29 #[v, .slice (some ⟨w.heap.size, 0, none⟩) 1 1]).run Try.prog (w.alloc (.cells #[.pointer (some ⟨b, 0, none⟩)] 33)) = .ok v' w' ∧ St w0 w' S Mb v' (ids ++ [(b, l, m)]) q1 q2 q3 p1 p2 p3 := by
  have hA : Only (fun _ => False) w (w.alloc (.cells #[.pointer (some ⟨b, 0, none⟩)] 33)) := (Only.refl _ w).alloc _
  have h' := h.step hA
  have hp' := hp.keep hA
  have hc := cell_of (o := 0) (heap_alloc_new w (.cells #[.pointer (some ⟨b, 0, none⟩)] 33))
  obtain ⟨W, hW⟩ : ∃ W, W = w.alloc (.cells #[.pointer (some ⟨b, 0, none⟩)] 33) := ⟨_, rfl⟩
  rw [← hW] at h' hp' hc ⊢
  obtain ⟨i0, hi0, hz0, hz1, hz2⟩ := info_parts info33
  obtain ⟨v', w', hr, hown', hgrow, hnil⟩ := run_append_own (P := Try.prog) W w0.heap.size 29 29 33 i0 (.pointer none) 1 8 Try.underlying29 hi0 hz0 hz1 hz2 rfl (by decide) v ids.length (PV ids) h'.own ⟨w.heap.size, 0, none⟩ 1 1 [.pointer (some ⟨b, 0, none⟩)] rfl (fun j u hj => by
      cases j with
      | zero => simp at hj; subst hj; exact hc
      | succ j => simp at hj) (fun u hu => by simp at hu; subst hu; rfl) (by unfold maxLen; omega) (by omega) h'.only.size
  refine ⟨v', w', hr, ?_⟩
  have row : ∀ k, v.ownBlock = some k → w0.heap.size ≤ k ∧ ∃ c, W.heap[k]? = some (.cells c 33 (0, 0)) := fun k hk => by
    refine ⟨(World.ownsRow.lt h'.own k hk).1, ?_⟩
    rcases h'.own.2 with hv | ⟨g, cap, cur, hv, _, hg, _⟩
    · rw [hv.1] at hk; cases hk
    · rw [hv] at hk
      injection hk with hk
      subst hk
      exact ⟨cur, hg⟩
  have oth : ∀ (k : Nat) (c : Array Value) (e : TypeId), e ≠ 33 → W.heap[k]? = some (.cells c e (0, 0)) → w'.heap[k]? = some (.cells c e (0, 0)) := fun k c e he hk => by
    refine (hgrow.block k (lt_of hk) fun e' => ?_).trans hk
    obtain ⟨_, c', hc'⟩ := row k e'.symm
    rw [hk] at hc'
    injection hc' with hc'
    injection hc' with a b
    exact he b
  have pk : ∀ b l m, PairAt W b l m → PairAt w' b l m := fun b l m ⟨c, hc⟩ => ⟨c, oth b _ 68 (by decide) hc⟩
  refine ⟨Only.grownNew h'.only hgrow fun k hk => (row k hk).1, h.leS, h.leM, oth S _ 52 (by decide) h'.slots, oth Mb _ 28 (by decide) h'.m, ?_, fun e => ?_, fun k hk => ?_, fun j k hj hk e => ?_⟩
  · rw [List.length_append, show PV (ids ++ [(b, l, m)]) = PV ids ++ [.pointer (some ⟨b, 0, none⟩)] by simp [PV]]
    exact hown'
  · exact h.nn (hnil.1 e).1
  · rw [List.length_append, List.length_singleton] at hk
    rcases Nat.lt_or_ge k ids.length with g | g
    · obtain ⟨e1, e2, e3⟩ := blk_old ids (b, l, m) k g
      rw [e1, e2, e3]
      exact ⟨pk _ _ _ (h'.pairs k g).1, (h'.pairs k g).2⟩
    · have : k = ids.length := by omega
      subst this
      obtain ⟨e1, e2, e3⟩ := blk_new ids (b, l, m)
      rw [e1, e2, e3]
      exact ⟨pk _ _ _ hp', m0, m1⟩
  · rw [List.length_append, List.length_singleton] at hj hk
    rcases Nat.lt_or_ge j ids.length with g | g <;> rcases Nat.lt_or_ge k ids.length with g' | g'
    · rw [(blk_old ids (b, l, m) j g).1, (blk_old ids (b, l, m) k g').1] at e
      exact h.apart j k g g' e
    · have : k = ids.length := by omega
      subst this
      rw [(blk_old ids (b, l, m) j g).1, (blk_new ids (b, l, m)).1] at e
      exact absurd e (hn j g)
    · have : j = ids.length := by omega
      subst this
      rw [(blk_old ids (b, l, m) k g').1, (blk_new ids (b, l, m)).1] at e
      exact absurd e.symm (hn k g')
    · omega
end Go.Proofs.Ythembojamiagoaa.sloL
