/- Contracts of the ring's document's answers (Push). -/
import Derived.Test.YtcocmabhbahiaaaRingF
namespace Go.Proofs.Ytcocmabhbahiaaa.ringG
open Go.RowKit Go.Proofs.Ytcocmabhbahiaaa.kit Go.Proofs.Ytcocmabhbahiaaa.ringB Go.Proofs.Ytcocmabhbahiaaa.ringF
set_option linter.unusedVariables false

def Pushed (w : World) (ys : List Int) (x : Int) (b : Bool) (e : Ending) (w' : World) : Prop :=
  ∃ v, e = .returned (.tuple #[v, .int .u64 x, .bool b]) ∧ Lst w' 23 (fun k => w.heap.size ≤ k) v (U ys) ∧ Only (fun _ => False) w w'

theorem news_of {w W : World} {g o : Nat} {xs : List Int} {c : Array Value} {fr : Nat × Nat} (hg : w.heap[g]? = some (.cells c 23 fr)) (hget : ∀ i, i < xs.length → c[o + i]? = some ((U xs).getD i undef))
    (hW : W.heap[g]? = w.heap[g]?) : ∀ j u, (U xs)[j]? = some u → W.cell? ((⟨g, o, none⟩ : Addr).add j) = some u := by
  intro j u hj
  have hl : j < (U xs).length := (List.getElem?_eq_some_iff.1 hj).1
  have hl' : j < xs.length := by simpa [U] using hl
  rw [Addr.add_lit, cell_of (hW.trans hg), hget j hl', List.getD_eq_getElem?_getD, hj]
  rfl

theorem one_U (xs : List Int) : ∀ u ∈ U xs, u.oneCell' = true := by
  intro u hu
  simp only [U, List.mem_map] at hu
  obtain ⟨a, _, rfl⟩ := hu
  rfl

theorem owns_facts {w : World} {base g n cap : Nat} {xs : List Value} (h : w.ownsRow base 23 1 (.slice (some ⟨g, 0, none⟩) n cap) n xs) :
    base ≤ g ∧ n ≤ cap ∧ cap ≤ maxLen ∧ ∃ c, w.heap[g]? = some (.cells c 23 (0, 0)) ∧ c.size = cap ∧ ∀ i, i < n → c[i]? = some (xs.getD i undef) := by
  obtain ⟨hl, ⟨h, -⟩ | ⟨g', cap', cur, hv, hb, hg, hn, hm, hs, ht⟩⟩ := h
  · cases h
  · injection hv with q1 q2 q3
    injection q1 with q1
    injection q1 with q1
    subst q1 q3
    simp only [Nat.mul_one] at hl hs ht
    refine ⟨hb, hn, hm, cur, hg, hs, fun i hi => ?_⟩
    have e1 : xs[i]? = cur.toList[i]? := by rw [← ht, List.getElem?_take, if_pos hi]
    rw [← Array.getElem?_toList, ← e1, List.getD_eq_getElem?_getD]
    simp [hl, hi]

theorem owns_head {w : World} {base g n cap : Nat} {xs : List Value} (h : w.ownsRow base 23 1 (.slice (some ⟨g, 0, none⟩) n cap) n xs) (hn : 0 < n) :
    base ≤ g ∧ n ≤ cap ∧ cap ≤ maxLen ∧ w.cell? ⟨g, 0, none⟩ = some (xs.getD 0 undef) := by
  obtain ⟨a, b, c, d, e, f, g⟩ := owns_facts h
  exact ⟨a, b, c, by rw [cell_of e, g 0 hn]⟩

set_option maxRecDepth 100000 in
theorem push_room (S : Nat → Prop) (l : Value) (xs : List Int) (room : Nat) (x : Int) (w : World) (h : Lst w 23 S l (U xs)) (hr : xs.length + 1 ≤ room) (hm : room ≤ 4096) :
    Calls Try.prog 46 #[l, .int .i64 room, .int .u64 x] w (Pushed w (xs ++ [x]) 0 false) := by
  obtain ⟨i0, hi0, hz0, hz1, hz2⟩ := info_parts ringD.info23
  have hUl : (U xs).length = xs.length := by simp [U]
  have fin : ∀ (gg cap : Nat) (w2 : World), w2.ownsRow w.heap.size 23 1 (.slice (some ⟨gg, 0, none⟩) (xs.length + 1) cap) (xs.length + 1) (U xs ++ [.int .u64 x]) → Only (fun _ => False) w w2 →
      Pushed w (xs ++ [x]) 0 false (.returned (.tuple #[.slice (some ⟨gg, 0, none⟩) (xs.length + 1) cap, .int .u64 0, .bool false])) w2 := by
    intro gg cap w2 ho hO
    exact ⟨_, rfl, by have := Lst.of_owns ho; simpa [U] using this, hO⟩
  rcases h with ⟨rfl, hx⟩ | ⟨g, o, cap, rfl, hS, hcap, hmax, c, fr, hg, hsz, hget⟩
  · have hx0 : xs = [] := by rw [hx] at hUl; exact List.eq_nil_of_length_eq_zero (by simpa using hUl.symm)
    subst hx0
    have HF := Lib.hid fin
    have hown1 := World.ownsRow_made (e := 23) (size := 1) w #[] 0 (Nat.le_refl _) (by decide) rfl
    have HNW := Lib.hid (World.news_of_block (w := (w.alloc (.cells #[] 23)).alloc (.cells #[.int .u64 x] 23)) (B := w.heap.size + 1) (cs := #[.int .u64 x]) (t := 23) (fr := (0, 0)) (by have a := heap_alloc_new (w.alloc (.cells #[] 23)) (.cells #[.int .u64 x] 23); rw [World.size_alloc] at a; exact a))
    clear hUl hx fin
    go_enter Try.func46, Try.ntmps46
    go_wp2_with (first | (at_builtin; refine wpList_append_lies _ rfl (.tmp 12) (.tmp 14) 47 rfl w.heap.size 23 i0 (.int .u64 0) 1 8 Try.underlying47 hi0 hz0 hz1 hz2 rfl (by decide) _ _ _ rfl (hown1.alloc _) ⟨w.heap.size + 1, 0, none⟩ 1 1 [.int .u64 x] rfl rfl HNW.out (by simp [Value.oneCell']) (by omega) (by unfold maxLen; omega) (by omega) (by simp; omega) (w.heap.size + 2) (by simp) ?_; intro gg cp w2 hown2 hgrow2 _ _))
    go_ret3
    exact HF.out gg cp w2 hown2 (Only.grownNew (((Only.refl _ w).alloc _).alloc _) hgrow2 fun j hj => (hown1.lt j hj).1)
  · rw [hUl] at hget hcap
    rw [hUl]
    have lg := lt_of hg
    have HN := Lib.hid (news_of (W := w.alloc (.cells #[] 23)) hg hget (Below.heap_alloc _ _ _ lg))
    have hown0 := World.ownsRow_made (e := 23) (size := 1) w #[] 0 (Nat.le_refl _) (by decide) rfl
    have HF := Lib.hid fin
    have HG := Lib.hid hget
    unfold maxLen at hmax
    clear hget hUl fin
    go_enter Try.func46, Try.ntmps46
    go_wp2_with (first | (at_builtin; refine wpList_append_own _ rfl (.tmp 10) (.tmp 11) 47 rfl w.heap.size 23 i0 (.int .u64 0) 1 8 Try.underlying47 hi0 hz0 hz1 hz2 rfl (by decide) _ _ _ rfl (World.ownsRow_made w #[] 0 (Nat.le_refl _) (by decide) rfl) ⟨g, o, none⟩ xs.length cap (U xs) rfl (by simp [U]) HN.out (one_U xs) (by unfold maxLen; omega) (by omega) (by simp) ?_; intro v1 w1 hown1 hgrow1 _; simp only [Nat.zero_add, List.nil_append] at hown1) | (at_builtin; refine wpList_append_lies _ rfl (.tmp 12) (.tmp 14) 47 rfl w.heap.size 23 i0 (.int .u64 0) 1 8 Try.underlying47 hi0 hz0 hz1 hz2 rfl (by decide) _ _ _ rfl (hown1.alloc _) ⟨w1.heap.size, 0, none⟩ 1 1 [.int .u64 x] rfl rfl (World.news_of_block (cs := #[.int .u64 x]) (t := 23) (fr := (0, 0)) (heap_alloc_new w1 _)) (by simp [Value.oneCell']) (by omega) (by unfold maxLen; omega) (by omega) (by have := hgrow1.size; simp at this ⊢; omega) (w1.heap.size + 1) (by simp) ?_; intro gg cp w2 hown2 hgrow2 _ _))
    go_ret3
    exact HF.out gg cp w2 hown2 (Only.grownNew ((Only.grownNew ((Only.refl _ w).alloc _) hgrow1 fun j hj => (hown0.lt j hj).1).alloc _) hgrow2 fun j hj => (hown1.lt j hj).1)

set_option maxRecDepth 100000 in
theorem push_full (S : Nat → Prop) (l : Value) (y : Int) (ys : List Int) (room : Nat) (x : Int) (w : World) (h : Lst w 23 S l (U (y :: ys))) (hr : ys.length + 1 = room) (hm : room ≤ 4096) :
    Calls Try.prog 46 #[l, .int .i64 room, .int .u64 x] w (Pushed w (ys ++ [x]) y true) := by
  obtain ⟨i0, hi0, hz0, hz1, hz2⟩ := info_parts ringD.info23
  have hUl : (U (y :: ys)).length = (y :: ys).length := by simp [U]
  obtain ⟨xs, ex⟩ : ∃ xs, xs = y :: ys := ⟨_, rfl⟩
  have hn : xs.length = room := by rw [ex]; simpa using hr
  have h1 : 1 ≤ xs.length := by rw [ex]; simp
  have fin : ∀ (gg cap : Nat) (w2 : World), w2.ownsRow w.heap.size 23 1 (.slice (some ⟨gg, 0, none⟩) (xs.length + 1) cap) (xs.length + 1) (U xs ++ [.int .u64 x]) → Only (fun _ => False) w w2 →
      Pushed w (ys ++ [x]) y true (.returned (.tuple #[.slice (some ⟨gg, 1, none⟩) xs.length (cap - 1), .int .u64 y, .bool true])) w2 := by
    intro gg cap w2 ho hO
    refine ⟨_, rfl, ?_, hO⟩
    obtain ⟨hb, hcap, hmax, c, hc, hs, hg⟩ := owns_facts ho
    have el : (U (ys ++ [x])).length = xs.length := by rw [ex]; simp [U]
    refine .inr ⟨gg, 1, cap - 1, by rw [el], hb, by rw [el]; omega, by omega, c, (0, 0), hc, by omega, fun i hi => ?_⟩
    rw [el] at hi
    rw [Nat.add_comm, hg (i + 1) (by omega), ex]
    simp [U]
  rw [← ex] at h hUl
  rcases h with ⟨rfl, hx⟩ | ⟨g, o, cap, rfl, hS, hcap, hmax, c, fr, hg, hsz, hget⟩
  · rw [hx] at hUl
    simp at hUl
    omega
  · rw [hUl] at hget hcap
    rw [hUl]
    have lg := lt_of hg
    have HN := Lib.hid (news_of (W := w.alloc (.cells #[] 23)) hg hget (Below.heap_alloc _ _ _ lg))
    have hown0 := World.ownsRow_made (e := 23) (size := 1) w #[] 0 (Nat.le_refl _) (by decide) rfl
    have HF := Lib.hid fin
    have HG := Lib.hid hget
    unfold maxLen at hmax
    have hq : ¬ ((xs.length : Int) + 1 ≤ room) := by omega
    have hq2 : (room : Int) < (xs.length : Int) + 1 := by omega
    have HE := Lib.hid ex
    have HLN := Lib.hid hn
    have hb4 : xs.length ≤ 4096 := by omega
    clear hget hUl fin ex hr hn
    go_enter Try.func46, Try.ntmps46
    go_wp2_with (first | (at_builtin; refine wpList_append_own _ rfl (.tmp 10) (.tmp 11) 47 rfl w.heap.size 23 i0 (.int .u64 0) 1 8 Try.underlying47 hi0 hz0 hz1 hz2 rfl (by decide) _ _ _ rfl (World.ownsRow_made w #[] 0 (Nat.le_refl _) (by decide) rfl) ⟨g, o, none⟩ xs.length cap (U xs) rfl (by simp [U]) HN.out (one_U xs) (by unfold maxLen; omega) (by omega) (by simp) ?_; intro v1 w1 hown1 hgrow1 _; simp only [Nat.zero_add, List.nil_append] at hown1) | (at_builtin; refine wpList_append_lies _ rfl (.tmp 12) (.tmp 14) 47 rfl w.heap.size 23 i0 (.int .u64 0) 1 8 Try.underlying47 hi0 hz0 hz1 hz2 rfl (by decide) _ _ _ rfl (hown1.alloc _) ⟨w1.heap.size, 0, none⟩ 1 1 [.int .u64 x] rfl rfl (World.news_of_block (cs := #[.int .u64 x]) (t := 23) (fr := (0, 0)) (heap_alloc_new w1 _)) (by simp [Value.oneCell']) (by omega) (by unfold maxLen; omega) (by omega) (by have := hgrow1.size; simp at this ⊢; omega) (w1.heap.size + 1) (by simp) ?_; intro gg cp w2 hown2 hgrow2 _ _; obtain ⟨-, hcp1, hcp2, hc0⟩ := owns_head hown2 (by omega); have hcp3 : (1 : Int) < (cp : Int) := by omega))
    have hcy : w2.cell? ⟨gg, 0, none⟩ = some (.int .u64 y) := by rw [hc0, HE.out]; simp [U]
    clear hc0
    go_quiet (fail)
    go_wp2
    go_ret3
    obtain ⟨v, hv, hl, ho⟩ := HF.out gg cp w2 hown2 (Only.grownNew ((Only.grownNew ((Only.refl _ w).alloc _) hgrow1 fun j hj => (hown0.lt j hj).1).alloc _) hgrow2 fun j hj => (hown1.lt j hj).1)
    exact ⟨v, hv, hl, ho.drewN nq⟩
end Go.Proofs.Ytcocmabhbahiaaa.ringG
