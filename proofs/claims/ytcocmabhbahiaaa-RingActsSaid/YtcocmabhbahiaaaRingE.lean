/- Contracts of the ring's Clear and All. Condition: room from 1 to 4096. -/
import Derived.Test.YtcocmabhbahiaaaRingD
import Derived.LoopTactic
import Derived.Deep.AppendLies
namespace Go.Proofs.Ytcocmabhbahiaaa.ringE
open Go.RowKit Go.Proofs.Ytcocmabhbahiaaa.kit Go.Proofs.Ytcocmabhbahiaaa.ringB
set_option linter.unusedVariables false

/-- A ring that was emptied. -/
def Cleared (w : World) (B R room n : Nat) (e : Ending) (w' : World) : Prop :=
  e = .returned (.int .i64 n) ∧ ∃ f, RingAt w' B R room f [] ∧ Only (S2 B R) w w'

def ClearRel (w wr : World) (B R room : Nat) (xs : List Int) (k : Nat) : Prop := (∃ f, RingAt wr B R room f (xs.drop k)) ∧ Only (S2 B R) w wr

theorem clear_any (B R room first : Nat) (xs : List Int) (w : World) (h : RingAt w B R room first xs) :
    Calls Try.prog 50 #[.pointer (some ⟨B, 0, none⟩)] w (Cleared w B R room xs.length) := by
  obtain ⟨h0, h1, h2, f0, f1, f2, fR⟩ := h.facts
  have l2 := h.l2
  have r2 := h.r2
  have hn : xs.length ≤ 4096 := by omega
  have R0 : ClearRel w w B R room xs 0 := ⟨⟨first, by simpa using h⟩, Only.refl _ _⟩
  clear h h0 h1 f0 f1 f2 fR
  go_enter Try.func50, Try.ntmps50
  go_wp2_with fail
  refine (ringA.len_any B xs.length _ h2).mono ?_
  rintro e w' ⟨rfl, rfl⟩
  go_wp2_with fail
  go_loopw [7] (fun i wr => ∃ k : Nat, k ≤ xs.length ∧ i = .int .i64 k ∧ ClearRel w wr B R room xs k) (fun i _ => xs.length - (intOf i).toNat)
  case atStart => exact ⟨0, Nat.zero_le _, rfl, R0⟩
  case round =>
    obtain ⟨k, hk, rfl, hR⟩ := hrel
    by_cases hlt : k < xs.length
    · obtain ⟨⟨f, hr⟩, ho⟩ := hR
      have hd : xs.drop k = xs[k] :: xs.drop (k + 1) := List.drop_eq_getElem_cons hlt
      rw [hd] at hr
      have HP := pop_some B R room f xs[k] (xs.drop (k + 1)) wr hr
      have HH := Lib.hid ho
      clear hr ho hd R0
      go_wp2_with fail
      refine HP.mono ?_
      rintro e w' ⟨rfl, hr1, ho1⟩
      have RR : ClearRel w w' B R room xs (k + 1) := ⟨⟨_, hr1⟩, HH.out.trans ho1⟩
      clear hr1 ho1
      go_wp2_with fail
      go_roundw
      case rel => exact ⟨k + 1, by omega, by go_num, RR⟩
      case measure => simp [intOf]; omega
    · have : k = xs.length := by omega
      subst this
      obtain ⟨⟨f, hr⟩, ho⟩ := hR
      rw [List.drop_length] at hr
      go_wp2_with fail
      go_ret
      exact ⟨rfl, f, hr, ho⟩

/-- All the things, in a new row. -/
def Listed (w : World) (xs : List Int) (e : Ending) (w' : World) : Prop :=
  ∃ v, e = .returned v ∧ w'.ownsRow w.heap.size 23 1 v xs.length (xs.map (.int .u64)) ∧ Only (fun _ => False) w w'

def AllRel (w wr : World) (xs : List Int) (v : Value) (k : Nat) : Prop := wr.ownsRow w.heap.size 23 1 v k ((xs.take k).map (.int .u64)) ∧ Only (fun _ => False) w wr

theorem allRel_step {w wr W w1 : World} {xs : List Int} {v : Value} {k gg cap : Nat} (h : AllRel w wr xs v k) (hk : k < xs.length) (hW : Only (fun _ => False) wr W)
    (ho : w1.ownsRow w.heap.size 23 1 (.slice (some ⟨gg, 0, none⟩) (k + 1) cap) (k + 1) ((xs.take k).map (.int .u64) ++ [.int .u64 (xs.getD k 0)])) (hg : W.grownBy w1 v.ownBlock) : AllRel w w1 xs (.slice (some ⟨gg, 0, none⟩) (k + 1) cap) (k + 1) := by
  refine ⟨?_, Only.grownNew (h.2.trans hW) hg fun j hj => (h.1.lt j hj).1⟩
  rw [take_snoc xs k hk 0, List.map_append]
  exact ho

set_option maxRecDepth 100000 in
theorem all_any (B R room first : Nat) (xs : List Int) (w : World) (h : RingAt w B R room first xs) :
    Calls Try.prog 54 #[.pointer (some ⟨B, 0, none⟩)] w (Listed w xs) := by
  obtain ⟨h0, h1, h2, f0, f1, f2, fR⟩ := h.facts
  have l2 := h.l2
  have r2 := h.r2
  have r1 := h.r1
  have p2 := h.f2
  have hn : xs.length ≤ 4096 := by omega
  obtain ⟨i0, hi0, hz0, hz1, hz2⟩ := info_parts ringD.info23
  have R0 : AllRel w w xs (.slice none 0 0) 0 := ⟨by simpa using World.ownsRow_nil w w.heap.size 23 1, Only.refl _ _⟩
  have H := Lib.hid h
  clear h h0 h1 f0 f1 f2 fR
  go_enter Try.func54, Try.ntmps54
  go_wp2_with fail
  refine (ringA.len_any B xs.length _ h2).mono ?_
  rintro e w' ⟨rfl, rfl⟩
  go_wp2_with fail
  go_loopw [3, 4, 7] (fun v _ i wr => ∃ k : Nat, k ≤ xs.length ∧ i = .int .i64 k ∧ AllRel w wr xs v k) (fun _ _ i _ => xs.length - (intOf i).toNat)
  case atStart => exact ⟨0, Nat.zero_le _, rfl, R0⟩
  case round =>
    obtain ⟨k, hk, rfl, hR⟩ := hrel
    by_cases hlt : k < xs.length
    · obtain ⟨hown, ho⟩ := id hR
      have hr := RingAt.of w wr B R room first xs H.out (ho.block B (lt_of H.out.head) id) (ho.block R (by obtain ⟨g, a, _⟩ := H.out.row; exact a.lt) id)
      obtain ⟨g0, g1, g2, k0, k1, k2, kR⟩ := hr.facts
      obtain ⟨g, hrow, hg⟩ := hr.row
      obtain ⟨p, ep⟩ : ∃ p, p = (first + k) % room := ⟨_, rfl⟩
      have hp : p < room := by rw [ep]; exact Nat.mod_lt _ (by omega)
      have hpi : (p : Int) < (room : Int) := by omega
      have hpi0 : (0 : Int) ≤ (p : Int) := by omega
      have hx : wr.cell? ⟨R, p, none⟩ = some (.int .u64 (xs.getD k 0)) := by rw [hrow.cell hp, ep, hg k hlt]
      obtain ⟨x, ex⟩ : ∃ x, x = xs.getD k 0 := ⟨_, rfl⟩
      rw [← ex] at hx
      have PL : ∀ W : World, W.cell? ⟨B, 0, none⟩ = some (.slice (some ⟨R, 0, none⟩) room room) → W.cell? ⟨B, 1, none⟩ = some (.int .i64 first) → Calls Try.prog 79 #[.pointer (some ⟨B, 0, none⟩), .int .i64 k] W fun e w' => e = .returned (.int .i64 p) ∧ ∃ n, w' = W.drewN n := by
        intro W a b
        have := ringA.place_any B R room first k W a b (by omega) r2 (by omega) (by omega)
        rwa [← ep] at this
      have hsz := ho.size
      have lB : B < w.heap.size := lt_of H.out.head
      have lR : R < w.heap.size := by obtain ⟨g, a, _⟩ := H.out.row; exact a.lt
      have lB' : B < wr.heap.size := by omega
      have lR' : R < wr.heap.size := by omega
      have ag : u3.ownBlock ≠ some B := fun q => by have := (hown.lt _ q).1; omega
      have aR : u3.ownBlock ≠ some R := fun q => by have := (hown.lt _ q).1; omega
      have HR := Lib.hid hR
      have HX := Lib.hid ex
      clear ex ep hg hrow hr k0 k1 k2 kR hR ho R0 g2
      go_wp2_with fail
      go_region_held3 (fun w' => w'.cell? ⟨B, 0, none⟩ = some (.slice (some ⟨R, 0, none⟩) room room) ∧ w'.cell? ⟨B, 1, none⟩ = some (.int .i64 first) ∧ w'.cell? ⟨R, p, none⟩ = some (.int .u64 x))
        (first | go_keep | (go_split_ands; refine ⟨?_, ?_, ?_⟩ <;> first | (rw [hgrow.cell_far _ (by simp; omega) (Ne.symm ag)]; assumption) | (rw [hgrow.cell_far _ (by simp; omega) (Ne.symm aR)]; assumption)))
        (first
          | (go_at_call 79; refine (PL _ (by simp [*]) (by simp [*])).mono ?_; rintro e w' ⟨rfl, n, rfl⟩)
          | (refine step_append_lies _ (by rfl) _ _ _ (by rfl) w.heap.size 23 i0 _ 1 8 Try.underlying47 hi0 hz0 hz1 hz2 rfl (by omega) u3 k ((xs.take k).map (.int .u64)) (by rfl) ((hown.alloc _).drew) ⟨wr.heap.size, 0, none⟩ 1 1 [.int .u64 x] (by rfl) (by rfl) (World.news_of_block (cs := #[.int .u64 x]) (t := 23) (fr := (0, 0)) (heap_alloc_new wr _)) (by simp [Value.oneCell']) (by omega) (by unfold maxLen; omega) (by omega) (by simp; omega) (wr.heap.size + 1) (by simp) ?_;intro gg cap w1 hown1 hgrow hat hlt))
      go_wp2
      go_roundw
      case rel => exact ⟨k + 1, by omega, by go_num, allRel_step HR.out (by omega) (((Only.refl _ wr).drewN _).alloc _) (by rw [← HX.out]; exact hown1) hgrow⟩
      case measure => simp [intOf]; omega
    · have : k = xs.length := by omega
      subst this
      obtain ⟨hown, ho⟩ := hR
      rw [List.take_length] at hown
      go_wp2_with fail
      go_ret
      exact ⟨_, rfl, hown, ho⟩
end Go.Proofs.Ytcocmabhbahiaaa.ringE
