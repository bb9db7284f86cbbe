/- Contracts of the ring's Push: a ring of 'room' places whose things are xs, in order. Condition: room from 1 to 4096. -/
import Derived.Test.YtcocmabhbahiaaaRingB
import Derived.Deep.RegionHeld3
namespace Go.Proofs.Ytcocmabhbahiaaa.ringC
open Go.RowKit Go.Proofs.Ytcocmabhbahiaaa.kit Go.Proofs.Ytcocmabhbahiaaa.ringB
set_option linter.unusedVariables false

/-- The store side of a Push. -/
theorem pushed {w : World} {B R room first : Nat} {xs : List Int} (h : RingAt w B R room first xs) (hl : xs.length < room) (x : Int) (n : Nat) :
    RingAt (((w.drewN n).setCell ⟨R, (first + xs.length) % room, none⟩ (.int .u64 x)).setCell ⟨B, 2, none⟩ (.int .i64 (xs.length + 1 : Nat))) B R room first (xs ++ [x]) := by
  obtain ⟨g, hr, hg⟩ := h.row
  refine ⟨?_, ⟨fun j => if j = (first + xs.length) % room then x else g j, ?_, ?_⟩, h.ne, h.r1, h.r2, h.f2, by simp; omega⟩
  · have e1 := heap_set (o := 2) (v := .int .i64 (xs.length + 1 : Nat)) ((heap_other (w := w.drewN n) (b := R) (o := (first + xs.length) % room) (v := .int .u64 x) h.ne).trans h.head)
    simpa using e1
  · have e2 : ((w.drewN n).setCell ⟨R, (first + xs.length) % room, none⟩ (.int .u64 x)).rowIs R 23 room (fun j => .int .u64 (if j = (first + xs.length) % room then x else g j)) :=
      ((hr.of_block (w' := w.drewN n) rfl).set ((first + xs.length) % room) (.int .u64 x)).congr fun i _ => by by_cases q : i = (first + xs.length) % room <;> simp [q]
    exact e2.setOther (a := ⟨B, 2, none⟩) h.ne.symm _
  · intro i hi
    have f2 := h.f2
    simp only [List.length_append, List.length_cons, List.length_nil] at hi
    show (if (first + i) % room = (first + xs.length) % room then x else g ((first + i) % room)) = _
    by_cases q : i = xs.length
    · subst q
      simp
    · have ne : (first + i) % room ≠ (first + xs.length) % room := by
        intro e
        rcases Nat.lt_or_ge (first + i) room with a | a
        · rw [Nat.mod_eq_of_lt a] at e
          rcases Nat.lt_or_ge (first + xs.length) room with b | b
          · rw [Nat.mod_eq_of_lt b] at e; omega
          · rw [Nat.mod_eq_sub_mod b, Nat.mod_eq_of_lt (by omega)] at e; omega
        · rw [Nat.mod_eq_sub_mod a, Nat.mod_eq_of_lt (by omega), Nat.mod_eq_sub_mod (by omega : first + xs.length ≥ room), Nat.mod_eq_of_lt (by omega)] at e
          omega
      rw [if_neg ne, hg i (by omega)]
      simp only [List.getD_eq_getElem?_getD]
      rw [List.getElem?_append_left (by omega)]

theorem push_room (B R room first : Nat) (x : Int) (xs : List Int) (w : World) (h : RingAt w B R room first xs) (hl : xs.length < room) :
    Calls Try.prog 47 #[.pointer (some ⟨B, 0, none⟩), .int .u64 x] w (Ret w B R room (.tuple #[.int .u64 0, .bool false]) first (xs ++ [x])) := by
  obtain ⟨h0, h1, h2, f0, f1, f2, fR⟩ := h.facts
  obtain ⟨g, hr, hg⟩ := h.row
  have r1 := h.r1
  have r2 := h.r2
  have p2 := h.f2
  have ne := h.ne
  have ne' : R ≠ B := fun q => ne q.symm
  have P := pushed h hl x
  have K := fun n : Nat => (((Only.refl (S2 B R) w).drewN n).set (b := R) (o := (first + xs.length) % room) (v := .int .u64 x) (.inr rfl)).set (b := B) (o := 2) (v := .int .i64 (xs.length + 1 : Nat)) (.inl rfl)
  obtain ⟨l, el⟩ : ∃ l, l = xs.length := ⟨_, rfl⟩
  rw [← el] at h2 P K hl
  clear el hg h
  have HP := Lib.hid P
  have HK := Lib.hid K
  clear P K
  have hq : ((l : Int) == (room : Int)) = false := by simp; omega
  have hq2 : l ≤ 4096 := by omega
  obtain ⟨p, ep⟩ : ∃ p, p = (first + l) % room := ⟨_, rfl⟩
  have hp : p < room := by rw [ep]; exact Nat.mod_lt _ (by omega)
  have hpi : (p : Int) < (room : Int) := by omega
  have fRp := fR p
  have hx := hr.cell hp
  have PL : ∀ W : World, W.cell? ⟨B, 0, none⟩ = some (.slice (some ⟨R, 0, none⟩) room room) → W.cell? ⟨B, 1, none⟩ = some (.int .i64 first) → Calls Try.prog 79 #[.pointer (some ⟨B, 0, none⟩), .int .i64 l] W fun e w' => e = .returned (.int .i64 p) ∧ ∃ n, w' = W.drewN n := by
    intro W a b
    have := ringA.place_any B R room first l W a b (by omega) r2 (by omega) (by omega)
    rwa [← ep] at this
  rw [← ep] at HP HK
  clear ep fR hr
  go_enter Try.func47, Try.ntmps47
  go_wp2_with fail
  go_quiet (fail)
  go_wp2_with fail
  go_region_held3 (fun w' => w'.cell? ⟨B, 0, none⟩ = some (.slice (some ⟨R, 0, none⟩) room room) ∧ w'.cell? ⟨B, 1, none⟩ = some (.int .i64 first) ∧ w'.cell? ⟨B, 2, none⟩ = some (.int .i64 l) ∧ w'.frozen? ⟨R, p, none⟩ = false) (go_keep)
    (first | (go_at_call 79; refine (PL _ (by simp [*]) (by simp [*])).mono ?_; rintro e w' ⟨rfl, n, rfl⟩))
  go_wp2
  go_ret2
  exact ⟨rfl, HP.out (nq + 1 + n), HK.out (nq + 1 + n)⟩

theorem push_full (B R room first : Nat) (x y : Int) (ys : List Int) (w : World) (h : RingAt w B R room first (y :: ys)) (hl : ys.length + 1 = room) :
    Calls Try.prog 47 #[.pointer (some ⟨B, 0, none⟩), .int .u64 x] w (Ret w B R room (.tuple #[.int .u64 y, .bool true]) ((first + 1) % room) (ys ++ [x])) := by
  obtain ⟨h0, h1, h2, f0, f1, f2, fR⟩ := h.facts
  have r1 := h.r1
  have r2 := h.r2
  have ne := h.ne
  have ne' : R ≠ B := fun q => ne q.symm
  have hq : (((y :: ys).length : Int) == (room : Int)) = true := by simp; omega
  obtain ⟨l, el⟩ : ∃ l, l = (y :: ys).length := ⟨_, rfl⟩
  rw [← el] at h2 hq
  have HP : ∀ W : World, RingAt W B R room first (y :: ys) → Calls Try.prog 48 #[.pointer (some ⟨B, 0, none⟩)] W (Ret W B R room (.tuple #[.int .u64 y, .bool true]) ((first + 1) % room) ys) := fun W hW => pop_some B R room first y ys W hW
  have H := Lib.hid h
  have HL := Lib.hid hl
  clear el h fR f0 f1 f2 h1 hl
  go_enter Try.func47, Try.ntmps47
  go_wp2_with fail
  go_quiet (fail)
  go_wp2_with fail
  refine (HP (w.drewN nq) (RingAt.of w _ B R room first _ H.out rfl rfl)).mono ?_
  rintro e w1 ⟨rfl, hr1, ho1⟩
  have P := fun (q : ys.length < room) => pushed hr1 q x
  obtain ⟨g0, g1, g2, k0, k1, k2, kR⟩ := hr1.facts
  obtain ⟨gg, hrow, hgg⟩ := hr1.row
  have p2 := hr1.f2
  obtain ⟨F, hF⟩ : ∃ F, F = (first + 1) % room := ⟨_, rfl⟩
  have hl := HL.out
  have K := fun n : Nat => (((Only.refl (S2 B R) w1).drewN n).set (b := R) (o := (F + ys.length) % room) (v := .int .u64 x) (.inr rfl)).set (b := B) (o := 2) (v := .int .i64 (ys.length + 1 : Nat)) (.inl rfl)
  rw [← hF] at P g1 p2
  have HF := Lib.hid hF
  have P' := P (by omega)
  clear P hF hr1 hgg
  obtain ⟨n0, en⟩ : ∃ n0, n0 = ys.length := ⟨_, rfl⟩
  rw [← en] at g2 P' K hl
  clear en
  obtain ⟨p, ep⟩ : ∃ p, p = (F + n0) % room := ⟨_, rfl⟩
  have hp : p < room := by rw [ep]; exact Nat.mod_lt _ (by omega)
  have hpi : (p : Int) < (room : Int) := by omega
  have fRp := kR p
  have hx := hrow.cell hp
  have hn2 : n0 ≤ 4096 := by omega
  have PL : ∀ W : World, W.cell? ⟨B, 0, none⟩ = some (.slice (some ⟨R, 0, none⟩) room room) → W.cell? ⟨B, 1, none⟩ = some (.int .i64 F) → Calls Try.prog 79 #[.pointer (some ⟨B, 0, none⟩), .int .i64 n0] W fun e w' => e = .returned (.int .i64 p) ∧ ∃ n, w' = W.drewN n := by
    intro W a b
    have := ringA.place_any B R room F n0 W a b (by omega) r2 (by omega) (by omega)
    rwa [← ep] at this
  rw [← ep] at P' K
  have HP' := Lib.hid P'
  have HK := Lib.hid K
  have HO := Lib.hid ho1
  clear ep kR hrow P' K ho1 HP hl k0 k1 h0 h2
  go_wp2_with fail
  go_region_held3 (fun w' => w'.cell? ⟨B, 0, none⟩ = some (.slice (some ⟨R, 0, none⟩) room room) ∧ w'.cell? ⟨B, 1, none⟩ = some (.int .i64 F) ∧ w'.cell? ⟨B, 2, none⟩ = some (.int .i64 n0) ∧ w'.frozen? ⟨R, p, none⟩ = false) (go_keep)
    (first | (go_at_call 79; refine (PL _ (by simp [*]) (by simp [*])).mono ?_; rintro e w' ⟨rfl, n, rfl⟩))
  go_wp2
  go_ret2
  exact ⟨rfl, by rw [← HF.out]; exact HP'.out (1 + n), ((Only.refl (S2 B R) w).drewN nq).trans (HO.out.trans (HK.out (1 + n)))⟩
end Go.Proofs.Ytcocmabhbahiaaa.ringC
