/- asked: do the slots answer what the document's do? Made by sloj.py. -/
import Derived.Test.YthembojamiagoaaSloI
namespace Go.Proofs.Ythembojamiagoaa.sloJ
open Go.RowKit Go.Lib Go.Proofs.Ythembojamiagoaa.kit Go.Proofs.Ythembojamiagoaa.sloA Go.Proofs.Ythembojamiagoaa.sloB Go.Proofs.Ythembojamiagoaa.sloC Go.Proofs.Ythembojamiagoaa.sloD Go.Proofs.Ythembojamiagoaa.sloF Go.Proofs.Ythembojamiagoaa.sloG Go.Proofs.Ythembojamiagoaa.sloH Go.Proofs.Ythembojamiagoaa.sloI
set_option linter.unusedVariables false
set_option linter.unusedSimpArgs false

/-- The pair at the place q has the number l; has it not. -/
def Yes (ids : List Pr) (l q : Int) : Prop := ∃ k : Nat, q = (k : Int) ∧ k < ids.length ∧ loc ids k = l
def No (ids : List Pr) (l q : Int) : Prop := q = -1 ∨ ∃ k : Nat, q = (k : Int) ∧ k < ids.length ∧ loc ids k ≠ l

inductive Seek (ids : List Pr) (l q1 q2 q3 : Int) (p1 p2 p3 : Option Addr) : Int → Int → Option Addr → Prop
  | two : Yes ids l q2 → Seek ids l q1 q2 q3 p1 p2 p3 q2 2 p2
  | three : No ids l q2 → Yes ids l q3 → Seek ids l q1 q2 q3 p1 p2 p3 q3 3 p3
  | one : No ids l q2 → No ids l q3 → Yes ids l q1 → Seek ids l q1 q2 q3 p1 p2 p3 q1 1 p1
  | none : No ids l q2 → No ids l q3 → No ids l q1 → Seek ids l q1 q2 q3 p1 p2 p3 (-1) 0 none

theorem Sd.part {w : World} {g o n cap : Nat} {ids : List Pr} (ha : All w g o n cap ids) {l q : Int} {p : Option Addr} (h : Sd ids q p) : (Yes ids l q ∧ ∃ b m, p = some ⟨b, 0, none⟩ ∧ PairAt w b l m) ∨ (No ids l q ∧ Miss w l p) := by
  rcases h with ⟨rfl, rfl⟩ | ⟨k, rfl, hk, rfl⟩
  · exact .inr ⟨.inl rfl, .inl rfl⟩
  · rcases Classical.em (loc ids k = l) with e | e
    · refine .inl ⟨⟨k, rfl, hk, e⟩, _, mad ids k, rfl, ?_⟩
      have := (ha.pairs k hk).1
      rwa [show loc ids k = l from e] at this
    · exact .inr ⟨.inr ⟨k, rfl, hk, e⟩, .inr ⟨_, _, _, rfl, (ha.pairs k hk).1, e⟩⟩

theorem find_seek (S : Nat) (p1 p2 p3 : Option Addr) (q1 q2 q3 l : Int) (w : World) (g o n cap : Nat) (ids : List Pr) (h : SlotsAt w S p1 p2 p3) (ha : All w g o n cap ids) (s1 : Sd ids q1 p1) (s2 : Sd ids q2 p2) (s3 : Sd ids q3 p3) :
    ∃ want inn P, Seek ids l q1 q2 q3 p1 p2 p3 want inn P ∧ Calls Try.prog 18 #[.pointer (some ⟨S, 0, none⟩), .int .u32 l] w fun e w' => e = .returned (.tuple #[.pointer P, .int .i64 inn]) ∧ Only (fun _ => False) w w' := by
  rcases Sd.part (l := l) ha s2 with ⟨y2, b, m, rfl, hp⟩ | ⟨n2, m2⟩
  · exact ⟨_, _, _, .two y2, find_2 S p1 p3 b m l w h hp⟩
  rcases Sd.part (l := l) ha s3 with ⟨y3, b, m, rfl, hp⟩ | ⟨n3, m3⟩
  · exact ⟨_, _, _, .three n2 y3, find_3 S p1 p2 b m l w h m2 hp⟩
  rcases Sd.part (l := l) ha s1 with ⟨y1, b, m, rfl, hp⟩ | ⟨n1, m1⟩
  · exact ⟨_, _, _, .one n2 n3 y1, find_1 S p2 p3 b m l w h m2 m3 hp⟩
  · exact ⟨_, _, _, .none n2 n3 n1, find_0 S p1 p2 p3 l w h m2 m3 m1⟩

def stp (ids : List Pr) (q x : Int) : Int := if 0 ≤ q then mx x (mad ids q.toNat) else x

theorem stp_neg (ids : List Pr) (x : Int) : stp ids (-1) x = x := if_neg (by decide)
theorem stp_k (ids : List Pr) (k : Nat) (x : Int) : stp ids (k : Int) x = mx x (mad ids k) := by
  rw [stp, if_pos (by omega), Int.toNat_natCast]
theorem stp_gt {ids : List Pr} {k : Nat} {x : Int} (h : x < mad ids k) : stp ids (k : Int) x = mad ids k := by rw [stp_k, mx, if_pos h]
theorem stp_le {ids : List Pr} {k : Nat} {x : Int} (h : ¬ x < mad ids k) : stp ids (k : Int) x = x := by rw [stp_k, mx, if_neg h]

theorem mk_of {w : World} {g o n cap : Nat} {ids : List Pr} (ha : All w g o n cap ids) {q : Int} {p : Option Addr} (h : Sd ids q p) : Mk w p (stp ids q) := by
  rcases h with ⟨rfl, rfl⟩ | ⟨k, rfl, hk, rfl⟩
  · exact .inl ⟨rfl, funext fun x => stp_neg ids x⟩
  · exact .inr ⟨_, _, _, rfl, (ha.pairs k hk).1, funext fun x => stp_k ids k x⟩

theorem newest_eq {w : World} {g o n cap : Nat} {ids : List Pr} (ha : All w g o n cap ids) {q1 q2 q3 : Int} {p1 p2 p3 : Option Addr} (s1 : Sd ids q1 p1) (s2 : Sd ids q2 p2) (s3 : Sd ids q3 p3) :
    ((p1.isSome || p2.isSome || p3.isSome) = true ∧ 0 ≤ stp ids q3 (stp ids q2 (stp ids q1 (-1))) ∧ stp ids q3 (stp ids q2 (stp ids q1 0)) = stp ids q3 (stp ids q2 (stp ids q1 (-1)))) ∨
    ((p1.isSome || p2.isSome || p3.isSome) = false ∧ stp ids q3 (stp ids q2 (stp ids q1 (-1))) = -1 ∧ stp ids q3 (stp ids q2 (stp ids q1 0)) = 0) := by
  rcases s1 with ⟨rfl, rfl⟩ | ⟨k1, rfl, h1, rfl⟩ <;> rcases s2 with ⟨rfl, rfl⟩ | ⟨k2, rfl, h2, rfl⟩ <;> rcases s3 with ⟨rfl, rfl⟩ | ⟨k3, rfl, h3, rfl⟩
  all_goals
    simp only [stp_neg, stp_k]
    (try have b1 := (ha.pairs k1 h1).2.1)
    (try have b2 := (ha.pairs k2 h2).2.1)
    (try have b3 := (ha.pairs k3 h3).2.1)
    first
      | exact .inr ⟨rfl, rfl, rfl⟩
      | (refine .inl ⟨rfl, ?_, ?_⟩ <;> simp only [mx] <;> (repeat' split) <;> omega)
      | (simp; done)

theorem sd_ptr {ids : List Pr} {k : Nat} {p : Option Addr} (h : Sd ids (k : Int) p) : p = some ⟨blk ids k, 0, none⟩ := by
  rcases h with ⟨h, _⟩ | ⟨j, h, _, rfl⟩
  · omega
  · have : j = k := by omega
    subst this
    rfl

set_option maxRecDepth 100000 in
set_option maxHeartbeats 4000000 in
theorem asked_true (S : Nat) (p1 p2 p3 : Option Addr) (q1 q2 q3 l now : Int) (w : World) (g o n cap : Nat) (ids : List Pr) (h : SlotsAt w S p1 p2 p3) (ha : All w g o n cap ids) (s1 : Sd ids q1 p1) (s2 : Sd ids q2 p2) (s3 : Sd ids q3 p3) :
    Calls Try.prog 17 #[.pointer (some ⟨S, 0, none⟩), .agg #[.int .i64 q1, .int .i64 q2, .int .i64 q3], .slice (some ⟨g, o, none⟩) n cap, .int .u32 l, .int .i64 now] w fun e w' => e = .returned (.bool true) ∧ Only (fun _ => False) w w' := by
  have O0 : Only (fun _ => False) w (w.alloc (.cells #[.int .i64 q1, .int .i64 q2, .int .i64 q3] 28)) := (Only.refl _ w).alloc _
  have b0 := heap_alloc_new w (.cells #[.int .i64 q1, .int .i64 q2, .int .i64 q3] 28)
  obtain ⟨W0, hW0⟩ : ∃ W0, W0 = w.alloc (.cells #[.int .i64 q1, .int .i64 q2, .int .i64 q3] 28) := ⟨_, rfl⟩
  rw [← hW0] at O0 b0
  have h' : SlotsAt W0 S p1 p2 p3 := O0.keep h id
  have ha' := ha.keep O0
  obtain ⟨want, inn, P, hseek, T⟩ := find_seek S p1 p2 p3 q1 q2 q3 l W0 g o n cap ids h' ha' s1 s2 s3
  rw [hW0] at T
  have HT := Lib.hid T
  have HS := Lib.hid hseek
  have HA := Lib.hid ha'
  have HSl := Lib.hid h'
  have Hs := Lib.hid (And.intro s1 (And.intro s2 s3))
  have HO := Lib.hid O0
  have HB := Lib.hid b0
  have HW := Lib.hid hW0
  clear hW0 T hseek ha' ha h h' s1 s2 s3 O0 b0
  go_enter Try.func17, Try.ntmps17
  go_wp2_with fail
  with_reducible refine HT.out.mono ?_
  rintro e w1 ⟨rfl, o1⟩
  rw [← HW.out] at o1
  have O1 := Lib.hid (HO.out.trans o1)
  have B1 := Lib.hid (o1.keep HB.out id)
  have A1 := Lib.hid (HA.out.keep o1)
  have S1 : Hid (SlotsAt w1 S p1 p2 p3) := Lib.hid (o1.keep HSl.out id)
  clear o1 HT HO HB HA HSl HW
  go_upto_block 0 with fail
  have b2 : (w1.alloc (.cells #[.int .i64 2, .int .i64 3, .int .i64 1] 3)).heap[w1.heap.size]? = some (.cells #[.int .i64 2, .int .i64 3, .int .i64 1] 3 (0, 0)) := heap_alloc_new _ _
  have o2 : Only (fun _ => False) w1 (w1.alloc (.cells #[.int .i64 2, .int .i64 3, .int .i64 1] 3)) := (Only.refl _ _).alloc _
  generalize w1.alloc (.cells #[.int .i64 2, .int .i64 3, .int .i64 1] 3) = w2 at b2 o2 ⊢
  generalize w1.heap.size = M at b2 ⊢
  have hcs := B1.out
  generalize w.heap.size = N at hcs ⊢
  have O2 := Lib.hid (O1.out.trans o2)
  have B2 := Lib.hid (o2.keep hcs id)
  have A2 := Lib.hid (A1.out.keep o2)
  have S2 : Hid (SlotsAt w2 S p1 p2 p3) := Lib.hid (o2.keep S1.out id)
  have D2 := Lib.hid b2
  clear b2 o2 hcs O1 B1 A1 S1
  go_cut [13, 14, 16, 17] (fun a b c d wx => a = .int .i64 want ∧ b = .int .i64 inn ∧ Only (fun _ => False) w2 wx)
  case first =>
    have R1 := Lib.hid ref_at1
    have R2 := Lib.hid ref_at2
    have R3 := Lib.hid ref_at3
    have HL := Lib.hid local_any
    have O := Lib.hid (Only.refl (fun _ => False) w2)
    go_wp2_with fail
    refine wp_loop_rounds 4 ?_
    have hs := HS.out
    clear HS
    cases hs with
    | two y2 =>
      obtain ⟨k2, rfl, h2, e2x⟩ := y2
      have bb := O.out.keep B2.out id
      have dd := O.out.keep D2.out id
      have e0 := cell_of (o := 0) bb
      have e1 := cell_of (o := 1) bb
      have e2 := cell_of (o := 2) bb
      have e3 := cell_of (o := 0) dd
      clear bb dd
      simp only [List.getElem?_toArray, List.getElem?_cons_zero, List.getElem?_cons_succ] at e0 e1 e2 e3
      rw [rounds_succ]
      go_wp2_with fail
      go_still_tail 5, (by kernel_rfl)
      go_wp2_with fail
      with_reducible refine (R2.out _ _ _ _).mono ?_
      rintro e w' ⟨rfl, o'⟩
      have O := Lib.hid (O.out.drew.trans o')
      clear o'
      have aa := A2.out.keep O.out
      have z := aa.cell k2 h2
      have hkn : k2 < n := by rw [aa.len]; exact h2
      have hki : (k2 : Int) < (n : Int) := by omega
      have hk0 : (0 ≤ (k2 : Int)) = True := eq_true (by omega)
      have L := Lib.hid (fun w'' (o : Only (fun _ => False) w' w'') => HL.out _ _ _ w'' ((aa.pairs k2 h2).1.keep o))
      clear aa
      rw [show loc ids k2 = l from e2x] at L
      go_wp2_with fail
      with_reducible refine (L.out _ (Only.refl _ _)).mono ?_
      rintro e w'' ⟨rfl, o'⟩
      have O := Lib.hid (O.out.trans o')
      clear o' L z
      go_wp2_with fail
      have e3 := cell_of (o := 0) (O.out.keep D2.out id)
      simp only [List.getElem?_toArray, List.getElem?_cons_zero, List.getElem?_cons_succ] at e3
      go_quiet (fail)
      go_wp2_with fail
      have kneg : ((k2 : Int) < 0) = False := eq_false (by omega)
      rw [rounds_succ]
      go_wp2_with fail
      go_meet
      exact ⟨rfl, rfl, O.out.drewN _⟩
    | three n2 y3 =>
      rcases n2 with rfl | ⟨k2, rfl, h2, e2x⟩
      ·
        have bb := O.out.keep B2.out id
        have dd := O.out.keep D2.out id
        have e0 := cell_of (o := 0) bb
        have e1 := cell_of (o := 1) bb
        have e2 := cell_of (o := 2) bb
        have e3 := cell_of (o := 0) dd
        clear bb dd
        simp only [List.getElem?_toArray, List.getElem?_cons_zero, List.getElem?_cons_succ] at e0 e1 e2 e3
        rw [rounds_succ]
        go_wp2_with fail
        go_still_tail 5, (by kernel_rfl)
        go_wp2_with fail
        with_reducible refine (R2.out _ _ _ _).mono ?_
        rintro e w' ⟨rfl, o'⟩
        have O := Lib.hid (O.out.drew.trans o')
        clear o'
        go_wp2_with fail
        obtain ⟨k3, rfl, h3, e3x⟩ := y3
        have bb := O.out.keep B2.out id
        have dd := O.out.keep D2.out id
        have e0 := cell_of (o := 0) bb
        have e1 := cell_of (o := 1) bb
        have e2 := cell_of (o := 2) bb
        have e3 := cell_of (o := 1) dd
        clear bb dd
        simp only [List.getElem?_toArray, List.getElem?_cons_zero, List.getElem?_cons_succ] at e0 e1 e2 e3
        rw [rounds_succ]
        go_wp2_with fail
        go_still_tail 5, (by kernel_rfl)
        go_wp2_with fail
        with_reducible refine (R3.out _ _ _ _).mono ?_
        rintro e w' ⟨rfl, o'⟩
        have O := Lib.hid (O.out.drew.trans o')
        clear o'
        have aa := A2.out.keep O.out
        have z := aa.cell k3 h3
        have hkn : k3 < n := by rw [aa.len]; exact h3
        have hki : (k3 : Int) < (n : Int) := by omega
        have hk0 : (0 ≤ (k3 : Int)) = True := eq_true (by omega)
        have L := Lib.hid (fun w'' (o : Only (fun _ => False) w' w'') => HL.out _ _ _ w'' ((aa.pairs k3 h3).1.keep o))
        clear aa
        rw [show loc ids k3 = l from e3x] at L
        go_wp2_with fail
        with_reducible refine (L.out _ (Only.refl _ _)).mono ?_
        rintro e w'' ⟨rfl, o'⟩
        have O := Lib.hid (O.out.trans o')
        clear o' L z
        go_wp2_with fail
        have e3 := cell_of (o := 1) (O.out.keep D2.out id)
        simp only [List.getElem?_toArray, List.getElem?_cons_zero, List.getElem?_cons_succ] at e3
        go_quiet (fail)
        go_wp2_with fail
        have kneg : ((k3 : Int) < 0) = False := eq_false (by omega)
        rw [rounds_succ]
        go_wp2_with fail
        go_meet
        exact ⟨rfl, rfl, O.out.drewN _⟩
      ·
        have bb := O.out.keep B2.out id
        have dd := O.out.keep D2.out id
        have e0 := cell_of (o := 0) bb
        have e1 := cell_of (o := 1) bb
        have e2 := cell_of (o := 2) bb
        have e3 := cell_of (o := 0) dd
        clear bb dd
        simp only [List.getElem?_toArray, List.getElem?_cons_zero, List.getElem?_cons_succ] at e0 e1 e2 e3
        rw [rounds_succ]
        go_wp2_with fail
        go_still_tail 5, (by kernel_rfl)
        go_wp2_with fail
        with_reducible refine (R2.out _ _ _ _).mono ?_
        rintro e w' ⟨rfl, o'⟩
        have O := Lib.hid (O.out.drew.trans o')
        clear o'
        have aa := A2.out.keep O.out
        have z := aa.cell k2 h2
        have hkn : k2 < n := by rw [aa.len]; exact h2
        have hki : (k2 : Int) < (n : Int) := by omega
        have hk0 : (0 ≤ (k2 : Int)) = True := eq_true (by omega)
        have L := Lib.hid (fun w'' (o : Only (fun _ => False) w' w'') => HL.out _ _ _ w'' ((aa.pairs k2 h2).1.keep o))
        clear aa
        have kq : (loc ids k2 == l) = false := beq_false_of_ne e2x
        go_wp2_with fail
        with_reducible refine (L.out _ (Only.refl _ _)).mono ?_
        rintro e w'' ⟨rfl, o'⟩
        have O := Lib.hid (O.out.trans o')
        clear o' L z
        go_wp2_with fail
        obtain ⟨k3, rfl, h3, e3x⟩ := y3
        have bb := O.out.keep B2.out id
        have dd := O.out.keep D2.out id
        have e0 := cell_of (o := 0) bb
        have e1 := cell_of (o := 1) bb
        have e2 := cell_of (o := 2) bb
        have e3 := cell_of (o := 1) dd
        clear bb dd
        simp only [List.getElem?_toArray, List.getElem?_cons_zero, List.getElem?_cons_succ] at e0 e1 e2 e3
        rw [rounds_succ]
        go_wp2_with fail
        go_still_tail 5, (by kernel_rfl)
        go_wp2_with fail
        with_reducible refine (R3.out _ _ _ _).mono ?_
        rintro e w' ⟨rfl, o'⟩
        have O := Lib.hid (O.out.drew.trans o')
        clear o'
        have aa := A2.out.keep O.out
        have z := aa.cell k3 h3
        have hkn : k3 < n := by rw [aa.len]; exact h3
        have hki : (k3 : Int) < (n : Int) := by omega
        have hk0 : (0 ≤ (k3 : Int)) = True := eq_true (by omega)
        have L := Lib.hid (fun w'' (o : Only (fun _ => False) w' w'') => HL.out _ _ _ w'' ((aa.pairs k3 h3).1.keep o))
        clear aa
        rw [show loc ids k3 = l from e3x] at L
        go_wp2_with fail
        with_reducible refine (L.out _ (Only.refl _ _)).mono ?_
        rintro e w'' ⟨rfl, o'⟩
        have O := Lib.hid (O.out.trans o')
        clear o' L z
        go_wp2_with fail
        have e3 := cell_of (o := 1) (O.out.keep D2.out id)
        simp only [List.getElem?_toArray, List.getElem?_cons_zero, List.getElem?_cons_succ] at e3
        go_quiet (fail)
        go_wp2_with fail
        have kneg : ((k3 : Int) < 0) = False := eq_false (by omega)
        rw [rounds_succ]
        go_wp2_with fail
        go_meet
        exact ⟨rfl, rfl, O.out.drewN _⟩
    | one n2 n3 y1 =>
      rcases n2 with rfl | ⟨k2, rfl, h2, e2x⟩
      ·
        have bb := O.out.keep B2.out id
        have dd := O.out.keep D2.out id
        have e0 := cell_of (o := 0) bb
        have e1 := cell_of (o := 1) bb
        have e2 := cell_of (o := 2) bb
        have e3 := cell_of (o := 0) dd
        clear bb dd
        simp only [List.getElem?_toArray, List.getElem?_cons_zero, List.getElem?_cons_succ] at e0 e1 e2 e3
        rw [rounds_succ]
        go_wp2_with fail
        go_still_tail 5, (by kernel_rfl)
        go_wp2_with fail
        with_reducible refine (R2.out _ _ _ _).mono ?_
        rintro e w' ⟨rfl, o'⟩
        have O := Lib.hid (O.out.drew.trans o')
        clear o'
        go_wp2_with fail
        rcases n3 with rfl | ⟨k3, rfl, h3, e3x⟩
        ·
          have bb := O.out.keep B2.out id
          have dd := O.out.keep D2.out id
          have e0 := cell_of (o := 0) bb
          have e1 := cell_of (o := 1) bb
          have e2 := cell_of (o := 2) bb
          have e3 := cell_of (o := 1) dd
          clear bb dd
          simp only [List.getElem?_toArray, List.getElem?_cons_zero, List.getElem?_cons_succ] at e0 e1 e2 e3
          rw [rounds_succ]
          go_wp2_with fail
          go_still_tail 5, (by kernel_rfl)
          go_wp2_with fail
          with_reducible refine (R3.out _ _ _ _).mono ?_
          rintro e w' ⟨rfl, o'⟩
          have O := Lib.hid (O.out.drew.trans o')
          clear o'
          go_wp2_with fail
          obtain ⟨k1, rfl, h1, e1x⟩ := y1
          have bb := O.out.keep B2.out id
          have dd := O.out.keep D2.out id
          have e0 := cell_of (o := 0) bb
          have e1 := cell_of (o := 1) bb
          have e2 := cell_of (o := 2) bb
          have e3 := cell_of (o := 2) dd
          clear bb dd
          simp only [List.getElem?_toArray, List.getElem?_cons_zero, List.getElem?_cons_succ] at e0 e1 e2 e3
          rw [rounds_succ]
          go_wp2_with fail
          go_still_tail 5, (by kernel_rfl)
          go_wp2_with fail
          with_reducible refine (R1.out _ _ _ _).mono ?_
          rintro e w' ⟨rfl, o'⟩
          have O := Lib.hid (O.out.drew.trans o')
          clear o'
          have aa := A2.out.keep O.out
          have z := aa.cell k1 h1
          have hkn : k1 < n := by rw [aa.len]; exact h1
          have hki : (k1 : Int) < (n : Int) := by omega
          have hk0 : (0 ≤ (k1 : Int)) = True := eq_true (by omega)
          have L := Lib.hid (fun w'' (o : Only (fun _ => False) w' w'') => HL.out _ _ _ w'' ((aa.pairs k1 h1).1.keep o))
          clear aa
          rw [show loc ids k1 = l from e1x] at L
          go_wp2_with fail
          with_reducible refine (L.out _ (Only.refl _ _)).mono ?_
          rintro e w'' ⟨rfl, o'⟩
          have O := Lib.hid (O.out.trans o')
          clear o' L z
          go_wp2_with fail
          have e3 := cell_of (o := 2) (O.out.keep D2.out id)
          simp only [List.getElem?_toArray, List.getElem?_cons_zero, List.getElem?_cons_succ] at e3
          go_quiet (fail)
          go_wp2_with fail
          have kneg : ((k1 : Int) < 0) = False := eq_false (by omega)
          rw [rounds_succ]
          go_wp2_with fail
          go_meet
          exact ⟨rfl, rfl, O.out.drewN _⟩
        ·
          have bb := O.out.keep B2.out id
          have dd := O.out.keep D2.out id
          have e0 := cell_of (o := 0) bb
          have e1 := cell_of (o := 1) bb
          have e2 := cell_of (o := 2) bb
          have e3 := cell_of (o := 1) dd
          clear bb dd
          simp only [List.getElem?_toArray, List.getElem?_cons_zero, List.getElem?_cons_succ] at e0 e1 e2 e3
          rw [rounds_succ]
          go_wp2_with fail
          go_still_tail 5, (by kernel_rfl)
          go_wp2_with fail
          with_reducible refine (R3.out _ _ _ _).mono ?_
          rintro e w' ⟨rfl, o'⟩
          have O := Lib.hid (O.out.drew.trans o')
          clear o'
          have aa := A2.out.keep O.out
          have z := aa.cell k3 h3
          have hkn : k3 < n := by rw [aa.len]; exact h3
          have hki : (k3 : Int) < (n : Int) := by omega
          have hk0 : (0 ≤ (k3 : Int)) = True := eq_true (by omega)
          have L := Lib.hid (fun w'' (o : Only (fun _ => False) w' w'') => HL.out _ _ _ w'' ((aa.pairs k3 h3).1.keep o))
          clear aa
          have kq : (loc ids k3 == l) = false := beq_false_of_ne e3x
          go_wp2_with fail
          with_reducible refine (L.out _ (Only.refl _ _)).mono ?_
          rintro e w'' ⟨rfl, o'⟩
          have O := Lib.hid (O.out.trans o')
          clear o' L z
          go_wp2_with fail
          obtain ⟨k1, rfl, h1, e1x⟩ := y1
          have bb := O.out.keep B2.out id
          have dd := O.out.keep D2.out id
          have e0 := cell_of (o := 0) bb
          have e1 := cell_of (o := 1) bb
          have e2 := cell_of (o := 2) bb
          have e3 := cell_of (o := 2) dd
          clear bb dd
          simp only [List.getElem?_toArray, List.getElem?_cons_zero, List.getElem?_cons_succ] at e0 e1 e2 e3
          rw [rounds_succ]
          go_wp2_with fail
          go_still_tail 5, (by kernel_rfl)
          go_wp2_with fail
          with_reducible refine (R1.out _ _ _ _).mono ?_
          rintro e w' ⟨rfl, o'⟩
          have O := Lib.hid (O.out.drew.trans o')
          clear o'
          have aa := A2.out.keep O.out
          have z := aa.cell k1 h1
          have hkn : k1 < n := by rw [aa.len]; exact h1
          have hki : (k1 : Int) < (n : Int) := by omega
          have hk0 : (0 ≤ (k1 : Int)) = True := eq_true (by omega)
          have L := Lib.hid (fun w'' (o : Only (fun _ => False) w' w'') => HL.out _ _ _ w'' ((aa.pairs k1 h1).1.keep o))
          clear aa
          rw [show loc ids k1 = l from e1x] at L
          go_wp2_with fail
          with_reducible refine (L.out _ (Only.refl _ _)).mono ?_
          rintro e w'' ⟨rfl, o'⟩
          have O := Lib.hid (O.out.trans o')
          clear o' L z
          go_wp2_with fail
          have e3 := cell_of (o := 2) (O.out.keep D2.out id)
          simp only [List.getElem?_toArray, List.getElem?_cons_zero, List.getElem?_cons_succ] at e3
          go_quiet (fail)
          go_wp2_with fail
          have kneg : ((k1 : Int) < 0) = False := eq_false (by omega)
          rw [rounds_succ]
          go_wp2_with fail
          go_meet
          exact ⟨rfl, rfl, O.out.drewN _⟩
      ·
        have bb := O.out.keep B2.out id
        have dd := O.out.keep D2.out id
        have e0 := cell_of (o := 0) bb
        have e1 := cell_of (o := 1) bb
        have e2 := cell_of (o := 2) bb
        have e3 := cell_of (o := 0) dd
        clear bb dd
        simp only [List.getElem?_toArray, List.getElem?_cons_zero, List.getElem?_cons_succ] at e0 e1 e2 e3
        rw [rounds_succ]
        go_wp2_with fail
        go_still_tail 5, (by kernel_rfl)
        go_wp2_with fail
        with_reducible refine (R2.out _ _ _ _).mono ?_
        rintro e w' ⟨rfl, o'⟩
        have O := Lib.hid (O.out.drew.trans o')
        clear o'
        have aa := A2.out.keep O.out
        have z := aa.cell k2 h2
        have hkn : k2 < n := by rw [aa.len]; exact h2
        have hki : (k2 : Int) < (n : Int) := by omega
        have hk0 : (0 ≤ (k2 : Int)) = True := eq_true (by omega)
        have L := Lib.hid (fun w'' (o : Only (fun _ => False) w' w'') => HL.out _ _ _ w'' ((aa.pairs k2 h2).1.keep o))
        clear aa
        have kq : (loc ids k2 == l) = false := beq_false_of_ne e2x
        go_wp2_with fail
        with_reducible refine (L.out _ (Only.refl _ _)).mono ?_
        rintro e w'' ⟨rfl, o'⟩
        have O := Lib.hid (O.out.trans o')
        clear o' L z
        go_wp2_with fail
        rcases n3 with rfl | ⟨k3, rfl, h3, e3x⟩
        ·
          have bb := O.out.keep B2.out id
          have dd := O.out.keep D2.out id
          have e0 := cell_of (o := 0) bb
          have e1 := cell_of (o := 1) bb
          have e2 := cell_of (o := 2) bb
          have e3 := cell_of (o := 1) dd
          clear bb dd
          simp only [List.getElem?_toArray, List.getElem?_cons_zero, List.getElem?_cons_succ] at e0 e1 e2 e3
          rw [rounds_succ]
          go_wp2_with fail
          go_still_tail 5, (by kernel_rfl)
          go_wp2_with fail
          with_reducible refine (R3.out _ _ _ _).mono ?_
          rintro e w' ⟨rfl, o'⟩
          have O := Lib.hid (O.out.drew.trans o')
          clear o'
          go_wp2_with fail
          obtain ⟨k1, rfl, h1, e1x⟩ := y1
          have bb := O.out.keep B2.out id
          have dd := O.out.keep D2.out id
          have e0 := cell_of (o := 0) bb
          have e1 := cell_of (o := 1) bb
          have e2 := cell_of (o := 2) bb
          have e3 := cell_of (o := 2) dd
          clear bb dd
          simp only [List.getElem?_toArray, List.getElem?_cons_zero, List.getElem?_cons_succ] at e0 e1 e2 e3
          rw [rounds_succ]
          go_wp2_with fail
          go_still_tail 5, (by kernel_rfl)
          go_wp2_with fail
          with_reducible refine (R1.out _ _ _ _).mono ?_
          rintro e w' ⟨rfl, o'⟩
          have O := Lib.hid (O.out.drew.trans o')
          clear o'
          have aa := A2.out.keep O.out
          have z := aa.cell k1 h1
          have hkn : k1 < n := by rw [aa.len]; exact h1
          have hki : (k1 : Int) < (n : Int) := by omega
          have hk0 : (0 ≤ (k1 : Int)) = True := eq_true (by omega)
          have L := Lib.hid (fun w'' (o : Only (fun _ => False) w' w'') => HL.out _ _ _ w'' ((aa.pairs k1 h1).1.keep o))
          clear aa
          rw [show loc ids k1 = l from e1x] at L
          go_wp2_with fail
          with_reducible refine (L.out _ (Only.refl _ _)).mono ?_
          rintro e w'' ⟨rfl, o'⟩
          have O := Lib.hid (O.out.trans o')
          clear o' L z
          go_wp2_with fail
          have e3 := cell_of (o := 2) (O.out.keep D2.out id)
          simp only [List.getElem?_toArray, List.getElem?_cons_zero, List.getElem?_cons_succ] at e3
          go_quiet (fail)
          go_wp2_with fail
          have kneg : ((k1 : Int) < 0) = False := eq_false (by omega)
          rw [rounds_succ]
          go_wp2_with fail
          go_meet
          exact ⟨rfl, rfl, O.out.drewN _⟩
        ·
          have bb := O.out.keep B2.out id
          have dd := O.out.keep D2.out id
          have e0 := cell_of (o := 0) bb
          have e1 := cell_of (o := 1) bb
          have e2 := cell_of (o := 2) bb
          have e3 := cell_of (o := 1) dd
          clear bb dd
          simp only [List.getElem?_toArray, List.getElem?_cons_zero, List.getElem?_cons_succ] at e0 e1 e2 e3
          rw [rounds_succ]
          go_wp2_with fail
          go_still_tail 5, (by kernel_rfl)
          go_wp2_with fail
          with_reducible refine (R3.out _ _ _ _).mono ?_
          rintro e w' ⟨rfl, o'⟩
          have O := Lib.hid (O.out.drew.trans o')
          clear o'
          have aa := A2.out.keep O.out
          have z := aa.cell k3 h3
          have hkn : k3 < n := by rw [aa.len]; exact h3
          have hki : (k3 : Int) < (n : Int) := by omega
          have hk0 : (0 ≤ (k3 : Int)) = True := eq_true (by omega)
          have L := Lib.hid (fun w'' (o : Only (fun _ => False) w' w'') => HL.out _ _ _ w'' ((aa.pairs k3 h3).1.keep o))
          clear aa
          have kq : (loc ids k3 == l) = false := beq_false_of_ne e3x
          go_wp2_with fail
          with_reducible refine (L.out _ (Only.refl _ _)).mono ?_
          rintro e w'' ⟨rfl, o'⟩
          have O := Lib.hid (O.out.trans o')
          clear o' L z
          go_wp2_with fail
          obtain ⟨k1, rfl, h1, e1x⟩ := y1
          have bb := O.out.keep B2.out id
          have dd := O.out.keep D2.out id
          have e0 := cell_of (o := 0) bb
          have e1 := cell_of (o := 1) bb
          have e2 := cell_of (o := 2) bb
          have e3 := cell_of (o := 2) dd
          clear bb dd
          simp only [List.getElem?_toArray, List.getElem?_cons_zero, List.getElem?_cons_succ] at e0 e1 e2 e3
          rw [rounds_succ]
          go_wp2_with fail
          go_still_tail 5, (by kernel_rfl)
          go_wp2_with fail
          with_reducible refine (R1.out _ _ _ _).mono ?_
          rintro e w' ⟨rfl, o'⟩
          have O := Lib.hid (O.out.drew.trans o')
          clear o'
          have aa := A2.out.keep O.out
          have z := aa.cell k1 h1
          have hkn : k1 < n := by rw [aa.len]; exact h1
          have hki : (k1 : Int) < (n : Int) := by omega
          have hk0 : (0 ≤ (k1 : Int)) = True := eq_true (by omega)
          have L := Lib.hid (fun w'' (o : Only (fun _ => False) w' w'') => HL.out _ _ _ w'' ((aa.pairs k1 h1).1.keep o))
          clear aa
          rw [show loc ids k1 = l from e1x] at L
          go_wp2_with fail
          with_reducible refine (L.out _ (Only.refl _ _)).mono ?_
          rintro e w'' ⟨rfl, o'⟩
          have O := Lib.hid (O.out.trans o')
          clear o' L z
          go_wp2_with fail
          have e3 := cell_of (o := 2) (O.out.keep D2.out id)
          simp only [List.getElem?_toArray, List.getElem?_cons_zero, List.getElem?_cons_succ] at e3
          go_quiet (fail)
          go_wp2_with fail
          have kneg : ((k1 : Int) < 0) = False := eq_false (by omega)
          rw [rounds_succ]
          go_wp2_with fail
          go_meet
          exact ⟨rfl, rfl, O.out.drewN _⟩
    | none n2 n3 n1 =>
      rcases n2 with rfl | ⟨k2, rfl, h2, e2x⟩
      ·
        have bb := O.out.keep B2.out id
        have dd := O.out.keep D2.out id
        have e0 := cell_of (o := 0) bb
        have e1 := cell_of (o := 1) bb
        have e2 := cell_of (o := 2) bb
        have e3 := cell_of (o := 0) dd
        clear bb dd
        simp only [List.getElem?_toArray, List.getElem?_cons_zero, List.getElem?_cons_succ] at e0 e1 e2 e3
        rw [rounds_succ]
        go_wp2_with fail
        go_still_tail 5, (by kernel_rfl)
        go_wp2_with fail
        with_reducible refine (R2.out _ _ _ _).mono ?_
        rintro e w' ⟨rfl, o'⟩
        have O := Lib.hid (O.out.drew.trans o')
        clear o'
        go_wp2_with fail
        rcases n3 with rfl | ⟨k3, rfl, h3, e3x⟩
        ·
          have bb := O.out.keep B2.out id
          have dd := O.out.keep D2.out id
          have e0 := cell_of (o := 0) bb
          have e1 := cell_of (o := 1) bb
          have e2 := cell_of (o := 2) bb
          have e3 := cell_of (o := 1) dd
          clear bb dd
          simp only [List.getElem?_toArray, List.getElem?_cons_zero, List.getElem?_cons_succ] at e0 e1 e2 e3
          rw [rounds_succ]
          go_wp2_with fail
          go_still_tail 5, (by kernel_rfl)
          go_wp2_with fail
          with_reducible refine (R3.out _ _ _ _).mono ?_
          rintro e w' ⟨rfl, o'⟩
          have O := Lib.hid (O.out.drew.trans o')
          clear o'
          go_wp2_with fail
          rcases n1 with rfl | ⟨k1, rfl, h1, e1x⟩
          ·
            have bb := O.out.keep B2.out id
            have dd := O.out.keep D2.out id
            have e0 := cell_of (o := 0) bb
            have e1 := cell_of (o := 1) bb
            have e2 := cell_of (o := 2) bb
            have e3 := cell_of (o := 2) dd
            clear bb dd
            simp only [List.getElem?_toArray, List.getElem?_cons_zero, List.getElem?_cons_succ] at e0 e1 e2 e3
            rw [rounds_succ]
            go_wp2_with fail
            go_still_tail 5, (by kernel_rfl)
            go_wp2_with fail
            with_reducible refine (R1.out _ _ _ _).mono ?_
            rintro e w' ⟨rfl, o'⟩
            have O := Lib.hid (O.out.drew.trans o')
            clear o'
            go_wp2_with fail
            rw [rounds_succ]
            go_wp2_with fail
            go_meet
            exact ⟨rfl, rfl, O.out⟩
          ·
            have bb := O.out.keep B2.out id
            have dd := O.out.keep D2.out id
            have e0 := cell_of (o := 0) bb
            have e1 := cell_of (o := 1) bb
            have e2 := cell_of (o := 2) bb
            have e3 := cell_of (o := 2) dd
            clear bb dd
            simp only [List.getElem?_toArray, List.getElem?_cons_zero, List.getElem?_cons_succ] at e0 e1 e2 e3
            rw [rounds_succ]
            go_wp2_with fail
            go_still_tail 5, (by kernel_rfl)
            go_wp2_with fail
            with_reducible refine (R1.out _ _ _ _).mono ?_
            rintro e w' ⟨rfl, o'⟩
            have O := Lib.hid (O.out.drew.trans o')
            clear o'
            have aa := A2.out.keep O.out
            have z := aa.cell k1 h1
            have hkn : k1 < n := by rw [aa.len]; exact h1
            have hki : (k1 : Int) < (n : Int) := by omega
            have hk0 : (0 ≤ (k1 : Int)) = True := eq_true (by omega)
            have L := Lib.hid (fun w'' (o : Only (fun _ => False) w' w'') => HL.out _ _ _ w'' ((aa.pairs k1 h1).1.keep o))
            clear aa
            have kq : (loc ids k1 == l) = false := beq_false_of_ne e1x
            go_wp2_with fail
            with_reducible refine (L.out _ (Only.refl _ _)).mono ?_
            rintro e w'' ⟨rfl, o'⟩
            have O := Lib.hid (O.out.trans o')
            clear o' L z
            go_wp2_with fail
            rw [rounds_succ]
            go_wp2_with fail
            go_meet
            exact ⟨rfl, rfl, O.out⟩
        ·
          have bb := O.out.keep B2.out id
          have dd := O.out.keep D2.out id
          have e0 := cell_of (o := 0) bb
          have e1 := cell_of (o := 1) bb
          have e2 := cell_of (o := 2) bb
          have e3 := cell_of (o := 1) dd
          clear bb dd
          simp only [List.getElem?_toArray, List.getElem?_cons_zero, List.getElem?_cons_succ] at e0 e1 e2 e3
          rw [rounds_succ]
          go_wp2_with fail
          go_still_tail 5, (by kernel_rfl)
          go_wp2_with fail
          with_reducible refine (R3.out _ _ _ _).mono ?_
          rintro e w' ⟨rfl, o'⟩
          have O := Lib.hid (O.out.drew.trans o')
          clear o'
          have aa := A2.out.keep O.out
          have z := aa.cell k3 h3
          have hkn : k3 < n := by rw [aa.len]; exact h3
          have hki : (k3 : Int) < (n : Int) := by omega
          have hk0 : (0 ≤ (k3 : Int)) = True := eq_true (by omega)
          have L := Lib.hid (fun w'' (o : Only (fun _ => False) w' w'') => HL.out _ _ _ w'' ((aa.pairs k3 h3).1.keep o))
          clear aa
          have kq : (loc ids k3 == l) = false := beq_false_of_ne e3x
          go_wp2_with fail
          with_reducible refine (L.out _ (Only.refl _ _)).mono ?_
          rintro e w'' ⟨rfl, o'⟩
          have O := Lib.hid (O.out.trans o')
          clear o' L z
          go_wp2_with fail
          rcases n1 with rfl | ⟨k1, rfl, h1, e1x⟩
          ·
            have bb := O.out.keep B2.out id
            have dd := O.out.keep D2.out id
            have e0 := cell_of (o := 0) bb
            have e1 := cell_of (o := 1) bb
            have e2 := cell_of (o := 2) bb
            have e3 := cell_of (o := 2) dd
            clear bb dd
            simp only [List.getElem?_toArray, List.getElem?_cons_zero, List.getElem?_cons_succ] at e0 e1 e2 e3
            rw [rounds_succ]
            go_wp2_with fail
            go_still_tail 5, (by kernel_rfl)
            go_wp2_with fail
            with_reducible refine (R1.out _ _ _ _).mono ?_
            rintro e w' ⟨rfl, o'⟩
            have O := Lib.hid (O.out.drew.trans o')
            clear o'
            go_wp2_with fail
            rw [rounds_succ]
            go_wp2_with fail
            go_meet
            exact ⟨rfl, rfl, O.out⟩
          ·
            have bb := O.out.keep B2.out id
            have dd := O.out.keep D2.out id
            have e0 := cell_of (o := 0) bb
            have e1 := cell_of (o := 1) bb
            have e2 := cell_of (o := 2) bb
            have e3 := cell_of (o := 2) dd
            clear bb dd
            simp only [List.getElem?_toArray, List.getElem?_cons_zero, List.getElem?_cons_succ] at e0 e1 e2 e3
            rw [rounds_succ]
            go_wp2_with fail
            go_still_tail 5, (by kernel_rfl)
            go_wp2_with fail
            with_reducible refine (R1.out _ _ _ _).mono ?_
            rintro e w' ⟨rfl, o'⟩
            have O := Lib.hid (O.out.drew.trans o')
            clear o'
            have aa := A2.out.keep O.out
            have z := aa.cell k1 h1
            have hkn : k1 < n := by rw [aa.len]; exact h1
            have hki : (k1 : Int) < (n : Int) := by omega
            have hk0 : (0 ≤ (k1 : Int)) = True := eq_true (by omega)
            have L := Lib.hid (fun w'' (o : Only (fun _ => False) w' w'') => HL.out _ _ _ w'' ((aa.pairs k1 h1).1.keep o))
            clear aa
            have kq : (loc ids k1 == l) = false := beq_false_of_ne e1x
            go_wp2_with fail
            with_reducible refine (L.out _ (Only.refl _ _)).mono ?_
            rintro e w'' ⟨rfl, o'⟩
            have O := Lib.hid (O.out.trans o')
            clear o' L z
            go_wp2_with fail
            rw [rounds_succ]
            go_wp2_with fail
            go_meet
            exact ⟨rfl, rfl, O.out⟩
      ·
        have bb := O.out.keep B2.out id
        have dd := O.out.keep D2.out id
        have e0 := cell_of (o := 0) bb
        have e1 := cell_of (o := 1) bb
        have e2 := cell_of (o := 2) bb
        have e3 := cell_of (o := 0) dd
        clear bb dd
        simp only [List.getElem?_toArray, List.getElem?_cons_zero, List.getElem?_cons_succ] at e0 e1 e2 e3
        rw [rounds_succ]
        go_wp2_with fail
        go_still_tail 5, (by kernel_rfl)
        go_wp2_with fail
        with_reducible refine (R2.out _ _ _ _).mono ?_
        rintro e w' ⟨rfl, o'⟩
        have O := Lib.hid (O.out.drew.trans o')
        clear o'
        have aa := A2.out.keep O.out
        have z := aa.cell k2 h2
        have hkn : k2 < n := by rw [aa.len]; exact h2
        have hki : (k2 : Int) < (n : Int) := by omega
        have hk0 : (0 ≤ (k2 : Int)) = True := eq_true (by omega)
        have L := Lib.hid (fun w'' (o : Only (fun _ => False) w' w'') => HL.out _ _ _ w'' ((aa.pairs k2 h2).1.keep o))
        clear aa
        have kq : (loc ids k2 == l) = false := beq_false_of_ne e2x
        go_wp2_with fail
        with_reducible refine (L.out _ (Only.refl _ _)).mono ?_
        rintro e w'' ⟨rfl, o'⟩
        have O := Lib.hid (O.out.trans o')
        clear o' L z
        go_wp2_with fail
        rcases n3 with rfl | ⟨k3, rfl, h3, e3x⟩
        ·
          have bb := O.out.keep B2.out id
          have dd := O.out.keep D2.out id
          have e0 := cell_of (o := 0) bb
          have e1 := cell_of (o := 1) bb
          have e2 := cell_of (o := 2) bb
          have e3 := cell_of (o := 1) dd
          clear bb dd
          simp only [List.getElem?_toArray, List.getElem?_cons_zero, List.getElem?_cons_succ] at e0 e1 e2 e3
          rw [rounds_succ]
          go_wp2_with fail
          go_still_tail 5, (by kernel_rfl)
          go_wp2_with fail
          with_reducible refine (R3.out _ _ _ _).mono ?_
          rintro e w' ⟨rfl, o'⟩
          have O := Lib.hid (O.out.drew.trans o')
          clear o'
          go_wp2_with fail
          rcases n1 with rfl | ⟨k1, rfl, h1, e1x⟩
          ·
            have bb := O.out.keep B2.out id
            have dd := O.out.keep D2.out id
            have e0 := cell_of (o := 0) bb
            have e1 := cell_of (o := 1) bb
            have e2 := cell_of (o := 2) bb
            have e3 := cell_of (o := 2) dd
            clear bb dd
            simp only [List.getElem?_toArray, List.getElem?_cons_zero, List.getElem?_cons_succ] at e0 e1 e2 e3
            rw [rounds_succ]
            go_wp2_with fail
            go_still_tail 5, (by kernel_rfl)
            go_wp2_with fail
            with_reducible refine (R1.out _ _ _ _).mono ?_
            rintro e w' ⟨rfl, o'⟩
            have O := Lib.hid (O.out.drew.trans o')
            clear o'
            go_wp2_with fail
            rw [rounds_succ]
            go_wp2_with fail
            go_meet
            exact ⟨rfl, rfl, O.out⟩
          ·
            have bb := O.out.keep B2.out id
            have dd := O.out.keep D2.out id
            have e0 := cell_of (o := 0) bb
            have e1 := cell_of (o := 1) bb
            have e2 := cell_of (o := 2) bb
            have e3 := cell_of (o := 2) dd
            clear bb dd
            simp only [List.getElem?_toArray, List.getElem?_cons_zero, List.getElem?_cons_succ] at e0 e1 e2 e3
            rw [rounds_succ]
            go_wp2_with fail
            go_still_tail 5, (by kernel_rfl)
            go_wp2_with fail
            with_reducible refine (R1.out _ _ _ _).mono ?_
            rintro e w' ⟨rfl, o'⟩
            have O := Lib.hid (O.out.drew.trans o')
            clear o'
            have aa := A2.out.keep O.out
            have z := aa.cell k1 h1
            have hkn : k1 < n := by rw [aa.len]; exact h1
            have hki : (k1 : Int) < (n : Int) := by omega
            have hk0 : (0 ≤ (k1 : Int)) = True := eq_true (by omega)
            have L := Lib.hid (fun w'' (o : Only (fun _ => False) w' w'') => HL.out _ _ _ w'' ((aa.pairs k1 h1).1.keep o))
            clear aa
            have kq : (loc ids k1 == l) = false := beq_false_of_ne e1x
            go_wp2_with fail
            with_reducible refine (L.out _ (Only.refl _ _)).mono ?_
            rintro e w'' ⟨rfl, o'⟩
            have O := Lib.hid (O.out.trans o')
            clear o' L z
            go_wp2_with fail
            rw [rounds_succ]
            go_wp2_with fail
            go_meet
            exact ⟨rfl, rfl, O.out⟩
        ·
          have bb := O.out.keep B2.out id
          have dd := O.out.keep D2.out id
          have e0 := cell_of (o := 0) bb
          have e1 := cell_of (o := 1) bb
          have e2 := cell_of (o := 2) bb
          have e3 := cell_of (o := 1) dd
          clear bb dd
          simp only [List.getElem?_toArray, List.getElem?_cons_zero, List.getElem?_cons_succ] at e0 e1 e2 e3
          rw [rounds_succ]
          go_wp2_with fail
          go_still_tail 5, (by kernel_rfl)
          go_wp2_with fail
          with_reducible refine (R3.out _ _ _ _).mono ?_
          rintro e w' ⟨rfl, o'⟩
          have O := Lib.hid (O.out.drew.trans o')
          clear o'
          have aa := A2.out.keep O.out
          have z := aa.cell k3 h3
          have hkn : k3 < n := by rw [aa.len]; exact h3
          have hki : (k3 : Int) < (n : Int) := by omega
          have hk0 : (0 ≤ (k3 : Int)) = True := eq_true (by omega)
          have L := Lib.hid (fun w'' (o : Only (fun _ => False) w' w'') => HL.out _ _ _ w'' ((aa.pairs k3 h3).1.keep o))
          clear aa
          have kq : (loc ids k3 == l) = false := beq_false_of_ne e3x
          go_wp2_with fail
          with_reducible refine (L.out _ (Only.refl _ _)).mono ?_
          rintro e w'' ⟨rfl, o'⟩
          have O := Lib.hid (O.out.trans o')
          clear o' L z
          go_wp2_with fail
          rcases n1 with rfl | ⟨k1, rfl, h1, e1x⟩
          ·
            have bb := O.out.keep B2.out id
            have dd := O.out.keep D2.out id
            have e0 := cell_of (o := 0) bb
            have e1 := cell_of (o := 1) bb
            have e2 := cell_of (o := 2) bb
            have e3 := cell_of (o := 2) dd
            clear bb dd
            simp only [List.getElem?_toArray, List.getElem?_cons_zero, List.getElem?_cons_succ] at e0 e1 e2 e3
            rw [rounds_succ]
            go_wp2_with fail
            go_still_tail 5, (by kernel_rfl)
            go_wp2_with fail
            with_reducible refine (R1.out _ _ _ _).mono ?_
            rintro e w' ⟨rfl, o'⟩
            have O := Lib.hid (O.out.drew.trans o')
            clear o'
            go_wp2_with fail
            rw [rounds_succ]
            go_wp2_with fail
            go_meet
            exact ⟨rfl, rfl, O.out⟩
          ·
            have bb := O.out.keep B2.out id
            have dd := O.out.keep D2.out id
            have e0 := cell_of (o := 0) bb
            have e1 := cell_of (o := 1) bb
            have e2 := cell_of (o := 2) bb
            have e3 := cell_of (o := 2) dd
            clear bb dd
            simp only [List.getElem?_toArray, List.getElem?_cons_zero, List.getElem?_cons_succ] at e0 e1 e2 e3
            rw [rounds_succ]
            go_wp2_with fail
            go_still_tail 5, (by kernel_rfl)
            go_wp2_with fail
            with_reducible refine (R1.out _ _ _ _).mono ?_
            rintro e w' ⟨rfl, o'⟩
            have O := Lib.hid (O.out.drew.trans o')
            clear o'
            have aa := A2.out.keep O.out
            have z := aa.cell k1 h1
            have hkn : k1 < n := by rw [aa.len]; exact h1
            have hki : (k1 : Int) < (n : Int) := by omega
            have hk0 : (0 ≤ (k1 : Int)) = True := eq_true (by omega)
            have L := Lib.hid (fun w'' (o : Only (fun _ => False) w' w'') => HL.out _ _ _ w'' ((aa.pairs k1 h1).1.keep o))
            clear aa
            have kq : (loc ids k1 == l) = false := beq_false_of_ne e1x
            go_wp2_with fail
            with_reducible refine (L.out _ (Only.refl _ _)).mono ?_
            rintro e w'' ⟨rfl, o'⟩
            have O := Lib.hid (O.out.trans o')
            clear o' L z
            go_wp2_with fail
            rw [rounds_succ]
            go_wp2_with fail
            go_meet
            exact ⟨rfl, rfl, O.out⟩
  case rest =>
    obtain ⟨rfl, rfl, oc⟩ := hcut
    have O := Lib.hid oc
    clear oc
    go_upto_region 10 with fail
    go_cut [83] (fun a wx => a = .bool false ∧ Only (fun _ => False) w2 wx)
    case first =>
      have hs := HS.out
      clear HS
      cases hs with
      | two y2 =>
        obtain ⟨k, rfl, hk, ek⟩ := y2
        have sd : Sd ids ((k : Nat) : Int) p2 := Hs.out.2.1
        have ep : p2 = some ⟨blk ids k, 0, none⟩ := sd_ptr sd
        subst ep
        have aa := A2.out.keep O.out
        have z := aa.cell k hk
        have hkn : k < n := by rw [aa.len]; exact hk
        have hki : (k : Int) < (n : Int) := by omega
        have hk0 : (0 ≤ (k : Int)) = True := eq_true (by omega)
        have hk1 : ((k : Int) < 0) = False := eq_false (by omega)
        have hne := neq_same
        clear aa sd ek
        go_wp2_with fail
        go_meet
        exact ⟨rfl, O.out⟩
      | three n2 y3 =>
        obtain ⟨k, rfl, hk, ek⟩ := y3
        have sd : Sd ids ((k : Nat) : Int) p3 := Hs.out.2.2
        have ep : p3 = some ⟨blk ids k, 0, none⟩ := sd_ptr sd
        subst ep
        have aa := A2.out.keep O.out
        have z := aa.cell k hk
        have hkn : k < n := by rw [aa.len]; exact hk
        have hki : (k : Int) < (n : Int) := by omega
        have hk0 : (0 ≤ (k : Int)) = True := eq_true (by omega)
        have hk1 : ((k : Int) < 0) = False := eq_false (by omega)
        have hne := neq_same
        clear aa sd ek
        go_wp2_with fail
        go_meet
        exact ⟨rfl, O.out⟩
      | one n2 n3 y1 =>
        obtain ⟨k, rfl, hk, ek⟩ := y1
        have sd : Sd ids ((k : Nat) : Int) p1 := Hs.out.1
        have ep : p1 = some ⟨blk ids k, 0, none⟩ := sd_ptr sd
        subst ep
        have aa := A2.out.keep O.out
        have z := aa.cell k hk
        have hkn : k < n := by rw [aa.len]; exact hk
        have hki : (k : Int) < (n : Int) := by omega
        have hk0 : (0 ≤ (k : Int)) = True := eq_true (by omega)
        have hk1 : ((k : Int) < 0) = False := eq_false (by omega)
        have hne := neq_same
        clear aa sd ek
        go_wp2_with fail
        go_meet
        exact ⟨rfl, O.out⟩
      | none n2 n3 n1 =>
        go_wp2_with fail
        go_meet
        exact ⟨rfl, O.out⟩
    case rest =>
      obtain ⟨rfl, oc⟩ := hcut
      have O := Lib.hid oc
      clear oc HS
      have V := Lib.hid (newest_eq A2.out Hs.out.1 Hs.out.2.1 Hs.out.2.2)
      have HN := Lib.hid (newest_any S p1 p2 p3 _ _ _ _ (O.out.keep S2.out id) (mk_of (A2.out.keep O.out) Hs.out.1) (mk_of (A2.out.keep O.out) Hs.out.2.1) (mk_of (A2.out.keep O.out) Hs.out.2.2) _ rfl _ rfl)
      obtain ⟨v2, hv2⟩ : ∃ v2, v2 = stp ids q3 (stp ids q2 (stp ids q1 (-1))) := ⟨_, rfl⟩
      obtain ⟨v1, hv1⟩ : ∃ v1, v1 = stp ids q3 (stp ids q2 (stp ids q1 0)) := ⟨_, rfl⟩
      obtain ⟨t, ht⟩ : ∃ t, t = (p1.isSome || p2.isSome || p3.isSome) := ⟨_, rfl⟩
      rw [← hv2, ← hv1, ← ht] at V
      rw [← hv1, ← ht] at HN
      have V2 := Lib.hid hv2
      clear hv1 hv2 ht
      go_wp2_with fail
      with_reducible refine HN.out.mono ?_
      rintro e w3 ⟨rfl, o'⟩
      have O := Lib.hid (O.out.trans o')
      clear o' HN
      go_upto_block 2 with fail
      go_cut [20, 21, 22] (fun a b c wx => a = .int .i64 v2 ∧ Only (fun _ => False) w2 wx)
      case first =>
        have R1 := Lib.hid ref_at1
        have R2 := Lib.hid ref_at2
        have R3 := Lib.hid ref_at3
        have HM := Lib.hid made_any
        obtain ⟨s1, s2, s3⟩ := Hs.out
        clear Hs V
        go_wp2_with fail
        refine wp_loop_rounds 4 ?_
        rcases s1 with ⟨rfl, rfl⟩ | ⟨k1, rfl, h1, rfl⟩
        ·
          have E1 := Lib.hid (stp_neg ids (-1))
          have bb := O.out.keep B2.out id
          have e0 := cell_of (o := 0) bb
          have e1 := cell_of (o := 1) bb
          have e2 := cell_of (o := 2) bb
          clear bb
          simp only [List.getElem?_toArray, List.getElem?_cons_zero, List.getElem?_cons_succ] at e0 e1 e2
          rw [rounds_succ]
          go_wp2_with fail
          with_reducible refine (R1.out _ _ _ _).mono ?_
          rintro e w' ⟨rfl, o'⟩
          have O := Lib.hid (O.out.trans o')
          clear o' e0 e1 e2
          go_wp2_with fail
          rcases s2 with ⟨rfl, rfl⟩ | ⟨k2, rfl, h2, rfl⟩
          ·
            have E2 := Lib.hid (stp_neg ids (-1))
            have bb := O.out.keep B2.out id
            have e0 := cell_of (o := 0) bb
            have e1 := cell_of (o := 1) bb
            have e2 := cell_of (o := 2) bb
            clear bb
            simp only [List.getElem?_toArray, List.getElem?_cons_zero, List.getElem?_cons_succ] at e0 e1 e2
            rw [rounds_succ]
            go_wp2_with fail
            with_reducible refine (R2.out _ _ _ _).mono ?_
            rintro e w' ⟨rfl, o'⟩
            have O := Lib.hid (O.out.trans o')
            clear o' e0 e1 e2
            go_wp2_with fail
            rcases s3 with ⟨rfl, rfl⟩ | ⟨k3, rfl, h3, rfl⟩
            ·
              have E3 := Lib.hid (stp_neg ids (-1))
              have bb := O.out.keep B2.out id
              have e0 := cell_of (o := 0) bb
              have e1 := cell_of (o := 1) bb
              have e2 := cell_of (o := 2) bb
              clear bb
              simp only [List.getElem?_toArray, List.getElem?_cons_zero, List.getElem?_cons_succ] at e0 e1 e2
              rw [rounds_succ]
              go_wp2_with fail
              with_reducible refine (R3.out _ _ _ _).mono ?_
              rintro e w' ⟨rfl, o'⟩
              have O := Lib.hid (O.out.trans o')
              clear o' e0 e1 e2
              go_wp2_with fail
              rw [rounds_succ]
              go_wp2_with fail
              go_meet
              exact ⟨by rw [V2.out, E1.out, E2.out, E3.out], O.out⟩
            ·
              have c3 : (-1 : Int) < mad ids k3 := by have := (A2.out.pairs k3 h3).2.1; omega
              have E3 := Lib.hid (stp_gt c3)
              have bb := O.out.keep B2.out id
              have e0 := cell_of (o := 0) bb
              have e1 := cell_of (o := 1) bb
              have e2 := cell_of (o := 2) bb
              clear bb
              simp only [List.getElem?_toArray, List.getElem?_cons_zero, List.getElem?_cons_succ] at e0 e1 e2
              rw [rounds_succ]
              go_wp2_with fail
              with_reducible refine (R3.out _ _ _ _).mono ?_
              rintro e w' ⟨rfl, o'⟩
              have O := Lib.hid (O.out.trans o')
              clear o' e0 e1 e2
              have aa := A2.out.keep O.out
              have z := aa.cell k3 h3
              have hkn : k3 < n := by rw [aa.len]; exact h3
              have hki : (k3 : Int) < (n : Int) := by omega
              have hk0 : (0 ≤ (k3 : Int)) = True := eq_true (by omega)
              have L := Lib.hid (fun w'' (o : Only (fun _ => False) w' w'') => HM.out _ _ _ w'' ((aa.pairs k3 h3).1.keep o))
              clear aa
              have kq : (-1 < mad ids k3) = True := eq_true (by omega)
              go_wp2_with fail
              with_reducible refine (L.out _ (Only.refl _ _)).mono ?_
              rintro e w'' ⟨rfl, o'⟩
              have O := Lib.hid (O.out.trans o')
              have z := (A2.out.keep O.out).cell k3 h3
              go_wp2_with fail
              with_reducible refine (L.out _ o').mono ?_
              rintro e w4 ⟨rfl, o3⟩
              have O := Lib.hid (O.out.trans o3)
              go_wp2_with fail
              clear L
              rw [rounds_succ]
              go_wp2_with fail
              go_meet
              exact ⟨by rw [V2.out, E1.out, E2.out, E3.out], O.out⟩
          ·
            have c2 : (-1 : Int) < mad ids k2 := by have := (A2.out.pairs k2 h2).2.1; omega
            have E2 := Lib.hid (stp_gt c2)
            have bb := O.out.keep B2.out id
            have e0 := cell_of (o := 0) bb
            have e1 := cell_of (o := 1) bb
            have e2 := cell_of (o := 2) bb
            clear bb
            simp only [List.getElem?_toArray, List.getElem?_cons_zero, List.getElem?_cons_succ] at e0 e1 e2
            rw [rounds_succ]
            go_wp2_with fail
            with_reducible refine (R2.out _ _ _ _).mono ?_
            rintro e w' ⟨rfl, o'⟩
            have O := Lib.hid (O.out.trans o')
            clear o' e0 e1 e2
            have aa := A2.out.keep O.out
            have z := aa.cell k2 h2
            have hkn : k2 < n := by rw [aa.len]; exact h2
            have hki : (k2 : Int) < (n : Int) := by omega
            have hk0 : (0 ≤ (k2 : Int)) = True := eq_true (by omega)
            have L := Lib.hid (fun w'' (o : Only (fun _ => False) w' w'') => HM.out _ _ _ w'' ((aa.pairs k2 h2).1.keep o))
            clear aa
            have kq : (-1 < mad ids k2) = True := eq_true (by omega)
            go_wp2_with fail
            with_reducible refine (L.out _ (Only.refl _ _)).mono ?_
            rintro e w'' ⟨rfl, o'⟩
            have O := Lib.hid (O.out.trans o')
            have z := (A2.out.keep O.out).cell k2 h2
            go_wp2_with fail
            with_reducible refine (L.out _ o').mono ?_
            rintro e w4 ⟨rfl, o3⟩
            have O := Lib.hid (O.out.trans o3)
            go_wp2_with fail
            clear L
            rcases s3 with ⟨rfl, rfl⟩ | ⟨k3, rfl, h3, rfl⟩
            ·
              have E3 := Lib.hid (stp_neg ids (mad ids k2))
              have bb := O.out.keep B2.out id
              have e0 := cell_of (o := 0) bb
              have e1 := cell_of (o := 1) bb
              have e2 := cell_of (o := 2) bb
              clear bb
              simp only [List.getElem?_toArray, List.getElem?_cons_zero, List.getElem?_cons_succ] at e0 e1 e2
              rw [rounds_succ]
              go_wp2_with fail
              with_reducible refine (R3.out _ _ _ _).mono ?_
              rintro e w' ⟨rfl, o'⟩
              have O := Lib.hid (O.out.trans o')
              clear o' e0 e1 e2
              go_wp2_with fail
              rw [rounds_succ]
              go_wp2_with fail
              go_meet
              exact ⟨by rw [V2.out, E1.out, E2.out, E3.out], O.out⟩
            ·
              rcases Classical.em (mad ids k2 < mad ids k3) with c3 | c3
              ·
                have E3 := Lib.hid (stp_gt c3)
                have bb := O.out.keep B2.out id
                have e0 := cell_of (o := 0) bb
                have e1 := cell_of (o := 1) bb
                have e2 := cell_of (o := 2) bb
                clear bb
                simp only [List.getElem?_toArray, List.getElem?_cons_zero, List.getElem?_cons_succ] at e0 e1 e2
                rw [rounds_succ]
                go_wp2_with fail
                with_reducible refine (R3.out _ _ _ _).mono ?_
                rintro e w' ⟨rfl, o'⟩
                have O := Lib.hid (O.out.trans o')
                clear o' e0 e1 e2
                have aa := A2.out.keep O.out
                have z := aa.cell k3 h3
                have hkn : k3 < n := by rw [aa.len]; exact h3
                have hki : (k3 : Int) < (n : Int) := by omega
                have hk0 : (0 ≤ (k3 : Int)) = True := eq_true (by omega)
                have L := Lib.hid (fun w'' (o : Only (fun _ => False) w' w'') => HM.out _ _ _ w'' ((aa.pairs k3 h3).1.keep o))
                clear aa
                have kq : (mad ids k2 < mad ids k3) = True := eq_true (by omega)
                go_wp2_with fail
                with_reducible refine (L.out _ (Only.refl _ _)).mono ?_
                rintro e w'' ⟨rfl, o'⟩
                have O := Lib.hid (O.out.trans o')
                have z := (A2.out.keep O.out).cell k3 h3
                go_wp2_with fail
                with_reducible refine (L.out _ o').mono ?_
                rintro e w4 ⟨rfl, o3⟩
                have O := Lib.hid (O.out.trans o3)
                go_wp2_with fail
                clear L
                rw [rounds_succ]
                go_wp2_with fail
                go_meet
                exact ⟨by rw [V2.out, E1.out, E2.out, E3.out], O.out⟩
              ·
                have E3 := Lib.hid (stp_le c3)
                have bb := O.out.keep B2.out id
                have e0 := cell_of (o := 0) bb
                have e1 := cell_of (o := 1) bb
                have e2 := cell_of (o := 2) bb
                clear bb
                simp only [List.getElem?_toArray, List.getElem?_cons_zero, List.getElem?_cons_succ] at e0 e1 e2
                rw [rounds_succ]
                go_wp2_with fail
                with_reducible refine (R3.out _ _ _ _).mono ?_
                rintro e w' ⟨rfl, o'⟩
                have O := Lib.hid (O.out.trans o')
                clear o' e0 e1 e2
                have aa := A2.out.keep O.out
                have z := aa.cell k3 h3
                have hkn : k3 < n := by rw [aa.len]; exact h3
                have hki : (k3 : Int) < (n : Int) := by omega
                have hk0 : (0 ≤ (k3 : Int)) = True := eq_true (by omega)
                have L := Lib.hid (fun w'' (o : Only (fun _ => False) w' w'') => HM.out _ _ _ w'' ((aa.pairs k3 h3).1.keep o))
                clear aa
                have kq : (mad ids k2 < mad ids k3) = False := eq_false (by omega)
                go_wp2_with fail
                with_reducible refine (L.out _ (Only.refl _ _)).mono ?_
                rintro e w'' ⟨rfl, o'⟩
                have O := Lib.hid (O.out.trans o')
                have z := (A2.out.keep O.out).cell k3 h3
                go_wp2_with fail
                clear L
                rw [rounds_succ]
                go_wp2_with fail
                go_meet
                exact ⟨by rw [V2.out, E1.out, E2.out, E3.out], O.out⟩
        ·
          have c1 : (-1 : Int) < mad ids k1 := by have := (A2.out.pairs k1 h1).2.1; omega
          have E1 := Lib.hid (stp_gt c1)
          have bb := O.out.keep B2.out id
          have e0 := cell_of (o := 0) bb
          have e1 := cell_of (o := 1) bb
          have e2 := cell_of (o := 2) bb
          clear bb
          simp only [List.getElem?_toArray, List.getElem?_cons_zero, List.getElem?_cons_succ] at e0 e1 e2
          rw [rounds_succ]
          go_wp2_with fail
          with_reducible refine (R1.out _ _ _ _).mono ?_
          rintro e w' ⟨rfl, o'⟩
          have O := Lib.hid (O.out.trans o')
          clear o' e0 e1 e2
          have aa := A2.out.keep O.out
          have z := aa.cell k1 h1
          have hkn : k1 < n := by rw [aa.len]; exact h1
          have hki : (k1 : Int) < (n : Int) := by omega
          have hk0 : (0 ≤ (k1 : Int)) = True := eq_true (by omega)
          have L := Lib.hid (fun w'' (o : Only (fun _ => False) w' w'') => HM.out _ _ _ w'' ((aa.pairs k1 h1).1.keep o))
          clear aa
          have kq : (-1 < mad ids k1) = True := eq_true (by omega)
          go_wp2_with fail
          with_reducible refine (L.out _ (Only.refl _ _)).mono ?_
          rintro e w'' ⟨rfl, o'⟩
          have O := Lib.hid (O.out.trans o')
          have z := (A2.out.keep O.out).cell k1 h1
          go_wp2_with fail
          with_reducible refine (L.out _ o').mono ?_
          rintro e w4 ⟨rfl, o3⟩
          have O := Lib.hid (O.out.trans o3)
          go_wp2_with fail
          clear L
          rcases s2 with ⟨rfl, rfl⟩ | ⟨k2, rfl, h2, rfl⟩
          ·
            have E2 := Lib.hid (stp_neg ids (mad ids k1))
            have bb := O.out.keep B2.out id
            have e0 := cell_of (o := 0) bb
            have e1 := cell_of (o := 1) bb
            have e2 := cell_of (o := 2) bb
            clear bb
            simp only [List.getElem?_toArray, List.getElem?_cons_zero, List.getElem?_cons_succ] at e0 e1 e2
            rw [rounds_succ]
            go_wp2_with fail
            with_reducible refine (R2.out _ _ _ _).mono ?_
            rintro e w' ⟨rfl, o'⟩
            have O := Lib.hid (O.out.trans o')
            clear o' e0 e1 e2
            go_wp2_with fail
            rcases s3 with ⟨rfl, rfl⟩ | ⟨k3, rfl, h3, rfl⟩
            ·
              have E3 := Lib.hid (stp_neg ids (mad ids k1))
              have bb := O.out.keep B2.out id
              have e0 := cell_of (o := 0) bb
              have e1 := cell_of (o := 1) bb
              have e2 := cell_of (o := 2) bb
              clear bb
              simp only [List.getElem?_toArray, List.getElem?_cons_zero, List.getElem?_cons_succ] at e0 e1 e2
              rw [rounds_succ]
              go_wp2_with fail
              with_reducible refine (R3.out _ _ _ _).mono ?_
              rintro e w' ⟨rfl, o'⟩
              have O := Lib.hid (O.out.trans o')
              clear o' e0 e1 e2
              go_wp2_with fail
              rw [rounds_succ]
              go_wp2_with fail
              go_meet
              exact ⟨by rw [V2.out, E1.out, E2.out, E3.out], O.out⟩
            ·
              rcases Classical.em (mad ids k1 < mad ids k3) with c3 | c3
              ·
                have E3 := Lib.hid (stp_gt c3)
                have bb := O.out.keep B2.out id
                have e0 := cell_of (o := 0) bb
                have e1 := cell_of (o := 1) bb
                have e2 := cell_of (o := 2) bb
                clear bb
                simp only [List.getElem?_toArray, List.getElem?_cons_zero, List.getElem?_cons_succ] at e0 e1 e2
                rw [rounds_succ]
                go_wp2_with fail
                with_reducible refine (R3.out _ _ _ _).mono ?_
                rintro e w' ⟨rfl, o'⟩
                have O := Lib.hid (O.out.trans o')
                clear o' e0 e1 e2
                have aa := A2.out.keep O.out
                have z := aa.cell k3 h3
                have hkn : k3 < n := by rw [aa.len]; exact h3
                have hki : (k3 : Int) < (n : Int) := by omega
                have hk0 : (0 ≤ (k3 : Int)) = True := eq_true (by omega)
                have L := Lib.hid (fun w'' (o : Only (fun _ => False) w' w'') => HM.out _ _ _ w'' ((aa.pairs k3 h3).1.keep o))
                clear aa
                have kq : (mad ids k1 < mad ids k3) = True := eq_true (by omega)
                go_wp2_with fail
                with_reducible refine (L.out _ (Only.refl _ _)).mono ?_
                rintro e w'' ⟨rfl, o'⟩
                have O := Lib.hid (O.out.trans o')
                have z := (A2.out.keep O.out).cell k3 h3
                go_wp2_with fail
                with_reducible refine (L.out _ o').mono ?_
                rintro e w4 ⟨rfl, o3⟩
                have O := Lib.hid (O.out.trans o3)
                go_wp2_with fail
                clear L
                rw [rounds_succ]
                go_wp2_with fail
                go_meet
                exact ⟨by rw [V2.out, E1.out, E2.out, E3.out], O.out⟩
              ·
                have E3 := Lib.hid (stp_le c3)
                have bb := O.out.keep B2.out id
                have e0 := cell_of (o := 0) bb
                have e1 := cell_of (o := 1) bb
                have e2 := cell_of (o := 2) bb
                clear bb
                simp only [List.getElem?_toArray, List.getElem?_cons_zero, List.getElem?_cons_succ] at e0 e1 e2
                rw [rounds_succ]
                go_wp2_with fail
                with_reducible refine (R3.out _ _ _ _).mono ?_
                rintro e w' ⟨rfl, o'⟩
                have O := Lib.hid (O.out.trans o')
                clear o' e0 e1 e2
                have aa := A2.out.keep O.out
                have z := aa.cell k3 h3
                have hkn : k3 < n := by rw [aa.len]; exact h3
                have hki : (k3 : Int) < (n : Int) := by omega
                have hk0 : (0 ≤ (k3 : Int)) = True := eq_true (by omega)
                have L := Lib.hid (fun w'' (o : Only (fun _ => False) w' w'') => HM.out _ _ _ w'' ((aa.pairs k3 h3).1.keep o))
                clear aa
                have kq : (mad ids k1 < mad ids k3) = False := eq_false (by omega)
                go_wp2_with fail
                with_reducible refine (L.out _ (Only.refl _ _)).mono ?_
                rintro e w'' ⟨rfl, o'⟩
                have O := Lib.hid (O.out.trans o')
                have z := (A2.out.keep O.out).cell k3 h3
                go_wp2_with fail
                clear L
                rw [rounds_succ]
                go_wp2_with fail
                go_meet
                exact ⟨by rw [V2.out, E1.out, E2.out, E3.out], O.out⟩
          ·
            rcases Classical.em (mad ids k1 < mad ids k2) with c2 | c2
            ·
              have E2 := Lib.hid (stp_gt c2)
              have bb := O.out.keep B2.out id
              have e0 := cell_of (o := 0) bb
              have e1 := cell_of (o := 1) bb
              have e2 := cell_of (o := 2) bb
              clear bb
              simp only [List.getElem?_toArray, List.getElem?_cons_zero, List.getElem?_cons_succ] at e0 e1 e2
              rw [rounds_succ]
              go_wp2_with fail
              with_reducible refine (R2.out _ _ _ _).mono ?_
              rintro e w' ⟨rfl, o'⟩
              have O := Lib.hid (O.out.trans o')
              clear o' e0 e1 e2
              have aa := A2.out.keep O.out
              have z := aa.cell k2 h2
              have hkn : k2 < n := by rw [aa.len]; exact h2
              have hki : (k2 : Int) < (n : Int) := by omega
              have hk0 : (0 ≤ (k2 : Int)) = True := eq_true (by omega)
              have L := Lib.hid (fun w'' (o : Only (fun _ => False) w' w'') => HM.out _ _ _ w'' ((aa.pairs k2 h2).1.keep o))
              clear aa
              have kq : (mad ids k1 < mad ids k2) = True := eq_true (by omega)
              go_wp2_with fail
              with_reducible refine (L.out _ (Only.refl _ _)).mono ?_
              rintro e w'' ⟨rfl, o'⟩
              have O := Lib.hid (O.out.trans o')
              have z := (A2.out.keep O.out).cell k2 h2
              go_wp2_with fail
              with_reducible refine (L.out _ o').mono ?_
              rintro e w4 ⟨rfl, o3⟩
              have O := Lib.hid (O.out.trans o3)
              go_wp2_with fail
              clear L
              rcases s3 with ⟨rfl, rfl⟩ | ⟨k3, rfl, h3, rfl⟩
              ·
                have E3 := Lib.hid (stp_neg ids (mad ids k2))
                have bb := O.out.keep B2.out id
                have e0 := cell_of (o := 0) bb
                have e1 := cell_of (o := 1) bb
                have e2 := cell_of (o := 2) bb
                clear bb
                simp only [List.getElem?_toArray, List.getElem?_cons_zero, List.getElem?_cons_succ] at e0 e1 e2
                rw [rounds_succ]
                go_wp2_with fail
                with_reducible refine (R3.out _ _ _ _).mono ?_
                rintro e w' ⟨rfl, o'⟩
                have O := Lib.hid (O.out.trans o')
                clear o' e0 e1 e2
                go_wp2_with fail
                rw [rounds_succ]
                go_wp2_with fail
                go_meet
                exact ⟨by rw [V2.out, E1.out, E2.out, E3.out], O.out⟩
              ·
                rcases Classical.em (mad ids k2 < mad ids k3) with c3 | c3
                ·
                  have E3 := Lib.hid (stp_gt c3)
                  have bb := O.out.keep B2.out id
                  have e0 := cell_of (o := 0) bb
                  have e1 := cell_of (o := 1) bb
                  have e2 := cell_of (o := 2) bb
                  clear bb
                  simp only [List.getElem?_toArray, List.getElem?_cons_zero, List.getElem?_cons_succ] at e0 e1 e2
                  rw [rounds_succ]
                  go_wp2_with fail
                  with_reducible refine (R3.out _ _ _ _).mono ?_
                  rintro e w' ⟨rfl, o'⟩
                  have O := Lib.hid (O.out.trans o')
                  clear o' e0 e1 e2
                  have aa := A2.out.keep O.out
                  have z := aa.cell k3 h3
                  have hkn : k3 < n := by rw [aa.len]; exact h3
                  have hki : (k3 : Int) < (n : Int) := by omega
                  have hk0 : (0 ≤ (k3 : Int)) = True := eq_true (by omega)
                  have L := Lib.hid (fun w'' (o : Only (fun _ => False) w' w'') => HM.out _ _ _ w'' ((aa.pairs k3 h3).1.keep o))
                  clear aa
                  have kq : (mad ids k2 < mad ids k3) = True := eq_true (by omega)
                  go_wp2_with fail
                  with_reducible refine (L.out _ (Only.refl _ _)).mono ?_
                  rintro e w'' ⟨rfl, o'⟩
                  have O := Lib.hid (O.out.trans o')
                  have z := (A2.out.keep O.out).cell k3 h3
                  go_wp2_with fail
                  with_reducible refine (L.out _ o').mono ?_
                  rintro e w4 ⟨rfl, o3⟩
                  have O := Lib.hid (O.out.trans o3)
                  go_wp2_with fail
                  clear L
                  rw [rounds_succ]
                  go_wp2_with fail
                  go_meet
                  exact ⟨by rw [V2.out, E1.out, E2.out, E3.out], O.out⟩
                ·
                  have E3 := Lib.hid (stp_le c3)
                  have bb := O.out.keep B2.out id
                  have e0 := cell_of (o := 0) bb
                  have e1 := cell_of (o := 1) bb
                  have e2 := cell_of (o := 2) bb
                  clear bb
                  simp only [List.getElem?_toArray, List.getElem?_cons_zero, List.getElem?_cons_succ] at e0 e1 e2
                  rw [rounds_succ]
                  go_wp2_with fail
                  with_reducible refine (R3.out _ _ _ _).mono ?_
                  rintro e w' ⟨rfl, o'⟩
                  have O := Lib.hid (O.out.trans o')
                  clear o' e0 e1 e2
                  have aa := A2.out.keep O.out
                  have z := aa.cell k3 h3
                  have hkn : k3 < n := by rw [aa.len]; exact h3
                  have hki : (k3 : Int) < (n : Int) := by omega
                  have hk0 : (0 ≤ (k3 : Int)) = True := eq_true (by omega)
                  have L := Lib.hid (fun w'' (o : Only (fun _ => False) w' w'') => HM.out _ _ _ w'' ((aa.pairs k3 h3).1.keep o))
                  clear aa
                  have kq : (mad ids k2 < mad ids k3) = False := eq_false (by omega)
                  go_wp2_with fail
                  with_reducible refine (L.out _ (Only.refl _ _)).mono ?_
                  rintro e w'' ⟨rfl, o'⟩
                  have O := Lib.hid (O.out.trans o')
                  have z := (A2.out.keep O.out).cell k3 h3
                  go_wp2_with fail
                  clear L
                  rw [rounds_succ]
                  go_wp2_with fail
                  go_meet
                  exact ⟨by rw [V2.out, E1.out, E2.out, E3.out], O.out⟩
            ·
              have E2 := Lib.hid (stp_le c2)
              have bb := O.out.keep B2.out id
              have e0 := cell_of (o := 0) bb
              have e1 := cell_of (o := 1) bb
              have e2 := cell_of (o := 2) bb
              clear bb
              simp only [List.getElem?_toArray, List.getElem?_cons_zero, List.getElem?_cons_succ] at e0 e1 e2
              rw [rounds_succ]
              go_wp2_with fail
              with_reducible refine (R2.out _ _ _ _).mono ?_
              rintro e w' ⟨rfl, o'⟩
              have O := Lib.hid (O.out.trans o')
              clear o' e0 e1 e2
              have aa := A2.out.keep O.out
              have z := aa.cell k2 h2
              have hkn : k2 < n := by rw [aa.len]; exact h2
              have hki : (k2 : Int) < (n : Int) := by omega
              have hk0 : (0 ≤ (k2 : Int)) = True := eq_true (by omega)
              have L := Lib.hid (fun w'' (o : Only (fun _ => False) w' w'') => HM.out _ _ _ w'' ((aa.pairs k2 h2).1.keep o))
              clear aa
              have kq : (mad ids k1 < mad ids k2) = False := eq_false (by omega)
              go_wp2_with fail
              with_reducible refine (L.out _ (Only.refl _ _)).mono ?_
              rintro e w'' ⟨rfl, o'⟩
              have O := Lib.hid (O.out.trans o')
              have z := (A2.out.keep O.out).cell k2 h2
              go_wp2_with fail
              clear L
              rcases s3 with ⟨rfl, rfl⟩ | ⟨k3, rfl, h3, rfl⟩
              ·
                have E3 := Lib.hid (stp_neg ids (mad ids k1))
                have bb := O.out.keep B2.out id
                have e0 := cell_of (o := 0) bb
                have e1 := cell_of (o := 1) bb
                have e2 := cell_of (o := 2) bb
                clear bb
                simp only [List.getElem?_toArray, List.getElem?_cons_zero, List.getElem?_cons_succ] at e0 e1 e2
                rw [rounds_succ]
                go_wp2_with fail
                with_reducible refine (R3.out _ _ _ _).mono ?_
                rintro e w' ⟨rfl, o'⟩
                have O := Lib.hid (O.out.trans o')
                clear o' e0 e1 e2
                go_wp2_with fail
                rw [rounds_succ]
                go_wp2_with fail
                go_meet
                exact ⟨by rw [V2.out, E1.out, E2.out, E3.out], O.out⟩
              ·
                rcases Classical.em (mad ids k1 < mad ids k3) with c3 | c3
                ·
                  have E3 := Lib.hid (stp_gt c3)
                  have bb := O.out.keep B2.out id
                  have e0 := cell_of (o := 0) bb
                  have e1 := cell_of (o := 1) bb
                  have e2 := cell_of (o := 2) bb
                  clear bb
                  simp only [List.getElem?_toArray, List.getElem?_cons_zero, List.getElem?_cons_succ] at e0 e1 e2
                  rw [rounds_succ]
                  go_wp2_with fail
                  with_reducible refine (R3.out _ _ _ _).mono ?_
                  rintro e w' ⟨rfl, o'⟩
                  have O := Lib.hid (O.out.trans o')
                  clear o' e0 e1 e2
                  have aa := A2.out.keep O.out
                  have z := aa.cell k3 h3
                  have hkn : k3 < n := by rw [aa.len]; exact h3
                  have hki : (k3 : Int) < (n : Int) := by omega
                  have hk0 : (0 ≤ (k3 : Int)) = True := eq_true (by omega)
                  have L := Lib.hid (fun w'' (o : Only (fun _ => False) w' w'') => HM.out _ _ _ w'' ((aa.pairs k3 h3).1.keep o))
                  clear aa
                  have kq : (mad ids k1 < mad ids k3) = True := eq_true (by omega)
                  go_wp2_with fail
                  with_reducible refine (L.out _ (Only.refl _ _)).mono ?_
                  rintro e w'' ⟨rfl, o'⟩
                  have O := Lib.hid (O.out.trans o')
                  have z := (A2.out.keep O.out).cell k3 h3
                  go_wp2_with fail
                  with_reducible refine (L.out _ o').mono ?_
                  rintro e w4 ⟨rfl, o3⟩
                  have O := Lib.hid (O.out.trans o3)
                  go_wp2_with fail
                  clear L
                  rw [rounds_succ]
                  go_wp2_with fail
                  go_meet
                  exact ⟨by rw [V2.out, E1.out, E2.out, E3.out], O.out⟩
                ·
                  have E3 := Lib.hid (stp_le c3)
                  have bb := O.out.keep B2.out id
                  have e0 := cell_of (o := 0) bb
                  have e1 := cell_of (o := 1) bb
                  have e2 := cell_of (o := 2) bb
                  clear bb
                  simp only [List.getElem?_toArray, List.getElem?_cons_zero, List.getElem?_cons_succ] at e0 e1 e2
                  rw [rounds_succ]
                  go_wp2_with fail
                  with_reducible refine (R3.out _ _ _ _).mono ?_
                  rintro e w' ⟨rfl, o'⟩
                  have O := Lib.hid (O.out.trans o')
                  clear o' e0 e1 e2
                  have aa := A2.out.keep O.out
                  have z := aa.cell k3 h3
                  have hkn : k3 < n := by rw [aa.len]; exact h3
                  have hki : (k3 : Int) < (n : Int) := by omega
                  have hk0 : (0 ≤ (k3 : Int)) = True := eq_true (by omega)
                  have L := Lib.hid (fun w'' (o : Only (fun _ => False) w' w'') => HM.out _ _ _ w'' ((aa.pairs k3 h3).1.keep o))
                  clear aa
                  have kq : (mad ids k1 < mad ids k3) = False := eq_false (by omega)
                  go_wp2_with fail
                  with_reducible refine (L.out _ (Only.refl _ _)).mono ?_
                  rintro e w'' ⟨rfl, o'⟩
                  have O := Lib.hid (O.out.trans o')
                  have z := (A2.out.keep O.out).cell k3 h3
                  go_wp2_with fail
                  clear L
                  rw [rounds_succ]
                  go_wp2_with fail
                  go_meet
                  exact ⟨by rw [V2.out, E1.out, E2.out, E3.out], O.out⟩
      case rest =>
        obtain ⟨rfl, oc⟩ := hcut
        have O := Lib.hid oc
        clear oc
        go_upto_region 20 with fail
        go_cut [131] (fun a wx => a = .bool false ∧ Only (fun _ => False) w2 wx)
        case first =>
          rcases V.out with ⟨rfl, hb, rfl⟩ | ⟨rfl, rfl, rfl⟩
          · have hb1 : (0 ≤ v1) = True := eq_true hb
            clear V V2 hb
            go_wp2_with fail
            go_meet
            exact ⟨rfl, O.out⟩
          · clear V V2
            go_wp2_with fail
            go_meet
            exact ⟨rfl, O.out⟩
        case rest =>
          obtain ⟨rfl, oc⟩ := hcut
          have O := Lib.hid oc
          clear oc V V2
          have s2 := Hs.out.2.1
          clear Hs
          rcases s2 with ⟨rfl, rfl⟩ | ⟨k2, rfl, h2, rfl⟩
          · have HU := Lib.hid (usable_none S p1 p3 now _ (O.out.keep S2.out id))
            go_wp2_with fail
            with_reducible refine HU.out.mono ?_
            rintro e w4 ⟨rfl, o'⟩
            have O := Lib.hid (O.out.trans o')
            clear o' HU
            have bb := O.out.keep B2.out id
            have e0 := cell_of (o := 0) bb
            have e1 := cell_of (o := 1) bb
            have e2 := cell_of (o := 2) bb
            clear bb
            simp only [List.getElem?_toArray, List.getElem?_cons_zero, List.getElem?_cons_succ] at e0 e1 e2
            go_wp2_with fail
            go_ret
            exact ⟨rfl, O2.out.trans O.out⟩
          · have aa := A2.out.keep O.out
            have HF := Lib.hid (fun w5 (o : Only (fun _ => False) w2 w5) => fresh_is _ _ _ now w5 ((A2.out.pairs k2 h2).1.keep o) (A2.out.pairs k2 h2).2.1 (A2.out.pairs k2 h2).2.2)
            have HU := Lib.hid (fun v hv => usable_is S p1 p3 _ _ _ now _ (O.out.keep S2.out id) (aa.pairs k2 h2).1 (aa.pairs k2 h2).2.1 (aa.pairs k2 h2).2.2 v hv)
            clear aa
            cases hv : frs (mad ids k2) now with
            | false =>
              have HU := Lib.hid (HU.out _ hv)
              rw [hv] at HF
              clear hv
              simp only [if_true, Bool.false_eq_true, if_false] at HU
              go_wp2_with fail
              with_reducible refine HU.out.mono ?_
              rintro e w4 ⟨rfl, o'⟩
              have O := Lib.hid (O.out.trans o')
              clear o' HU
              have bb := O.out.keep B2.out id
              have e0 := cell_of (o := 0) bb
              have e1 := cell_of (o := 1) bb
              have e2 := cell_of (o := 2) bb
              clear bb
              simp only [List.getElem?_toArray, List.getElem?_cons_zero, List.getElem?_cons_succ] at e0 e1 e2
              have aa := A2.out.keep O.out
              have z := aa.cell k2 h2
              have hkn : k2 < n := by rw [aa.len]; exact h2
              have hki : (k2 : Int) < (n : Int) := by omega
              have hk0 : (0 ≤ (k2 : Int)) = True := eq_true (by omega)
              have hk1 : ((k2 : Int) < 0) = False := eq_false (by omega)
              clear aa
              go_wp2_with fail
              with_reducible refine (HF.out _ O.out).mono ?_
              rintro e w5 ⟨rfl, o'⟩
              have O := Lib.hid (O.out.trans o')
              clear o' e0 e1 e2 z
              have bb := O.out.keep B2.out id
              have e0 := cell_of (o := 0) bb
              have e1 := cell_of (o := 1) bb
              have e2 := cell_of (o := 2) bb
              clear bb
              simp only [List.getElem?_toArray, List.getElem?_cons_zero, List.getElem?_cons_succ] at e0 e1 e2
              go_wp2_with fail
              go_ret
              exact ⟨rfl, O2.out.trans O.out⟩
            | true =>
              have HU := Lib.hid (HU.out _ hv)
              rw [hv] at HF
              clear hv
              simp only [if_true, Bool.false_eq_true, if_false] at HU
              have heq := eql_same
              go_wp2_with fail
              with_reducible refine HU.out.mono ?_
              rintro e w4 ⟨rfl, o'⟩
              have O := Lib.hid (O.out.trans o')
              clear o' HU
              have bb := O.out.keep B2.out id
              have e0 := cell_of (o := 0) bb
              have e1 := cell_of (o := 1) bb
              have e2 := cell_of (o := 2) bb
              clear bb
              simp only [List.getElem?_toArray, List.getElem?_cons_zero, List.getElem?_cons_succ] at e0 e1 e2
              have aa := A2.out.keep O.out
              have z := aa.cell k2 h2
              have hkn : k2 < n := by rw [aa.len]; exact h2
              have hki : (k2 : Int) < (n : Int) := by omega
              have hk0 : (0 ≤ (k2 : Int)) = True := eq_true (by omega)
              have hk1 : ((k2 : Int) < 0) = False := eq_false (by omega)
              clear aa
              go_wp2_with fail
              with_reducible refine (HF.out _ O.out).mono ?_
              rintro e w5 ⟨rfl, o'⟩
              have O := Lib.hid (O.out.trans o')
              clear o' e0 e1 e2 z
              have bb := O.out.keep B2.out id
              have e0 := cell_of (o := 0) bb
              have e1 := cell_of (o := 1) bb
              have e2 := cell_of (o := 2) bb
              clear bb
              simp only [List.getElem?_toArray, List.getElem?_cons_zero, List.getElem?_cons_succ] at e0 e1 e2
              have z := (A2.out.keep O.out).cell k2 h2
              go_wp2_with fail
              go_ret
              exact ⟨rfl, O2.out.trans O.out⟩
end Go.Proofs.Ythembojamiagoaa.sloJ
