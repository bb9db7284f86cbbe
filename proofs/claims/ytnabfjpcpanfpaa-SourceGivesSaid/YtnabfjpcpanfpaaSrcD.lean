/- Stamps; what is left; a source that isn't there; the example; the law SourceNil. -/
import Derived.Test.YtnabfjpcpanfpaaSrcC
import Derived.Deep.RegionHeld3
namespace Go.Proofs.Ytnabfjpcpanfpaa.srcD
open Go.RowKit Go.Proofs.Ytnabfjpcpanfpaa.kit Go.Proofs.Ytnabfjpcpanfpaa.numA Go.Proofs.Ytnabfjpcpanfpaa.numB Go.Proofs.Ytnabfjpcpanfpaa.numC Go.Proofs.Ytnabfjpcpanfpaa.srcC
set_option linter.unusedVariables false
set_option linter.unusedSimpArgs false

set_option maxRecDepth 100000 in
theorem stamp_bad (B a i s : Nat) (now : Int) (w : World) (hn : now < 0 ∨ 1125899906842624 < now) (h : St w B 84 a i s) : Calls Try.prog 34 #[ptr B, .int .i64 now] w (Did w B 84 a i s (.tuple #[.int .u64 0, .int .i64 2])) := by
  have H := Lib.hid h
  clear h
  by_cases h1 : now < 0
  · go_enter Try.func34, Try.ntmps34
    go_wp2_with fail
    go_ret2
    exact ⟨rfl, H.out, Only.refl _ _⟩
  · have h2 : 1125899906842624 < now := by omega
    clear hn
    go_enter Try.func34, Try.ntmps34
    go_wp2_with fail
    go_ret2
    exact ⟨rfl, H.out, Only.refl _ _⟩

set_option maxRecDepth 100000 in
theorem stamp_ok (B a i s now : Nat) (w : World) (hn : now ≤ 1125899906842624) (hs : s ≤ 9223372036854775807) (h : St w B 84 a i s) : Calls Try.prog 34 #[ptr B, .int .i64 now] w (Did w B 84 a i (max s now + 1) (.tuple #[.int .u64 (max s now : Nat), .int .i64 0])) := by
  have z : w.cell? ⟨B, 2, none⟩ = some (.int .u64 s) := cell_of h
  have f : w.frozen? ⟨B, 2, none⟩ = false := free_of h
  have h1 : ¬ (now : Int) < 0 := by omega
  have h2 : ¬ (1125899906842624 : Int) < (now : Int) := by omega
  have k1 : IntKind.u64.wrap (now : Int) = (now : Int) := IntWalk.u64_in _ (by omega)
  by_cases hlt : s < now
  · have e : max s now = now := by omega
    rw [e]
    have m1 : (s : Int) < (now : Int) := by omega
    have k2 : IntKind.u64.wrap ((now : Int) + 1) = (now : Int) + 1 := IntWalk.u64_in _ (by omega)
    have H1 := Lib.hid (h.set2 ((now : Int) + 1) (now + 1) (by omega))
    have O1 := Lib.hid ((Only.refl (fun k => k = B) w).set (o := 2) (v := .int .u64 ((now : Int) + 1)) rfl)
    clear h e
    go_enter Try.func34, Try.ntmps34
    go_wp2_with fail
    go_ret2
    exact ⟨rfl, H1.out, O1.out⟩
  · have e : max s now = s := by omega
    rw [e]
    have m1 : ((s : Int) < (now : Int)) = False := eq_false (by omega)
    have k2 : IntKind.u64.wrap ((s : Int) + 1) = (s : Int) + 1 := IntWalk.u64_in _ (by omega)
    have H1 := Lib.hid (h.set2 ((s : Int) + 1) (s + 1) (by omega))
    have O1 := Lib.hid ((Only.refl (fun k => k = B) w).set (o := 2) (v := .int .u64 ((s : Int) + 1)) rfl)
    clear h e
    go_enter Try.func34, Try.ntmps34
    go_wp2_with fail
    go_ret2
    exact ⟨rfl, H1.out, O1.out⟩

set_option maxRecDepth 100000 in
theorem time_ref (now : Int) (b : Bool) (w : World) (h : b = decide (0 ≤ now ∧ now ≤ 1125899906842624)) : Calls Try.prog 48 #[.int .i64 now] w fun e w' => e = .returned (.bool b) ∧ w = w' := by
  by_cases h1 : 0 ≤ now
  · by_cases h2 : now ≤ 1125899906842624
    · have e : b = true := by rw [h]; simp [h1, h2]
      subst e
      clear h
      go_enter Try.func48, Try.ntmps48
      go_wp2_with fail
      go_ret
      exact ⟨rfl, rfl⟩
    · have e : b = false := by rw [h]; simp [h2]
      subst e
      clear h
      go_enter Try.func48, Try.ntmps48
      go_wp2_with fail
      go_ret
      exact ⟨by simp [h2], rfl⟩
  · have e : b = false := by rw [h]; simp [h1]
    subst e
    clear h
    go_enter Try.func48, Try.ntmps48
    go_wp2_with fail
    go_ret
    exact ⟨rfl, rfl⟩

set_option maxRecDepth 100000 in
theorem rstamp_bad (B a i s : Nat) (now : Int) (w : World) (hn : now < 0 ∨ 1125899906842624 < now) (h : St w B 56 a i s) : Calls Try.prog 35 #[ptr B, .int .i64 now] w (Did w B 56 a i s (.tuple #[.int .u64 0, .int .i64 2])) := by
  have H := Lib.hid h
  have T := time_ref now false w (by simp; omega)
  clear h hn
  go_enter Try.func35, Try.ntmps35
  go_wp2_with fail
  refine T.mono ?_
  rintro e w1 ⟨rfl, rfl⟩
  go_wp2_with fail
  go_ret2
  exact ⟨rfl, H.out, Only.refl _ _⟩

set_option maxRecDepth 100000 in
theorem rstamp_ok (B a i s now : Nat) (w : World) (hn : now ≤ 1125899906842624) (hs : s ≤ 9223372036854775807) (h : St w B 56 a i s) : Calls Try.prog 35 #[ptr B, .int .i64 now] w (Did w B 56 a i (max s now + 1) (.tuple #[.int .u64 (max s now : Nat), .int .i64 0])) := by
  have z : w.cell? ⟨B, 2, none⟩ = some (.int .u64 s) := cell_of h
  have f : w.frozen? ⟨B, 2, none⟩ = false := free_of h
  have T := time_ref now true w (by simp; omega)
  have k1 : IntKind.u64.wrap (now : Int) = (now : Int) := IntWalk.u64_in _ (by omega)
  by_cases hlt : s < now
  · have e : max s now = now := by omega
    rw [e]
    have m1 : (s : Int) < (now : Int) := by omega
    have k2 : IntKind.u64.wrap ((now : Int) + 1) = (now : Int) + 1 := IntWalk.u64_in _ (by omega)
    have H1 := Lib.hid (h.set2 ((now : Int) + 1) (now + 1) (by omega))
    have O1 := Lib.hid ((Only.refl (fun k => k = B) w).set (o := 2) (v := .int .u64 ((now : Int) + 1)) rfl)
    clear h e
    go_enter Try.func35, Try.ntmps35
    go_wp2_with fail
    refine T.mono ?_
    rintro e w1 ⟨rfl, rfl⟩
    go_wp2_with fail
    go_ret2
    exact ⟨rfl, H1.out, O1.out⟩
  · have e : max s now = s := by omega
    rw [e]
    have m1 : ((s : Int) < (now : Int)) = False := eq_false (by omega)
    have k2 : IntKind.u64.wrap ((s : Int) + 1) = (s : Int) + 1 := IntWalk.u64_in _ (by omega)
    have H1 := Lib.hid (h.set2 ((s : Int) + 1) (s + 1) (by omega))
    have O1 := Lib.hid ((Only.refl (fun k => k = B) w).set (o := 2) (v := .int .u64 ((s : Int) + 1)) rfl)
    clear h e
    go_enter Try.func35, Try.ntmps35
    go_wp2_with fail
    refine T.mono ?_
    rintro e w1 ⟨rfl, rfl⟩
    go_wp2_with fail
    go_ret2
    exact ⟨rfl, H1.out, O1.out⟩

set_option maxRecDepth 100000 in
theorem new_any (a i : Nat) (w : World) : Calls Try.prog 29 #[.int .u32 a, .int .u32 i] w fun e w' => e = .returned (ptr w.heap.size) ∧ St w' w.heap.size 84 a i 0 ∧ Only (fun _ => False) w w' := by
  go_enter Try.func29, Try.ntmps29
  go_wp2
  go_ret
  exact ⟨rfl, heap_alloc_new _ _, (Only.refl _ _).alloc _⟩

set_option maxRecDepth 100000 in
theorem secret_nil (w : World) : Calls Try.prog 30 #[.pointer none] w fun e w' => e = .returned (.tuple #[.string ⟨#[]⟩, .int .i64 1]) ∧ w = w' := by
  go_enter Try.func30, Try.ntmps30
  go_wp2
  go_ret2
  exact ⟨rfl, rfl⟩

set_option maxRecDepth 100000 in
theorem index_nil (w : World) : Calls Try.prog 32 #[.pointer none] w fun e w' => e = .returned (.tuple #[.int .u32 0, .int .i64 1]) ∧ w = w' := by
  go_enter Try.func32, Try.ntmps32
  go_wp2
  go_ret2
  exact ⟨rfl, rfl⟩

set_option maxRecDepth 100000 in
theorem stamp_nil (now : Int) (w : World) : Calls Try.prog 34 #[.pointer none, .int .i64 now] w fun e w' => e = .returned (.tuple #[.int .u64 0, .int .i64 1]) ∧ w = w' := by
  go_enter Try.func34, Try.ntmps34
  go_wp2
  go_ret2
  exact ⟨rfl, rfl⟩

set_option maxRecDepth 100000 in
theorem left_nil (w : World) : Calls Try.prog 36 #[.pointer none] w fun e w' => e = .returned (.tuple #[.int .u32 0, .int .u32 0]) ∧ w = w' := by
  go_enter Try.func36, Try.ntmps36
  go_wp2
  go_ret2
  exact ⟨rfl, rfl⟩

set_option maxRecDepth 100000 in
theorem left_src (B a i s : Nat) (w : World) (ha : a ≤ 4294967295) (hi : i ≤ 4294967295) (h : St w B 84 a i s) : Calls Try.prog 36 #[ptr B] w fun e w' => e = .returned (.tuple #[.int .u32 ((4294967295 - a : Nat) : Int), .int .u32 ((4294967295 - i : Nat) : Int)]) ∧ Only (fun _ => False) w w' := by
  have z0 : w.cell? ⟨B, 0, none⟩ = some (.int .u32 a) := cell_of h
  have z1 : w.cell? ⟨B, 1, none⟩ = some (.int .u32 i) := cell_of h
  have L1 := fun W => left_any a W ha
  have L2 := fun W => left_any i W hi
  generalize 4294967295 - a = ra at L1 ⊢
  generalize 4294967295 - i = ri at L2 ⊢
  clear h
  go_enter Try.func36, Try.ntmps36
  go_wp2
  go_region_held3 (fun w' => w'.cell? ⟨B, 0, none⟩ = some (.int .u32 a) ∧ w'.cell? ⟨B, 1, none⟩ = some (.int .u32 i)) (first | go_keep | exact ⟨z0, z1⟩)
    (first | (go_at_call 49; (with_reducible refine Calls.mono (L1 _) ?_); rintro e w' ⟨rfl, rfl⟩) | (go_at_call 49; (with_reducible refine Calls.mono (L2 _) ?_); rintro e w' ⟨rfl, rfl⟩))
  all_goals
    go_wp2
    go_ret2
    exact ⟨rfl, (by (repeat (first | (with_reducible refine Only.drewN ?_ _) | (with_reducible refine Only.drew ?_) | (with_reducible exact Only.refl _ _))))⟩

theorem Only.own {a w w' : World} {B : Nat} (h : Only (fun _ => False) a w) (k : Only (fun i => i = B) w w') (hB : a.heap.size ≤ B) : Only (fun _ => False) a w' :=
  ⟨k.os.trans h.os, k.tape.trans h.tape, k.output.trans h.output, Nat.le_trans h.size k.size, fun i hi hs => (k.block i (Nat.lt_of_lt_of_le hi h.size) (by show ¬ i = B; omega)).trans (h.block i hi id)⟩

set_option maxRecDepth 100000 in
theorem awake_true (w : World) : Calls Try.prog 28 #[] w (numA.Told w (.bool true)) := by
  have N := new_any 7 100 w
  obtain ⟨B, hB⟩ : ∃ B, B = w.heap.size := ⟨_, rfl⟩
  rw [← hB] at N
  have HB := Lib.hid (Nat.le_of_eq hB.symm)
  have S1 := Lib.hid (fun W (h : St W B 84 7 100 0) => secret_ok B 7 100 0 W (by decide) h)
  have e1 : secret 7 = .string ⟨#[97, 55]⟩ := by
    unfold secret
    rw [dec, if_pos (by decide)]
    rfl
  rw [e1] at S1
  have S2 := Lib.hid (fun W (h : St W B 84 8 100 0) => index_ok B 8 100 0 W (by decide) h)
  have S3 := Lib.hid (fun W (h : St W B 84 8 101 0) => stamp_ok B 8 101 0 5 W (by decide) (by decide) h)
  have S4 := Lib.hid (fun W (h : St W B 84 8 101 6) => stamp_ok B 8 101 6 3 W (by decide) (by decide) h)
  have x1 : max 0 5 = 5 := rfl
  have x2 : max 6 3 = 6 := rfl
  rw [x1] at S3
  rw [x2] at S4
  clear hB e1 x1 x2
  go_enter Try.func28, Try.ntmps28
  go_wp2_with fail
  refine N.mono ?_
  rintro e w1 ⟨rfl, h1, o1⟩
  have H1 := Lib.hid h1
  have O1 := Lib.hid o1
  clear h1 o1
  go_wp2_with fail
  refine (S1.out _ H1.out).mono ?_
  rintro e w2 ⟨rfl, h, o⟩
  have H2 := Lib.hid h
  have O2 := Lib.hid (Only.own O1.out o HB.out)
  clear h o
  go_wp2_with fail
  refine (S2.out _ H2.out).mono ?_
  rintro e w3 ⟨rfl, h, o⟩
  have H3 := Lib.hid h
  have O3 := Lib.hid (Only.own O2.out o HB.out)
  clear h o
  go_wp2_with fail
  refine (S3.out _ H3.out).mono ?_
  rintro e w4 ⟨rfl, h, o⟩
  have H4 := Lib.hid h
  have O4 := Lib.hid (Only.own O3.out o HB.out)
  clear h o
  go_wp2_with fail
  refine (S4.out _ H4.out).mono ?_
  rintro e w5 ⟨rfl, h, o⟩
  have O5 := Lib.hid (Only.own O4.out o HB.out)
  clear h o
  go_wp2_with fail
  go_ret
  exact ⟨rfl, O5.out⟩

set_option maxRecDepth 100000 in
theorem nil_any (now : Int) (w : World) : Calls Try.prog 8 #[.int .i64 now] w (numA.Told w (.bool true)) := by
  have A := awake_true w
  have N1 := Lib.hid secret_nil
  have N2 := Lib.hid index_nil
  have N3 := Lib.hid (stamp_nil now)
  have N4 := Lib.hid left_nil
  go_enter Try.func8, Try.ntmps8
  go_wp2_with fail
  refine A.mono ?_
  rintro e w1 ⟨rfl, o1⟩
  go_wp2_with fail
  refine (N1.out _).mono ?_
  rintro e w2 ⟨rfl, rfl⟩
  go_wp2_with fail
  refine (N2.out _).mono ?_
  rintro e w2 ⟨rfl, rfl⟩
  go_wp2_with fail
  refine (N3.out _).mono ?_
  rintro e w2 ⟨rfl, rfl⟩
  go_wp2_with fail
  refine (N4.out _).mono ?_
  rintro e w2 ⟨rfl, rfl⟩
  go_wp2_with fail
  go_ret
  exact ⟨rfl, o1⟩

variable {w : World}

theorem nil_walk (now : Int) (hn : (Lit.int IntKind.i64 now).wf = true) : Calls Try.prog 8 #[.int .i64 now] w fun e W' => e = .returned (.bool true) ∧ Below w.heap.size w W' :=
  (nil_any now w).mono fun e W' q => ⟨q.1, q.2.below (fun _ h => h.elim) (Nat.le_refl _)⟩
end Go.Proofs.Ytnabfjpcpanfpaa.srcD
