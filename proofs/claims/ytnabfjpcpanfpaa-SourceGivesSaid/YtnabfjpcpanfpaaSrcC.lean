/- The source's functions, and the document's. -/
import Derived.Test.YtnabfjpcpanfpaaSrcB
namespace Go.Proofs.Ytnabfjpcpanfpaa.srcC
open Go.RowKit Go.Proofs.Ytnabfjpcpanfpaa.kit Go.Proofs.Ytnabfjpcpanfpaa.numA Go.Proofs.Ytnabfjpcpanfpaa.numB Go.Proofs.Ytnabfjpcpanfpaa.numC
set_option linter.unusedVariables false
set_option linter.unusedSimpArgs false

/-- A source, or the document's (type T), at block B. -/
def St (w : World) (B T : Nat) (a i s : Nat) : Prop := w.heap[B]? = some (.cells #[.int .u32 a, .int .u32 i, .int .u64 s] T (0, 0))

theorem St.keep {w w' : World} {B T a i s : Nat} {S : Nat → Prop} (h : St w B T a i s) (o : Only S w w') (hs : ¬ S B) : St w' B T a i s := o.keep h hs

theorem St.set0 {w : World} {B T a i s : Nat} (h : St w B T a i s) (x : Int) (y : Nat) (e : x = (y : Int)) : St (w.setCell ⟨B, 0, none⟩ (.int .u32 x)) B T y i s := by subst e; exact heap_set h
theorem St.set1 {w : World} {B T a i s : Nat} (h : St w B T a i s) (x : Int) (y : Nat) (e : x = (y : Int)) : St (w.setCell ⟨B, 1, none⟩ (.int .u32 x)) B T a y s := by subst e; exact heap_set h
theorem St.set2 {w : World} {B T a i s : Nat} (h : St w B T a i s) (x : Int) (y : Nat) (e : x = (y : Int)) : St (w.setCell ⟨B, 2, none⟩ (.int .u64 x)) B T a i y := by subst e; exact heap_set h

abbrev ptr (B : Nat) : Value := .pointer (some ⟨B, 0, none⟩)

theorem u32_in (n : Int) (h : 0 ≤ n ∧ n ≤ 4294967295) : IntKind.u32.wrap n = n := by
  rw [IntKind.wrap_u32]; omega

set_option maxRecDepth 100000 in
theorem left_any (a : Nat) (w : World) (h : a ≤ 4294967295) : Calls Try.prog 49 #[.int .u32 a] w fun e w' => e = .returned (.int .u32 ((4294967295 - a : Nat) : Int)) ∧ w = w' := by
  have k1 : IntKind.u32.wrap (4294967295 - (a : Int)) = ((4294967295 - a : Nat) : Int) := by
    have : (4294967295 : Int) - (a : Int) = ((4294967295 - a : Nat) : Int) := by omega
    rw [this]; exact u32_in _ (by omega)
  generalize 4294967295 - a = r at k1 ⊢
  go_enter Try.func49, Try.ntmps49
  go_wp2_with fail
  go_ret
  exact ⟨rfl, rfl⟩

set_option maxRecDepth 100000 in
theorem take_top (B j : Nat) (w : World) (hz : w.cell? ⟨B, j, none⟩ = some (.int .u32 4294967295)) : Calls Try.prog 46 #[.pointer (some ⟨B, j, none⟩)] w fun e w' => e = .returned (.tuple #[.int .u32 0, .int .i64 10]) ∧ w = w' := by
  have L := left_any 4294967295 w (Nat.le_refl _)
  have e : ((4294967295 - 4294967295 : Nat) : Int) = 0 := rfl
  have e2 : ((4294967295 : Nat) : Int) = 4294967295 := rfl
  rw [e, e2] at L
  clear e e2
  go_enter Try.func46, Try.ntmps46
  go_wp2_with fail
  refine L.mono ?_
  rintro e w1 ⟨rfl, rfl⟩
  go_wp2_with fail
  go_ret2
  exact ⟨rfl, rfl⟩

set_option maxRecDepth 100000 in
theorem take_ok (B j a : Nat) (w : World) (h : a < 4294967295) (hz : w.cell? ⟨B, j, none⟩ = some (.int .u32 a)) (hf : w.frozen? ⟨B, j, none⟩ = false) : Calls Try.prog 46 #[.pointer (some ⟨B, j, none⟩)] w fun e w' => e = .returned (.tuple #[.int .u32 a, .int .i64 0]) ∧ w' = w.setCell ⟨B, j, none⟩ (.int .u32 ((a + 1 : Nat) : Int)) := by
  have L := left_any a w (by omega)
  have b1 : (((4294967295 - a : Nat) : Int) == 0) = false := by rw [beq_eq_false_iff_ne]; omega
  have k1 : IntKind.u32.wrap ((a : Int) + 1) = ((a + 1 : Nat) : Int) := by
    have : (a : Int) + 1 = ((a + 1 : Nat) : Int) := by omega
    rw [this]; exact u32_in _ (by omega)
  generalize 4294967295 - a = r at L b1
  generalize a + 1 = a1 at k1 ⊢
  go_enter Try.func46, Try.ntmps46
  go_wp2_with fail
  refine L.mono ?_
  rintro e w1 ⟨rfl, rfl⟩
  go_wp2_with fail
  go_ret2
  exact ⟨rfl, rfl⟩

/-- What an act leaves: the answer, and the state at B. -/
def Did (w : World) (B T a i s : Nat) (v : Value) (e : Ending) (w' : World) : Prop := e = .returned v ∧ St w' B T a i s ∧ Only (fun k => k = B) w w'

def secret (n : Nat) : Value := .string ⟨(97 :: dec n).toArray⟩

set_option maxRecDepth 100000 in
theorem secret_top (B i s : Nat) (w : World) (h : St w B 84 4294967295 i s) : Calls Try.prog 30 #[ptr B] w (Did w B 84 4294967295 i s (.tuple #[.string ⟨#[]⟩, .int .i64 10])) := by
  have L := take_top B 0 w (cell_of h)
  have H := Lib.hid h
  clear h
  go_enter Try.func30, Try.ntmps30
  go_wp2_with fail
  refine L.mono ?_
  rintro e w1 ⟨rfl, rfl⟩
  go_wp2_with fail
  go_ret2
  exact ⟨rfl, H.out, Only.refl _ _⟩

set_option maxRecDepth 100000 in
theorem secret_ok (B a i s : Nat) (w : World) (ha : a < 4294967295) (h : St w B 84 a i s) : Calls Try.prog 30 #[ptr B] w (Did w B 84 (a + 1) i s (.tuple #[secret a, .int .i64 0])) := by
  have L := take_ok B 0 a w ha (cell_of h) (free_of h)
  have M := Lib.hid (fun W => srcA.make_atom a W (by omega))
  have H := Lib.hid h
  have k1 : IntKind.u64.wrap (a : Int) = (a : Int) := IntWalk.u64_in _ (by omega)
  unfold secret
  generalize (97 :: dec a).toArray = T at M ⊢
  clear h
  go_enter Try.func30, Try.ntmps30
  go_wp2_with fail
  refine L.mono ?_
  rintro e w1 ⟨rfl, hw⟩
  have H1 := Lib.hid (H.out.set0 _ _ rfl : St (w.setCell ⟨B, 0, none⟩ (.int .u32 ((a + 1 : Nat) : Int))) B 84 (a + 1) i s)
  have O1 := Lib.hid ((Only.refl (fun k => k = B) w).set (o := 0) (v := .int .u32 ((a + 1 : Nat) : Int)) rfl)
  rw [← hw] at H1 O1
  clear hw
  go_wp2_with fail
  refine (M.out _).mono ?_
  rintro e w2 ⟨rfl, o2⟩
  have H2 := Lib.hid (H1.out.keep o2 id)
  have O2 := Lib.hid (O1.out.trans (o2.mono fun _ q => q.elim))
  clear o2
  go_wp2_with fail
  go_ret2
  exact ⟨rfl, H2.out, O2.out⟩

set_option maxRecDepth 100000 in
theorem rsecret_top (B i s : Nat) (w : World) (h : St w B 56 4294967295 i s) : Calls Try.prog 31 #[ptr B] w (Did w B 56 4294967295 i s (.tuple #[.string ⟨#[]⟩, .int .i64 10])) := by
  have z0 : w.cell? ⟨B, 0, none⟩ = some (.int .u32 4294967295) := cell_of h
  have H := Lib.hid h
  clear h
  go_enter Try.func31, Try.ntmps31
  go_wp2_with fail
  go_ret2
  exact ⟨rfl, H.out, Only.refl _ _⟩

set_option maxRecDepth 100000 in
theorem rsecret_ok (B a i s : Nat) (w : World) (ha : a < 4294967295) (h : St w B 56 a i s) : Calls Try.prog 31 #[ptr B] w (Did w B 56 (a + 1) i s (.tuple #[secret a, .int .i64 0])) := by
  have z0 : w.cell? ⟨B, 0, none⟩ = some (.int .u32 a) := cell_of h
  have f0 : w.frozen? ⟨B, 0, none⟩ = false := free_of h
  have M := Lib.hid (fun W => srcB.atom_ref a W (by omega))
  have b1 : ((a : Int) == 4294967295) = false := by rw [beq_eq_false_iff_ne]; omega
  have k1 : IntKind.u32.wrap ((a : Int) + 1) = (a : Int) + 1 := u32_in _ (by omega)
  have k2 : IntKind.u32.wrap ((a : Int) + 1 - 1) = (a : Int) := by rw [show (a : Int) + 1 - 1 = (a : Int) by omega]; exact u32_in _ (by omega)
  have H1 := Lib.hid (h.set0 ((a : Int) + 1) (a + 1) (by omega))
  have O1 := Lib.hid ((Only.refl (fun k => k = B) w).set (o := 0) (v := .int .u32 ((a : Int) + 1)) rfl)
  have y0 : (w.setCell ⟨B, 0, none⟩ (.int .u32 ((a : Int) + 1))).cell? ⟨B, 0, none⟩ = some (.int .u32 ((a : Int) + 1)) := (cell_of (heap_set h)).trans rfl
  unfold secret
  generalize (97 :: dec a).toArray = T at M ⊢
  clear h
  go_enter Try.func31, Try.ntmps31
  go_wp2_with fail
  refine (M.out _).mono ?_
  rintro e w2 ⟨rfl, o2⟩
  have H2 := Lib.hid (H1.out.keep o2 id)
  have O2 := Lib.hid (O1.out.trans (o2.mono fun _ q => q.elim))
  clear o2
  go_wp2_with fail
  go_ret2
  exact ⟨rfl, H2.out, O2.out⟩

set_option maxRecDepth 100000 in
theorem index_top (B a s : Nat) (w : World) (h : St w B 84 a 4294967295 s) : Calls Try.prog 32 #[ptr B] w (Did w B 84 a 4294967295 s (.tuple #[.int .u32 0, .int .i64 10])) := by
  have L := take_top B 1 w (cell_of h)
  have H := Lib.hid h
  clear h
  go_enter Try.func32, Try.ntmps32
  go_wp2_with fail
  refine L.mono ?_
  rintro e w1 ⟨rfl, rfl⟩
  go_wp2_with fail
  go_ret2
  exact ⟨rfl, H.out, Only.refl _ _⟩

set_option maxRecDepth 100000 in
theorem index_ok (B a i s : Nat) (w : World) (hi : i < 4294967295) (h : St w B 84 a i s) : Calls Try.prog 32 #[ptr B] w (Did w B 84 a (i + 1) s (.tuple #[.int .u32 i, .int .i64 0])) := by
  have L := take_ok B 1 i w hi (cell_of h) (free_of h)
  have H := Lib.hid h
  clear h
  go_enter Try.func32, Try.ntmps32
  go_wp2_with fail
  refine L.mono ?_
  rintro e w1 ⟨rfl, hw⟩
  have H1 := Lib.hid (H.out.set1 _ _ rfl : St (w.setCell ⟨B, 1, none⟩ (.int .u32 ((i + 1 : Nat) : Int))) B 84 a (i + 1) s)
  have O1 := Lib.hid ((Only.refl (fun k => k = B) w).set (o := 1) (v := .int .u32 ((i + 1 : Nat) : Int)) rfl)
  rw [← hw] at H1 O1
  clear hw
  go_wp2_with fail
  go_ret2
  exact ⟨rfl, H1.out, O1.out⟩

set_option maxRecDepth 100000 in
theorem rindex_top (B a s : Nat) (w : World) (h : St w B 56 a 4294967295 s) : Calls Try.prog 33 #[ptr B] w (Did w B 56 a 4294967295 s (.tuple #[.int .u32 0, .int .i64 10])) := by
  have z0 : w.cell? ⟨B, 1, none⟩ = some (.int .u32 4294967295) := cell_of h
  have H := Lib.hid h
  clear h
  go_enter Try.func33, Try.ntmps33
  go_wp2_with fail
  go_ret2
  exact ⟨rfl, H.out, Only.refl _ _⟩

set_option maxRecDepth 100000 in
theorem rindex_ok (B a i s : Nat) (w : World) (ha : i < 4294967295) (h : St w B 56 a i s) : Calls Try.prog 33 #[ptr B] w (Did w B 56 a (i + 1) s (.tuple #[.int .u32 i, .int .i64 0])) := by
  have z0 : w.cell? ⟨B, 1, none⟩ = some (.int .u32 i) := cell_of h
  have f0 : w.frozen? ⟨B, 1, none⟩ = false := free_of h
  have b1 : ((i : Int) == 4294967295) = false := by rw [beq_eq_false_iff_ne]; omega
  have k1 : IntKind.u32.wrap ((i : Int) + 1) = (i : Int) + 1 := u32_in _ (by omega)
  have k2 : IntKind.u32.wrap ((i : Int) + 1 - 1) = (i : Int) := by rw [show (i : Int) + 1 - 1 = (i : Int) by omega]; exact u32_in _ (by omega)
  have H1 := Lib.hid (h.set1 ((i : Int) + 1) (i + 1) (by omega))
  have O1 := Lib.hid ((Only.refl (fun k => k = B) w).set (o := 1) (v := .int .u32 ((i : Int) + 1)) rfl)
  have y0 : (w.setCell ⟨B, 1, none⟩ (.int .u32 ((i : Int) + 1))).cell? ⟨B, 1, none⟩ = some (.int .u32 ((i : Int) + 1)) := (cell_of (heap_set h)).trans rfl
  clear h
  go_enter Try.func33, Try.ntmps33
  go_wp2_with fail
  go_ret2
  exact ⟨by simp [k2], H1.out, O1.out⟩
end Go.Proofs.Ytnabfjpcpanfpaa.srcC
