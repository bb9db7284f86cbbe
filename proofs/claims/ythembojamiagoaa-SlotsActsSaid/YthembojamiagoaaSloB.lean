/- The slots: New, At, Begun, Heard, Confirm. -/
import Derived.Test.YthembojamiagoaaSloA
import Derived.LaidEqlPtr
import Derived.Lib.Builder
namespace Go.Proofs.Ythembojamiagoaa.sloB
open Go.RowKit Go.Proofs.Ythembojamiagoaa.kit Go.Proofs.Ythembojamiagoaa.numA Go.Proofs.Ythembojamiagoaa.numB Go.Proofs.Ythembojamiagoaa.sloA
set_option linter.unusedVariables false
set_option linter.unusedSimpArgs false

theorem run_neq_ptr_other {P : Program} (w : World) {tp te : TypeId} {j : TypeInfo} {a b : Addr} {ca cb : Array Value} {ta tb : TypeId} (hp : P.underlying tp = some (.pointer te)) (hte : P.info? te = some j) (hsz : j.size ≠ 0)
    (hne : a ≠ b) (ha : w.heap[a.block]? = some (.cells ca ta (0, 0))) (hb : w.heap[b.block]? = some (.cells cb tb (0, 0))) :
    (binOp .neq tp (.pointer (some a)) (.pointer (some b))).run P w = .ok (.bool true) w := by
  have h : ∀ d : Nat, (Op.equalIn (d + 1) tp (.pointer (some a)) (.pointer (some b))).run P w = .ok false w := fun d => by
    simp [Op.equalIn, run_underlying hp, sizeOf, typeInfo, hte, hsz, run_sameAddr_other w hne ha hb]
  simp only [binOp]
  simp [Op.equal, Op.maxDepth, h 9999]

theorem neq_same (a : Addr) (w : World) : (binOp .neq 33 (.pointer (some a)) (.pointer (some a))).run Try.prog w = .ok (.bool false) w := Lib.run_neq_ptr_same w a Try.underlying33 rfl

theorem eql_same (a : Addr) (w : World) : (binOp .eql 33 (.pointer (some a)) (.pointer (some a))).run Try.prog w = .ok (.bool true) w := run_eql_ptr_same w a Try.underlying33 rfl

/-- A pointer that is nil or a pair. -/
def IsPair (w : World) (p : Option Addr) : Prop := ∀ a, p = some a → ∃ b l m, a = ⟨b, 0, none⟩ ∧ PairAt w b l m

theorem eql_other (p : Option Addr) (b : Nat) (l m : Int) (w : World) (hp : IsPair w p) (hb : PairAt w b l m) (hn : p ≠ some ⟨b, 0, none⟩) : (binOp .eql 33 (.pointer p) (.pointer (some ⟨b, 0, none⟩))).run Try.prog w = .ok (.bool false) w := by
  cases p with
  | none =>
    have h : ∀ d : Nat, (Op.equalIn (d + 1) 33 (.pointer none) (.pointer (some ⟨b, 0, none⟩))).run Try.prog w = .ok false w := fun d => by
      simp [Op.equalIn, run_underlying Try.underlying33]
    simp only [binOp]
    simp [Op.equal, Op.maxDepth, h 9999]
  | some a =>
    obtain ⟨b', l', m', rfl, c', h'⟩ := hp a rfl
    obtain ⟨c, h⟩ := hb
    exact run_eql_ptr_other w Try.underlying33 rfl (by decide) (fun e => hn (by rw [e])) h' h

theorem neq_other (p : Option Addr) (b : Nat) (l m : Int) (w : World) (hp : IsPair w p) (hb : PairAt w b l m) (hn : p ≠ some ⟨b, 0, none⟩) : (binOp .neq 33 (.pointer p) (.pointer (some ⟨b, 0, none⟩))).run Try.prog w = .ok (.bool true) w := by
  cases p with
  | none =>
    have h : ∀ d : Nat, (Op.equalIn (d + 1) 33 (.pointer none) (.pointer (some ⟨b, 0, none⟩))).run Try.prog w = .ok false w := fun d => by
      simp [Op.equalIn, run_underlying Try.underlying33]
    simp only [binOp]
    simp [Op.equal, Op.maxDepth, h 9999]
  | some a =>
    obtain ⟨b', l', m', rfl, c', h'⟩ := hp a rfl
    obtain ⟨c, h⟩ := hb
    exact run_neq_ptr_other w Try.underlying33 rfl (by decide) (fun e => hn (by rw [e])) h' h

theorem neq_none (a : Addr) (w : World) : (binOp .neq 33 (.pointer none) (.pointer (some a))).run Try.prog w = .ok (.bool true) w := by
  have h : ∀ d : Nat, (Op.equalIn (d + 1) 33 (.pointer none) (.pointer (some a))).run Try.prog w = .ok false w := fun d => by
    simp [Op.equalIn, run_underlying Try.underlying33]
  simp only [binOp]
  simp [Op.equal, Op.maxDepth, h 9999]

theorem _root_.Go.Proofs.Ythembojamiagoaa.sloA.PairAt.keep {w w' : World} {b : Nat} {l m : Int} (h : PairAt w b l m) (o : Only (fun _ => False) w w') : PairAt w' b l m := by
  obtain ⟨c, h⟩ := h
  exact ⟨c, o.keep h id⟩

theorem IsPair.keep {w w' : World} {p : Option Addr} (h : IsPair w p) (o : Only (fun _ => False) w w') : IsPair w' p := fun a e => by
  obtain ⟨b, l, m, rfl, hp⟩ := h a e
  exact ⟨b, l, m, rfl, hp.keep o⟩

/-- Slots at block S with three pointers. -/
def SlotsAt (w : World) (S : Nat) (p1 p2 p3 : Option Addr) : Prop := w.heap[S]? = some (.cells #[.pointer none, .pointer p1, .pointer p2, .pointer p3] 52 (0, 0))

macro "only_close" : tactic => `(tactic| (repeat (first | (with_reducible refine Only.drewN ?_ _) | (with_reducible refine Only.drew ?_) | (with_reducible refine Only.alloc ?_ _) | (with_reducible refine Only.set ?_ rfl) | (with_reducible exact Only.refl _ _))))

theorem new_any (w : World) : Calls Try.prog 6 #[] w fun e w' => e = .returned (.pointer (some ⟨w.heap.size, 0, none⟩)) ∧ SlotsAt w' w.heap.size none none none ∧ Only (fun _ => False) w w' := by
  go_enter Try.func6, Try.ntmps6
  go_wp2
  go_ret
  exact ⟨rfl, heap_alloc_new _ _, by only_close⟩

theorem at_nil (k : Int) (w : World) : Calls Try.prog 15 #[.pointer none, .int .i64 k] w fun e w' => e = .returned (.pointer none) ∧ Only (fun _ => False) w w' := by
  go_enter Try.func15, Try.ntmps15
  go_wp2_with fail
  go_ret
  exact ⟨rfl, by only_close⟩

theorem at_low (S : Nat) (k : Int) (w : World) (h : k < 1) : Calls Try.prog 15 #[.pointer (some ⟨S, 0, none⟩), .int .i64 k] w fun e w' => e = .returned (.pointer none) ∧ Only (fun _ => False) w w' := by
  have k1 : (k < 1) = True := eq_true h
  go_enter Try.func15, Try.ntmps15
  go_wp2_with fail
  go_ret
  exact ⟨rfl, by only_close⟩

theorem at_high (S : Nat) (k : Int) (w : World) (h : 3 < k) : Calls Try.prog 15 #[.pointer (some ⟨S, 0, none⟩), .int .i64 k] w fun e w' => e = .returned (.pointer none) ∧ Only (fun _ => False) w w' := by
  have k1 : (k < 1) = False := eq_false (by omega)
  have k2 : (3 < k) = True := eq_true h
  go_enter Try.func15, Try.ntmps15
  go_wp2_with fail
  go_ret
  exact ⟨rfl, by only_close⟩

theorem at_one (S : Nat) (p1 p2 p3 : Option Addr) (w : World) (h : SlotsAt w S p1 p2 p3) : Calls Try.prog 15 #[.pointer (some ⟨S, 0, none⟩), .int .i64 1] w fun e w' => e = .returned (.pointer p1) ∧ Only (fun _ => False) w w' := by
  have c : w.cell? ⟨S, 1, none⟩ = some (.pointer p1) := cell_of h
  clear h
  go_enter Try.func15, Try.ntmps15
  go_wp2_with fail
  go_ret
  exact ⟨rfl, by only_close⟩

theorem at_two (S : Nat) (p1 p2 p3 : Option Addr) (w : World) (h : SlotsAt w S p1 p2 p3) : Calls Try.prog 15 #[.pointer (some ⟨S, 0, none⟩), .int .i64 2] w fun e w' => e = .returned (.pointer p2) ∧ Only (fun _ => False) w w' := by
  have c : w.cell? ⟨S, 2, none⟩ = some (.pointer p2) := cell_of h
  clear h
  go_enter Try.func15, Try.ntmps15
  go_wp2_with fail
  go_ret
  exact ⟨rfl, by only_close⟩

theorem at_three (S : Nat) (p1 p2 p3 : Option Addr) (w : World) (h : SlotsAt w S p1 p2 p3) : Calls Try.prog 15 #[.pointer (some ⟨S, 0, none⟩), .int .i64 3] w fun e w' => e = .returned (.pointer p3) ∧ Only (fun _ => False) w w' := by
  have c : w.cell? ⟨S, 3, none⟩ = some (.pointer p3) := cell_of h
  clear h
  go_enter Try.func15, Try.ntmps15
  go_wp2_with fail
  go_ret
  exact ⟨rfl, by only_close⟩

theorem heard_nil (p : Option Addr) (w : World) : Calls Try.prog 10 #[.pointer none, .pointer p] w fun e w' => e = .returned (.int .i64 1) ∧ Only (fun _ => False) w w' := by
  go_enter Try.func10, Try.ntmps10
  go_wp2_with fail
  go_ret
  exact ⟨rfl, by only_close⟩

theorem heard_none (S : Nat) (w : World) : Calls Try.prog 10 #[.pointer (some ⟨S, 0, none⟩), .pointer none] w fun e w' => e = .returned (.int .i64 1) ∧ Only (fun _ => False) w w' := by
  go_enter Try.func10, Try.ntmps10
  go_wp2_with fail
  go_ret
  exact ⟨rfl, by only_close⟩

theorem heard_any (S : Nat) (p1 p2 p3 : Option Addr) (a : Addr) (w : World) (h : SlotsAt w S p1 p2 p3) : Calls Try.prog 10 #[.pointer (some ⟨S, 0, none⟩), .pointer (some a)] w fun e w' => e = .returned (.int .i64 0) ∧ SlotsAt w' S p1 p2 (some a) ∧ Only (fun i => i = S) w w' := by
  have c : w.cell? ⟨S, 3, none⟩ = some (.pointer p3) := cell_of h
  have f : w.frozen? ⟨S, 3, none⟩ = false := free_of h
  have H := Lib.hid h
  clear h
  go_enter Try.func10, Try.ntmps10
  go_wp2_with fail
  go_ret
  exact ⟨rfl, (heap_set H.out).trans rfl, by only_close⟩

theorem begun_nil (p : Option Addr) (w : World) : Calls Try.prog 8 #[.pointer none, .pointer p] w fun e w' => e = .returned (.int .i64 1) ∧ Only (fun _ => False) w w' := by
  go_enter Try.func8, Try.ntmps8
  go_wp2_with fail
  go_ret
  exact ⟨rfl, by only_close⟩

theorem begun_none (S : Nat) (w : World) : Calls Try.prog 8 #[.pointer (some ⟨S, 0, none⟩), .pointer none] w fun e w' => e = .returned (.int .i64 1) ∧ Only (fun _ => False) w w' := by
  go_enter Try.func8, Try.ntmps8
  go_wp2_with fail
  go_ret
  exact ⟨rfl, by only_close⟩

theorem forward_any (S : Nat) (p1 p2 p3 q : Option Addr) (a : Addr) (w : World) (h : SlotsAt w S p1 p2 p3) : Calls Try.prog 22 #[.pointer (some ⟨S, 0, none⟩), .pointer q, .pointer (some a)] w fun e w' => e = .returned (.tuple #[]) ∧ SlotsAt w' S q (some a) none ∧ Only (fun i => i = S) w w' := by
  have c0 : w.cell? ⟨S, 0, none⟩ = some (.pointer none) := cell_of h
  have c1 : w.cell? ⟨S, 1, none⟩ = some (.pointer p1) := cell_of h
  have c2 : w.cell? ⟨S, 2, none⟩ = some (.pointer p2) := cell_of h
  have c3 : w.cell? ⟨S, 3, none⟩ = some (.pointer p3) := cell_of h
  have f0 : w.frozen? ⟨S, 0, none⟩ = false := free_of h
  have f1 : w.frozen? ⟨S, 1, none⟩ = false := free_of h
  have f2 : w.frozen? ⟨S, 2, none⟩ = false := free_of h
  have f3 : w.frozen? ⟨S, 3, none⟩ = false := free_of h
  have H := Lib.hid h
  clear h
  go_enter Try.func22, Try.ntmps22
  go_wp2_with fail
  have hh := heap_set (o := 3) (v := .pointer none) (heap_set (o := 2) (v := .pointer (some a)) (heap_set (o := 1) (v := .pointer q) (heap_set (o := 0) (v := .pointer none) H.out)))
  refine bodyPost_end (results_none rfl _ _ _) rfl ⟨rfl, hh, ?_⟩
  only_close

theorem begun_next (S : Nat) (p1 p2 : Option Addr) (b a : Addr) (w : World) (h : SlotsAt w S p1 p2 (some b)) : Calls Try.prog 8 #[.pointer (some ⟨S, 0, none⟩), .pointer (some a)] w fun e w' => e = .returned (.int .i64 0) ∧ SlotsAt w' S (some b) (some a) none ∧ Only (fun i => i = S) w w' := by
  have c3 : w.cell? ⟨S, 3, none⟩ = some (.pointer (some b)) := cell_of h
  have T := Lib.hid (forward_any S p1 p2 (some b) (some b) a w h)
  clear h
  go_enter Try.func8, Try.ntmps8
  go_wp2_with fail
  with_reducible refine T.out.mono ?_
  rintro e w1 ⟨rfl, hs, o⟩
  have H := Lib.hid (And.intro hs o)
  clear hs o
  go_wp2_with fail
  go_ret
  exact ⟨rfl, H.out⟩

theorem begun_none3 (S : Nat) (p1 p2 : Option Addr) (a : Addr) (w : World) (h : SlotsAt w S p1 p2 none) : Calls Try.prog 8 #[.pointer (some ⟨S, 0, none⟩), .pointer (some a)] w fun e w' => e = .returned (.int .i64 0) ∧ SlotsAt w' S p2 (some a) none ∧ Only (fun i => i = S) w w' := by
  have c3 : w.cell? ⟨S, 3, none⟩ = some (.pointer none) := cell_of h
  have c2 : w.cell? ⟨S, 2, none⟩ = some (.pointer p2) := cell_of h
  have T := Lib.hid (forward_any S p1 p2 none p2 a w h)
  clear h
  go_enter Try.func8, Try.ntmps8
  go_wp2_with fail
  with_reducible refine T.out.mono ?_
  rintro e w1 ⟨rfl, hs, o⟩
  have H := Lib.hid (And.intro hs o)
  clear hs o
  go_wp2_with fail
  go_ret
  exact ⟨rfl, H.out⟩

theorem confirm_none (s : Option Addr) (w : World) : Calls Try.prog 11 #[.pointer s, .pointer none] w fun e w' => e = .returned (.bool false) ∧ Only (fun _ => False) w w' := by
  go_enter Try.func11, Try.ntmps11
  go_wp2_with fail
  go_ret
  exact ⟨rfl, by only_close⟩

theorem confirm_nil (a : Addr) (w : World) : Calls Try.prog 11 #[.pointer none, .pointer (some a)] w fun e w' => e = .returned (.bool false) ∧ Only (fun _ => False) w w' := by
  have T := Lib.hid (at_nil 3)
  have k1 : ∀ w, (binOp .neq 33 (.pointer none) (.pointer (some a))).run Try.prog w = .ok (.bool true) w := fun w => neq_none a w
  go_enter Try.func11, Try.ntmps11
  go_wp2_with fail
  with_reducible refine (T.out _).mono ?_
  rintro e w1 ⟨rfl, o⟩
  have O := Lib.hid o
  clear o
  go_wp2_with fail
  go_ret
  exact ⟨rfl, O.out⟩

theorem confirm_yes (S : Nat) (p1 p2 : Option Addr) (a : Addr) (w : World) (h : SlotsAt w S p1 p2 (some a)) : Calls Try.prog 11 #[.pointer (some ⟨S, 0, none⟩), .pointer (some a)] w fun e w' => e = .returned (.bool true) ∧ SlotsAt w' S p2 (some a) none ∧ Only (fun i => i = S) w w' := by
  have T := Lib.hid (at_three S p1 p2 (some a) w h)
  have H0 := Lib.hid h
  have k1 := neq_same a
  clear h
  go_enter Try.func11, Try.ntmps11
  go_wp2_with fail
  with_reducible refine T.out.mono ?_
  rintro e w1 ⟨rfl, o⟩
  have h1 : SlotsAt w1 S p1 p2 (some a) := o.keep H0.out id
  have O := Lib.hid o
  have c2 : w1.cell? ⟨S, 2, none⟩ = some (.pointer p2) := cell_of h1
  have T2 := Lib.hid (forward_any S p1 p2 (some a) p2 a w1 h1)
  clear o h1
  go_wp2_with fail
  with_reducible refine T2.out.mono ?_
  rintro e w2 ⟨rfl, hs, o⟩
  have H := Lib.hid (And.intro hs o)
  clear hs o
  go_wp2_with fail
  go_ret
  exact ⟨rfl, H.out.1, (O.out.mono (fun _ => False.elim)).trans H.out.2⟩

theorem confirm_no (S : Nat) (p1 p2 p3 : Option Addr) (b : Nat) (l m : Int) (w : World) (h : SlotsAt w S p1 p2 p3) (hp : IsPair w p3) (hb : PairAt w b l m) (hn : p3 ≠ some ⟨b, 0, none⟩) : Calls Try.prog 11 #[.pointer (some ⟨S, 0, none⟩), .pointer (some ⟨b, 0, none⟩)] w fun e w' => e = .returned (.bool false) ∧ Only (fun _ => False) w w' := by
  have T := Lib.hid (at_three S p1 p2 p3 w h)
  clear h
  have K := Lib.hid (And.intro hp hb)
  clear hp hb
  go_enter Try.func11, Try.ntmps11
  go_wp2_with fail
  with_reducible refine T.out.mono ?_
  rintro e w1 ⟨rfl, o⟩
  have k1 := neq_other p3 b l m w1 (K.out.1.keep o) (K.out.2.keep o) hn
  have O := Lib.hid o
  clear o
  go_wp2_with fail
  go_ret
  exact ⟨rfl, O.out⟩
end Go.Proofs.Ythembojamiagoaa.sloB
