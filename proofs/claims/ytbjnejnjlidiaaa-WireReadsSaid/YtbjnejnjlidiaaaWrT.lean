/- Wire: a number's field. -/
import Derived.Test.YtbjnejnjlidiaaaWrS
import Derived.Test.YtbjnejnjlidiaaaRgA
import Derived.Deep.DeepCutAuto
namespace Go.Proofs.Ytbjnejnjlidiaaa.wrT
open Go.RowKit kit numA numB numC numD numE numF tmA tmD trA trB prR prS prW prX wrA wrB wrC wrD wrE wrF wrR wrS
set_option linter.unusedVariables false
set_option linter.unusedSimpArgs false

structure FdP (w : World) (R A : Nat) (S : Nat → Prop) (l : Txt) (c : Nat) (m : Msg) (e : Ending) (w' : World) : Prop where
  val : ∃ v, e = .returned v
  rd : RdAt w' R S l c
  msg : MsgAt w' A m
  only : Only (fun q => q = R ∨ q = A) w w'
theorem rd_box {w : World} {R X fn : Nat} {S : Nat → Prop} {l : Txt} {c : Nat} (h : RdAt w R S l c) (k : BoxF w X fn) : X ≠ R := by
  rintro rfl
  obtain ⟨a, cap, hb, -⟩ := h.blk
  unfold BoxF at k
  rw [k] at hb
  simp at hb
theorem rd_msg {w : World} {R A : Nat} {S : Nat → Prop} {l : Txt} {c : Nat} {m : Msg} (h : RdAt w R S l c) (k : MsgAt w A m) : A ≠ R := by
  rintro rfl
  obtain ⟨a, cap, hb, -⟩ := h.blk
  unfold MsgAt at k
  rw [k] at hb
  simp at hb
theorem vb_le {l : Txt} {n k : Nat} (h : l.length ≤ n) (hk : 256 ^ n ≤ k + 1) : vb l ≤ k := by
  have h1 := vb_lt l
  have h2 : (256 : Nat) ^ l.length ≤ 256 ^ n := Nat.pow_le_pow_right (by decide) h
  omega
set_option maxRecDepth 100000 in
set_option maxHeartbeats 1600000 in
theorem field_n1 (R A X : Nat) (S : Nat → Prop) (l : Txt) (c : Nat) (m : Msg) (w : World) (h : RdAt w R S l c) (hS : ¬ S R) (hSA : ¬ S A) (hm : MsgAt w A m) (hx : BoxF w X 177) : Calls Try.prog 123 #[.pointer (some ⟨R, 0, none⟩), .agg #[.int .i64 4, .func (.func 215) #[] #[.pointer (some ⟨X, 0, none⟩)], .func (.func 216) #[] #[.pointer (some ⟨X, 0, none⟩)], .nilFunc], .pointer (some ⟨A, 0, none⟩)] w (FdP w R A S (takeR l c 4).2.1 (takeR l c 4).2.2 { m with s := (vb (takeR l c 4).1 : Nat) }) := by
  have CN := Lib.hid (fun W (hW : RdAt W R S l c) => (show Calls Try.prog 120 #[.pointer (some ⟨R, 0, none⟩), .int .i64 4] W (NmP W R S (takeR l c 4)) from number_any R S l c 4 W hW hS (by decide)))
  have HRA := Lib.hid (show A ≠ R from rd_msg h hm)
  have HXR := Lib.hid (show X ≠ R from rd_box h hx)
  obtain ⟨r, hr⟩ : ∃ r, r = takeR l c 4 := ⟨_, rfl⟩
  have HV := Lib.hid (show vb r.1 ≤ 4294967295 from vb_le (n := 4) (by rw [hr]; exact take_le l c 4) (by decide))
  rw [← hr] at CN ⊢
  obtain ⟨F, hF⟩ : ∃ F, F = w.heap.size := ⟨_, rfl⟩
  obtain ⟨Y, hY⟩ : ∃ Y, Y = w.alloc (.cells #[.int .i64 4, .func (.func 215) #[] #[.pointer (some ⟨X, 0, none⟩)], .func (.func 216) #[] #[.pointer (some ⟨X, 0, none⟩)], .nilFunc] 155) := ⟨_, rfl⟩
  have oY : Only (fun _ => False) w Y := by rw [hY]; exact (Only.refl _ _).alloc _
  have HB := Lib.hid (show Y.heap[F]? = some (.cells #[.int .i64 4, .func (.func 215) #[] #[.pointer (some ⟨X, 0, none⟩)], .func (.func 216) #[] #[.pointer (some ⟨X, 0, none⟩)], .nilFunc] 155 (0, 0)) from by rw [hY, hF]; exact heap_alloc_new w _)
  have HR := Lib.hid (h.keep oY id (fun _ _ h => h))
  have HM := Lib.hid (MsgAt.keep hm oY id)
  have HX := Lib.hid (BoxF.keep hx oY)
  have HFR := Lib.hid (show F ≠ R ∧ F ≠ A from by rw [hF]; have := h.lt; have := MsgAt.lt hm; omega)
  have OY := Lib.hid oY
  have HY := Lib.hid hY
  have HFE := Lib.hid hF
  have HSS := Lib.hid hS
  have HSA := Lib.hid hSA
  clear h hm hS hSA hr hY hF oY hx
  go_enter Try.func123, Try.ntmps123
  go_upto_region 1 with fail
  rw [← HY.out, ← HFE.out]
  have b0 : Y.cell? ⟨F, 0, none⟩ = some (.int .i64 4) := cell_of HB.out
  go_upto_region 2 with fail
  clear b0
  have U := Lib.hid ((Only.refl (fun q => q = R ∨ q = A) Y).drew)
  refine wp_region_held_drew (S := (fun w' => w'.cell? ⟨F, 0, none⟩ = some (.int .i64 4) ∧ w'.cell? ⟨F, 2, none⟩ = some (.func (.func 216) #[] #[.pointer (some ⟨X, 0, none⟩)]))) (by kernel_rfl) ?_ (fun hHeld => ?_)
  · exact ⟨cell_of (Only.keep U.out HB.out (fun h => h.elim HFR.out.1 HFR.out.2)), cell_of (Only.keep U.out HB.out (fun h => h.elim HFR.out.1 HFR.out.2))⟩
  refine rgA.tk 0 hHeld ?_
  refine rgA.tk 1 hHeld ?_
  refine rgA.tk 2 hHeld ?_
  refine rgA.tk 3 hHeld ?_
  refine rgA.tk 4 hHeld ?_
  refine rgA.tk 5 hHeld ?_
  refine rgA.rd 6 (fun K hK => ?_)
  go_simp
  (with_reducible refine (CN.out _ (show RdAt Y.drew R S l c from HR.out.keep ((Only.refl (fun _ => False) Y).drew) id (fun _ _ h => h))).mono ?_)
  rintro e w2 ⟨rfl, hrd, o⟩
  have HR2 := Lib.hid hrd
  have HM2 := Lib.hid (MsgAt.keep HM.out (((Only.refl (fun q => q = R) Y).drew).trans o) HRA.out)
  have HX2 := Lib.hid (show BoxF w2 X 177 from Only.keep (((Only.refl (fun q => q = R) Y).drew).trans o) HX.out HXR.out)
  replace U := Lib.hid (U.out.trans (o.mono fun _ h => .inl h))
  clear hrd o
  go_wp2_with fail
  refine hK.out _ _ ?_ (fun hHeld => ?_)
  · exact ⟨cell_of (Only.keep U.out HB.out (fun h => h.elim HFR.out.1 HFR.out.2)), cell_of (Only.keep U.out HB.out (fun h => h.elim HFR.out.1 HFR.out.2))⟩
  clear hK K
  try simp only [List.getElem_toArray, List.getElem_cons_succ, List.getElem_cons_zero, Act.put, List.setIfInBounds_toArray, List.set_cons_zero, List.set_cons_succ]
  refine rgA.rd 7 (fun K hK => ?_)
  go_simp
  (with_reducible refine (set1 A X m (vb r.1 : Nat) w2 HM2.out HX2.out (by have := HV.out; omega)).mono ?_)
  rintro e w3 ⟨⟨v, rfl⟩, hw3⟩
  have HM3 := Lib.hid (show MsgAt w3 A { m with s := (vb r.1 : Nat) } from by rw [hw3]; exact MsgAt.putS HM2.out _)
  have HR3 := Lib.hid (show RdAt w3 R S r.2.1 r.2.2 from by rw [hw3]; exact HR2.out.keep ((Only.refl (fun q => q = A) w2).set rfl) (fun e => HRA.out e.symm) (fun k hk e => HSA.out (by rw [← e]; exact hk)))
  replace U := Lib.hid (show Only (fun q => q = R ∨ q = A) Y w3 from by rw [hw3]; exact U.out.set (.inr rfl))
  clear hw3
  go_wp2_with fail
  refine hK.out _ _ ?_ (fun hHeld => ?_)
  · exact ⟨cell_of (Only.keep U.out HB.out (fun h => h.elim HFR.out.1 HFR.out.2)), cell_of (Only.keep U.out HB.out (fun h => h.elim HFR.out.1 HFR.out.2))⟩
  clear hK K
  try simp only [List.getElem_toArray, List.getElem_cons_succ, List.getElem_cons_zero, Act.put, List.setIfInBounds_toArray, List.set_cons_zero, List.set_cons_succ]
  refine wpAnyH_done (by kernel_rfl) ?_ _
  go_wp2_with fail
  go_end0
  exact ⟨⟨_, rfl⟩, HR3.out, HM3.out, (OY.out.mono fun _ h => h.elim).trans U.out⟩

set_option maxRecDepth 100000 in
set_option maxHeartbeats 1600000 in
theorem field_n2 (R A X : Nat) (S : Nat → Prop) (l : Txt) (c : Nat) (m : Msg) (w : World) (h : RdAt w R S l c) (hS : ¬ S R) (hSA : ¬ S A) (hm : MsgAt w A m) (hx : BoxF w X 178) : Calls Try.prog 123 #[.pointer (some ⟨R, 0, none⟩), .agg #[.int .i64 4, .func (.func 215) #[] #[.pointer (some ⟨X, 0, none⟩)], .func (.func 216) #[] #[.pointer (some ⟨X, 0, none⟩)], .nilFunc], .pointer (some ⟨A, 0, none⟩)] w (FdP w R A S (takeR l c 4).2.1 (takeR l c 4).2.2 { m with r := (vb (takeR l c 4).1 : Nat) }) := by
  have CN := Lib.hid (fun W (hW : RdAt W R S l c) => (show Calls Try.prog 120 #[.pointer (some ⟨R, 0, none⟩), .int .i64 4] W (NmP W R S (takeR l c 4)) from number_any R S l c 4 W hW hS (by decide)))
  have HRA := Lib.hid (show A ≠ R from rd_msg h hm)
  have HXR := Lib.hid (show X ≠ R from rd_box h hx)
  obtain ⟨r, hr⟩ : ∃ r, r = takeR l c 4 := ⟨_, rfl⟩
  have HV := Lib.hid (show vb r.1 ≤ 4294967295 from vb_le (n := 4) (by rw [hr]; exact take_le l c 4) (by decide))
  rw [← hr] at CN ⊢
  obtain ⟨F, hF⟩ : ∃ F, F = w.heap.size := ⟨_, rfl⟩
  obtain ⟨Y, hY⟩ : ∃ Y, Y = w.alloc (.cells #[.int .i64 4, .func (.func 215) #[] #[.pointer (some ⟨X, 0, none⟩)], .func (.func 216) #[] #[.pointer (some ⟨X, 0, none⟩)], .nilFunc] 155) := ⟨_, rfl⟩
  have oY : Only (fun _ => False) w Y := by rw [hY]; exact (Only.refl _ _).alloc _
  have HB := Lib.hid (show Y.heap[F]? = some (.cells #[.int .i64 4, .func (.func 215) #[] #[.pointer (some ⟨X, 0, none⟩)], .func (.func 216) #[] #[.pointer (some ⟨X, 0, none⟩)], .nilFunc] 155 (0, 0)) from by rw [hY, hF]; exact heap_alloc_new w _)
  have HR := Lib.hid (h.keep oY id (fun _ _ h => h))
  have HM := Lib.hid (MsgAt.keep hm oY id)
  have HX := Lib.hid (BoxF.keep hx oY)
  have HFR := Lib.hid (show F ≠ R ∧ F ≠ A from by rw [hF]; have := h.lt; have := MsgAt.lt hm; omega)
  have OY := Lib.hid oY
  have HY := Lib.hid hY
  have HFE := Lib.hid hF
  have HSS := Lib.hid hS
  have HSA := Lib.hid hSA
  clear h hm hS hSA hr hY hF oY hx
  go_enter Try.func123, Try.ntmps123
  go_upto_region 1 with fail
  rw [← HY.out, ← HFE.out]
  have b0 : Y.cell? ⟨F, 0, none⟩ = some (.int .i64 4) := cell_of HB.out
  go_upto_region 2 with fail
  clear b0
  have U := Lib.hid ((Only.refl (fun q => q = R ∨ q = A) Y).drew)
  refine wp_region_held_drew (S := (fun w' => w'.cell? ⟨F, 0, none⟩ = some (.int .i64 4) ∧ w'.cell? ⟨F, 2, none⟩ = some (.func (.func 216) #[] #[.pointer (some ⟨X, 0, none⟩)]))) (by kernel_rfl) ?_ (fun hHeld => ?_)
  · exact ⟨cell_of (Only.keep U.out HB.out (fun h => h.elim HFR.out.1 HFR.out.2)), cell_of (Only.keep U.out HB.out (fun h => h.elim HFR.out.1 HFR.out.2))⟩
  refine rgA.tk 0 hHeld ?_
  refine rgA.tk 1 hHeld ?_
  refine rgA.tk 2 hHeld ?_
  refine rgA.tk 3 hHeld ?_
  refine rgA.tk 4 hHeld ?_
  refine rgA.tk 5 hHeld ?_
  refine rgA.rd 6 (fun K hK => ?_)
  go_simp
  (with_reducible refine (CN.out _ (show RdAt Y.drew R S l c from HR.out.keep ((Only.refl (fun _ => False) Y).drew) id (fun _ _ h => h))).mono ?_)
  rintro e w2 ⟨rfl, hrd, o⟩
  have HR2 := Lib.hid hrd
  have HM2 := Lib.hid (MsgAt.keep HM.out (((Only.refl (fun q => q = R) Y).drew).trans o) HRA.out)
  have HX2 := Lib.hid (show BoxF w2 X 178 from Only.keep (((Only.refl (fun q => q = R) Y).drew).trans o) HX.out HXR.out)
  replace U := Lib.hid (U.out.trans (o.mono fun _ h => .inl h))
  clear hrd o
  go_wp2_with fail
  refine hK.out _ _ ?_ (fun hHeld => ?_)
  · exact ⟨cell_of (Only.keep U.out HB.out (fun h => h.elim HFR.out.1 HFR.out.2)), cell_of (Only.keep U.out HB.out (fun h => h.elim HFR.out.1 HFR.out.2))⟩
  clear hK K
  try simp only [List.getElem_toArray, List.getElem_cons_succ, List.getElem_cons_zero, Act.put, List.setIfInBounds_toArray, List.set_cons_zero, List.set_cons_succ]
  refine rgA.rd 7 (fun K hK => ?_)
  go_simp
  (with_reducible refine (set2 A X m (vb r.1 : Nat) w2 HM2.out HX2.out (by have := HV.out; omega)).mono ?_)
  rintro e w3 ⟨⟨v, rfl⟩, hw3⟩
  have HM3 := Lib.hid (show MsgAt w3 A { m with r := (vb r.1 : Nat) } from by rw [hw3]; exact MsgAt.putR HM2.out _)
  have HR3 := Lib.hid (show RdAt w3 R S r.2.1 r.2.2 from by rw [hw3]; exact HR2.out.keep ((Only.refl (fun q => q = A) w2).set rfl) (fun e => HRA.out e.symm) (fun k hk e => HSA.out (by rw [← e]; exact hk)))
  replace U := Lib.hid (show Only (fun q => q = R ∨ q = A) Y w3 from by rw [hw3]; exact U.out.set (.inr rfl))
  clear hw3
  go_wp2_with fail
  refine hK.out _ _ ?_ (fun hHeld => ?_)
  · exact ⟨cell_of (Only.keep U.out HB.out (fun h => h.elim HFR.out.1 HFR.out.2)), cell_of (Only.keep U.out HB.out (fun h => h.elim HFR.out.1 HFR.out.2))⟩
  clear hK K
  try simp only [List.getElem_toArray, List.getElem_cons_succ, List.getElem_cons_zero, Act.put, List.setIfInBounds_toArray, List.set_cons_zero, List.set_cons_succ]
  refine wpAnyH_done (by kernel_rfl) ?_ _
  go_wp2_with fail
  go_end0
  exact ⟨⟨_, rfl⟩, HR3.out, HM3.out, (OY.out.mono fun _ h => h.elim).trans U.out⟩

set_option maxRecDepth 100000 in
set_option maxHeartbeats 1600000 in
theorem field_c (R A : Nat) (S : Nat → Prop) (l : Txt) (c : Nat) (m : Msg) (w : World) (h : RdAt w R S l c) (hS : ¬ S R) (hSA : ¬ S A) (hm : MsgAt w A m) : Calls Try.prog 123 #[.pointer (some ⟨R, 0, none⟩), .agg #[.int .i64 8, .func (.func 188) #[] #[], .func (.func 189) #[] #[], .nilFunc], .pointer (some ⟨A, 0, none⟩)] w (FdP w R A S (takeR l c 8).2.1 (takeR l c 8).2.2 { m with c := (vb (takeR l c 8).1 : Nat) }) := by
  have CN := Lib.hid (fun W (hW : RdAt W R S l c) => (show Calls Try.prog 120 #[.pointer (some ⟨R, 0, none⟩), .int .i64 8] W (NmP W R S (takeR l c 8)) from number_any R S l c 8 W hW hS (by decide)))
  have HRA := Lib.hid (show A ≠ R from rd_msg h hm)
  obtain ⟨r, hr⟩ : ∃ r, r = takeR l c 8 := ⟨_, rfl⟩
  have HV := Lib.hid (show vb r.1 ≤ 18446744073709551615 from vb_le (n := 8) (by rw [hr]; exact take_le l c 8) (by decide))
  rw [← hr] at CN ⊢
  obtain ⟨F, hF⟩ : ∃ F, F = w.heap.size := ⟨_, rfl⟩
  obtain ⟨Y, hY⟩ : ∃ Y, Y = w.alloc (.cells #[.int .i64 8, .func (.func 188) #[] #[], .func (.func 189) #[] #[], .nilFunc] 155) := ⟨_, rfl⟩
  have oY : Only (fun _ => False) w Y := by rw [hY]; exact (Only.refl _ _).alloc _
  have HB := Lib.hid (show Y.heap[F]? = some (.cells #[.int .i64 8, .func (.func 188) #[] #[], .func (.func 189) #[] #[], .nilFunc] 155 (0, 0)) from by rw [hY, hF]; exact heap_alloc_new w _)
  have HR := Lib.hid (h.keep oY id (fun _ _ h => h))
  have HM := Lib.hid (MsgAt.keep hm oY id)
  have HFR := Lib.hid (show F ≠ R ∧ F ≠ A from by rw [hF]; have := h.lt; have := MsgAt.lt hm; omega)
  have OY := Lib.hid oY
  have HY := Lib.hid hY
  have HFE := Lib.hid hF
  have HSS := Lib.hid hS
  have HSA := Lib.hid hSA
  clear h hm hS hSA hr hY hF oY
  go_enter Try.func123, Try.ntmps123
  go_upto_region 1 with fail
  rw [← HY.out, ← HFE.out]
  have b0 : Y.cell? ⟨F, 0, none⟩ = some (.int .i64 8) := cell_of HB.out
  go_upto_region 2 with fail
  clear b0
  have U := Lib.hid ((Only.refl (fun q => q = R ∨ q = A) Y).drew)
  refine wp_region_held_drew (S := (fun w' => w'.cell? ⟨F, 0, none⟩ = some (.int .i64 8) ∧ w'.cell? ⟨F, 2, none⟩ = some (.func (.func 189) #[] #[]))) (by kernel_rfl) ?_ (fun hHeld => ?_)
  · exact ⟨cell_of (Only.keep U.out HB.out (fun h => h.elim HFR.out.1 HFR.out.2)), cell_of (Only.keep U.out HB.out (fun h => h.elim HFR.out.1 HFR.out.2))⟩
  refine rgA.tk 0 hHeld ?_
  refine rgA.tk 1 hHeld ?_
  refine rgA.tk 2 hHeld ?_
  refine rgA.tk 3 hHeld ?_
  refine rgA.tk 4 hHeld ?_
  refine rgA.tk 5 hHeld ?_
  refine rgA.rd 6 (fun K hK => ?_)
  go_simp
  (with_reducible refine (CN.out _ (show RdAt Y.drew R S l c from HR.out.keep ((Only.refl (fun _ => False) Y).drew) id (fun _ _ h => h))).mono ?_)
  rintro e w2 ⟨rfl, hrd, o⟩
  have HR2 := Lib.hid hrd
  have HM2 := Lib.hid (MsgAt.keep HM.out (((Only.refl (fun q => q = R) Y).drew).trans o) HRA.out)
  replace U := Lib.hid (U.out.trans (o.mono fun _ h => .inl h))
  clear hrd o
  go_wp2_with fail
  refine hK.out _ _ ?_ (fun hHeld => ?_)
  · exact ⟨cell_of (Only.keep U.out HB.out (fun h => h.elim HFR.out.1 HFR.out.2)), cell_of (Only.keep U.out HB.out (fun h => h.elim HFR.out.1 HFR.out.2))⟩
  clear hK K
  try simp only [List.getElem_toArray, List.getElem_cons_succ, List.getElem_cons_zero, Act.put, List.setIfInBounds_toArray, List.set_cons_zero, List.set_cons_succ]
  refine rgA.rd 7 (fun K hK => ?_)
  go_simp
  (with_reducible refine (set3 A m (vb r.1 : Nat) w2 HM2.out).mono ?_)
  rintro e w3 ⟨⟨v, rfl⟩, hw3⟩
  have HM3 := Lib.hid (show MsgAt w3 A { m with c := (vb r.1 : Nat) } from by rw [hw3]; exact MsgAt.putC HM2.out _)
  have HR3 := Lib.hid (show RdAt w3 R S r.2.1 r.2.2 from by rw [hw3]; exact HR2.out.keep ((Only.refl (fun q => q = A) w2).set rfl) (fun e => HRA.out e.symm) (fun k hk e => HSA.out (by rw [← e]; exact hk)))
  replace U := Lib.hid (show Only (fun q => q = R ∨ q = A) Y w3 from by rw [hw3]; exact U.out.set (.inr rfl))
  clear hw3
  go_wp2_with fail
  refine hK.out _ _ ?_ (fun hHeld => ?_)
  · exact ⟨cell_of (Only.keep U.out HB.out (fun h => h.elim HFR.out.1 HFR.out.2)), cell_of (Only.keep U.out HB.out (fun h => h.elim HFR.out.1 HFR.out.2))⟩
  clear hK K
  try simp only [List.getElem_toArray, List.getElem_cons_succ, List.getElem_cons_zero, Act.put, List.setIfInBounds_toArray, List.set_cons_zero, List.set_cons_succ]
  refine wpAnyH_done (by kernel_rfl) ?_ _
  go_wp2_with fail
  go_end0
  exact ⟨⟨_, rfl⟩, HR3.out, HM3.out, (OY.out.mono fun _ h => h.elim).trans U.out⟩


end Go.Proofs.Ytbjnejnjlidiaaa.wrT
