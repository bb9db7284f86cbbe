/- Wire: a term's field. -/
import Derived.Test.YtbjnejnjlidiaaaWrT
namespace Go.Proofs.Ytbjnejnjlidiaaa.wrU
open Go.RowKit kit numA numB numC numD numE numF numG numH numI tmA tmD trA trB prR prS prW prX wrA wrB wrC wrD wrE wrF wrR wrS wrT
set_option linter.unusedVariables false
set_option linter.unusedSimpArgs false

def termC (t : Txt) (c : Nat) : Nat := if fitB t then c else failC c 3
set_option maxRecDepth 100000 in
set_option maxHeartbeats 4000000 in
theorem field_t (i : Nat) (h4 : 4 ≤ i) (h12 : i ≤ 12) (R A : Nat) (S : Nat → Prop) (l : Txt) (c : Nat) (m : Msg) (w : World) (h : RdAt w R S l c) (hS : ¬ S R) (hSA : ¬ S A) (hm : MsgAt w A m) : Calls Try.prog 123 #[.pointer (some ⟨R, 0, none⟩), .agg #[.int .i64 0, .nilFunc, .nilFunc, .func (.func (fnT i)) #[] #[]], .pointer (some ⟨A, 0, none⟩)] w (FdP w R A S (takeR (takeR l c 2).2.1 (takeR l c 2).2.2 (vb (takeR l c 2).1)).2.1 (termC (takeR (takeR l c 2).2.1 (takeR l c 2).2.2 (vb (takeR l c 2).1)).1 (takeR (takeR l c 2).2.1 (takeR l c 2).2.2 (vb (takeR l c 2).1)).2.2) (m.put i ⟨(takeR (takeR l c 2).2.1 (takeR l c 2).2.2 (vb (takeR l c 2).1)).1.toArray⟩)) := by
  have CN := Lib.hid (fun W (hW : RdAt W R S l c) => (show Calls Try.prog 120 #[.pointer (some ⟨R, 0, none⟩), .int .i64 2] W (NmP W R S (takeR l c 2)) from number_any R S l c 2 W hW hS (by decide)))
  have HRA := Lib.hid (show A ≠ R from rd_msg h hm)
  obtain ⟨r, hr⟩ : ∃ r, r = takeR l c 2 := ⟨_, rfl⟩
  have hv : vb r.1 ≤ 65535 := vb_le (n := 2) (by rw [hr]; exact take_le l c 2) (by decide)
  rw [← hr] at CN ⊢
  obtain ⟨n, hn⟩ : ∃ n, n = vb r.1 := ⟨_, rfl⟩
  rw [← hn] at hv ⊢
  have CK := Lib.hid (fun W (hW : RdAt W R S r.2.1 r.2.2) => take_any R S r.2.1 r.2.2 n W hW hS)
  obtain ⟨r2, hr2⟩ : ∃ x, x = takeR r.2.1 r.2.2 n := ⟨_, rfl⟩
  rw [← hr2] at CK ⊢
  have hl2 : r2.1.length ≤ n := by rw [hr2]; exact take_le _ _ _
  obtain ⟨tb, htb⟩ : ∃ tb : ByteArray, tb = ⟨r2.1.toArray⟩ := ⟨_, rfl⟩
  rw [← htb]
  have htd : tb.data.toList = r2.1 := by rw [htb]
  have CX := Lib.hid (fun W => fits_any tb W (by rw [← tl_size, htd]; omega))
  obtain ⟨b, hb⟩ : ∃ b, b = fitB r2.1 := ⟨_, rfl⟩
  rw [htd, ← hb] at CX
  have HC3 := Lib.hid (show termC r2.1 r2.2.2 = if b then r2.2.2 else failC r2.2.2 3 from by rw [termC, hb])
  have CF := Lib.hid (fun W (hW : RdAt W R S r2.2.1 r2.2.2) => (show Calls Try.prog 122 #[.pointer (some ⟨R, 0, none⟩), .int .i64 3] W (fun e w' => (∃ v, e = .returned v) ∧ RdAt w' R S r2.2.1 (failC r2.2.2 3) ∧ Only (fun q => q = R) W w') from fail_any R S r2.2.1 r2.2.2 3 W hW hS))
  have CTX := Lib.hid (fun W => text_any i h4 h12 A W)
  have ET := fun args W => enter_text i args W
  have wn : wrap64 (n : Int) = (n : Int) := IntWalk.wrap64_in _ (by omega)
  have HTB := Lib.hid htb
  have HN := Lib.hid hn
  have HI := Lib.hid (And.intro h4 h12)
  obtain ⟨F, hF⟩ : ∃ F, F = w.heap.size := ⟨_, rfl⟩
  obtain ⟨Y, hY⟩ : ∃ Y, Y = w.alloc (.cells #[.int .i64 0, .nilFunc, .nilFunc, .func (.func (fnT i)) #[] #[]] 155) := ⟨_, rfl⟩
  have oY : Only (fun _ => False) w Y := by rw [hY]; exact (Only.refl _ _).alloc _
  have HB := Lib.hid (show Y.heap[F]? = some (.cells #[.int .i64 0, .nilFunc, .nilFunc, .func (.func (fnT i)) #[] #[]] 155 (0, 0)) from by rw [hY, hF]; exact heap_alloc_new w _)
  have HR := Lib.hid (h.keep oY id (fun _ _ h => h))
  have HM := Lib.hid (MsgAt.keep hm oY id)
  have HFR := Lib.hid (show F ≠ R ∧ F ≠ A from by rw [hF]; have := h.lt; have := MsgAt.lt hm; omega)
  have U := Lib.hid (oY.mono (T := fun q => q = R ∨ q = A) fun _ h => h.elim)
  have HY := Lib.hid hY
  have HFE := Lib.hid hF
  have HSS := Lib.hid hS
  have HSA := Lib.hid hSA
  clear h hm hS hSA hr hY hF oY hv hn hr2 hl2 htb htd hb h4 h12
  go_enter Try.func123, Try.ntmps123
  go_upto_region 1 with fail
  rw [← HY.out, ← HFE.out]
  have b0 : Y.cell? ⟨F, 0, none⟩ = some (.int .i64 0) := cell_of HB.out
  go_wp2_with fail
  (with_reducible refine (CN.out _ HR.out).mono ?_)
  rintro e w2 ⟨rfl, hrd, o⟩
  rw [← HN.out]
  replace HR := Lib.hid hrd
  replace HM := Lib.hid (MsgAt.keep HM.out o HRA.out)
  replace HB := Lib.hid (Only.keep o HB.out HFR.out.1)
  replace U := Lib.hid (U.out.trans (o.mono fun _ h => .inl h))
  clear hrd o b0
  go_wp2_with fail
  (with_reducible refine (CK.out _ HR.out).mono ?_)
  rintro e w3 ⟨⟨a, cap, rfl, sl, -, -⟩, hrd, o⟩
  have CV := fun W (hW : W = w3) => (show (convert 24 9 (.slice a r2.1.length cap)).run Try.prog W = .ok (.string tb) W from by rw [HTB.out, hW]; exact conv_lst sl)
  replace HR := Lib.hid hrd
  replace HM := Lib.hid (MsgAt.keep HM.out o HRA.out)
  replace HB := Lib.hid (Only.keep o HB.out HFR.out.1)
  replace U := Lib.hid (U.out.trans (o.mono fun _ h => .inl h))
  clear hrd o sl
  replace CV := CV w3 rfl
  go_wp2_with fail
  (with_reducible refine (CX.out _).mono ?_)
  rintro e w4 ⟨rfl, o⟩
  replace HR := Lib.hid (HR.out.keep o id (fun _ _ h => h))
  replace HM := Lib.hid (MsgAt.keep HM.out o id)
  replace HB := Lib.hid (Only.keep o HB.out id)
  replace U := Lib.hid (U.out.trans (o.mono fun _ h => h.elim))
  clear o CV
  cases b
  case false =>
    go_wp2_with fail
    (with_reducible refine (CF.out _ HR.out).mono ?_)
    rintro e w5 ⟨⟨v, rfl⟩, hrd, o⟩
    replace HR := Lib.hid hrd
    replace HM := Lib.hid (MsgAt.keep HM.out o HRA.out)
    replace HB := Lib.hid (Only.keep o HB.out HFR.out.1)
    replace U := Lib.hid (U.out.trans (o.mono fun _ h => .inl h))
    clear hrd o
    have b3 : w5.cell? ⟨F, 3, none⟩ = some (.func (.func (fnT i)) #[] #[]) := cell_of HB.out
    have d1 := MsgAt.text HM.out HI.out.1 HI.out.2
    have d2 := MsgAt.free HM.out i
    go_wp2_with fail
    (with_reducible refine (CTX.out _).mono ?_)
    rintro e w6 ⟨rfl, hw⟩
    obtain rfl := hw
    go_wp2_with fail
    go_end0
    exact ⟨⟨_, rfl⟩, by rw [HC3.out]; exact HR.out.keep ((Only.refl (fun q => q = A) _).set rfl) (fun e => HRA.out e.symm) (fun k hk e => HSA.out (by rw [← e]; exact hk)), MsgAt.put HM.out HI.out.1 HI.out.2 tb, U.out.set (.inr rfl)⟩
  have b3 : w4.cell? ⟨F, 3, none⟩ = some (.func (.func (fnT i)) #[] #[]) := cell_of HB.out
  have d1 := MsgAt.text HM.out HI.out.1 HI.out.2
  have d2 := MsgAt.free HM.out i
  go_wp2_with fail
  (with_reducible refine (CTX.out _).mono ?_)
  rintro e w6 ⟨rfl, hw⟩
  obtain rfl := hw
  go_wp2_with fail
  go_end0
  exact ⟨⟨_, rfl⟩, by rw [HC3.out]; exact HR.out.keep ((Only.refl (fun q => q = A) _).set rfl) (fun e => HRA.out e.symm) (fun k hk e => HSA.out (by rw [← e]; exact hk)), MsgAt.put HM.out HI.out.1 HI.out.2 tb, U.out.set (.inr rfl)⟩


end Go.Proofs.Ytbjnejnjlidiaaa.wrU
