/- Addresses: the text of a prefix; awake. -/
import Derived.Test.YtokbaknckagfmaaAdJ
import Derived.Laws.Concat
namespace Go.Proofs.Ytokbaknckagfmaa.adK
open Go.RowKit kit numA numB numC numD shJ adA adB adC adD adE adF adG adI adJ
set_option linter.unusedVariables false
set_option linter.unusedSimpArgs false

set_option maxRecDepth 100000 in
set_option maxHeartbeats 1600000 in
theorem isplain_ok (S : Nat → Prop) (a : Option Addr) (n c q : Nat) (l : Txt) (w : World) (hs : Sl w S (.slice a n c) (U8 l)) (hl : n = l.length) (hr : rP n (q : Nat) = true) : Calls Try.prog 20 #[.agg #[.slice a n c, .int .i64 (q : Nat)]] w (numA.Told w (.bool (msk l q == l))) := by
  have HB := Lib.hid (show n ≤ 16 from (rP_spec hr).1)
  have HLN := Lib.hid hl
  have CP := Lib.hid (fun W (h : Sl W (fun _ => True) (.slice a n c) (U8 l)) => plain_ok _ a n c q l W h hl hr)
  obtain ⟨X, hX⟩ : ∃ X, X = w.alloc (.cells #[.slice a n c, .int .i64 (q : Nat)] 24) := ⟨_, rfl⟩
  obtain ⟨P, hP⟩ : ∃ A, A = w.heap.size := ⟨_, rfl⟩
  have HP := Lib.hid (show PfxAt X P (.slice a n c) (q : Nat) from by rw [hX, hP]; exact heap_alloc_new w _)
  have O := Lib.hid (show Only (fun _ => False) w X from by rw [hX]; exact (Only.refl _ w).alloc _)
  have SA := Lib.hid (Sl.keep (hs.mono (T := fun _ => True) (fun _ _ => trivial)) O.out (fun _ _ h => h))
  have HX := Lib.hid hX
  have HPE := Lib.hid hP
  obtain ⟨bb, hbb⟩ : ∃ b, b = (msk l q == l) := ⟨_, rfl⟩
  have EQ := Lib.hid (fun W g cp (h1 : RowF W g n (mk l q)) (h2 : Sl W (fun _ => True) (.slice a n c) (U8 l)) => (show Calls Try.prog 24 #[.slice (some ⟨g, 0, none⟩) n cp, .slice a n c] W (fun e w' => e = .returned (.bool bb) ∧ W = w') from by rw [hbb]; exact equal_any _ _ _ _ _ _ W (h1.sl hl (by have := HB.out; omega)) h2))
  rw [← hbb]
  clear hX hP hr hs hl hbb
  go_enter Try.func20, Try.ntmps20
  go_wp2_with fail
  rw [← HX.out, ← HPE.out]
  obtain ⟨p0, p1⟩ := PfxAt.cells HP.out
  go_wp2_with fail
  clear p0 p1
  (with_reducible refine ((CP.out _ SA.out)).mono ?_)
  rintro e w2 ⟨g, cp, rfl, o, hrow, -⟩
  replace O := Lib.hid (O.out.trans o)
  replace HP := Lib.hid (PfxAt.keep HP.out o id)
  replace SA := Lib.hid (Sl.keep SA.out o (fun _ _ h => h))
  have HRW := Lib.hid hrow
  clear hrow
  clear o
  go_upto_region 2 with fail
  obtain ⟨Z, hZ⟩ : ∃ Z, Z = w2.alloc (.cells #[.slice (some ⟨g, 0, none⟩) n cp, .int .i64 (q : Nat)] 24) := ⟨_, rfl⟩
  obtain ⟨G, hG⟩ : ∃ G, G = w2.heap.size := ⟨_, rfl⟩
  have oS : Only (fun _ => False) w2 Z := by rw [hZ]; exact (Only.refl _ _).alloc _
  have HG := Lib.hid (show PfxAt Z G (.slice (some ⟨g, 0, none⟩) n cp) (q : Nat) from by rw [hZ, hG]; exact heap_alloc_new w2 _)
  rw [← hZ, ← hG]
  replace O := Lib.hid (O.out.trans oS)
  replace HP := Lib.hid (PfxAt.keep HP.out oS id)
  replace SA := Lib.hid (Sl.keep SA.out oS (fun _ _ h => h))
  replace HRW := Lib.hid (RowF.keep HRW.out oS id)
  clear oS hZ hG
  obtain ⟨p0, p1⟩ := PfxAt.cells HP.out
  obtain ⟨p0q, p1q⟩ := PfxAt.cells HG.out
  go_wp2_with fail
  (with_reducible refine (EQ.out _ _ _ HRW.out SA.out).mono ?_)
  rintro e w3 ⟨rfl, rfl⟩
  go_wp2_with fail
  go_ret
  exact ⟨rfl, O.out⟩

set_option maxRecDepth 100000 in
set_option maxHeartbeats 1600000 in
theorem prefix_ok (S : Nat → Prop) (a : Option Addr) (c q : Nat) (l : Txt) (w : World) (hs : Sl w S (.slice a 4 c) (U8 l)) (hl : l.length = 4) (hr : rP 4 (q : Nat) = true) (hm : msk l q = l) : Calls Try.prog 14 #[.agg #[.slice a 4 c, .int .i64 (q : Nat)]] w (fun e w' => ∃ T : ByteArray, T.data.toList = Lib.join (decs l) [46] ++ (47 :: dec q) ∧ e = .returned (.tuple #[.string T, .int .i64 0]) ∧ Only (fun _ => False) w w') := by
  have HQ := Lib.hid (show q ≤ 32 from by
    obtain ⟨-, p, hp, hq⟩ := rP_spec hr
    omega)
  have CI := Lib.hid (fun W (h : Sl W (fun _ => True) (.slice a 4 c) (U8 l)) => (show Calls Try.prog 20 #[.agg #[.slice a 4 c, .int .i64 (q : Nat)]] W (numA.Told W (.bool true)) from by
    have h1 := isplain_ok _ a 4 c q l W h hl.symm hr
    rw [hm, beq_self_eq_true] at h1
    exact h1))
  have CT := Lib.hid (fun W (h : Sl W (fun _ => True) (.slice a 4 c) (U8 l)) => print4 _ a c l W h hl)
  have CN := Lib.hid (fun W => print_any q W (by have := HQ.out; unfold most; omega))
  obtain ⟨X, hX⟩ : ∃ X, X = w.alloc (.cells #[.slice a 4 c, .int .i64 (q : Nat)] 24) := ⟨_, rfl⟩
  obtain ⟨P, hP⟩ : ∃ A, A = w.heap.size := ⟨_, rfl⟩
  have HP := Lib.hid (show PfxAt X P (.slice a 4 c) (q : Nat) from by rw [hX, hP]; exact heap_alloc_new w _)
  have O := Lib.hid (show Only (fun _ => False) w X from by rw [hX]; exact (Only.refl _ w).alloc _)
  have SA := Lib.hid (Sl.keep (hs.mono (T := fun _ => True) (fun _ _ => trivial)) O.out (fun _ _ h => h))
  have HX := Lib.hid hX
  have HPE := Lib.hid hP
  have wq : IntKind.u64.wrap (q : Int) = (q : Int) := IntWalk.u64_in _ (by have := HQ.out; omega)
  obtain ⟨A, hA⟩ : ∃ A : ByteArray, A = ⟨(Lib.join (decs l) [46]).toArray⟩ := ⟨_, rfl⟩
  obtain ⟨D, hD⟩ : ∃ A : ByteArray, A = ⟨(dec q).toArray⟩ := ⟨_, rfl⟩
  rw [← hA] at CT
  rw [← hD] at CN
  have HAD := Lib.hid (show (A ++ (⟨#[47]⟩ : ByteArray) ++ D).data.toList = Lib.join (decs l) [46] ++ (47 :: dec q) from by
    rw [hA, hD]
    simp)
  have hAs : A.size ≤ 140737488355328 := by
    have h := join_small l hl
    rw [map_back] at h
    rw [hA]
    exact h
  have hDs : D.size ≤ 20 := by
    rw [hD]
    exact dec_len 19 q (by have := HQ.out; omega)
  have g1 : ∀ W, (Op.stringOp .add A ⟨#[47]⟩).run Try.prog W = .ok (.string (A ++ ⟨#[47]⟩)) W := fun W => run_string_add_sum W A ⟨#[47]⟩ (by have : (⟨#[47]⟩ : ByteArray).size = 1 := rfl; omega)
  have g2 : ∀ W, (Op.stringOp .add (A ++ ⟨#[47]⟩) D).run Try.prog W = .ok (.string (A ++ ⟨#[47]⟩ ++ D)) W := fun W => run_string_add_sum W (A ++ ⟨#[47]⟩) D (by rw [ByteArray.size_append]; have : (⟨#[47]⟩ : ByteArray).size = 1 := rfl; omega)
  clear hX hP hr hs hl hm hA hD hAs hDs
  go_enter Try.func14, Try.ntmps14
  go_wp2_with fail
  rw [← HX.out, ← HPE.out]
  obtain ⟨p0, p1⟩ := PfxAt.cells HP.out
  go_wp2_with fail
  clear p0 p1
  (with_reducible refine ((CI.out _ SA.out)).mono ?_)
  rintro e w2 ⟨rfl, o⟩
  replace O := Lib.hid (O.out.trans o)
  replace HP := Lib.hid (PfxAt.keep HP.out o id)
  replace SA := Lib.hid (Sl.keep SA.out o (fun _ _ h => h))
  clear o
  obtain ⟨p0, p1⟩ := PfxAt.cells HP.out
  go_wp2_with fail
  clear p0 p1
  (with_reducible refine ((CT.out _ SA.out)).mono ?_)
  rintro e w3 ⟨rfl, o⟩
  replace O := Lib.hid (O.out.trans o)
  replace HP := Lib.hid (PfxAt.keep HP.out o id)
  clear o
  obtain ⟨p0, p1⟩ := PfxAt.cells HP.out
  go_wp2_with fail
  clear p0 p1
  (with_reducible refine (CN.out _).mono ?_)
  rintro e w4 ⟨rfl, o⟩
  replace O := Lib.hid (O.out.trans o)
  clear o
  go_wp2_with fail
  go_ret2
  refine ⟨_, HAD.out, ?_, O.out⟩
  first | rfl | (trace_state; sorry)

theorem text_24 : Lib.join (decs [10, 0, 0, 0]) [46] ++ (47 :: dec 24) = [49, 48, 46, 48, 46, 48, 46, 48, 47, 50, 52] := by
  have e0 : dec 0 = [48] := by rw [dec_small (by decide)]; rfl
  have e10 : dec 10 = [49, 48] := by rw [dec_big (by decide), dec_small (by decide)]; rfl
  have e24 : dec 24 = [50, 52] := by rw [dec_big (by decide), dec_small (by decide)]; rfl
  rw [e24, show decs [10, 0, 0, 0] = [dec 10, dec 0, dec 0, dec 0] from rfl, e10, e0]
  rfl
set_option maxRecDepth 100000 in
set_option maxHeartbeats 1600000 in
theorem awake_any (w : World) : Calls Try.prog 5 #[] w (numA.Told w (.bool true)) := by
  obtain ⟨X, hX⟩ : ∃ X, X = w.alloc (.cells #[.int .u8 10, .int .u8 0, .int .u8 0, .int .u8 7] 5) := ⟨_, rfl⟩
  obtain ⟨g0, hg0⟩ : ∃ A, A = w.heap.size := ⟨_, rfl⟩
  have O := Lib.hid (show Only (fun _ => False) w X from by rw [hX]; exact (Only.refl _ w).alloc _)
  have hh : X.heap[g0]? = some (.cells #[.int .u8 10, .int .u8 0, .int .u8 0, .int .u8 7] 5 (0, 0)) := by rw [hX, hg0]; exact heap_alloc_new w _
  have SA : Sl X (fun _ => True) (.slice (some ⟨g0, 0, none⟩) 4 4) (U8 [10, 0, 0, 7]) := by
    refine ⟨by unfold maxLen; simp [U8], _, 4, rfl, .inr ⟨g0, 0, rfl, trivial, lt_of hh, fun i hi => ?_⟩⟩
    have e : i = 0 ∨ i = 1 ∨ i = 2 ∨ i = 3 := by simp [U8] at hi; omega
    rcases e with rfl | rfl | rfl | rfl <;> (rw [cell_of hh]; rfl)
  have CP := Lib.hid (plain_ok _ (some ⟨g0, 0, none⟩) 4 4 24 [10, 0, 0, 7] X SA rfl (by decide))
  have CX := Lib.hid (fun W g cp (h : RowF W g 4 (mk [10, 0, 0, 7] 24)) => prefix_ok _ (some ⟨g, 0, none⟩) cp 24 [10, 0, 0, 0] W (show Sl W (fun k => k = g) (.slice (some ⟨g, 0, none⟩) 4 cp) (U8 [10, 0, 0, 0]) from by
    have h1 := h.sl (cp := cp) (l := [10, 0, 0, 7]) rfl (by decide)
    rw [show msk [10, 0, 0, 7] 24 = [10, 0, 0, 0] from by decide] at h1
    exact h1) rfl (by decide) (by decide))
  have HX := Lib.hid hX
  have HGE := Lib.hid hg0
  simp only [show ((24 : Nat) : Int) = 24 from rfl] at CP CX
  clear hX hg0 hh SA
  go_enter Try.func5, Try.ntmps5
  go_wp2_with fail
  rw [← HX.out, ← HGE.out]
  (with_reducible refine CP.out.mono ?_)
  rintro e w2 ⟨g, cp, rfl, o, hrow, -⟩
  replace O := Lib.hid (O.out.trans o)
  have HRW := Lib.hid hrow
  clear hrow
  clear o
  go_upto_region 2 with fail
  obtain ⟨Z, hZ⟩ : ∃ Z, Z = w2.alloc (.cells #[.slice (some ⟨g, 0, none⟩) 4 cp, .int .i64 24] 24) := ⟨_, rfl⟩
  obtain ⟨G, hG⟩ : ∃ G, G = w2.heap.size := ⟨_, rfl⟩
  have oS : Only (fun _ => False) w2 Z := by rw [hZ]; exact (Only.refl _ _).alloc _
  have HG := Lib.hid (show PfxAt Z G (.slice (some ⟨g, 0, none⟩) 4 cp) 24 from by rw [hZ, hG]; exact heap_alloc_new w2 _)
  rw [← hZ, ← hG]
  replace O := Lib.hid (O.out.trans oS)
  replace HRW := Lib.hid (RowF.keep HRW.out oS id)
  clear oS hZ hG
  obtain ⟨p0, p1⟩ := PfxAt.cells HG.out
  go_wp2_with fail
  clear p0 p1
  (with_reducible refine (CX.out _ _ _ HRW.out).mono ?_)
  rintro e w3 ⟨T, hT, rfl, o⟩
  replace O := Lib.hid (O.out.trans o)
  have hT2 : T.toList = [49, 48, 46, 48, 46, 48, 46, 48, 47, 50, 52] := by rw [byteArray_toList, hT, text_24]
  have hTb : T = ⟨#[49, 48, 46, 48, 46, 48, 46, 48, 47, 50, 52]⟩ := by
    have h := hT.trans text_24
    cases T with
    | mk d =>
      congr 1
      exact Array.toList_inj.1 h
  subst hTb
  clear o hT hT2
  go_wp2_with fail
  go_ret
  exact ⟨rfl, O.out⟩


end Go.Proofs.Ytokbaknckagfmaa.adK
