/- Wire: the law on what is printed, small cases. -/
import Derived.Test.YtbjnejnjlidiaaaWsA
import Derived.Test.YtbjnejnjlidiaaaWrEb
import Derived.Test.YtbjnejnjlidiaaaWrHb
import Derived.Test.YtbjnejnjlidiaaaTsAb
import Derived.Test.YtbjnejnjlidiaaaRgA
namespace Go.Proofs.Ytbjnejnjlidiaaa.wsB
open Go.RowKit kit numA numB numC numD numE numF numG numH numI tmA tmD trA trB prR prS prW prX tsA wrA wrB wrC wrD wrE wrF wrG wrH wrI wrJ wrK wrL wrM wrN wrO wrQ wrR wrS wrT wrU wrV wrW wrY wrZ wsA
set_option linter.unusedVariables false
set_option linter.unusedSimpArgs false

theorem info61 (m : Msg) : (Try.prog.info? 61).map (·.size) = some m.row.size := by
  rw [show m.row.size = 13 from rfl]; kernel_rfl
theorem one61 (m : Msg) : m.row.all (·.oneCell') = true := by simp [Msg.row, Value.oneCell']
theorem size61 (m m' : Msg) : m.row.size = m'.row.size := rfl
theorem eqM_self (m : Msg) : eqM m m = true := (eqM_iff m m).2 ⟨rfl, rfl, rfl, rfl, rfl, rfl, rfl, rfl, rfl, rfl, rfl, rfl, rfl⟩
theorem refprint_any (m : Msg) (w : World) (hk : 1 ≤ m.k ∧ m.k ≤ 4) (ht : ∀ i, (m.t i).size ≤ 60000) (hs : 0 ≤ m.s ∧ m.s ≤ 4294967295) (hr : 0 ≤ m.r ∧ m.r ≤ 4294967295) (hc : 0 ≤ m.c ∧ m.c ≤ (most : Nat)) : Calls Try.prog 61 #[mval m] w (Leb w (printM m)) := by
  have e : m.k = 1 ∨ m.k = 2 ∨ m.k = 3 ∨ m.k = 4 := by omega
  rcases e with e | e | e | e
  · exact refprint_1 m w e ht hs hr hc
  · exact refprint_2 m w e ht hs hr hc
  · exact refprint_3 m w e ht hs hr hc
  · exact refprint_4 m w e ht hs hr hc
set_option maxRecDepth 100000 in
set_option maxHeartbeats 1600000 in
theorem wp_heavy (m : Msg) (w : World) (ht : ∀ i, (m.t i).size ≤ 140737488355328) (hv : decide ((2000 : Int) < bytesM m) = true) : Calls Try.prog 10 #[mval m] w (numA.Told w (.bool true)) := by
  have AW := Lib.hid (fun W => awake_any W)
  have HV := Lib.hid (fun W => (show Calls Try.prog 54 #[.agg #[.int .i64 m.k, .int .u32 m.s, .int .u32 m.r, .int .u64 m.c, .string (m.t 4), .string (m.t 5), .string (m.t 6), .string (m.t 7), .string (m.t 8), .string (m.t 9), .string (m.t 10), .string (m.t 11), .string (m.t 12)], .int .i64 2000] W (numA.Told W (.bool true)) from by have h := heavy_any m 2000 W ht; rw [hv] at h; exact h))
  have HM := Lib.hid (show MsgAt (w.alloc (.cells m.row 61)) w.heap.size m from heap_alloc_new w _)
  have O := Lib.hid (show Only (fun _ => False) w (w.alloc (.cells m.row 61)) from (Only.refl _ w).alloc _)
  obtain ⟨X, hX⟩ : ∃ X, X = w.alloc (.cells m.row 61) := ⟨_, rfl⟩
  rw [← hX] at HM O
  obtain ⟨A, hA⟩ : ∃ A, A = w.heap.size := ⟨_, rfl⟩
  rw [← hA] at HM
  have HX := Lib.hid hX
  have HAE := Lib.hid hA
  simp only [Msg.row] at HX
  clear hX hA
  unfold mval
  clear hv ht
  go_enter Try.func10, Try.ntmps10
  go_wp2_with fail
  rw [← HX.out, ← HAE.out]
  (with_reducible refine (AW.out _).mono ?_)
  rintro e w2 ⟨rfl, o⟩
  replace O := Lib.hid (O.out.trans o)
  replace HM := Lib.hid (MsgAt.keep HM.out o id)
  clear o
  obtain ⟨d0, d1, d2, d3, d4, d5, d6, d7, d8, d9, d10, d11, d12⟩ := MsgAt.cells HM.out
  go_wp2_with fail
  (with_reducible refine (HV.out _).mono ?_)
  rintro e w3 ⟨rfl, o⟩
  replace O := Lib.hid (O.out.trans o)
  replace HM := Lib.hid (MsgAt.keep HM.out o id)
  clear o
  go_wp2_with fail
  go_ret
  exact ⟨rfl, O.out⟩

set_option maxRecDepth 100000 in
set_option maxHeartbeats 3200000 in
theorem wp_no (m : Msg) (w : World) (ht : ∀ i, (m.t i).size ≤ 60000) (hs : 0 ≤ m.s ∧ m.s ≤ 4294967295) (hr : 0 ≤ m.r ∧ m.r ≤ 4294967295) (hc : 0 ≤ m.c ∧ m.c ≤ (most : Nat)) (hv : decide ((2000 : Int) < bytesM m) = false) (hq : rightM m = false) : Calls Try.prog 10 #[mval m] w (numA.Told w (.bool true)) := by
  have AW := Lib.hid (fun W => awake_any W)
  have HV := Lib.hid (fun W => (show Calls Try.prog 54 #[.agg #[.int .i64 m.k, .int .u32 m.s, .int .u32 m.r, .int .u64 m.c, .string (m.t 4), .string (m.t 5), .string (m.t 6), .string (m.t 7), .string (m.t 8), .string (m.t 9), .string (m.t 10), .string (m.t 11), .string (m.t 12)], .int .i64 2000] W (numA.Told W (.bool false)) from by have h := heavy_any m 2000 W (fun i => Nat.le_trans (ht i) (by decide)); rw [hv] at h; exact h))
  have RT := Lib.hid (fun W => (show Calls Try.prog 56 #[.agg #[.int .i64 m.k, .int .u32 m.s, .int .u32 m.r, .int .u64 m.c, .string (m.t 4), .string (m.t 5), .string (m.t 6), .string (m.t 7), .string (m.t 8), .string (m.t 9), .string (m.t 10), .string (m.t 11), .string (m.t 12)]] W (numA.Told W (.bool false)) from by have h := refright_any m W (fun i => Nat.le_trans (ht i) (by decide)); rw [hq] at h; exact h))
  have hg : goodF m = [] := by rw [goodF_eq, hq]; rfl
  have htm : termsOf m = [] := by rw [termsOf_eq, hq]; rfl
  have hbm : bodyM m = [] := by rw [bodyM_eq, if_neg (by rw [hq]; simp)]
  have hsm : signedM m = [] := by unfold signedM; rw [hbm]; rfl
  have CP := Lib.hid (fun W => (show Calls Try.prog 55 #[.agg #[.int .i64 m.k, .int .u32 m.s, .int .u32 m.r, .int .u64 m.c, .string (m.t 4), .string (m.t 5), .string (m.t 6), .string (m.t 7), .string (m.t 8), .string (m.t 9), .string (m.t 10), .string (m.t 11), .string (m.t 12)]] W (numA.Told W (.tuple #[.slice none 0 0, .int .i64 3])) from by
    refine Calls.mono (print_any m W ht hs hr hc) ?_
    rintro e w' ⟨o, ⟨-, rfl⟩ | ⟨h, -⟩⟩
    · exact ⟨rfl, o⟩
    · exact absurd hg h))
  have CT := Lib.hid (fun W => (show Calls Try.prog 57 #[.agg #[.int .i64 m.k, .int .u32 m.s, .int .u32 m.r, .int .u64 m.c, .string (m.t 4), .string (m.t 5), .string (m.t 6), .string (m.t 7), .string (m.t 8), .string (m.t 9), .string (m.t 10), .string (m.t 11), .string (m.t 12)]] W (fun e w' => (∃ a c, e = .returned (.slice a 0 c)) ∧ Only (fun _ => False) W w') from by
    refine Calls.mono (terms_any m W (fun i => Nat.le_trans (ht i) (by decide))) ?_
    rintro e w' ⟨o, a, c, rfl, -⟩
    rw [htm]
    exact ⟨⟨a, c, rfl⟩, o⟩))
  have CB := Lib.hid (fun W => (show Calls Try.prog 58 #[.agg #[.int .i64 m.k, .int .u32 m.s, .int .u32 m.r, .int .u64 m.c, .string (m.t 4), .string (m.t 5), .string (m.t 6), .string (m.t 7), .string (m.t 8), .string (m.t 9), .string (m.t 10), .string (m.t 11), .string (m.t 12)]] W (numA.Told W (.string ⟨#[]⟩)) from by
    refine Calls.mono (wrF.body_any m W (fun i => Nat.le_trans (ht i) (by decide)) hs hr) ?_
    rintro e w' ⟨o, rfl⟩
    rw [hbm]
    exact ⟨rfl, o⟩))
  have CS := Lib.hid (fun W => (show Calls Try.prog 59 #[.agg #[.int .i64 m.k, .int .u32 m.s, .int .u32 m.r, .int .u64 m.c, .string (m.t 4), .string (m.t 5), .string (m.t 6), .string (m.t 7), .string (m.t 8), .string (m.t 9), .string (m.t 10), .string (m.t 11), .string (m.t 12)]] W (numA.Told W (.string ⟨#[]⟩)) from by
    refine Calls.mono (wrF.signed_any m W (fun i => Nat.le_trans (ht i) (by decide)) hs hr) ?_
    rintro e w' ⟨o, rfl⟩
    rw [hsm]
    exact ⟨rfl, o⟩))
  clear hg htm hbm hsm
  have HM := Lib.hid (show MsgAt (w.alloc (.cells m.row 61)) w.heap.size m from heap_alloc_new w _)
  have O := Lib.hid (show Only (fun _ => False) w (w.alloc (.cells m.row 61)) from (Only.refl _ w).alloc _)
  obtain ⟨X, hX⟩ : ∃ X, X = w.alloc (.cells m.row 61) := ⟨_, rfl⟩
  rw [← hX] at HM O
  obtain ⟨A, hA⟩ : ∃ A, A = w.heap.size := ⟨_, rfl⟩
  rw [← hA] at HM
  have HX := Lib.hid hX
  have HAE := Lib.hid hA
  simp only [Msg.row] at HX
  clear hX hA
  unfold mval
  clear hv ht hs hr hc hq
  go_enter Try.func10, Try.ntmps10
  go_wp2_with fail
  rw [← HX.out, ← HAE.out]
  (with_reducible refine (AW.out _).mono ?_)
  rintro e w2 ⟨rfl, o⟩
  replace O := Lib.hid (O.out.trans o)
  replace HM := Lib.hid (MsgAt.keep HM.out o id)
  clear o
  obtain ⟨d0, d1, d2, d3, d4, d5, d6, d7, d8, d9, d10, d11, d12⟩ := MsgAt.cells HM.out
  go_wp2_with fail
  (with_reducible refine (HV.out _).mono ?_)
  rintro e w3 ⟨rfl, o⟩
  replace O := Lib.hid (O.out.trans o)
  replace HM := Lib.hid (MsgAt.keep HM.out o id)
  clear o
  clear d0 d1 d2 d3 d4 d5 d6 d7 d8 d9 d10 d11 d12
  obtain ⟨d0, d1, d2, d3, d4, d5, d6, d7, d8, d9, d10, d11, d12⟩ := MsgAt.cells HM.out
  go_wp2_with fail
  (with_reducible refine (CP.out _).mono ?_)
  rintro e w4 ⟨rfl, o⟩
  replace O := Lib.hid (O.out.trans o)
  replace HM := Lib.hid (MsgAt.keep HM.out o id)
  clear o
  clear d0 d1 d2 d3 d4 d5 d6 d7 d8 d9 d10 d11 d12
  obtain ⟨d0, d1, d2, d3, d4, d5, d6, d7, d8, d9, d10, d11, d12⟩ := MsgAt.cells HM.out
  go_wp2_with fail
  (with_reducible refine (RT.out _).mono ?_)
  rintro e w5 ⟨rfl, o⟩
  replace O := Lib.hid (O.out.trans o)
  replace HM := Lib.hid (MsgAt.keep HM.out o id)
  clear o
  clear d0 d1 d2 d3 d4 d5 d6 d7 d8 d9 d10 d11 d12
  obtain ⟨d0, d1, d2, d3, d4, d5, d6, d7, d8, d9, d10, d11, d12⟩ := MsgAt.cells HM.out
  go_wp2_with fail
  (with_reducible refine (CT.out _).mono ?_)
  rintro e w6 ⟨⟨a1, c1, rfl⟩, o⟩
  replace O := Lib.hid (O.out.trans o)
  replace HM := Lib.hid (MsgAt.keep HM.out o id)
  clear o
  clear d0 d1 d2 d3 d4 d5 d6 d7 d8 d9 d10 d11 d12
  obtain ⟨d0, d1, d2, d3, d4, d5, d6, d7, d8, d9, d10, d11, d12⟩ := MsgAt.cells HM.out
  go_wp2_with fail
  (with_reducible refine (CB.out _).mono ?_)
  rintro e w7 ⟨rfl, o⟩
  replace O := Lib.hid (O.out.trans o)
  replace HM := Lib.hid (MsgAt.keep HM.out o id)
  clear o
  clear d0 d1 d2 d3 d4 d5 d6 d7 d8 d9 d10 d11 d12
  obtain ⟨d0, d1, d2, d3, d4, d5, d6, d7, d8, d9, d10, d11, d12⟩ := MsgAt.cells HM.out
  go_wp2_with fail
  (with_reducible refine (CS.out _).mono ?_)
  rintro e w8 ⟨rfl, o⟩
  replace O := Lib.hid (O.out.trans o)
  replace HM := Lib.hid (MsgAt.keep HM.out o id)
  clear o
  clear d0 d1 d2 d3 d4 d5 d6 d7 d8 d9 d10 d11 d12
  obtain ⟨d0, d1, d2, d3, d4, d5, d6, d7, d8, d9, d10, d11, d12⟩ := MsgAt.cells HM.out
  go_wp2_with fail
  go_ret
  exact ⟨rfl, O.out⟩


end Go.Proofs.Ytbjnejnjlidiaaa.wsB
