/- Macs: First and Second. -/
import Derived.Test.YtbjnejnjlidiaaaMaC
import Derived.Test.YtbjnejnjlidiaaaRgA
namespace Go.Proofs.Ytbjnejnjlidiaaa.maD
open Go.RowKit kit numA numB numC numD numE tmA tmB tmC tmD tmE trA trB prR prS prW prX tsA tsB tsF tsI wrA wrB wrC wrD wrE wrF wrG wrH wrI wrJ wrK wrL mkA maA maB maC
set_option linter.unusedVariables false
set_option linter.unusedSimpArgs false

set_option maxRecDepth 100000 in
set_option maxHeartbeats 1600000 in
theorem first_f (m : Msg) (p : ByteArray) (w : World) (ha : asksM m = false) (hp : True) (ht : ∀ i, (m.t i).size ≤ 10000000) (hz : p.size ≤ 10000000) (hs : 0 ≤ m.s ∧ m.s ≤ 4294967295) (hr : 0 ≤ m.r ∧ m.r ≤ 4294967295) : Calls Try.prog 80 #[mval m, .string p] w (numA.Told w (.bool (firstB m p.data.toList))) := by
  have CS := Lib.hid (fun W => issig_any m false W ha (fun i => Nat.le_trans (ht i) (by decide)))
  simp only [mval] at CS
  have HG := Lib.hid (show firstB m p.data.toList = false from by rw [firstB, ha]; rfl)
  have HA := Lib.hid (show MsgAt (w.alloc (.cells m.row 61)) w.heap.size m from heap_alloc_new w _)
  have O := Lib.hid (show Only (fun _ => False) w (w.alloc (.cells m.row 61)) from (Only.refl _ w).alloc _)
  obtain ⟨X, hX⟩ : ∃ X, X = w.alloc (.cells m.row 61) := ⟨_, rfl⟩
  rw [← hX] at HA O
  obtain ⟨A, hA⟩ : ∃ A, A = w.heap.size := ⟨_, rfl⟩
  rw [← hA] at HA
  have HX := Lib.hid hX
  have HAE := Lib.hid hA
  simp only [Msg.row] at HX
  clear hX hA
  have R := Lib.hid ((Only.refl (fun _ => False) X).drew)
  unfold mval
  clear ha hp ht hz hs hr
  go_enter Try.func80, Try.ntmps80
  go_wp2_with fail
  rw [← HX.out, ← HAE.out]
  refine wp_region_held_drew (S := (fun w' => w'.cell? ⟨A, 0, none⟩ = some (.int .i64 m.k) ∧ w'.cell? ⟨A, 1, none⟩ = some (.int .u32 m.s) ∧ w'.cell? ⟨A, 2, none⟩ = some (.int .u32 m.r) ∧ w'.cell? ⟨A, 3, none⟩ = some (.int .u64 m.c) ∧ w'.cell? ⟨A, 4, none⟩ = some (.string (m.t 4)) ∧ w'.cell? ⟨A, 5, none⟩ = some (.string (m.t 5)) ∧ w'.cell? ⟨A, 6, none⟩ = some (.string (m.t 6)) ∧ w'.cell? ⟨A, 7, none⟩ = some (.string (m.t 7)) ∧ w'.cell? ⟨A, 8, none⟩ = some (.string (m.t 8)) ∧ w'.cell? ⟨A, 9, none⟩ = some (.string (m.t 9)) ∧ w'.cell? ⟨A, 10, none⟩ = some (.string (m.t 10)) ∧ w'.cell? ⟨A, 11, none⟩ = some (.string (m.t 11)) ∧ w'.cell? ⟨A, 12, none⟩ = some (.string (m.t 12)))) (by kernel_rfl) ?_ (fun hHeld => ?_)
  · exact MsgAt.cells (MsgAt.keep HA.out R.out id)
  refine rgA.tk 0 hHeld ?_
  refine rgA.rd 1 (fun K hK => ?_)
  go_simp
  (with_reducible refine (CS.out _).mono ?_)
  rintro e w2 ⟨rfl, o⟩
  replace R := Lib.hid (R.out.trans o)
  clear o
  go_wp2_with fail
  refine hK.out _ _ ?_ (fun hHeld => ?_)
  · exact MsgAt.cells (MsgAt.keep HA.out R.out id)
  clear hK K
  try simp only [List.getElem_toArray, List.getElem_cons_succ, List.getElem_cons_zero, Act.put, List.setIfInBounds_toArray, List.set_cons_zero, List.set_cons_succ]
  refine rgA.tk 2 hHeld ?_
  refine rgA.tk 3 hHeld ?_
  refine rgA.tk 4 hHeld ?_
  refine rgA.tk 5 hHeld ?_
  refine rgA.tk 6 hHeld ?_
  refine rgA.tk 7 hHeld ?_
  refine rgA.tk 8 hHeld ?_
  refine rgA.tk 9 hHeld ?_
  refine rgA.tk 10 hHeld ?_
  refine rgA.tk 11 hHeld ?_
  refine rgA.tk 12 hHeld ?_
  refine rgA.tk 13 hHeld ?_
  refine rgA.tk 14 hHeld ?_
  refine rgA.tk 15 hHeld ?_
  refine wpAnyH_done (by kernel_rfl) ?_ _
  go_wp2_with fail
  go_ret
  exact ⟨by rw [HG.out]; rfl, O.out.trans R.out⟩

set_option maxRecDepth 100000 in
set_option maxHeartbeats 1600000 in
theorem first_tf (m : Msg) (p : ByteArray) (w : World) (ha : asksM m = true) (hp : pubB p.data.toList = false) (ht : ∀ i, (m.t i).size ≤ 10000000) (hz : p.size ≤ 10000000) (hs : 0 ≤ m.s ∧ m.s ≤ 4294967295) (hr : 0 ≤ m.r ∧ m.r ≤ 4294967295) : Calls Try.prog 80 #[mval m, .string p] w (numA.Told w (.bool (firstB m p.data.toList))) := by
  have CS := Lib.hid (fun W => issig_any m true W ha (fun i => Nat.le_trans (ht i) (by decide)))
  simp only [mval] at CS
  have CP := Lib.hid (fun W => ispub_any p false W hp (Nat.le_trans hz (by decide)))
  have HG := Lib.hid (show firstB m p.data.toList = false from by rw [firstB, ha, hp]; rfl)
  have HA := Lib.hid (show MsgAt (w.alloc (.cells m.row 61)) w.heap.size m from heap_alloc_new w _)
  have O := Lib.hid (show Only (fun _ => False) w (w.alloc (.cells m.row 61)) from (Only.refl _ w).alloc _)
  obtain ⟨X, hX⟩ : ∃ X, X = w.alloc (.cells m.row 61) := ⟨_, rfl⟩
  rw [← hX] at HA O
  obtain ⟨A, hA⟩ : ∃ A, A = w.heap.size := ⟨_, rfl⟩
  rw [← hA] at HA
  have HX := Lib.hid hX
  have HAE := Lib.hid hA
  simp only [Msg.row] at HX
  clear hX hA
  have R := Lib.hid ((Only.refl (fun _ => False) X).drew)
  unfold mval
  clear ha hp ht hz hs hr
  go_enter Try.func80, Try.ntmps80
  go_wp2_with fail
  rw [← HX.out, ← HAE.out]
  refine wp_region_held_drew (S := (fun w' => w'.cell? ⟨A, 0, none⟩ = some (.int .i64 m.k) ∧ w'.cell? ⟨A, 1, none⟩ = some (.int .u32 m.s) ∧ w'.cell? ⟨A, 2, none⟩ = some (.int .u32 m.r) ∧ w'.cell? ⟨A, 3, none⟩ = some (.int .u64 m.c) ∧ w'.cell? ⟨A, 4, none⟩ = some (.string (m.t 4)) ∧ w'.cell? ⟨A, 5, none⟩ = some (.string (m.t 5)) ∧ w'.cell? ⟨A, 6, none⟩ = some (.string (m.t 6)) ∧ w'.cell? ⟨A, 7, none⟩ = some (.string (m.t 7)) ∧ w'.cell? ⟨A, 8, none⟩ = some (.string (m.t 8)) ∧ w'.cell? ⟨A, 9, none⟩ = some (.string (m.t 9)) ∧ w'.cell? ⟨A, 10, none⟩ = some (.string (m.t 10)) ∧ w'.cell? ⟨A, 11, none⟩ = some (.string (m.t 11)) ∧ w'.cell? ⟨A, 12, none⟩ = some (.string (m.t 12)))) (by kernel_rfl) ?_ (fun hHeld => ?_)
  · exact MsgAt.cells (MsgAt.keep HA.out R.out id)
  refine rgA.tk 0 hHeld ?_
  refine rgA.rd 1 (fun K hK => ?_)
  go_simp
  (with_reducible refine (CS.out _).mono ?_)
  rintro e w2 ⟨rfl, o⟩
  replace R := Lib.hid (R.out.trans o)
  clear o
  go_wp2_with fail
  refine hK.out _ _ ?_ (fun hHeld => ?_)
  · exact MsgAt.cells (MsgAt.keep HA.out R.out id)
  clear hK K
  try simp only [List.getElem_toArray, List.getElem_cons_succ, List.getElem_cons_zero, Act.put, List.setIfInBounds_toArray, List.set_cons_zero, List.set_cons_succ]
  refine rgA.tk 2 hHeld ?_
  refine rgA.tk 3 hHeld ?_
  refine rgA.rd 4 (fun K hK => ?_)
  go_simp
  (with_reducible refine (CP.out _).mono ?_)
  rintro e w2 ⟨rfl, o⟩
  replace R := Lib.hid (R.out.trans o)
  clear o
  go_wp2_with fail
  refine hK.out _ _ ?_ (fun hHeld => ?_)
  · exact MsgAt.cells (MsgAt.keep HA.out R.out id)
  clear hK K
  try simp only [List.getElem_toArray, List.getElem_cons_succ, List.getElem_cons_zero, Act.put, List.setIfInBounds_toArray, List.set_cons_zero, List.set_cons_succ]
  refine rgA.tk 5 hHeld ?_
  refine rgA.tk 6 hHeld ?_
  refine rgA.tk 7 hHeld ?_
  refine rgA.tk 8 hHeld ?_
  refine rgA.tk 9 hHeld ?_
  refine rgA.tk 10 hHeld ?_
  refine rgA.tk 11 hHeld ?_
  refine rgA.tk 12 hHeld ?_
  refine rgA.tk 13 hHeld ?_
  refine rgA.tk 14 hHeld ?_
  refine rgA.tk 15 hHeld ?_
  refine wpAnyH_done (by kernel_rfl) ?_ _
  go_wp2_with fail
  go_ret
  exact ⟨by rw [HG.out]; rfl, O.out.trans R.out⟩

set_option maxRecDepth 100000 in
set_option maxHeartbeats 1600000 in
theorem first_tt (m : Msg) (p : ByteArray) (w : World) (ha : asksM m = true) (hp : pubB p.data.toList = true) (ht : ∀ i, (m.t i).size ≤ 10000000) (hz : p.size ≤ 10000000) (hs : 0 ≤ m.s ∧ m.s ≤ 4294967295) (hr : 0 ≤ m.r ∧ m.r ≤ 4294967295) : Calls Try.prog 80 #[mval m, .string p] w (numA.Told w (.bool (firstB m p.data.toList))) := by
  have CS := Lib.hid (fun W => issig_any m true W ha (fun i => Nat.le_trans (ht i) (by decide)))
  simp only [mval] at CS
  have CP := Lib.hid (fun W => ispub_any p true W hp (Nat.le_trans hz (by decide)))
  obtain ⟨d, hd⟩ : ∃ d : ByteArray, d.data.toList = doorT p.data.toList := ⟨⟨(doorT p.data.toList).toArray⟩, rfl⟩
  obtain ⟨y, hy⟩ : ∃ y : ByteArray, y.data.toList = bodyM m := ⟨⟨(bodyM m).toArray⟩, rfl⟩
  have CD := Lib.hid (fun W => door_any p d W hd (Nat.le_trans hz (by decide)))
  have CB := Lib.hid (fun W => told_str hy (body_any m W (fun i => Nat.le_trans (ht i) (by decide)) hs hr))
  simp only [mval] at CB
  have CG := Lib.hid (fun W => prX.signed_any (m.t 11) d y W (Nat.le_trans (ht 11) (by decide)))
  rw [hd, hy] at CG
  obtain ⟨g, hg⟩ : ∃ g, g = sgn (m.t 11).data.toList (doorT p.data.toList) (bodyM m) := ⟨_, rfl⟩
  rw [← hg] at CG
  have HG := Lib.hid (show firstB m p.data.toList = g from by rw [firstB, ha, hp, hg]; rfl)
  clear hd hy hg
  have HA := Lib.hid (show MsgAt (w.alloc (.cells m.row 61)) w.heap.size m from heap_alloc_new w _)
  have O := Lib.hid (show Only (fun _ => False) w (w.alloc (.cells m.row 61)) from (Only.refl _ w).alloc _)
  obtain ⟨X, hX⟩ : ∃ X, X = w.alloc (.cells m.row 61) := ⟨_, rfl⟩
  rw [← hX] at HA O
  obtain ⟨A, hA⟩ : ∃ A, A = w.heap.size := ⟨_, rfl⟩
  rw [← hA] at HA
  have HX := Lib.hid hX
  have HAE := Lib.hid hA
  simp only [Msg.row] at HX
  clear hX hA
  have R := Lib.hid ((Only.refl (fun _ => False) X).drew)
  unfold mval
  clear ha hp ht hz hs hr
  go_enter Try.func80, Try.ntmps80
  go_wp2_with fail
  rw [← HX.out, ← HAE.out]
  refine wp_region_held_drew (S := (fun w' => w'.cell? ⟨A, 0, none⟩ = some (.int .i64 m.k) ∧ w'.cell? ⟨A, 1, none⟩ = some (.int .u32 m.s) ∧ w'.cell? ⟨A, 2, none⟩ = some (.int .u32 m.r) ∧ w'.cell? ⟨A, 3, none⟩ = some (.int .u64 m.c) ∧ w'.cell? ⟨A, 4, none⟩ = some (.string (m.t 4)) ∧ w'.cell? ⟨A, 5, none⟩ = some (.string (m.t 5)) ∧ w'.cell? ⟨A, 6, none⟩ = some (.string (m.t 6)) ∧ w'.cell? ⟨A, 7, none⟩ = some (.string (m.t 7)) ∧ w'.cell? ⟨A, 8, none⟩ = some (.string (m.t 8)) ∧ w'.cell? ⟨A, 9, none⟩ = some (.string (m.t 9)) ∧ w'.cell? ⟨A, 10, none⟩ = some (.string (m.t 10)) ∧ w'.cell? ⟨A, 11, none⟩ = some (.string (m.t 11)) ∧ w'.cell? ⟨A, 12, none⟩ = some (.string (m.t 12)))) (by kernel_rfl) ?_ (fun hHeld => ?_)
  · exact MsgAt.cells (MsgAt.keep HA.out R.out id)
  refine rgA.tk 0 hHeld ?_
  refine rgA.rd 1 (fun K hK => ?_)
  go_simp
  (with_reducible refine (CS.out _).mono ?_)
  rintro e w2 ⟨rfl, o⟩
  replace R := Lib.hid (R.out.trans o)
  clear o
  go_wp2_with fail
  refine hK.out _ _ ?_ (fun hHeld => ?_)
  · exact MsgAt.cells (MsgAt.keep HA.out R.out id)
  clear hK K
  try simp only [List.getElem_toArray, List.getElem_cons_succ, List.getElem_cons_zero, Act.put, List.setIfInBounds_toArray, List.set_cons_zero, List.set_cons_succ]
  refine rgA.tk 2 hHeld ?_
  refine rgA.tk 3 hHeld ?_
  refine rgA.rd 4 (fun K hK => ?_)
  go_simp
  (with_reducible refine (CP.out _).mono ?_)
  rintro e w2 ⟨rfl, o⟩
  replace R := Lib.hid (R.out.trans o)
  clear o
  go_wp2_with fail
  refine hK.out _ _ ?_ (fun hHeld => ?_)
  · exact MsgAt.cells (MsgAt.keep HA.out R.out id)
  clear hK K
  try simp only [List.getElem_toArray, List.getElem_cons_succ, List.getElem_cons_zero, Act.put, List.setIfInBounds_toArray, List.set_cons_zero, List.set_cons_succ]
  refine rgA.tk 5 hHeld ?_
  refine rgA.tk 6 hHeld ?_
  refine rgA.tk 7 hHeld ?_
  refine rgA.tk 8 hHeld ?_
  refine rgA.tk 9 hHeld ?_
  refine rgA.tk 11 hHeld ?_
  refine rgA.rd 10 (fun K hK => ?_)
  go_simp
  (with_reducible refine (CD.out _).mono ?_)
  rintro e w2 ⟨rfl, o⟩
  replace R := Lib.hid (R.out.trans o)
  clear o
  go_wp2_with fail
  refine hK.out _ _ ?_ (fun hHeld => ?_)
  · exact MsgAt.cells (MsgAt.keep HA.out R.out id)
  clear hK K
  try simp only [List.getElem_toArray, List.getElem_cons_succ, List.getElem_cons_zero, Act.put, List.setIfInBounds_toArray, List.set_cons_zero, List.set_cons_succ]
  refine rgA.rd 12 (fun K hK => ?_)
  go_simp
  (with_reducible refine (CB.out _).mono ?_)
  rintro e w2 ⟨rfl, o⟩
  replace R := Lib.hid (R.out.trans o)
  clear o
  go_wp2_with fail
  refine hK.out _ _ ?_ (fun hHeld => ?_)
  · exact MsgAt.cells (MsgAt.keep HA.out R.out id)
  clear hK K
  try simp only [List.getElem_toArray, List.getElem_cons_succ, List.getElem_cons_zero, Act.put, List.setIfInBounds_toArray, List.set_cons_zero, List.set_cons_succ]
  refine rgA.rd 13 (fun K hK => ?_)
  go_simp
  (with_reducible refine (CG.out _).mono ?_)
  rintro e w2 ⟨rfl, o⟩
  replace R := Lib.hid (R.out.trans o)
  clear o
  go_wp2_with fail
  refine hK.out _ _ ?_ (fun hHeld => ?_)
  · exact MsgAt.cells (MsgAt.keep HA.out R.out id)
  clear hK K
  try simp only [List.getElem_toArray, List.getElem_cons_succ, List.getElem_cons_zero, Act.put, List.setIfInBounds_toArray, List.set_cons_zero, List.set_cons_succ]
  refine rgA.tk 14 hHeld ?_
  refine rgA.tk 15 hHeld ?_
  refine wpAnyH_done (by kernel_rfl) ?_ _
  go_wp2_with fail
  go_ret
  exact ⟨by rw [HG.out]; rfl, O.out.trans R.out⟩

theorem first_any (m : Msg) (p : ByteArray) (a : Bool) (w : World) (h : firstB m p.data.toList = a) (ht : ∀ i, (m.t i).size ≤ 10000000) (hz : p.size ≤ 10000000) (hs : 0 ≤ m.s ∧ m.s ≤ 4294967295) (hr : 0 ≤ m.r ∧ m.r ≤ 4294967295) : Calls Try.prog 80 #[mval m, .string p] w (numA.Told w (.bool a)) := by
  subst h
  cases ha : asksM m
  · exact first_f m p w ha trivial ht hz hs hr
  · cases hp : pubB p.data.toList
    · exact first_tf m p w ha hp ht hz hs hr
    · exact first_tt m p w ha hp ht hz hs hr

set_option maxRecDepth 100000 in
set_option maxHeartbeats 1600000 in
theorem second_f (m : Msg) (c : ByteArray) (w : World) (ha : asksM m = false) (ht : ∀ i, (m.t i).size ≤ 10000000) (hs : 0 ≤ m.s ∧ m.s ≤ 4294967295) (hr : 0 ≤ m.r ∧ m.r ≤ 4294967295) : Calls Try.prog 83 #[mval m, .string c] w (numA.Told w (.bool (secondB m c.data.toList))) := by
  have CS := Lib.hid (fun W => issig_any m false W ha (fun i => Nat.le_trans (ht i) (by decide)))
  simp only [mval] at CS
  have HG := Lib.hid (show secondB m c.data.toList = false from by rw [secondB, ha]; rfl)
  have HA := Lib.hid (show MsgAt (w.alloc (.cells m.row 61)) w.heap.size m from heap_alloc_new w _)
  have O := Lib.hid (show Only (fun _ => False) w (w.alloc (.cells m.row 61)) from (Only.refl _ w).alloc _)
  obtain ⟨X, hX⟩ : ∃ X, X = w.alloc (.cells m.row 61) := ⟨_, rfl⟩
  rw [← hX] at HA O
  obtain ⟨A, hA⟩ : ∃ A, A = w.heap.size := ⟨_, rfl⟩
  rw [← hA] at HA
  have HX := Lib.hid hX
  have HAE := Lib.hid hA
  simp only [Msg.row] at HX
  clear hX hA
  have R := Lib.hid ((Only.refl (fun _ => False) X).drew)
  unfold mval
  clear ha ht hs hr
  go_enter Try.func83, Try.ntmps83
  go_wp2_with fail
  rw [← HX.out, ← HAE.out]
  refine wp_region_held_drew (S := (fun w' => w'.cell? ⟨A, 0, none⟩ = some (.int .i64 m.k) ∧ w'.cell? ⟨A, 1, none⟩ = some (.int .u32 m.s) ∧ w'.cell? ⟨A, 2, none⟩ = some (.int .u32 m.r) ∧ w'.cell? ⟨A, 3, none⟩ = some (.int .u64 m.c) ∧ w'.cell? ⟨A, 4, none⟩ = some (.string (m.t 4)) ∧ w'.cell? ⟨A, 5, none⟩ = some (.string (m.t 5)) ∧ w'.cell? ⟨A, 6, none⟩ = some (.string (m.t 6)) ∧ w'.cell? ⟨A, 7, none⟩ = some (.string (m.t 7)) ∧ w'.cell? ⟨A, 8, none⟩ = some (.string (m.t 8)) ∧ w'.cell? ⟨A, 9, none⟩ = some (.string (m.t 9)) ∧ w'.cell? ⟨A, 10, none⟩ = some (.string (m.t 10)) ∧ w'.cell? ⟨A, 11, none⟩ = some (.string (m.t 11)) ∧ w'.cell? ⟨A, 12, none⟩ = some (.string (m.t 12)))) (by kernel_rfl) ?_ (fun hHeld => ?_)
  · exact MsgAt.cells (MsgAt.keep HA.out R.out id)
  refine rgA.tk 0 hHeld ?_
  refine rgA.rd 1 (fun K hK => ?_)
  go_simp
  (with_reducible refine (CS.out _).mono ?_)
  rintro e w2 ⟨rfl, o⟩
  replace R := Lib.hid (R.out.trans o)
  clear o
  go_wp2_with fail
  refine hK.out _ _ ?_ (fun hHeld => ?_)
  · exact MsgAt.cells (MsgAt.keep HA.out R.out id)
  clear hK K
  try simp only [List.getElem_toArray, List.getElem_cons_succ, List.getElem_cons_zero, Act.put, List.setIfInBounds_toArray, List.set_cons_zero, List.set_cons_succ]
  refine rgA.tk 2 hHeld ?_
  refine rgA.tk 3 hHeld ?_
  refine rgA.tk 4 hHeld ?_
  refine rgA.tk 5 hHeld ?_
  refine rgA.tk 6 hHeld ?_
  refine rgA.tk 7 hHeld ?_
  refine rgA.tk 8 hHeld ?_
  refine rgA.tk 9 hHeld ?_
  refine rgA.tk 10 hHeld ?_
  refine wpAnyH_done (by kernel_rfl) ?_ _
  go_wp2_with fail
  go_ret
  exact ⟨by rw [HG.out]; rfl, O.out.trans R.out⟩

set_option maxRecDepth 100000 in
set_option maxHeartbeats 1600000 in
theorem second_t (m : Msg) (c : ByteArray) (w : World) (ha : asksM m = true) (ht : ∀ i, (m.t i).size ≤ 10000000) (hs : 0 ≤ m.s ∧ m.s ≤ 4294967295) (hr : 0 ≤ m.r ∧ m.r ≤ 4294967295) : Calls Try.prog 83 #[mval m, .string c] w (numA.Told w (.bool (secondB m c.data.toList))) := by
  have CS := Lib.hid (fun W => issig_any m true W ha (fun i => Nat.le_trans (ht i) (by decide)))
  simp only [mval] at CS
  obtain ⟨y, hy⟩ : ∃ y : ByteArray, y.data.toList = signedM m := ⟨⟨(signedM m).toArray⟩, rfl⟩
  have CB := Lib.hid (fun W => told_str hy (wrF.signed_any m W (fun i => Nat.le_trans (ht i) (by decide)) hs hr))
  simp only [mval] at CB
  have CG := Lib.hid (fun W => prX.signed_any (m.t 12) c y W (Nat.le_trans (ht 12) (by decide)))
  rw [hy] at CG
  obtain ⟨g, hg⟩ : ∃ g, g = sgn (m.t 12).data.toList c.data.toList (signedM m) := ⟨_, rfl⟩
  rw [← hg] at CG
  have HG := Lib.hid (show secondB m c.data.toList = g from by rw [secondB, ha, hg]; rfl)
  clear hy hg
  have HA := Lib.hid (show MsgAt (w.alloc (.cells m.row 61)) w.heap.size m from heap_alloc_new w _)
  have O := Lib.hid (show Only (fun _ => False) w (w.alloc (.cells m.row 61)) from (Only.refl _ w).alloc _)
  obtain ⟨X, hX⟩ : ∃ X, X = w.alloc (.cells m.row 61) := ⟨_, rfl⟩
  rw [← hX] at HA O
  obtain ⟨A, hA⟩ : ∃ A, A = w.heap.size := ⟨_, rfl⟩
  rw [← hA] at HA
  have HX := Lib.hid hX
  have HAE := Lib.hid hA
  simp only [Msg.row] at HX
  clear hX hA
  have R := Lib.hid ((Only.refl (fun _ => False) X).drew)
  unfold mval
  clear ha ht hs hr
  go_enter Try.func83, Try.ntmps83
  go_wp2_with fail
  rw [← HX.out, ← HAE.out]
  refine wp_region_held_drew (S := (fun w' => w'.cell? ⟨A, 0, none⟩ = some (.int .i64 m.k) ∧ w'.cell? ⟨A, 1, none⟩ = some (.int .u32 m.s) ∧ w'.cell? ⟨A, 2, none⟩ = some (.int .u32 m.r) ∧ w'.cell? ⟨A, 3, none⟩ = some (.int .u64 m.c) ∧ w'.cell? ⟨A, 4, none⟩ = some (.string (m.t 4)) ∧ w'.cell? ⟨A, 5, none⟩ = some (.string (m.t 5)) ∧ w'.cell? ⟨A, 6, none⟩ = some (.string (m.t 6)) ∧ w'.cell? ⟨A, 7, none⟩ = some (.string (m.t 7)) ∧ w'.cell? ⟨A, 8, none⟩ = some (.string (m.t 8)) ∧ w'.cell? ⟨A, 9, none⟩ = some (.string (m.t 9)) ∧ w'.cell? ⟨A, 10, none⟩ = some (.string (m.t 10)) ∧ w'.cell? ⟨A, 11, none⟩ = some (.string (m.t 11)) ∧ w'.cell? ⟨A, 12, none⟩ = some (.string (m.t 12)))) (by kernel_rfl) ?_ (fun hHeld => ?_)
  · exact MsgAt.cells (MsgAt.keep HA.out R.out id)
  refine rgA.tk 0 hHeld ?_
  refine rgA.rd 1 (fun K hK => ?_)
  go_simp
  (with_reducible refine (CS.out _).mono ?_)
  rintro e w2 ⟨rfl, o⟩
  replace R := Lib.hid (R.out.trans o)
  clear o
  go_wp2_with fail
  refine hK.out _ _ ?_ (fun hHeld => ?_)
  · exact MsgAt.cells (MsgAt.keep HA.out R.out id)
  clear hK K
  try simp only [List.getElem_toArray, List.getElem_cons_succ, List.getElem_cons_zero, Act.put, List.setIfInBounds_toArray, List.set_cons_zero, List.set_cons_succ]
  refine rgA.tk 2 hHeld ?_
  refine rgA.tk 3 hHeld ?_
  refine rgA.tk 4 hHeld ?_
  refine rgA.tk 5 hHeld ?_
  refine rgA.tk 6 hHeld ?_
  refine rgA.rd 7 (fun K hK => ?_)
  go_simp
  (with_reducible refine (CB.out _).mono ?_)
  rintro e w2 ⟨rfl, o⟩
  replace R := Lib.hid (R.out.trans o)
  clear o
  go_wp2_with fail
  refine hK.out _ _ ?_ (fun hHeld => ?_)
  · exact MsgAt.cells (MsgAt.keep HA.out R.out id)
  clear hK K
  try simp only [List.getElem_toArray, List.getElem_cons_succ, List.getElem_cons_zero, Act.put, List.setIfInBounds_toArray, List.set_cons_zero, List.set_cons_succ]
  refine rgA.rd 8 (fun K hK => ?_)
  go_simp
  (with_reducible refine (CG.out _).mono ?_)
  rintro e w2 ⟨rfl, o⟩
  replace R := Lib.hid (R.out.trans o)
  clear o
  go_wp2_with fail
  refine hK.out _ _ ?_ (fun hHeld => ?_)
  · exact MsgAt.cells (MsgAt.keep HA.out R.out id)
  clear hK K
  try simp only [List.getElem_toArray, List.getElem_cons_succ, List.getElem_cons_zero, Act.put, List.setIfInBounds_toArray, List.set_cons_zero, List.set_cons_succ]
  refine rgA.tk 9 hHeld ?_
  refine rgA.tk 10 hHeld ?_
  refine wpAnyH_done (by kernel_rfl) ?_ _
  go_wp2_with fail
  go_ret
  exact ⟨by rw [HG.out]; rfl, O.out.trans R.out⟩

theorem second_any (m : Msg) (c : ByteArray) (a : Bool) (w : World) (h : secondB m c.data.toList = a) (ht : ∀ i, (m.t i).size ≤ 10000000) (hs : 0 ≤ m.s ∧ m.s ≤ 4294967295) (hr : 0 ≤ m.r ∧ m.r ≤ 4294967295) : Calls Try.prog 83 #[mval m, .string c] w (numA.Told w (.bool a)) := by
  subst h
  cases ha : asksM m
  · exact second_f m c w ha ht hs hr
  · exact second_t m c w ha ht hs hr


end Go.Proofs.Ytbjnejnjlidiaaa.maD
