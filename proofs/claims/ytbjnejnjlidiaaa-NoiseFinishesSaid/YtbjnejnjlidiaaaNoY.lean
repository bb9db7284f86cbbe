/- Noise: the law on any answer. -/
import Derived.Test.YtbjnejnjlidiaaaNoU
import Derived.Test.YtbjnejnjlidiaaaWrH
import Derived.Deep.DeepCutAuto
import Derived.Test.YtbjnejnjlidiaaaRgA
import Derived.Deep.RegionHeld3
import Derived.Deep.RegionWith
namespace Go.Proofs.Ytbjnejnjlidiaaa.noY
open Go.RowKit kit numA numB numC numD numE tmA tmB tmC tmD tmE trA trB prR prS prW prX tsA tsB tsF tsI wrA wrB wrC wrD wrE wrF wrG wrH wrI wrJ mkA maA maB maC noA noB noC noD noE tsG noF noG noH noJ noK noL noM noN noO noP wrL noS noU
set_option linter.unusedVariables false
set_option linter.unusedSimpArgs false

set_option maxRecDepth 100000 in
set_option maxHeartbeats 2000000 in
theorem nf_big (x : Int) (e c h : ByteArray) (y : Int) (p : ByteArray) (N : Int) (ee c2 h2 : ByteArray) (s q : ByteArray) (m : Msg) (w : World) (hb : bigN [e.data.toList, c.data.toList, h.data.toList, p.data.toList, ee.data.toList, c2.data.toList, h2.data.toList, s.data.toList, q.data.toList] = true) : Calls Try.prog 15 #[.agg (startV x e c h), .agg (heardV y p N ee c2 h2), .string s, .string q, mval m] w (numA.Told w (.bool true)) := by
  have AW := Lib.hid (fun W => awake_any W)
  have BG := Lib.hid (fun W => (show Calls Try.prog 67 #[.slice (some ⟨W.heap.size, 0, none⟩) 9 9] (W.alloc (.cells #[.string e, .string c, .string h, .string p, .string ee, .string c2, .string h2, .string s, .string q] 9)) (numA.Told W (.bool true)) from big_blk [e, c, h, p, ee, c2, h2, s, q] true W (by simp) hb W.heap.size rfl))
  obtain ⟨A, hA⟩ : ∃ A, A = w.heap.size := ⟨_, rfl⟩
  obtain ⟨X, hX⟩ : ∃ X, X = ((w.alloc (.cells (startV x e c h) 74)).alloc (.cells (heardV y p N ee c2 h2) 82)).alloc (.cells m.row 61) := ⟨_, rfl⟩
  have O := Lib.hid (show Only (fun _ => False) w X from by rw [hX]; exact (((Only.refl _ w).alloc _).alloc _).alloc _)
  have HS := Lib.hid (show Blk X A 74 (startV x e c h) from by rw [hX, hA]; exact Blk.keep (Blk.new w 74 _) (((Only.refl (fun _ => False) _).alloc _).alloc _) id)
  have HH := Lib.hid (show Blk X (A + 1) 82 (heardV y p N ee c2 h2) from by
    have h0 := Blk.new (w.alloc (.cells (startV x e c h) 74)) 82 (heardV y p N ee c2 h2)
    simp only [World.size_alloc] at h0
    rw [hX, hA]
    exact Blk.keep h0 ((Only.refl (fun _ => False) _).alloc _) id)
  have HM := Lib.hid (show Blk X (A + 2) 61 m.row from by
    have h0 := Blk.new ((w.alloc (.cells (startV x e c h) 74)).alloc (.cells (heardV y p N ee c2 h2) 82)) 61 m.row
    simp only [World.size_alloc] at h0
    rw [hX, hA]
    exact h0)
  have HX := Lib.hid hX
  have HAE := Lib.hid hA
  simp only [Msg.row, startV, heardV] at HX
  clear hX hA
  unfold mval
  clear hb
  go_enter Try.func15, Try.ntmps15
  go_upto_region 1 with fail
  rw [← HX.out, ← HAE.out]
  go_wp2_with fail
  (with_reducible refine (AW.out _).mono ?_)
  rintro e w2 ⟨rfl, o⟩
  replace O := Lib.hid (O.out.trans o)
  replace HS := Lib.hid (Blk.keep HS.out o id)
  replace HH := Lib.hid (Blk.keep HH.out o id)
  replace HM := Lib.hid (Blk.keep HM.out o id)
  clear o
  have s1 := Blk.cell HS.out 1
  have s2 := Blk.cell HS.out 2
  have s3 := Blk.cell HS.out 3
  have t1 := Blk.cell HH.out 1
  have t3 := Blk.cell HH.out 3
  have t4 := Blk.cell HH.out 4
  have t5 := Blk.cell HH.out 5
  simp only [startV] at s1 s2 s3
  simp only [heardV] at t1 t3 t4 t5
  go_wp2_with fail
  (with_reducible refine (BG.out _).mono ?_)
  rintro e w3 ⟨rfl, o⟩
  replace O := Lib.hid (O.out.trans o)
  replace HS := Lib.hid (Blk.keep HS.out o id)
  replace HH := Lib.hid (Blk.keep HH.out o id)
  replace HM := Lib.hid (Blk.keep HM.out o id)
  clear o
  go_wp2_with fail
  go_ret
  exact ⟨rfl, O.out⟩

set_option maxRecDepth 100000 in
set_option maxHeartbeats 2000000 in
theorem nf_heavy (x : Int) (e c h : ByteArray) (y : Int) (p : ByteArray) (N : Int) (ee c2 h2 : ByteArray) (s q : ByteArray) (m : Msg) (w : World) (hb : bigN [e.data.toList, c.data.toList, h.data.toList, p.data.toList, ee.data.toList, c2.data.toList, h2.data.toList, s.data.toList, q.data.toList] = false) (ht : ∀ i, (m.t i).size ≤ 140737488355328) (hv : decide ((4000 : Int) < bytesM m) = true) : Calls Try.prog 15 #[.agg (startV x e c h), .agg (heardV y p N ee c2 h2), .string s, .string q, mval m] w (numA.Told w (.bool true)) := by
  have AW := Lib.hid (fun W => awake_any W)
  have BG := Lib.hid (fun W => (show Calls Try.prog 67 #[.slice (some ⟨W.heap.size, 0, none⟩) 9 9] (W.alloc (.cells #[.string e, .string c, .string h, .string p, .string ee, .string c2, .string h2, .string s, .string q] 9)) (numA.Told W (.bool false)) from big_blk [e, c, h, p, ee, c2, h2, s, q] false W (by simp) hb W.heap.size rfl))
  have HV := Lib.hid (fun W => (show Calls Try.prog 54 #[.agg m.row, .int .i64 4000] W (numA.Told W (.bool true)) from by have h := heavy_any m 4000 W ht; rw [hv] at h; exact h))
  simp only [Msg.row] at HV
  obtain ⟨A, hA⟩ : ∃ A, A = w.heap.size := ⟨_, rfl⟩
  obtain ⟨X, hX⟩ : ∃ X, X = ((w.alloc (.cells (startV x e c h) 74)).alloc (.cells (heardV y p N ee c2 h2) 82)).alloc (.cells m.row 61) := ⟨_, rfl⟩
  have O := Lib.hid (show Only (fun _ => False) w X from by rw [hX]; exact (((Only.refl _ w).alloc _).alloc _).alloc _)
  have HS := Lib.hid (show Blk X A 74 (startV x e c h) from by rw [hX, hA]; exact Blk.keep (Blk.new w 74 _) (((Only.refl (fun _ => False) _).alloc _).alloc _) id)
  have HH := Lib.hid (show Blk X (A + 1) 82 (heardV y p N ee c2 h2) from by
    have h0 := Blk.new (w.alloc (.cells (startV x e c h) 74)) 82 (heardV y p N ee c2 h2)
    simp only [World.size_alloc] at h0
    rw [hX, hA]
    exact Blk.keep h0 ((Only.refl (fun _ => False) _).alloc _) id)
  have HM := Lib.hid (show Blk X (A + 2) 61 m.row from by
    have h0 := Blk.new ((w.alloc (.cells (startV x e c h) 74)).alloc (.cells (heardV y p N ee c2 h2) 82)) 61 m.row
    simp only [World.size_alloc] at h0
    rw [hX, hA]
    exact h0)
  have HX := Lib.hid hX
  have HAE := Lib.hid hA
  simp only [Msg.row, startV, heardV] at HX
  clear hX hA
  unfold mval
  clear hb hv ht
  go_enter Try.func15, Try.ntmps15
  go_upto_region 1 with fail
  rw [← HX.out, ← HAE.out]
  go_wp2_with fail
  (with_reducible refine (AW.out _).mono ?_)
  rintro e w2 ⟨rfl, o⟩
  replace O := Lib.hid (O.out.trans o)
  replace HS := Lib.hid (Blk.keep HS.out o id)
  replace HH := Lib.hid (Blk.keep HH.out o id)
  replace HM := Lib.hid (Blk.keep HM.out o id)
  clear o
  have s1 := Blk.cell HS.out 1
  have s2 := Blk.cell HS.out 2
  have s3 := Blk.cell HS.out 3
  have t1 := Blk.cell HH.out 1
  have t3 := Blk.cell HH.out 3
  have t4 := Blk.cell HH.out 4
  have t5 := Blk.cell HH.out 5
  simp only [startV] at s1 s2 s3
  simp only [heardV] at t1 t3 t4 t5
  go_wp2_with fail
  (with_reducible refine (BG.out _).mono ?_)
  rintro e w3 ⟨rfl, o⟩
  replace O := Lib.hid (O.out.trans o)
  replace HS := Lib.hid (Blk.keep HS.out o id)
  replace HH := Lib.hid (Blk.keep HH.out o id)
  replace HM := Lib.hid (Blk.keep HM.out o id)
  clear o
  clear s1 s2 s3 t1 t3 t4 t5
  obtain ⟨d0, d1, d2, d3, d4, d5, d6, d7, d8, d9, d10, d11, d12⟩ := MsgAt.cells (show MsgAt _ (A + 2) m from HM.out)
  go_wp2_with fail
  (with_reducible refine (HV.out _).mono ?_)
  rintro e w4 ⟨rfl, o⟩
  replace O := Lib.hid (O.out.trans o)
  replace HS := Lib.hid (Blk.keep HS.out o id)
  replace HH := Lib.hid (Blk.keep HH.out o id)
  replace HM := Lib.hid (Blk.keep HM.out o id)
  clear o
  go_wp2_with fail
  go_ret
  exact ⟨rfl, O.out⟩


end Go.Proofs.Ytbjnejnjlidiaaa.noY
