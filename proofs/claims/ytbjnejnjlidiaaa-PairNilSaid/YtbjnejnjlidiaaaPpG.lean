/- Pair: nothing. -/
import Derived.Test.YtbjnejnjlidiaaaPpF
import Derived.Below
namespace Go.Proofs.Ytbjnejnjlidiaaa.ppG
open Go.RowKit kit numA numB numC numD numE tmA tmB tmC tmD tmE trA trB prR prS prW prX tsA tsB tsF tsI wrA wrB wrC wrD wrE wrF wrG wrH wrI wrJ mkA maA maB maC noA noB noC noD noE tsG noF numF prRb winA winB winC winD winH ppA ppB ppC ppD ppE ppF
set_option linter.unusedVariables false
set_option linter.unusedSimpArgs false

set_option maxRecDepth 100000 in
set_option maxHeartbeats 1600000 in
theorem nil_any (now n : Int) (w : World) : Calls Try.prog 21 #[.int .i64 now, .int .u64 n] w (numA.Told w (.bool true)) := by
  have AW := Lib.hid (fun W => ppF.awake_any W)
  have C1 := Lib.hid (fun W => seal_nil now W)
  have C2 := Lib.hid (fun W => (show Calls Try.prog 98 #[.pointer none, .int .i64 now, .agg #[.int .i64 0, .int .u32 0, .int .u32 0, .int .u64 0, .string ⟨#[]⟩, .string ⟨#[]⟩, .string ⟨#[]⟩, .string ⟨#[]⟩, .string ⟨#[]⟩, .string ⟨#[]⟩, .string ⟨#[]⟩, .string ⟨#[]⟩, .string ⟨#[]⟩]] W (numA.Told W (.tuple #[.slice none 0 0, .int .i64 1])) from open_nil now (zeroM 0) W))
  have D1 := Lib.hid (fun W => skip_nil n W)
  have D2 := Lib.hid (fun W => local_nil 0 W)
  have D3 := Lib.hid (fun W => remote_nil 0 W)
  have D4 := Lib.hid (fun W => beginner_nil 0 W)
  have D5 := Lib.hid (fun W => made_nil 0 W)
  have D6 := Lib.hid (fun W => sent_nil 0 W)
  have D7 := Lib.hid (fun W => fresh_nil now W)
  have D8 := Lib.hid (fun W => tired_nil now W)
  have O := Lib.hid (Only.refl (fun _ => False) w)
  go_enter Try.func21, Try.ntmps21
  go_wp2_with fail
  (with_reducible refine (AW.out _).mono ?_)
  rintro e w2 ⟨rfl, o⟩
  replace O := Lib.hid (O.out.trans o)
  clear o
  go_wp2_with fail
  (with_reducible refine (C1.out _).mono ?_)
  rintro e w3 ⟨rfl, o⟩
  replace O := Lib.hid (O.out.trans o)
  clear o
  have HN := Lib.hid (show (w3.alloc (.cells #[.int .i64 0, .int .u32 0, .int .u32 0, .int .u64 0, .string ⟨#[]⟩, .string ⟨#[]⟩, .string ⟨#[]⟩, .string ⟨#[]⟩, .string ⟨#[]⟩, .string ⟨#[]⟩, .string ⟨#[]⟩, .string ⟨#[]⟩, .string ⟨#[]⟩] 61)).heap[w3.heap.size]? = some (.cells #[.int .i64 0, .int .u32 0, .int .u32 0, .int .u64 0, .string ⟨#[]⟩, .string ⟨#[]⟩, .string ⟨#[]⟩, .string ⟨#[]⟩, .string ⟨#[]⟩, .string ⟨#[]⟩, .string ⟨#[]⟩, .string ⟨#[]⟩, .string ⟨#[]⟩] 61 (0, 0)) from heap_alloc_new w3 _)
  go_upto_region 5 with (refine wpList_store_row rfl 61 (.tmp 6) (.tmp 16) rfl w3.heap.size (zeroM 0).row rfl rfl 61 _ HN.out (info61 (zeroM 0)) (size61 (zeroM 0) (zeroM 0)) (one61 (zeroM 0)) ?_)
  obtain ⟨V1, hV1⟩ : ∃ Z, Z = (w3.alloc (.cells #[.int .i64 0, .int .u32 0, .int .u32 0, .int .u64 0, .string ⟨#[]⟩, .string ⟨#[]⟩, .string ⟨#[]⟩, .string ⟨#[]⟩, .string ⟨#[]⟩, .string ⟨#[]⟩, .string ⟨#[]⟩, .string ⟨#[]⟩, .string ⟨#[]⟩] 61)).setRow w3.heap.size (zeroM 0).row := ⟨_, rfl⟩
  obtain ⟨G1, hG1⟩ : ∃ G, G = w3.heap.size := ⟨_, rfl⟩
  rw [← hV1, ← hG1]
  have HM := Lib.hid (show V1.heap[G1]? = some (.cells (zeroM 0).row 61 (0, 0)) from by rw [hV1, hG1]; exact setRow_heap _ _ _ _ _ _ HN.out)
  have oS : Only (fun _ => False) w3 V1 := by rw [hV1, World.setRow_alloc_new]; exact (Only.refl _ _).alloc _
  replace O := Lib.hid (O.out.trans oS)
  clear hV1 hG1 HN
  replace HM := Lib.hid (show Blk V1 G1 61 (zeroM 0).row from HM.out)
  clear oS
  clear HM
  go_wp2_with fail
  (with_reducible refine (C2.out _).mono ?_)
  rintro e w4 ⟨rfl, o⟩
  replace O := Lib.hid (O.out.trans o)
  clear o
  go_wp2_with fail
  (with_reducible refine (D1.out _).mono ?_)
  rintro e x1 ⟨rfl, o⟩
  replace O := Lib.hid (O.out.trans o)
  clear o
  go_wp2_with fail
  (with_reducible refine (D2.out _).mono ?_)
  rintro e x2 ⟨rfl, o⟩
  replace O := Lib.hid (O.out.trans o)
  clear o
  go_wp2_with fail
  (with_reducible refine (D3.out _).mono ?_)
  rintro e x3 ⟨rfl, o⟩
  replace O := Lib.hid (O.out.trans o)
  clear o
  go_wp2_with fail
  (with_reducible refine (D4.out _).mono ?_)
  rintro e x4 ⟨rfl, o⟩
  replace O := Lib.hid (O.out.trans o)
  clear o
  go_wp2_with fail
  (with_reducible refine (D5.out _).mono ?_)
  rintro e x5 ⟨rfl, o⟩
  replace O := Lib.hid (O.out.trans o)
  clear o
  go_wp2_with fail
  (with_reducible refine (D6.out _).mono ?_)
  rintro e x6 ⟨rfl, o⟩
  replace O := Lib.hid (O.out.trans o)
  clear o
  go_wp2_with fail
  (with_reducible refine (D7.out _).mono ?_)
  rintro e x7 ⟨rfl, o⟩
  replace O := Lib.hid (O.out.trans o)
  clear o
  go_wp2_with fail
  (with_reducible refine (D8.out _).mono ?_)
  rintro e x8 ⟨rfl, o⟩
  replace O := Lib.hid (O.out.trans o)
  clear o
  go_wp2_with fail
  go_ret
  exact ⟨rfl, O.out⟩

theorem nil_walk (now : Int) (_ : (Lit.int .i64 now).wf = true) (n : Int) (_ : (Lit.int .u64 n).wf = true) {w : World} : Calls Try.prog 21 #[.int .i64 now, .int .u64 n] w fun e w' => e = .returned (.bool true) ∧ Below w.heap.size w w' := by
  refine (nil_any now n w).mono ?_
  rintro e w' ⟨rfl, o⟩
  exact ⟨rfl, o.below (fun _ h => h.elim) (Nat.le_refl _)⟩

end Go.Proofs.Ytbjnejnjlidiaaa.ppG
