/- The walk of the law PacketReads. -/
import Derived.Test.YtcocmabhbahiaaaPacJ
namespace Go.Proofs.Ytcocmabhbahiaaa.pacR
open Go.RowKit Go.Lib Go.Proofs.Ytcocmabhbahiaaa.kit Go.Proofs.Ytcocmabhbahiaaa.numA Go.Proofs.Ytcocmabhbahiaaa.numF Go.Proofs.Ytcocmabhbahiaaa.numG Go.Proofs.Ytcocmabhbahiaaa.pacA Go.Proofs.Ytcocmabhbahiaaa.pacD Go.Proofs.Ytcocmabhbahiaaa.pacE Go.Proofs.Ytcocmabhbahiaaa.pacF Go.Proofs.Ytcocmabhbahiaaa.pacG
set_option linter.unusedVariables false
set_option linter.unusedSimpArgs false


set_option maxRecDepth 100000 in
set_option maxHeartbeats 1000000 in
theorem law_bad (x : Value) (l : List UInt8) (w : World) (h : By w x l) (hl : l.length ≤ 3000) (c : Int) (hc : c ≠ 0) (hk : lk l = .tuple #[form 0 0 0 0 0 0, .int .i64 c]) : Calls Try.prog 5 #[x] w (numA.Told w (.bool true)) := by
  obtain ⟨a, n, rfl, -⟩ := id h
  have A := pacJ.awake_true w
  have R1 := fun (W : World) (k : Only (fun _ => False) w W) => read_bad _ l W (h.keep k) c hc hk
  have R2 := fun (W : World) (k : Only (fun _ => False) w W) => trim_bad _ l W (h.keep k) c hc hk
  have R3 := fun (W : World) (k : Only (fun _ => False) w W) => data_bad _ l W (h.keep k) c hc hk
  have R4 := fun (W : World) (k : Only (fun _ => False) w W) => pacJ.ref_bad _ l W (h.keep k) c hc hk
  have HA := Lib.hid A
  have H1 := Lib.hid R1
  have H2 := Lib.hid R2
  have H3 := Lib.hid R3
  have t1 : ¬ ((3000 : Int) < (l.length : Int)) := by omega
  have hc1 : (c != 0) = true := by simpa using hc
  unfold No at R4
  have H4 := Lib.hid R4
  have HH := Lib.hid h
  clear A R1 R2 R3 R4 hk hc h hl
  go_enter Try.func5, Try.ntmps5
  go_wp2_with fail
  refine HA.out.mono ?_
  rintro e w1 ⟨rfl, o1⟩
  go_wp2_with fail
  refine (H1.out _ o1).mono ?_
  rintro e w2 ⟨s, d, rfl, bs, bd, o2⟩
  obtain ⟨a1, n1, rfl, -⟩ := id bs
  obtain ⟨a2, n2, rfl, -⟩ := id bd
  have bS := Lib.hid bs
  have bD := Lib.hid bd
  clear bs bd

  go_wp2_with fail
  have hb1 := heap_alloc_new w2 (.cells #[.int .i64 0, .slice a1 0 n1, .slice a2 0 n2, .int .i64 0] 36)
  have k2 := (o1.trans o2).alloc (.cells #[.int .i64 0, .slice a1 0 n1, .slice a2 0 n2, .int .i64 0] 36)
  have k2' := (Only.refl (fun _ => False) w2).alloc (.cells #[.int .i64 0, .slice a1 0 n1, .slice a2 0 n2, .int .i64 0] 36)
  generalize w2.alloc (.cells #[.int .i64 0, .slice a1 0 n1, .slice a2 0 n2, .int .i64 0] 36) = V2 at hb1 k2 k2' ⊢
  generalize w2.heap.size = B at hb1 ⊢
  refine (H2.out _ k2).mono ?_
  rintro e w3 ⟨r, rfl, br, o3⟩
  have k3 := k2.trans o3
  have k3' := k2'.trans o3
  have lt1 : B < V2.heap.size := lt_of hb1
  have hb3 := (o3.block B lt1 id).trans hb1
  obtain ⟨a3, n3, rfl, -⟩ := id br
  have bR := Lib.hid br
  clear br o3 k2 k2' hb1 lt1
  go_wp2_with fail
  refine (H3.out _ k3).mono ?_
  rintro e w4 ⟨q, rfl, bq, o4⟩
  have k4 := k3.trans o4
  have k4' := k3'.trans o4
  have bR := Lib.hid (bR.out.keep o4)
  have hb4 := (o4.block B (lt_of hb3) id).trans hb3
  obtain ⟨a4, n4, rfl, -⟩ := id bq
  have bQ := Lib.hid bq
  clear bq o4 k3 k3' hb3
  go_wp2_with fail
  refine (H4.out _ k4).mono ?_
  rintro e w5 ⟨rfl, o5⟩
  have k5 := (k4.trans o5).alloc (.cells #[.int .i64 0, .slice none 0 0, .slice none 0 0, .int .i64 0] 36)
  have hb5 := (o5.block B (lt_of hb4) id).trans hb4
  have hb6 := (Below.heap_alloc w5 (.cells #[.int .i64 0, .slice none 0 0, .slice none 0 0, .int .i64 0] 36) _ (lt_of hb5)).trans hb5
  have z0 : (w5.alloc (.cells #[.int .i64 0, .slice none 0 0, .slice none 0 0, .int .i64 0] 36)).cell? ⟨B, 0, none⟩ = some (.int .i64 0) := cell_of hb6
  have z1 : (w5.alloc (.cells #[.int .i64 0, .slice none 0 0, .slice none 0 0, .int .i64 0] 36)).cell? ⟨B, 1, none⟩ = some (.slice a1 0 n1) := cell_of hb6
  have z2 : (w5.alloc (.cells #[.int .i64 0, .slice none 0 0, .slice none 0 0, .int .i64 0] 36)).cell? ⟨B, 2, none⟩ = some (.slice a2 0 n2) := cell_of hb6
  have z3 : (w5.alloc (.cells #[.int .i64 0, .slice none 0 0, .slice none 0 0, .int .i64 0] 36)).cell? ⟨B, 3, none⟩ = some (.int .i64 0) := cell_of hb6
  have O5 : Only (fun _ => False) w2 (w5.alloc (.cells #[.int .i64 0, .slice none 0 0, .slice none 0 0, .int .i64 0] 36)) := (k4'.trans o5).alloc _
  have S := fun W (o : Only (fun _ => False) w2 W) => same_true 0 0 _ _ (.slice none 0 0) (.slice none 0 0) [] [] W (bS.out.keep o) (By.empty none 0 (Nat.zero_le _)) (bD.out.keep o) (By.empty none 0 (Nat.zero_le _))
  simp only [List.length_nil] at S
  have HS := Lib.hid S
  have HK := Lib.hid k5
  have HO := Lib.hid O5
  clear o5 k4 k4' hb4 hb5 hb6 S k5 O5
  go_wp2_with fail
  refine (HS.out _ HO.out).mono ?_
  rintro e w6 ⟨rfl, o6⟩
  go_wp2_with fail
  go_ret
  exact ⟨rfl, HK.out.trans o6⟩

def HeadZ (w : World) (v n : Int) (z : Nat) (ls ld : List UInt8) (c : Int) (e : Ending) (w' : World) : Prop := ∃ a1 n1 a2 n2, e = .returned (.tuple #[header v (.slice a1 z n1) (.slice a2 z n2) n, .int .i64 c]) ∧ By w' (.slice a1 z n1) ls ∧ By w' (.slice a2 z n2) ld ∧ Only (fun _ => False) w w'

theorem Head.z {w : World} {v n : Int} {z : Nat} {ls ld : List UInt8} {c : Int} {e : Ending} {w' : World} (h1 : ls.length = z) (h2 : ld.length = z) (h : Head w v n ls ld c e w') : HeadZ w v n z ls ld c e w' := by
  obtain ⟨s, d, rfl, bs, bd, o⟩ := h
  obtain ⟨a1, n1, rfl, -⟩ := id bs
  obtain ⟨a2, n2, rfl, -⟩ := id bd
  rw [h1] at bs ⊢
  rw [h2] at bd ⊢
  exact ⟨a1, n1, a2, n2, rfl, bs, bd, o⟩

def GotZ (w : World) (z : Nat) (l : List UInt8) (c : Int) (e : Ending) (w' : World) : Prop := ∃ a n, e = .returned (.tuple #[.slice a z n, .int .i64 c]) ∧ By w' (.slice a z n) l ∧ Only (fun _ => False) w w'

theorem Got.z {w : World} {z : Nat} {l : List UInt8} {c : Int} {e : Ending} {w' : World} (h1 : l.length = z) (h : Got w l c e w') : GotZ w z l c e w' := by
  obtain ⟨r, rfl, b, o⟩ := h
  obtain ⟨a, n, rfl, -⟩ := id b
  rw [h1] at b ⊢
  exact ⟨a, n, rfl, b, o⟩

def RefZ (w : World) (v n : Int) (z : Nat) (ls ld : List UInt8) (b : Int) (e : Ending) (w' : World) : Prop := ∃ a1 n1 a2 n2, e = .returned (.tuple #[header v (.slice a1 z n1) (.slice a2 z n2) n, .int .i64 b, .int .i64 0]) ∧ By w' (.slice a1 z n1) ls ∧ By w' (.slice a2 z n2) ld ∧ Only (fun _ => False) w w'

theorem RefHead.z {w : World} {v n : Int} {z : Nat} {ls ld : List UInt8} {c : Int} {e : Ending} {w' : World} (h1 : ls.length = z) (h2 : ld.length = z) (h : RefHead w v n ls ld c e w') : RefZ w v n z ls ld c e w' := by
  obtain ⟨s, d, rfl, bs, bd, o⟩ := h
  obtain ⟨a1, n1, rfl, -⟩ := id bs
  obtain ⟨a2, n2, rfl, -⟩ := id bd
  rw [h1] at bs ⊢
  rw [h2] at bd ⊢
  exact ⟨a1, n1, a2, n2, rfl, bs, bd, o⟩

set_option maxRecDepth 100000 in
set_option maxHeartbeats 1000000 in
/-- The walk, of a packet, in letters. -/
theorem walk_ok (g o n cap : Nat) (w : World) (hl : n ≤ 3000) (v b wh z u : Nat) (LS LD T U : List UInt8)
    (R1 : ∀ W, Only (fun _ => False) w W → Calls Try.prog 25 #[.slice (some ⟨g, o, none⟩) n cap] W (HeadZ W v wh z LS LD 0))
    (R2 : ∀ W, Only (fun _ => False) w W → Calls Try.prog 26 #[.slice (some ⟨g, o, none⟩) n cap] W (GotZ W wh T 0))
    (R3 : ∀ W, Only (fun _ => False) w W → Calls Try.prog 27 #[.slice (some ⟨g, o, none⟩) n cap] W (GotZ W u U 0))
    (R4 : ∀ W, Only (fun _ => False) w W → Calls Try.prog 28 #[.slice (some ⟨g, o, none⟩) n cap] W (RefZ W v wh z LS LD b))
    (hwc : (wh : Int) ≤ (cap : Int)) (hbw : (b : Int) ≤ (wh : Int)) (BT : By w (.slice (some ⟨g, o, none⟩) wh cap) T) (dv : Value)
    (hdv : ∀ W, (Instr.sliceAt 27 (.slice (some ⟨g, o, none⟩) n cap) (some (.int .i64 (b : Int))) (some (.int .i64 (wh : Int))) none).run Try.prog W = .ok dv W) (BU : By w dv U) :
    Calls Try.prog 5 #[.slice (some ⟨g, o, none⟩) n cap] w (numA.Told w (.bool true)) := by
  have A := pacJ.awake_true w
  have HA := Lib.hid A
  have H1 := Lib.hid R1
  have H2 := Lib.hid R2
  have H3 := Lib.hid R3
  have H4 := Lib.hid R4
  have HT := Lib.hid BT
  have HU := Lib.hid BU
  have t1 : ¬ ((3000 : Int) < (n : Int)) := by omega
  have t2 : (0 : Int) ≤ (wh : Int) := by omega
  have t3 : (0 : Int) ≤ (b : Int) := by omega
  clear A R1 R2 R3 R4 BT BU
  go_enter Try.func5, Try.ntmps5
  go_wp2_with fail
  refine HA.out.mono ?_
  rintro e w1 ⟨rfl, o1⟩
  go_wp2_with fail
  refine (H1.out _ o1).mono ?_
  rintro e w2 ⟨a1, n1, a2, n2, rfl, bs, bd, o2⟩
  have bS := Lib.hid bs
  have bD := Lib.hid bd
  clear bs bd
  go_wp2_with fail
  have hb1 := heap_alloc_new w2 (.cells #[.int .i64 v, .slice a1 z n1, .slice a2 z n2, .int .i64 wh] 36)
  have k2 := (o1.trans o2).alloc (.cells #[.int .i64 v, .slice a1 z n1, .slice a2 z n2, .int .i64 wh] 36)
  have k2' := (Only.refl (fun _ => False) w2).alloc (.cells #[.int .i64 v, .slice a1 z n1, .slice a2 z n2, .int .i64 wh] 36)
  generalize w2.alloc (.cells #[.int .i64 v, .slice a1 z n1, .slice a2 z n2, .int .i64 wh] 36) = V2 at hb1 k2 k2' ⊢
  generalize w2.heap.size = B at hb1 ⊢
  refine (H2.out _ k2).mono ?_
  rintro e w3 ⟨a3, n3, rfl, br, o3⟩
  have k3 := k2.trans o3
  have k3' := k2'.trans o3
  have lt1 : B < V2.heap.size := lt_of hb1
  have hb3 := (o3.block B lt1 id).trans hb1
  have bR := Lib.hid br
  clear br o3 k2 k2' hb1 lt1
  go_wp2_with fail
  refine (H3.out _ k3).mono ?_
  rintro e w4 ⟨a4, n4, rfl, bq, o4⟩
  have k4 := k3.trans o4
  have k4' := k3'.trans o4
  have bR2 := Lib.hid (bR.out.keep o4)
  have hb4 := (o4.block B (lt_of hb3) id).trans hb3
  have bQ := Lib.hid bq
  clear bq o4 k3 k3' hb3 bR
  go_wp2_with fail
  refine (H4.out _ k4).mono ?_
  rintro e w5 ⟨a5, n5, a6, n6, rfl, bs5, bd5, o5⟩
  have BS := bS.out.keep (k4'.trans o5)
  have BD := bD.out.keep (k4'.trans o5)
  have BR := bR2.out.keep o5
  have BQ := bQ.out.keep o5
  have BT := HT.out.keep (k4.trans o5)
  have BU := HU.out.keep (k4.trans o5)
  have S := fun W (o : Only (fun _ => False) w5 W) => same_true v wh _ _ _ _ LS LD W (BS.keep o) (bs5.keep o) (BD.keep o) (bd5.keep o)
  have S1 := fun W (o : Only (fun _ => False) w5 W) => numG.same_true (BR.keep o).sl (BT.keep o).sl
  have S2 := fun W (o : Only (fun _ => False) w5 W) => numG.same_true (BQ.keep o).sl (BU.keep o).sl
  have HS := Lib.hid S
  have HS1 := Lib.hid S1
  have HS2 := Lib.hid S2
  have hb5 := (o5.block B (lt_of hb4) id).trans hb4
  have k5 := (k4.trans o5).alloc (.cells #[.int .i64 (v : Int), .slice a5 z n5, .slice a6 z n6, .int .i64 (wh : Int)] 36)
  have q5 := (Only.refl (fun _ => False) w5).alloc (.cells #[.int .i64 (v : Int), .slice a5 z n5, .slice a6 z n6, .int .i64 (wh : Int)] 36)
  have hb6 := (Below.heap_alloc w5 (.cells #[.int .i64 (v : Int), .slice a5 z n5, .slice a6 z n6, .int .i64 (wh : Int)] 36) _ (lt_of hb5)).trans hb5
  have hb7 := heap_alloc_new w5 (.cells #[.int .i64 (v : Int), .slice a5 z n5, .slice a6 z n6, .int .i64 (wh : Int)] 36)
  have HV := Lib.hid hb7
  have HK := Lib.hid k5
  have HQ := Lib.hid q5
  have z0 : (w5.alloc (.cells #[.int .i64 (v : Int), .slice a5 z n5, .slice a6 z n6, .int .i64 (wh : Int)] 36)).cell? ⟨B, 0, none⟩ = some (.int .i64 (v : Int)) := cell_of hb6
  have z1 : (w5.alloc (.cells #[.int .i64 (v : Int), .slice a5 z n5, .slice a6 z n6, .int .i64 (wh : Int)] 36)).cell? ⟨B, 1, none⟩ = some (.slice a1 z n1) := cell_of hb6
  have z2 : (w5.alloc (.cells #[.int .i64 (v : Int), .slice a5 z n5, .slice a6 z n6, .int .i64 (wh : Int)] 36)).cell? ⟨B, 2, none⟩ = some (.slice a2 z n2) := cell_of hb6
  have z3 : (w5.alloc (.cells #[.int .i64 (v : Int), .slice a5 z n5, .slice a6 z n6, .int .i64 (wh : Int)] 36)).cell? ⟨B, 3, none⟩ = some (.int .i64 (wh : Int)) := cell_of hb6
  have y0 : (w5.alloc (.cells #[.int .i64 (v : Int), .slice a5 z n5, .slice a6 z n6, .int .i64 (wh : Int)] 36)).cell? ⟨w5.heap.size, 0, none⟩ = some (.int .i64 (v : Int)) := cell_of hb7
  have y1 : (w5.alloc (.cells #[.int .i64 (v : Int), .slice a5 z n5, .slice a6 z n6, .int .i64 (wh : Int)] 36)).cell? ⟨w5.heap.size, 1, none⟩ = some (.slice a5 z n5) := cell_of hb7
  have y2 : (w5.alloc (.cells #[.int .i64 (v : Int), .slice a5 z n5, .slice a6 z n6, .int .i64 (wh : Int)] 36)).cell? ⟨w5.heap.size, 2, none⟩ = some (.slice a6 z n6) := cell_of hb7
  have y3 : (w5.alloc (.cells #[.int .i64 (v : Int), .slice a5 z n5, .slice a6 z n6, .int .i64 (wh : Int)] 36)).cell? ⟨w5.heap.size, 3, none⟩ = some (.int .i64 (wh : Int)) := cell_of hb7
  clear o5 k4 k4' hb4 hb5 hb6 hb7 S S1 S2 k5 q5 BS BD BR BQ BT BU bs5 bd5 HT HU bS bD bR2 bQ HA H1 H2 H3 H4
  go_wp2_with fail
  refine (HS.out _ HQ.out).mono ?_
  rintro e w6 ⟨rfl, o6⟩
  have x3 : w6.cell? ⟨w5.heap.size, 3, none⟩ = some (.int .i64 (wh : Int)) := (World.cell?_of_block (a := ⟨w5.heap.size, 3, none⟩) (o6.block w5.heap.size (lt_of HV.out) id)).trans y3
  have HQ6 := Lib.hid (HQ.out.trans o6)
  have HK6 := Lib.hid (HK.out.trans o6)
  clear z0 z1 z2 z3 y0 y1 y2 y3 o6
  go_wp2_with fail
  refine (HS1.out _ HQ6.out).mono ?_
  rintro e w7 ⟨rfl, rfl⟩
  go_wp2_with fail
  refine (HS2.out _ HQ6.out).mono ?_
  rintro e w8 ⟨rfl, rfl⟩
  go_wp2_with fail
  go_ret
  exact ⟨rfl, HK6.out⟩
end Go.Proofs.Ytcocmabhbahiaaa.pacR
