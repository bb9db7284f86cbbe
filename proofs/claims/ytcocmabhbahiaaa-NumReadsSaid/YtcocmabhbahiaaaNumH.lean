/- Contracts of num.Hex and its document's answer. -/
import Derived.Test.YtcocmabhbahiaaaNumG
namespace Go.Proofs.Ytcocmabhbahiaaa.numH
open Go.RowKit Go.Lib Go.Proofs.Ytcocmabhbahiaaa.kit Go.Proofs.Ytcocmabhbahiaaa.numA Go.Proofs.Ytcocmabhbahiaaa.numC Go.Proofs.Ytcocmabhbahiaaa.numE Go.Proofs.Ytcocmabhbahiaaa.numF Go.Proofs.Ytcocmabhbahiaaa.numG
set_option linter.unusedVariables false

theorem and_15 : ∀ a : Fin 256, Go.bits BinOp.and IntKind.u8 ((a.val : Nat) : Int) 15 = ((a.val % 16 : Nat) : Int) := by decide +kernel

structure HRel (w : World) (l : List UInt8) (k : Nat) (v : Value) (wr : World) : Prop where
  own : wr.ownsRow w.heap.size 5 1 v (2 * k) (U8 (hexs (l.take k)))
  old : Only (fun _ => False) w wr

theorem HRel.next {w wr W w1 : World} {l : List UInt8} {k g cap : Nat} {v : Value} (h : HRel w l k v wr) (hk : k < l.length) (hO : Only (fun _ => False) w W)
    (ho : w1.ownsRow w.heap.size 5 1 (.slice (some ⟨g, 0, none⟩) (2 * k + 2) cap) (2 * k + 2) (U8 (hexs (l.take k)) ++ [.int .u8 (dg ((l[k].toNat / 16 : Nat) : Int)), .int .u8 (dg ((l[k].toNat % 16 : Nat) : Int))]))
    (hg : W.grownBy w1 v.ownBlock) : HRel w l (k + 1) (.slice (some ⟨g, 0, none⟩) (2 * k + 2) cap) w1 := by
  have hx := l[k].toNat_lt
  refine ⟨?_, Only.grownNew hO hg fun j hj => (h.own.lt j hj).1⟩
  have e1 : l.take (k + 1) = l.take k ++ [l[k]] := List.take_succ_eq_append_getElem hk
  rw [e1, hexs_snoc, show 2 * (k + 1) = 2 * k + 2 by omega]
  rw [hs_dg _ (by omega), hs_dg _ (by omega)] at ho
  simpa [U8] using ho

set_option maxRecDepth 100000 in
set_option maxHeartbeats 1000000 in
theorem hex_any (S : Nat → Prop) (v : Value) (l : List UInt8) (w : World) (h : Sl w S v (U8 l)) (hm : l.length ≤ 100000000) : Calls Try.prog 21 #[v] w (numA.Told w (.string ⟨(hexs l).toArray⟩)) := by
  obtain ⟨i0, hi0, hz0, hz1, hz2⟩ := info_parts info5
  obtain ⟨W1, hmk, hown0, hg0⟩ := run_make_own (P := Try.prog) w w.heap.size 27 5 i0 (.int .u8 0) 1 Try.underlying27 hi0 hz0 hz1 .i64 .i64 (2 * l.length) (by rw [hz2]; omega) (by unfold maxLen; omega) (Nat.le_refl _)
  have ec : ((2 * l.length : Nat) : Int) = 2 * (l.length : Int) := by omega
  rw [ec] at hmk
  clear ec
  have O1 : Only (fun _ => False) w W1 := (Only.refl _ w).grown hg0 (fun k h => by cases h)
  have R0 : HRel w l 0 (.slice (some ⟨w.heap.size, 0, none⟩) 0 (2 * l.length)) W1 := ⟨hown0, O1⟩
  obtain ⟨a, cap, hv⟩ : ∃ a cap, v = .slice a l.length cap := by
    obtain ⟨_, a, cap, h, _⟩ := h
    exact ⟨a, cap, by rw [h, U8_len]⟩
  have HL := Lib.hid h
  clear hg0 hown0 O1 h
  subst hv
  go_enter Try.func21, Try.ntmps21
  go_wp2_with fail
  go_loopw [3, 5, 12] (fun v _ i wr => ∃ k : Nat, k ≤ l.length ∧ i = .int .i64 k ∧ HRel w l k v wr) (fun _ _ i _ => l.length - (intOf i).toNat)
  case atStart => exact ⟨0, Nat.zero_le _, rfl, R0⟩
  case round =>
    obtain ⟨k, hk, rfl, hR⟩ := hrel
    clear R0 hmk
    by_cases hlt : k < l.length
    · obtain ⟨g, o, rfl, hS, hcell, hgb⟩ : ∃ g o, a = some ⟨g, o, none⟩ ∧ S g ∧ w.cell? ⟨g, o + k, none⟩ = some (.int .u8 ((l[k].toNat : Nat) : Int)) ∧ g < w.heap.size := by
        have hl := HL.out
        obtain ⟨_, a', cap', h, hx | ⟨g, o, ha, hS, hg, hc⟩⟩ := hl
        · have : l.length = 0 := by rw [← U8_len, hx]; rfl
          omega
        · injection h with h1 h2 h3
          subst h1
          exact ⟨g, o, ha, hS, by rw [hc k (by rw [U8_len]; exact hlt), U8_get l k hlt], hg⟩
      have hc := (World.cell?_of_block (w := w) (w' := wr) (a := ⟨g, o + k, none⟩) (hR.old.block g hgb id)).trans hcell
      have hx8 := l[k].toNat_lt
      obtain ⟨x, hx⟩ : ∃ x, x = l[k].toNat := ⟨_, rfl⟩
      rw [← hx] at hc hx8
      have hb : Go.bits BinOp.and IntKind.u8 (x : Int) 15 = (x : Int) % 16 := by have := and_15 ⟨x, hx8⟩; simpa using this
      have HX := Lib.hid hx
      have hx8' : (x : Int) < 256 := by omega
      have own2 := hR.own
      have hsz := hR.old.size
      have HR := Lib.hid hR
      have k0 : (0 : Int) ≤ (k : Int) := by omega
      have k1 : (k : Int) < (l.length : Int) := by omega
      clear hR hx hcell hx8
      have D1 := fun W => digit_any ((x : Int) / 16) W (by omega) (by omega)
      have D2 := fun W => digit_any ((x : Int) % 16) W (by omega) (by omega)
      obtain ⟨p, hp⟩ : ∃ p, p = dg ((x : Int) / 16) := ⟨_, rfl⟩
      obtain ⟨q, hq⟩ : ∃ q, q = dg ((x : Int) % 16) := ⟨_, rfl⟩
      rw [← hp] at D1
      rw [← hq] at D2
      have HP := Lib.hid hp
      have HQ := Lib.hid hq
      have hk2 : 2 * k + 2 ≤ 200000000 := by omega
      clear hp hq
      go_wp2_with (first | (go_at_call 71; (with_reducible refine (D1 _).mono ?_); rintro e w' ⟨rfl, rfl⟩) | (go_at_call 71; (with_reducible refine (D2 _).mono ?_); rintro e w' ⟨rfl, rfl⟩) | (at_builtin; refine wpList_append_lies _ rfl (.tmp 16) (.tmp 23) 27 rfl w.heap.size 5 i0 (.int .u8 0) 1 1 Try.underlying27 hi0 hz0 hz1 hz2 rfl (by decide) _ _ _ rfl (own2.alloc _) ⟨wr.heap.size, 0, none⟩ 2 2 [.int .u8 p, .int .u8 q] rfl rfl (World.news_of_block (cs := #[.int .u8 p, .int .u8 q]) (t := 5) (fr := (0, 0)) (heap_alloc_new wr _)) (by simp [Value.oneCell']) (by omega) (by unfold maxLen; omega) (by omega) (by simp; omega) (wr.heap.size + 1) (by simp) ?_; intro g2 cp w3 hown3 hgrow3 _ _))
      go_roundw
      case rel =>
        have own3 := hown3
        have ex : ((l[k].toNat / 16 : Nat) : Int) = (x : Int) / 16 := by rw [HX.out]; omega
        have ey : ((l[k].toNat % 16 : Nat) : Int) = (x : Int) % 16 := by rw [HX.out]; omega
        refine ⟨k + 1, by omega, by go_num, HR.out.next hlt (HR.out.old.alloc _) ?_ hgrow3⟩
        rw [ex, ey, ← HP.out, ← HQ.out]
        exact own3
      case measure => simp [intOf]; omega
    · obtain rfl : k = l.length := by omega
      have hcv := conv_lst (Sl.of_lst (Lst.of_owns hR.own))
      rw [List.take_length] at hcv
      have HR := Lib.hid hR
      clear hR
      go_wp2_with fail
      go_ret
      exact ⟨rfl, HR.out.old⟩

end Go.Proofs.Ytcocmabhbahiaaa.numH
