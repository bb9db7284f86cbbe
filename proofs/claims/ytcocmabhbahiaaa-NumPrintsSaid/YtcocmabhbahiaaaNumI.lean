/- Contract of the document's Hex. -/
import Derived.Test.YtcocmabhbahiaaaNumH
import Derived.Deep.RegionLaw
import Derived.BigRegion
namespace Go.Proofs.Ytcocmabhbahiaaa.numI
open Go.RowKit Go.Lib Go.Proofs.Ytcocmabhbahiaaa.kit Go.Proofs.Ytcocmabhbahiaaa.numA Go.Proofs.Ytcocmabhbahiaaa.numC Go.Proofs.Ytcocmabhbahiaaa.numE Go.Proofs.Ytcocmabhbahiaaa.numF Go.Proofs.Ytcocmabhbahiaaa.numG
set_option linter.unusedVariables false

theorem conv2 (W V : World) (p q : Int) (c d : UInt8) (hp : p = (c.toNat : Int)) (hq : q = (d.toNat : Int)) (hV : V.heap = (W.alloc (.cells #[.int .u8 p, .int .u8 q] 5)).heap) :
    (convert 27 9 (.slice (some ⟨W.heap.size, 0, none⟩) 2 2)).run Try.prog V = .ok (.string ⟨#[c, d]⟩) V := by
  have := run_convert_bytes_back (P := Try.prog) V 27 9 5 ⟨W.heap.size, 0, none⟩ 2 [c, d] Try.underlying27 Try.underlying5 Try.underlying9 (fun j hj => by
    have hb : V.heap[W.heap.size]? = some (.cells #[.int .u8 p, .int .u8 q] 5 (0, 0)) := by rw [hV]; exact heap_alloc_new W _
    rw [Addr.add_lit, cell_of hb]
    match j, hj with
    | 0, _ => simp [hp]
    | 1, _ => simp [hq])
  exact this

set_option maxRecDepth 100000 in
set_option maxHeartbeats 2000000 in
theorem hex_ref (S : Nat → Prop) (v : Value) (l : List UInt8) (w : World) (h : Sl w S v (U8 l)) (hm : l.length ≤ 100000000) : Calls Try.prog 23 #[v] w (numA.Told w (.string ⟨(hexs l).toArray⟩)) := by
  obtain ⟨a, cap, hv⟩ : ∃ a cap, v = .slice a l.length cap := by
    obtain ⟨_, a, cap, h, _⟩ := h
    exact ⟨a, cap, by rw [h, U8_len]⟩
  have HL := Lib.hid h
  clear h
  subst hv
  go_enter Try.func23, Try.ntmps23
  go_wp2_with fail
  go_loopw [3, 4] (fun t i wr => ∃ (k : Nat) (m : List UInt8), k ≤ l.length ∧ i = .int .i64 k ∧ t = .string ⟨m.toArray⟩ ∧ Hid (m = hexs (l.take k)) ∧ Only (fun _ => False) w wr) (fun _ i _ => l.length - (intOf i).toNat)
  case atStart => exact ⟨0, [], Nat.zero_le _, rfl, rfl, rfl, Only.refl _ _⟩
  case round =>
    obtain ⟨k, m, hk, rfl, rfl, HM, ho⟩ := hrel
    by_cases hlt : k < l.length
    · obtain ⟨g, o, rfl, hS, hcell, hgb⟩ : ∃ g o, a = some ⟨g, o, none⟩ ∧ S g ∧ w.cell? ⟨g, o + k, none⟩ = some (.int .u8 ((l[k].toNat : Nat) : Int)) ∧ g < w.heap.size := by
        have hl := HL.out
        obtain ⟨_, a', cap', h, hx | ⟨g, o, ha, hS, hg, hc⟩⟩ := hl
        · have : l.length = 0 := by rw [← U8_len, hx]; rfl
          omega
        · injection h with h1 h2 h3
          subst h1
          exact ⟨g, o, ha, hS, by rw [hc k (by rw [U8_len]; exact hlt), U8_get l k hlt], hg⟩
      have hc := (World.cell?_of_block (w := w) (w' := wr) (a := ⟨g, o + k, none⟩) (ho.block g hgb id)).trans hcell
      have hx8 := l[k].toNat_lt
      obtain ⟨x, hx⟩ : ∃ x, x = l[k].toNat := ⟨_, rfl⟩
      have hp0 := hs_dg (l[k].toNat / 16) (by omega)
      have hq0 := hs_dg (l[k].toNat % 16) (by omega)
      rw [← hx] at hc hx8 hp0 hq0
      have HX := Lib.hid hx
      have hx8' : (x : Int) < 256 := by omega
      have hsz := ho.size
      have HO := Lib.hid ho
      have k0 : (0 : Int) ≤ (k : Int) := by omega
      have k1 : (k : Int) < (l.length : Int) := by omega
      have D1 := fun W => digit_ref ((x : Int) / 16) W (by omega) (by omega)
      have D2 := fun W => digit_ref ((x : Int) % 16) W (by omega) (by omega)
      have ex : ((x / 16 : Nat) : Int) = (x : Int) / 16 := by omega
      have ey : ((x % 16 : Nat) : Int) = (x : Int) % 16 := by omega
      rw [ex] at hp0
      rw [ey] at hq0
      obtain ⟨c, hcc⟩ : ∃ c, c = hs (x / 16) := ⟨_, rfl⟩
      obtain ⟨d, hdd⟩ : ∃ d, d = hs (x % 16) := ⟨_, rfl⟩
      rw [← hcc] at hp0
      rw [← hdd] at hq0
      obtain ⟨p, hp⟩ : ∃ p, p = dg ((x : Int) / 16) := ⟨_, rfl⟩
      obtain ⟨q, hq⟩ : ∃ q, q = dg ((x : Int) % 16) := ⟨_, rfl⟩
      rw [← hp] at D1 hp0
      rw [← hq] at D2 hq0
      have hcv1 := conv2 wr (wr.alloc (.cells #[.int .u8 p, .int .u8 q] 5)) p q c d hp0 hq0 rfl
      have hcv2 := conv2 wr (wr.alloc (.cells #[.int .u8 p, .int .u8 q] 5)).drew p q c d hp0 hq0 rfl
      have hne := World.new_ne wr ⟨g, o + k, none⟩ hc
      have w1 : IntKind.u8.wrap ((x : Int) / 16) = (x : Int) / 16 := IntWalk.u8_in _ (by omega)
      have w3 : (x : Int).tmod 16 = (x : Int) % 16 := Int.tmod_eq_emod_of_nonneg (by omega)
      have w2 : IntKind.u8.wrap ((x : Int) % 16) = (x : Int) % 16 := IntWalk.u8_in _ (by omega)
      have hml : m.length ≤ 200000000 := by rw [HM.out, hexs_len, List.length_take]; omega
      have HC := Lib.hid hcc
      have HD := Lib.hid hdd
      clear ho hx hcell hp0 hq0 ex ey hcc hdd hp hq
      go_wp2_with fail
      go_region_with (first | (go_at_call 72; (with_reducible refine (D1 _).mono ?_); rintro e w' ⟨rfl, rfl⟩) | (go_at_call 72; (with_reducible refine (D2 _).mono ?_); rintro e w' ⟨rfl, rfl⟩))
      all_goals
        go_wp2_with fail
        go_roundw
        case rel =>
          refine ⟨k + 1, m ++ [c, d], by omega, by go_num, congrArg Value.string (ByteArray.mk_append_mk m [c, d]), ?_, by first | exact (HO.out.alloc _).drew | exact HO.out.alloc _⟩
          show m ++ [c, d] = hexs (l.take (k + 1))
          rw [List.take_succ_eq_append_getElem hlt, hexs_snoc, ← HM.out, HC.out, HD.out, HX.out]
        case measure => simp [intOf]; omega
    · obtain rfl : k = l.length := by omega
      have HM' : Hid (m = hexs l) := by
        have := HM.out
        rw [List.take_length] at this
        exact this
      have HO := Lib.hid ho
      clear ho HM
      go_wp2_with fail
      go_ret
      exact ⟨by rw [← HM'.out]; rfl, HO.out⟩
end Go.Proofs.Ytcocmabhbahiaaa.numI
