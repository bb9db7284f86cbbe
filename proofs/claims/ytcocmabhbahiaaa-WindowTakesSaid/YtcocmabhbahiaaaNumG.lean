/- Contracts of the document's ReadHex, and of Same. -/
import Derived.Test.YtcocmabhbahiaaaNumF
import Derived.Test.YtcocmabhbahiaaaKit2
import Derived.Laws.BytesArg
import Derived.Deep.RegionHeld3
import Derived.Deep.QuietTactic
import Derived.BigQuiet
namespace Go.Proofs.Ytcocmabhbahiaaa.numG
open Go.RowKit Go.Lib Go.Proofs.Ytcocmabhbahiaaa.kit Go.Proofs.Ytcocmabhbahiaaa.numA Go.Proofs.Ytcocmabhbahiaaa.numC Go.Proofs.Ytcocmabhbahiaaa.numE Go.Proofs.Ytcocmabhbahiaaa.numF
set_option linter.unusedVariables false

theorem conv_lst {w : World} {S : Nat → Prop} {v : Value} {xs : List UInt8} (h : Sl w S v (U8 xs)) : (convert 27 9 v).run Try.prog w = .ok (.string ⟨xs.toArray⟩) w := by
  have hl : (U8 xs).length = xs.length := by simp [U8]
  obtain ⟨hm, a, cap, rfl, hx | ⟨g, o, rfl, hS, hg, hc⟩⟩ := h
  · have : xs = [] := by rw [hx] at hl; exact List.eq_nil_of_length_eq_zero (by simpa using hl.symm)
    subst this
    cases a with
    | none => exact run_convert_bytes_nil (P := Try.prog) w 27 5 Try.underlying27 Try.underlying5 0 cap 9 Try.underlying9
    | some x => exact run_convert_bytes_back (P := Try.prog) w 27 9 5 x cap [] Try.underlying27 Try.underlying5 Try.underlying9 (fun j hj => by simp at hj)
  · rw [hl] at hc ⊢
    exact run_convert_bytes_back (P := Try.prog) w 27 9 5 ⟨g, o, none⟩ cap xs Try.underlying27 Try.underlying5 Try.underlying9 (fun j hj => by
      rw [Addr.add_lit, hc j hj]
      simp [U8, hj])

theorem same_true {S T : Nat → Prop} {a b : Value} {xs : List UInt8} {w : World} (ha : Sl w S a (U8 xs)) (hb : Sl w T b (U8 xs)) : Calls Try.prog 19 #[a, b] w fun e w' => e = .returned (.bool true) ∧ w = w' := by
  have h1 := conv_lst ha
  have h2 := conv_lst hb
  clear ha hb
  go_enter Try.func19, Try.ntmps19
  go_wp2
  go_ret
  exact ⟨by simp, rfl⟩

theorem hv16_hit (c : UInt8) : (hv16 c == 16) = !isHex c := by
  cases h : isHex c with
  | true =>
    have := hvn_lt h
    simp only [hv16, h, if_true, Bool.not_true]
    exact beq_eq_false_iff_ne.2 (by omega)
  | false => simp [hv16, h]

structure RefRel (w : World) (s : ByteArray) (p : Nat) (v : Value) (wr : World) : Prop where
  own : wr.ownsRow w.heap.size 5 1 v (p / 2) (U8 (unhex (s.data.toList.take p)))
  old : Only (fun _ => False) w wr

theorem RefRel.next {w wr W w1 : World} {s : ByteArray} {p g cap : Nat} {v : Value} (h : RefRel w s p v wr) (hp : p + 1 < s.size) (he : p % 2 = 0) (hO : Only (fun _ => False) w W)
    (ho : w1.ownsRow w.heap.size 5 1 (.slice (some ⟨g, 0, none⟩) (p / 2 + 1) cap) (p / 2 + 1) (U8 (unhex (s.data.toList.take p)) ++ [.int .u8 ((byte (s[p]'(by omega)) s[p + 1]).toNat : Int)]))
    (hg : W.grownBy w1 v.ownBlock) : RefRel w s (p + 2) (.slice (some ⟨g, 0, none⟩) (p / 2 + 1) cap) w1 := by
  refine ⟨?_, Only.grownNew hO hg fun j hj => (h.own.lt j hj).1⟩
  have e1 : s.data.toList.take (p + 2) = s.data.toList.take p ++ [s[p]'(by omega), s[p + 1]] := by
    rw [show p + 2 = p + 1 + 1 by omega, take_byte s (p + 1) hp, take_byte s p (by omega), List.append_assoc]
    rfl
  rw [e1, unhex_snoc p _ (by rw [len_take (by omega)]; omega) (by rw [len_take (by omega)]; omega), show (p + 2) / 2 = p / 2 + 1 by omega]
  simpa [U8] using ho

set_option maxRecDepth 100000 in
set_option maxHeartbeats 1000000 in
theorem readHex_ref (s : ByteArray) (w : World) (hm : s.size ≤ 100000000) : Calls Try.prog 18 #[.string s] w (HexPost w s.data.toList) := by
  obtain ⟨i0, hi0, hz0, hz1, hz2⟩ := info_parts info5
  have hlen : s.data.toList.length = s.size := by simp
  have HL := Lib.hid hlen
  clear hlen
  go_enter Try.func18, Try.ntmps18
  go_wp2_with fail
  go_loop [4] (fun i => ∃ k : Nat, k ≤ s.size ∧ i = .int .i64 k ∧ Hid ((s.data.toList.take k).all isHex = true)) (fun i => s.size - (intOf i).toNat)
  case atStart => exact ⟨0, Nat.zero_le _, rfl, rfl⟩
  case round =>
    obtain ⟨k, hk, rfl, HA⟩ := hrel
    by_cases hlt : k < s.size
    · have k1 : (k : Int) < (s.size : Int) := by omega
      have V := value_ref s[k] w
      have hb := hv16_hit s[k]
      by_cases hc : isHex s[k] = true
      · rw [hc] at hb
        have HC := Lib.hid hc
        simp only [Bool.not_true] at hb
        clear hc
        go_wp2_with fail
        refine V.mono ?_
        rintro e w' ⟨rfl, rfl⟩
        go_wp2_with fail
        go_round
        case rel =>
          refine ⟨k + 1, by omega, by go_num, ?_⟩
          exact (take_all hlt HA.out HC.out : (s.data.toList.take (k + 1)).all isHex = true)
        case measure => simp [intOf]; omega
      · have hc' : isHex s[k] = false := by simpa using hc
        rw [hc'] at hb
        simp only [Bool.not_false] at hb
        have HF : Hid (HexPost w s.data.toList (.returned (.tuple #[.slice none 0 0, .int .i64 3])) w) := by
          refine ⟨Only.refl _ _, .inr (.inr ⟨?_, rfl⟩)⟩
          rw [List.all_eq_false]
          exact ⟨s[k], Array.mem_toList_iff.2 (Array.getElem_mem (xs := s.data) hlt), hc⟩
        clear hc hc' HA
        go_wp2_with fail
        refine V.mono ?_
        rintro e w' ⟨rfl, rfl⟩
        go_wp2_with fail
        go_ret2
        exact HF.out
    · obtain rfl : k = s.size := by omega
      have HALL : Hid (s.data.toList.all isHex = true) := by
        have := HA.out
        rw [List.take_of_length_le (by rw [HL.out]; omega)] at this
        exact this
      clear HA
      by_cases he : s.size % 2 = 1
      · have hb : ((s.size : Int) % 2 == 1) = true := by rw [beq_iff_eq]; omega
        have HF : Hid (HexPost w s.data.toList (.returned (.tuple #[.slice none 0 0, .int .i64 4])) w) := ⟨Only.refl _ _, .inr (.inl ⟨HALL.out, by rw [HL.out]; exact he, rfl⟩)⟩
        clear he
        go_wp2_with fail
        go_ret2
        exact HF.out
      · have hb : ((s.size : Int) % 2 == 1) = false := beq_eq_false_iff_ne.2 (by omega)
        have hown0 := World.ownsRow_made (e := 5) (size := 1) w #[] 0 (Nat.le_refl _) (by decide) rfl
        have R0 : RefRel w s 0 (.slice (some ⟨w.heap.size, 0, none⟩) 0 0) (w.alloc (.cells #[] 5)) := ⟨hown0, (Only.refl _ w).alloc _⟩
        have HE : Hid (s.size % 2 = 0) := (by omega : s.size % 2 = 0)
        clear he hown0
        go_wp2_with fail
        go_loopw [5, 6] (fun v i wr => ∃ p : Nat, p ≤ s.size ∧ i = .int .i64 p ∧ Hid (p % 2 = 0) ∧ RefRel w s p v wr) (fun _ i _ => s.size - (intOf i).toNat)
        case atStart => exact ⟨0, Nat.zero_le _, rfl, rfl, R0⟩
        case round =>
          obtain ⟨p, hp, rfl, HP, hR⟩ := hrel
          clear R0
          by_cases hlt : p < s.size
          · have hlt2 : p + 1 < s.size := by have := HE.out; have := HP.out; omega
            have p1 : (p : Int) < (s.size : Int) := by omega
            have p2 : (p : Int) + 1 < (s.size : Int) := by omega
            have h1 : isHex s[p] = true := List.all_eq_true.1 HALL.out _ (Array.mem_toList_iff.2 (Array.getElem_mem (xs := s.data) hlt))
            have h2 : isHex s[p + 1] = true := List.all_eq_true.1 HALL.out _ (Array.mem_toList_iff.2 (Array.getElem_mem (xs := s.data) hlt2))
            have V1 := fun W => value_ref s[p] W
            have V2 := fun W => value_ref s[p + 1] W
            have e1 : hv16 s[p] = ((hvn s[p] : Nat) : Int) := by simp [hv16, h1]
            have e2 : hv16 s[p + 1] = ((hvn s[p + 1] : Nat) : Int) := by simp [hv16, h2]
            obtain ⟨x, hx⟩ : ∃ x : Int, x = hv16 s[p] := ⟨_, rfl⟩
            obtain ⟨y, hy⟩ : ∃ y : Int, y = hv16 s[p + 1] := ⟨_, rfl⟩
            have x0 : 0 ≤ x := by rw [hx, e1]; omega
            have x1 : x < 16 := by rw [hx, e1]; have := hvn_lt h1; omega
            have y0 : 0 ≤ y := by rw [hy, e2]; omega
            have y1 : y < 16 := by rw [hy, e2]; have := hvn_lt h2; omega
            have HZ : Hid (16 * x + y = ((byte s[p] s[p + 1]).toNat : Int)) := (by rw [hx, hy, e1, e2, byte_nat h1 h2]; omega : 16 * x + y = ((byte s[p] s[p + 1]).toNat : Int))
            rw [← hx] at V1
            rw [← hy] at V2
            have own2 := hR.own
            have hsz := hR.old.size
            have HR := Lib.hid hR
            have hq2 : p / 2 + 1 ≤ 100000000 := by omega
            generalize hnn : p / 2 = nn at own2 hq2
            have HNN := Lib.hid hnn
            have w1 : IntKind.i64.wrap ((p : Int) + 1) = (p : Int) + 1 := IntWalk.i64_in _ (by omega)
            have w2 : (0 : Int) ≤ (p : Int) + 1 := by omega
            have w3 : ((p : Int) + 1).toNat = p + 1 := by omega
            have w4 : IntKind.u8.wrap (16 * x) = 16 * x := IntWalk.u8_in _ (by omega)
            have w5 : IntKind.u8.wrap (16 * x + y) = 16 * x + y := IntWalk.u8_in _ (by omega)
            clear hR h1 h2 e1 e2 hx hy hnn hb
            go_wp2_with fail
            go_region_held3 (fun w' => w'.heap.size = w'.heap.size) (first | (exact rfl) | go_keep)
              (first | (go_at_call 70; (with_reducible refine (V1 _).mono ?_); rintro e w' ⟨rfl, rfl⟩) | (go_at_call 70; (with_reducible refine (V2 _).mono ?_); rintro e w' ⟨rfl, rfl⟩) | (refine step_append_lies _ (by rfl) _ _ _ (by rfl) w.heap.size 5 i0 _ 1 1 Try.underlying27 hi0 hz0 hz1 hz2 rfl (by omega) u5 nn (U8 (unhex (s.data.toList.take p))) (by rfl) ((own2.alloc _).drew) ⟨wr.heap.size, 0, none⟩ 1 1 [.int .u8 (16 * x + y)] (by rfl) (by rfl) (World.news_of_block (cs := #[.int .u8 (16 * x + y)]) (t := 5) (fr := (0, 0)) (heap_alloc_new wr _)) (by simp [Value.oneCell']) (by omega) (by unfold maxLen; omega) (by omega) (by simp; omega) (wr.heap.size + 1) (by simp) ?_; intro g cap w3 hown3 hgrow3 hat3 _))
            all_goals
              go_wp2_with fail
              go_roundw
              case rel =>
                have own3 := hown3
                rw [HZ.out, ← HNN.out] at own3
                have NX := HR.out.next hlt2 HP.out (by first | exact HR.out.old.alloc _ | exact (HR.out.old.alloc _).drew) own3 hgrow3
                rw [HNN.out] at NX
                exact ⟨p + 2, by omega, by go_num, (by have := HP.out; omega : (p + 2) % 2 = 0), NX⟩
              case measure => simp [intOf]; omega
          · obtain rfl : p = s.size := by omega
            have hfin : HexPost w s.data.toList (.returned (.tuple #[u5, .int .i64 0])) wr := ⟨hR.old, .inl ⟨HALL.out, by rw [HL.out]; exact HE.out, u5, rfl, by
              have := Lst.of_owns hR.own
              rwa [List.take_of_length_le (by rw [HL.out]; omega)] at this⟩⟩
            have HF := Lib.hid hfin
            clear hfin hR
            go_wp2_with fail
            go_ret2
            exact HF.out

theorem U8_get (l : List UInt8) (i : Nat) (h : i < l.length) : (U8 l).getD i undef = .int .u8 ((l[i].toNat : Nat) : Int) := by simp [U8, h]

theorem U8_len (l : List UInt8) : (U8 l).length = l.length := by simp [U8]

theorem hs_dg (n : Nat) (h : n < 16) : dg n = ((hs n).toNat : Int) := by
  rw [hs_nat h]
  simp only [dg]
  split <;> split <;> omega
end Go.Proofs.Ytcocmabhbahiaaa.numG
