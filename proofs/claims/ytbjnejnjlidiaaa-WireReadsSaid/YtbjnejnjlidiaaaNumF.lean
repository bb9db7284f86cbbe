/- Contract of num.ReadHex. -/
import Derived.Test.YtbjnejnjlidiaaaNumA
import Derived.Lib.OthersKept
import Derived.Deep.AppendLies
import Derived.Laws.MakeOwn
import Derived.Test.YtbjnejnjlidiaaaKit
import Derived.Laws.BytesArg
import Derived.Deep.RegionHeld3
import Derived.Deep.QuietTactic
import Derived.BigQuiet
import Derived.Deep.RegionLaw
import Derived.BigRegion
namespace Go.Proofs.Ytbjnejnjlidiaaa.numF
open Go.RowKit Go.Lib kit numA numC numE
set_option linter.unusedVariables false

theorem info5 : (Try.prog.info? 5).map (fun i => (i.zero, i.size, i.bytes)) = some (some (.int .u8 0), 1, 1) := by kernel_rfl

def U8 (l : List UInt8) : List Value := l.map fun c => .int .u8 (c.toNat : Int)

/-- What reading hexadecimal digits comes to. -/
def HexPost (w : World) (l : List UInt8) (e : Ending) (w' : World) : Prop :=
  Only (fun _ => False) w w' ∧ ((l.all isHex = true ∧ l.length % 2 = 0 ∧ ∃ v, e = .returned (.tuple #[v, .int .i64 0]) ∧ Lst w' 5 (fun j => w.heap.size ≤ j) v (U8 (unhex l))) ∨
    (l.all isHex = true ∧ l.length % 2 = 1 ∧ e = .returned (.tuple #[.slice none 0 0, .int .i64 4])) ∨ (l.all isHex = false ∧ e = .returned (.tuple #[.slice none 0 0, .int .i64 3])))

theorem take_all {s : ByteArray} {p : Nat} (h : p < s.size) (ha : (s.data.toList.take p).all isHex = true) (hc : isHex s[p] = true) : (s.data.toList.take (p + 1)).all isHex = true := by
  rw [take_byte s p h, List.all_append, ha]
  simpa using hc

theorem len_take {s : ByteArray} {p : Nat} (h : p ≤ s.size) : (s.data.toList.take p).length = p := by
  rw [List.length_take]
  have : s.data.toList.length = s.size := by simp
  omega

end Go.Proofs.Ytbjnejnjlidiaaa.numF
namespace Go.Proofs.Ytbjnejnjlidiaaa.numG
open Go.RowKit Go.Lib kit numA numC numE numF
set_option linter.unusedVariables false

theorem conv_lst {w : World} {S : Nat → Prop} {v : Value} {xs : List UInt8} (h : Sl w S v (U8 xs)) : (convert 24 9 v).run Try.prog w = .ok (.string ⟨xs.toArray⟩) w := by
  have hl : (U8 xs).length = xs.length := by simp [U8]
  obtain ⟨hm, a, cap, rfl, hx | ⟨g, o, rfl, hS, hg, hc⟩⟩ := h
  · have : xs = [] := by rw [hx] at hl; exact List.eq_nil_of_length_eq_zero (by simpa using hl.symm)
    subst this
    cases a with
    | none => exact run_convert_bytes_nil (P := Try.prog) w 24 5 Try.underlying24 Try.underlying5 0 cap 9 Try.underlying9
    | some x => exact run_convert_bytes_back (P := Try.prog) w 24 9 5 x cap [] Try.underlying24 Try.underlying5 Try.underlying9 (fun j hj => by simp at hj)
  · rw [hl] at hc ⊢
    exact run_convert_bytes_back (P := Try.prog) w 24 9 5 ⟨g, o, none⟩ cap xs Try.underlying24 Try.underlying5 Try.underlying9 (fun j hj => by
      rw [Addr.add_lit, hc j hj]
      simp [U8, hj])

theorem hv16_hit (c : UInt8) : (hv16 c == 16) = !isHex c := by
  cases h : isHex c with
  | true =>
    have := hvn_lt h
    simp only [hv16, h, if_true, Bool.not_true]
    exact beq_eq_false_iff_ne.2 (by omega)
  | false => simp [hv16, h]

structure RefRel (w : World) (s : ByteArray) (p : Nat) (v : Value) (wr : World) : Prop where
  own : wr.ownsRow w.heap.size 5 1 v (p / 2) (U8 (unhex (s.data.toList.take p)))
  old : Only (fun _ => False) w wr

theorem RefRel.next {w wr W w1 : World} {s : ByteArray} {p g cap : Nat} {v : Value} (h : RefRel w s p v wr) (hp : p + 1 < s.size) (he : p % 2 = 0) (hO : Only (fun _ => False) w W)
    (ho : w1.ownsRow w.heap.size 5 1 (.slice (some ⟨g, 0, none⟩) (p / 2 + 1) cap) (p / 2 + 1) (U8 (unhex (s.data.toList.take p)) ++ [.int .u8 ((byte (s[p]'(by omega)) s[p + 1]).toNat : Int)]))
    (hg : W.grownBy w1 v.ownBlock) : RefRel w s (p + 2) (.slice (some ⟨g, 0, none⟩) (p / 2 + 1) cap) w1 := by
  refine ⟨?_, Only.grownNew hO hg fun j hj => (h.own.lt j hj).1⟩
  have e1 : s.data.toList.take (p + 2) = s.data.toList.take p ++ [s[p]'(by omega), s[p + 1]] := by
    rw [show p + 2 = p + 1 + 1 by omega, take_byte s (p + 1) hp, take_byte s p (by omega), List.append_assoc]
    rfl
  rw [e1, unhex_snoc p _ (by rw [len_take (by omega)]; omega) (by rw [len_take (by omega)]; omega), show (p + 2) / 2 = p / 2 + 1 by omega]
  simpa [U8] using ho

set_option maxRecDepth 100000 in
set_option maxHeartbeats 1000000 in
theorem readHex_ref (s : ByteArray) (w : World) (hm : s.size ≤ 100000000) : Calls Try.prog 194 #[.string s] w (HexPost w s.data.toList) := by
  obtain ⟨i0, hi0, hz0, hz1, hz2⟩ := info_parts info5
  have hlen : s.data.toList.length = s.size := by simp
  have HL := Lib.hid hlen
  clear hlen
  go_enter Try.func194, Try.ntmps194
  go_wp2_with fail
  go_loop [4] (fun i => ∃ k : Nat, k ≤ s.size ∧ i = .int .i64 k ∧ Hid ((s.data.toList.take k).all isHex = true)) (fun i => s.size - (intOf i).toNat)
  case atStart => exact ⟨0, Nat.zero_le _, rfl, rfl⟩
  case round =>
    obtain ⟨k, hk, rfl, HA⟩ := hrel
    by_cases hlt : k < s.size
    · have k1 : (k : Int) < (s.size : Int) := by omega
      have V := value_ref s[k] w
      have hb := hv16_hit s[k]
      by_cases hc : isHex s[k] = true
      · rw [hc] at hb
        have HC := Lib.hid hc
        simp only [Bool.not_true] at hb
        clear hc
        go_wp2_with fail
        refine V.mono ?_
        rintro e w' ⟨rfl, rfl⟩
        go_wp2_with fail
        go_round
        case rel =>
          refine ⟨k + 1, by omega, by go_num, ?_⟩
          exact (take_all hlt HA.out HC.out : (s.data.toList.take (k + 1)).all isHex = true)
        case measure => simp [intOf]; omega
      · have hc' : isHex s[k] = false := by simpa using hc
        rw [hc'] at hb
        simp only [Bool.not_false] at hb
        have HF : Hid (HexPost w s.data.toList (.returned (.tuple #[.slice none 0 0, .int .i64 3])) w) := by
          refine ⟨Only.refl _ _, .inr (.inr ⟨?_, rfl⟩)⟩
          rw [List.all_eq_false]
          exact ⟨s[k], Array.mem_toList_iff.2 (Array.getElem_mem (xs := s.data) hlt), hc⟩
        clear hc hc' HA
        go_wp2_with fail
        refine V.mono ?_
        rintro e w' ⟨rfl, rfl⟩
        go_wp2_with fail
        go_ret2
        exact HF.out
    · obtain rfl : k = s.size := by omega
      have HALL : Hid (s.data.toList.all isHex = true) := by
        have := HA.out
        rw [List.take_of_length_le (by rw [HL.out]; omega)] at this
        exact this
      clear HA
      by_cases he : s.size % 2 = 1
      · have hb : ((s.size : Int) % 2 == 1) = true := by rw [beq_iff_eq]; omega
        have HF : Hid (HexPost w s.data.toList (.returned (.tuple #[.slice none 0 0, .int .i64 4])) w) := ⟨Only.refl _ _, .inr (.inl ⟨HALL.out, by rw [HL.out]; exact he, rfl⟩)⟩
        clear he
        go_wp2_with fail
        go_ret2
        exact HF.out
      · have hb : ((s.size : Int) % 2 == 1) = false := beq_eq_false_iff_ne.2 (by omega)
        have hown0 := World.ownsRow_made (e := 5) (size := 1) w #[] 0 (Nat.le_refl _) (by decide) rfl
        have R0 : RefRel w s 0 (.slice (some ⟨w.heap.size, 0, none⟩) 0 0) (w.alloc (.cells #[] 5)) := ⟨hown0, (Only.refl _ w).alloc _⟩
        have HE : Hid (s.size % 2 = 0) := (by omega : s.size % 2 = 0)
        clear he hown0
        go_wp2_with fail
        go_loopw [5, 6] (fun v i wr => ∃ p : Nat, p ≤ s.size ∧ i = .int .i64 p ∧ Hid (p % 2 = 0) ∧ RefRel w s p v wr) (fun _ i _ => s.size - (intOf i).toNat)
        case atStart => exact ⟨0, Nat.zero_le _, rfl, rfl, R0⟩
        case round =>
          obtain ⟨p, hp, rfl, HP, hR⟩ := hrel
          clear R0
          by_cases hlt : p < s.size
          · have hlt2 : p + 1 < s.size := by have := HE.out; have := HP.out; omega
            have p1 : (p : Int) < (s.size : Int) := by omega
            have p2 : (p : Int) + 1 < (s.size : Int) := by omega
            have h1 : isHex s[p] = true := List.all_eq_true.1 HALL.out _ (Array.mem_toList_iff.2 (Array.getElem_mem (xs := s.data) hlt))
            have h2 : isHex s[p + 1] = true := List.all_eq_true.1 HALL.out _ (Array.mem_toList_iff.2 (Array.getElem_mem (xs := s.data) hlt2))
            have V1 := fun W => value_ref s[p] W
            have V2 := fun W => value_ref s[p + 1] W
            have e1 : hv16 s[p] = ((hvn s[p] : Nat) : Int) := by simp [hv16, h1]
            have e2 : hv16 s[p + 1] = ((hvn s[p + 1] : Nat) : Int) := by simp [hv16, h2]
            obtain ⟨x, hx⟩ : ∃ x : Int, x = hv16 s[p] := ⟨_, rfl⟩
            obtain ⟨y, hy⟩ : ∃ y : Int, y = hv16 s[p + 1] := ⟨_, rfl⟩
            have x0 : 0 ≤ x := by rw [hx, e1]; omega
            have x1 : x < 16 := by rw [hx, e1]; have := hvn_lt h1; omega
            have y0 : 0 ≤ y := by rw [hy, e2]; omega
            have y1 : y < 16 := by rw [hy, e2]; have := hvn_lt h2; omega
            have HZ : Hid (16 * x + y = ((byte s[p] s[p + 1]).toNat : Int)) := (by rw [hx, hy, e1, e2, byte_nat h1 h2]; omega : 16 * x + y = ((byte s[p] s[p + 1]).toNat : Int))
            rw [← hx] at V1
            rw [← hy] at V2
            have own2 := hR.own
            have hsz := hR.old.size
            have HR := Lib.hid hR
            have hq2 : p / 2 + 1 ≤ 100000000 := by omega
            generalize hnn : p / 2 = nn at own2 hq2
            have HNN := Lib.hid hnn
            have w1 : IntKind.i64.wrap ((p : Int) + 1) = (p : Int) + 1 := IntWalk.i64_in _ (by omega)
            have w2 : (0 : Int) ≤ (p : Int) + 1 := by omega
            have w3 : ((p : Int) + 1).toNat = p + 1 := by omega
            have w4 : IntKind.u8.wrap (16 * x) = 16 * x := IntWalk.u8_in _ (by omega)
            have w5 : IntKind.u8.wrap (16 * x + y) = 16 * x + y := IntWalk.u8_in _ (by omega)
            clear hR h1 h2 e1 e2 hx hy hnn hb
            go_wp2_with fail
            go_region_held3 (fun w' => w'.heap.size = w'.heap.size) (first | (exact rfl) | go_keep)
              (first | (go_at_call 217; (with_reducible refine (V1 _).mono ?_); rintro e w' ⟨rfl, rfl⟩) | (go_at_call 217; (with_reducible refine (V2 _).mono ?_); rintro e w' ⟨rfl, rfl⟩) | (refine step_append_lies _ (by rfl) _ _ _ (by rfl) w.heap.size 5 i0 _ 1 1 Try.underlying24 hi0 hz0 hz1 hz2 rfl (by omega) u5 nn (U8 (unhex (s.data.toList.take p))) (by rfl) ((own2.alloc _).drew) ⟨wr.heap.size, 0, none⟩ 1 1 [.int .u8 (16 * x + y)] (by rfl) (by rfl) (World.news_of_block (cs := #[.int .u8 (16 * x + y)]) (t := 5) (fr := (0, 0)) (heap_alloc_new wr _)) (by simp [Value.oneCell']) (by omega) (by unfold maxLen; omega) (by omega) (by simp; omega) (wr.heap.size + 1) (by simp) ?_; intro g cap w3 hown3 hgrow3 hat3 _))
            all_goals
              go_wp2_with fail
              go_roundw
              case rel =>
                have own3 := hown3
                rw [HZ.out, ← HNN.out] at own3
                have NX := HR.out.next hlt2 HP.out (by first | exact HR.out.old.alloc _ | exact (HR.out.old.alloc _).drew) own3 hgrow3
                rw [HNN.out] at NX
                exact ⟨p + 2, by omega, by go_num, (by have := HP.out; omega : (p + 2) % 2 = 0), NX⟩
              case measure => simp [intOf]; omega
          · obtain rfl : p = s.size := by omega
            have hfin : HexPost w s.data.toList (.returned (.tuple #[u5, .int .i64 0])) wr := ⟨hR.old, .inl ⟨HALL.out, by rw [HL.out]; exact HE.out, u5, rfl, by
              have := Lst.of_owns hR.own
              rwa [List.take_of_length_le (by rw [HL.out]; omega)] at this⟩⟩
            have HF := Lib.hid hfin
            clear hfin hR
            go_wp2_with fail
            go_ret2
            exact HF.out

theorem U8_get (l : List UInt8) (i : Nat) (h : i < l.length) : (U8 l).getD i undef = .int .u8 ((l[i].toNat : Nat) : Int) := by simp [U8, h]

theorem U8_len (l : List UInt8) : (U8 l).length = l.length := by simp [U8]

theorem hs_dg (n : Nat) (h : n < 16) : dg n = ((hs n).toNat : Int) := by
  rw [hs_nat h]
  simp only [dg]
  split <;> split <;> omega
end Go.Proofs.Ytbjnejnjlidiaaa.numG
namespace Go.Proofs.Ytbjnejnjlidiaaa.numH
open Go.RowKit Go.Lib kit numA numC numE numF numG
set_option linter.unusedVariables false

theorem and_15 : ∀ a : Fin 256, Go.bits BinOp.and IntKind.u8 ((a.val : Nat) : Int) 15 = ((a.val % 16 : Nat) : Int) := by decide +kernel

structure HRel (w : World) (l : List UInt8) (k : Nat) (v : Value) (wr : World) : Prop where
  own : wr.ownsRow w.heap.size 5 1 v (2 * k) (U8 (hexs (l.take k)))
  old : Only (fun _ => False) w wr

theorem HRel.next {w wr W w1 : World} {l : List UInt8} {k g cap : Nat} {v : Value} (h : HRel w l k v wr) (hk : k < l.length) (hO : Only (fun _ => False) w W)
    (ho : w1.ownsRow w.heap.size 5 1 (.slice (some ⟨g, 0, none⟩) (2 * k + 2) cap) (2 * k + 2) (U8 (hexs (l.take k)) ++ [.int .u8 (dg ((l[k].toNat / 16 : Nat) : Int)), .int .u8 (dg ((l[k].toNat % 16 : Nat) : Int))]))
    (hg : W.grownBy w1 v.ownBlock) : HRel w l (k + 1) (.slice (some ⟨g, 0, none⟩) (2 * k + 2) cap) w1 := by
  have hx := l[k].toNat_lt
  refine ⟨?_, Only.grownNew hO hg fun j hj => (h.own.lt j hj).1⟩
  have e1 : l.take (k + 1) = l.take k ++ [l[k]] := List.take_succ_eq_append_getElem hk
  rw [e1, hexs_snoc, show 2 * (k + 1) = 2 * k + 2 by omega]
  rw [hs_dg _ (by omega), hs_dg _ (by omega)] at ho
  simpa [U8] using ho

set_option maxRecDepth 100000 in
set_option maxHeartbeats 1000000 in
theorem hex_any (S : Nat → Prop) (v : Value) (l : List UInt8) (w : World) (h : Sl w S v (U8 l)) (hm : l.length ≤ 100000000) : Calls Try.prog 110 #[v] w (numA.Told w (.string ⟨(hexs l).toArray⟩)) := by
  obtain ⟨i0, hi0, hz0, hz1, hz2⟩ := info_parts info5
  obtain ⟨W1, hmk, hown0, hg0⟩ := run_make_own (P := Try.prog) w w.heap.size 24 5 i0 (.int .u8 0) 1 Try.underlying24 hi0 hz0 hz1 .i64 .i64 (2 * l.length) (by rw [hz2]; omega) (by unfold maxLen; omega) (Nat.le_refl _)
  have ec : ((2 * l.length : Nat) : Int) = 2 * (l.length : Int) := by omega
  rw [ec] at hmk
  clear ec
  have O1 : Only (fun _ => False) w W1 := (Only.refl _ w).grown hg0 (fun k h => by cases h)
  have R0 : HRel w l 0 (.slice (some ⟨w.heap.size, 0, none⟩) 0 (2 * l.length)) W1 := ⟨hown0, O1⟩
  obtain ⟨a, cap, hv⟩ : ∃ a cap, v = .slice a l.length cap := by
    obtain ⟨_, a, cap, h, _⟩ := h
    exact ⟨a, cap, by rw [h, U8_len]⟩
  have HL := Lib.hid h
  clear hg0 hown0 O1 h
  subst hv
  go_enter Try.func110, Try.ntmps110
  go_wp2_with fail
  go_loopw [3, 5, 12] (fun v _ i wr => ∃ k : Nat, k ≤ l.length ∧ i = .int .i64 k ∧ HRel w l k v wr) (fun _ _ i _ => l.length - (intOf i).toNat)
  case atStart => exact ⟨0, Nat.zero_le _, rfl, R0⟩
  case round =>
    obtain ⟨k, hk, rfl, hR⟩ := hrel
    clear R0 hmk
    by_cases hlt : k < l.length
    · obtain ⟨g, o, rfl, hS, hcell, hgb⟩ : ∃ g o, a = some ⟨g, o, none⟩ ∧ S g ∧ w.cell? ⟨g, o + k, none⟩ = some (.int .u8 ((l[k].toNat : Nat) : Int)) ∧ g < w.heap.size := by
        have hl := HL.out
        obtain ⟨_, a', cap', h, hx | ⟨g, o, ha, hS, hg, hc⟩⟩ := hl
        · have : l.length = 0 := by rw [← U8_len, hx]; rfl
          omega
        · injection h with h1 h2 h3
          subst h1
          exact ⟨g, o, ha, hS, by rw [hc k (by rw [U8_len]; exact hlt), U8_get l k hlt], hg⟩
      have hc := (World.cell?_of_block (w := w) (w' := wr) (a := ⟨g, o + k, none⟩) (hR.old.block g hgb id)).trans hcell
      have hx8 := l[k].toNat_lt
      obtain ⟨x, hx⟩ : ∃ x, x = l[k].toNat := ⟨_, rfl⟩
      rw [← hx] at hc hx8
      have hb : Go.bits BinOp.and IntKind.u8 (x : Int) 15 = (x : Int) % 16 := by have := and_15 ⟨x, hx8⟩; simpa using this
      have HX := Lib.hid hx
      have hx8' : (x : Int) < 256 := by omega
      have own2 := hR.own
      have hsz := hR.old.size
      have HR := Lib.hid hR
      have k0 : (0 : Int) ≤ (k : Int) := by omega
      have k1 : (k : Int) < (l.length : Int) := by omega
      clear hR hx hcell hx8
      have D1 := fun W => digit_any ((x : Int) / 16) W (by omega) (by omega)
      have D2 := fun W => digit_any ((x : Int) % 16) W (by omega) (by omega)
      obtain ⟨p, hp⟩ : ∃ p, p = dg ((x : Int) / 16) := ⟨_, rfl⟩
      obtain ⟨q, hq⟩ : ∃ q, q = dg ((x : Int) % 16) := ⟨_, rfl⟩
      rw [← hp] at D1
      rw [← hq] at D2
      have HP := Lib.hid hp
      have HQ := Lib.hid hq
      have hk2 : 2 * k + 2 ≤ 200000000 := by omega
      clear hp hq
      go_wp2_with (first | (go_at_call 166; (with_reducible refine (D1 _).mono ?_); rintro e w' ⟨rfl, rfl⟩) | (go_at_call 166; (with_reducible refine (D2 _).mono ?_); rintro e w' ⟨rfl, rfl⟩) | (at_builtin; refine wpList_append_lies _ rfl (.tmp 16) (.tmp 23) 24 rfl w.heap.size 5 i0 (.int .u8 0) 1 1 Try.underlying24 hi0 hz0 hz1 hz2 rfl (by decide) _ _ _ rfl (own2.alloc _) ⟨wr.heap.size, 0, none⟩ 2 2 [.int .u8 p, .int .u8 q] rfl rfl (World.news_of_block (cs := #[.int .u8 p, .int .u8 q]) (t := 5) (fr := (0, 0)) (heap_alloc_new wr _)) (by simp [Value.oneCell']) (by omega) (by unfold maxLen; omega) (by omega) (by simp; omega) (wr.heap.size + 1) (by simp) ?_; intro g2 cp w3 hown3 hgrow3 _ _))
      go_roundw
      case rel =>
        have own3 := hown3
        have ex : ((l[k].toNat / 16 : Nat) : Int) = (x : Int) / 16 := by rw [HX.out]; omega
        have ey : ((l[k].toNat % 16 : Nat) : Int) = (x : Int) % 16 := by rw [HX.out]; omega
        refine ⟨k + 1, by omega, by go_num, HR.out.next hlt (HR.out.old.alloc _) ?_ hgrow3⟩
        rw [ex, ey, ← HP.out, ← HQ.out]
        exact own3
      case measure => simp [intOf]; omega
    · obtain rfl : k = l.length := by omega
      have hcv := conv_lst (Sl.of_lst (Lst.of_owns hR.own))
      rw [List.take_length] at hcv
      have HR := Lib.hid hR
      clear hR
      go_wp2_with fail
      go_ret
      exact ⟨rfl, HR.out.old⟩

end Go.Proofs.Ytbjnejnjlidiaaa.numH
namespace Go.Proofs.Ytbjnejnjlidiaaa.numI
open Go.RowKit Go.Lib kit numA numC numE numF numG
set_option linter.unusedVariables false

theorem conv2 (W V : World) (p q : Int) (c d : UInt8) (hp : p = (c.toNat : Int)) (hq : q = (d.toNat : Int)) (hV : V.heap = (W.alloc (.cells #[.int .u8 p, .int .u8 q] 5)).heap) :
    (convert 24 9 (.slice (some ⟨W.heap.size, 0, none⟩) 2 2)).run Try.prog V = .ok (.string ⟨#[c, d]⟩) V := by
  have := run_convert_bytes_back (P := Try.prog) V 24 9 5 ⟨W.heap.size, 0, none⟩ 2 [c, d] Try.underlying24 Try.underlying5 Try.underlying9 (fun j hj => by
    have hb : V.heap[W.heap.size]? = some (.cells #[.int .u8 p, .int .u8 q] 5 (0, 0)) := by rw [hV]; exact heap_alloc_new W _
    rw [Addr.add_lit, cell_of hb]
    match j, hj with
    | 0, _ => simp [hp]
    | 1, _ => simp [hq])
  exact this

set_option maxRecDepth 100000 in
set_option maxHeartbeats 2000000 in
theorem hex_ref (S : Nat → Prop) (v : Value) (l : List UInt8) (w : World) (h : Sl w S v (U8 l)) (hm : l.length ≤ 100000000) : Calls Try.prog 112 #[v] w (numA.Told w (.string ⟨(hexs l).toArray⟩)) := by
  obtain ⟨a, cap, hv⟩ : ∃ a cap, v = .slice a l.length cap := by
    obtain ⟨_, a, cap, h, _⟩ := h
    exact ⟨a, cap, by rw [h, U8_len]⟩
  have HL := Lib.hid h
  clear h
  subst hv
  go_enter Try.func112, Try.ntmps112
  go_wp2_with fail
  go_loopw [3, 4] (fun t i wr => ∃ (k : Nat) (m : List UInt8), k ≤ l.length ∧ i = .int .i64 k ∧ t = .string ⟨m.toArray⟩ ∧ Hid (m = hexs (l.take k)) ∧ Only (fun _ => False) w wr) (fun _ i _ => l.length - (intOf i).toNat)
  case atStart => exact ⟨0, [], Nat.zero_le _, rfl, rfl, rfl, Only.refl _ _⟩
  case round =>
    obtain ⟨k, m, hk, rfl, rfl, HM, ho⟩ := hrel
    by_cases hlt : k < l.length
    · obtain ⟨g, o, rfl, hS, hcell, hgb⟩ : ∃ g o, a = some ⟨g, o, none⟩ ∧ S g ∧ w.cell? ⟨g, o + k, none⟩ = some (.int .u8 ((l[k].toNat : Nat) : Int)) ∧ g < w.heap.size := by
        have hl := HL.out
        obtain ⟨_, a', cap', h, hx | ⟨g, o, ha, hS, hg, hc⟩⟩ := hl
        · have : l.length = 0 := by rw [← U8_len, hx]; rfl
          omega
        · injection h with h1 h2 h3
          subst h1
          exact ⟨g, o, ha, hS, by rw [hc k (by rw [U8_len]; exact hlt), U8_get l k hlt], hg⟩
      have hc := (World.cell?_of_block (w := w) (w' := wr) (a := ⟨g, o + k, none⟩) (ho.block g hgb id)).trans hcell
      have hx8 := l[k].toNat_lt
      obtain ⟨x, hx⟩ : ∃ x, x = l[k].toNat := ⟨_, rfl⟩
      have hp0 := hs_dg (l[k].toNat / 16) (by omega)
      have hq0 := hs_dg (l[k].toNat % 16) (by omega)
      rw [← hx] at hc hx8 hp0 hq0
      have HX := Lib.hid hx
      have hx8' : (x : Int) < 256 := by omega
      have hsz := ho.size
      have HO := Lib.hid ho
      have k0 : (0 : Int) ≤ (k : Int) := by omega
      have k1 : (k : Int) < (l.length : Int) := by omega
      have D1 := fun W => digit_ref ((x : Int) / 16) W (by omega) (by omega)
      have D2 := fun W => digit_ref ((x : Int) % 16) W (by omega) (by omega)
      have ex : ((x / 16 : Nat) : Int) = (x : Int) / 16 := by omega
      have ey : ((x % 16 : Nat) : Int) = (x : Int) % 16 := by omega
      rw [ex] at hp0
      rw [ey] at hq0
      obtain ⟨c, hcc⟩ : ∃ c, c = hs (x / 16) := ⟨_, rfl⟩
      obtain ⟨d, hdd⟩ : ∃ d, d = hs (x % 16) := ⟨_, rfl⟩
      rw [← hcc] at hp0
      rw [← hdd] at hq0
      obtain ⟨p, hp⟩ : ∃ p, p = dg ((x : Int) / 16) := ⟨_, rfl⟩
      obtain ⟨q, hq⟩ : ∃ q, q = dg ((x : Int) % 16) := ⟨_, rfl⟩
      rw [← hp] at D1 hp0
      rw [← hq] at D2 hq0
      have hcv1 := conv2 wr (wr.alloc (.cells #[.int .u8 p, .int .u8 q] 5)) p q c d hp0 hq0 rfl
      have hcv2 := conv2 wr (wr.alloc (.cells #[.int .u8 p, .int .u8 q] 5)).drew p q c d hp0 hq0 rfl
      have hne := World.new_ne wr ⟨g, o + k, none⟩ hc
      have w1 : IntKind.u8.wrap ((x : Int) / 16) = (x : Int) / 16 := IntWalk.u8_in _ (by omega)
      have w3 : (x : Int).tmod 16 = (x : Int) % 16 := Int.tmod_eq_emod_of_nonneg (by omega)
      have w2 : IntKind.u8.wrap ((x : Int) % 16) = (x : Int) % 16 := IntWalk.u8_in _ (by omega)
      have hml : m.length ≤ 200000000 := by rw [HM.out, hexs_len, List.length_take]; omega
      have HC := Lib.hid hcc
      have HD := Lib.hid hdd
      clear ho hx hcell hp0 hq0 ex ey hcc hdd hp hq
      go_wp2_with fail
      go_region_with (first | (go_at_call 167; (with_reducible refine (D1 _).mono ?_); rintro e w' ⟨rfl, rfl⟩) | (go_at_call 167; (with_reducible refine (D2 _).mono ?_); rintro e w' ⟨rfl, rfl⟩))
      all_goals
        go_wp2_with fail
        go_roundw
        case rel =>
          refine ⟨k + 1, m ++ [c, d], by omega, by go_num, congrArg Value.string (ByteArray.mk_append_mk m [c, d]), ?_, by first | exact (HO.out.alloc _).drew | exact HO.out.alloc _⟩
          show m ++ [c, d] = hexs (l.take (k + 1))
          rw [List.take_succ_eq_append_getElem hlt, hexs_snoc, ← HM.out, HC.out, HD.out, HX.out]
        case measure => simp [intOf]; omega
    · obtain rfl : k = l.length := by omega
      have HM' : Hid (m = hexs l) := by
        have := HM.out
        rw [List.take_length] at this
        exact this
      have HO := Lib.hid ho
      clear ho HM
      go_wp2_with fail
      go_ret
      exact ⟨by rw [← HM'.out]; rfl, HO.out⟩
end Go.Proofs.Ytbjnejnjlidiaaa.numI
