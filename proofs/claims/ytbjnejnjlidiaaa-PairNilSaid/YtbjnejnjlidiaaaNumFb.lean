/- (more) Contract of num.ReadHex. -/
import Derived.Lib.OthersKept
import Derived.Deep.AppendLies
import Derived.Laws.MakeOwn
import Derived.Laws.BytesArg
import Derived.Deep.RegionHeld3
import Derived.Deep.QuietTactic
import Derived.BigQuiet
import Derived.Deep.RegionLaw
import Derived.BigRegion
import Derived.Test.YtbjnejnjlidiaaaNumF
import Derived.Test.YtbjnejnjlidiaaaNumAb
namespace Go.Proofs.Ytbjnejnjlidiaaa.numF
open Go.RowKit Go.Lib kit numA numC numE
set_option linter.unusedVariables false

theorem owns_iter {w : World} {base e size n k : Nat} {v : Value} {xs : List Value} (h : w.ownsRow base e size v n xs) (hk : v.ownBlock ≠ some k) (s : ByteArray) (p : Nat) : (w.iterAt k s p).ownsRow base e size v n xs := by
  obtain ⟨hl, h | ⟨g, cap, cur, hv, hb, hg, r⟩⟩ := h
  · exact ⟨hl, .inl h⟩
  · refine ⟨hl, .inr ⟨g, cap, cur, hv, hb, ?_, r⟩⟩
    rw [iterAt_other _ _ _ _ _ (by rintro rfl; exact hk (by rw [hv]; rfl))]
    exact hg

theorem only_iterAt {S : Nat → Prop} {a w : World} (h : Only S a w) {k : Nat} (hk : a.heap.size ≤ k) (s : ByteArray) (p : Nat) : Only S a (w.iterAt k s p) :=
  ⟨h.os, h.tape, h.output, by rw [iterAt_size]; exact h.size, fun i hi hs => by rw [iterAt_other _ _ _ _ _ (by omega)]; exact h.block i hi hs⟩

/-- What holds before byte p is read. -/
structure HexRel (w : World) (s : ByteArray) (IT p : Nat) (v hi : Value) (wr : World) : Prop where
  iter : wr.heap[IT]? = some (.stringIter s p)
  own : wr.ownsRow w.heap.size 5 1 v (p / 2) (U8 (unhex (s.data.toList.take p)))
  far : v.ownBlock ≠ some IT
  old : Only (fun _ => False) w wr
  all : (s.data.toList.take p).all isHex = true
  high : p % 2 = 1 → ∃ (q : Nat) (h : q < s.size), p = q + 1 ∧ hi = .int .u8 ((hvn s[q] : Nat) : Int)
  it : w.heap.size ≤ IT

theorem HexRel.even {w wr : World} {s : ByteArray} {IT p : Nat} {v hi : Value} (h : HexRel w s IT p v hi wr) (hp : p < s.size) (he : p % 2 = 0) (hc : isHex s[p] = true) :
    HexRel w s IT (p + 1) v (.int .u8 ((hvn s[p] : Nat) : Int)) (wr.iterAt IT s (p + 1)) :=
  ⟨iterAt_heap _ _ _ _ _ h.iter, by
    have := owns_iter h.own h.far s (p + 1)
    rw [take_byte s p hp, unhex_odd p _ (by rw [len_take (by omega)]; omega) (by rw [len_take (by omega)]; omega), show (p + 1) / 2 = p / 2 by omega]
    exact this, h.far, only_iterAt h.old h.it s _, take_all hp h.all hc, fun _ => ⟨p, hp, rfl, rfl⟩, h.it⟩

theorem HexRel.odd {w wr W w1 : World} {s : ByteArray} {IT p g cap : Nat} {v hi hi' : Value} (h : HexRel w s IT p v hi wr) (hp : p < s.size) (q : Nat) (hq : p = q + 1) (he : q % 2 = 0) (hc : isHex s[p] = true)
    (hW : W.heap[IT]? = some (.stringIter s (p + 1))) (hO : Only (fun _ => False) w W)
    (ho : w1.ownsRow w.heap.size 5 1 (.slice (some ⟨g, 0, none⟩) (p / 2 + 1) cap) (p / 2 + 1) (U8 (unhex (s.data.toList.take p)) ++ [.int .u8 ((byte (s[q]'(by omega)) s[p]).toNat : Int)]))
    (hg : W.grownBy w1 v.ownBlock) (hat : v.ownBlock = some g ∨ g = W.heap.size) : HexRel w s IT (p + 1) (.slice (some ⟨g, 0, none⟩) (p / 2 + 1) cap) hi' w1 := by
  have hIT : IT < W.heap.size := lt_of hW
  refine ⟨(hg.block IT hIT (fun e => h.far e.symm)).trans hW, ?_, ?_, Only.grownNew hO hg fun j hj => (h.own.lt j hj).1, take_all hp h.all hc, fun h2 => by omega, h.it⟩
  · have e1 : s.data.toList.take (p + 1) = s.data.toList.take q ++ [s[q]'(by omega), s[p]] := by
      rw [take_byte s p hp]
      subst hq
      rw [take_byte s q (by omega), List.append_assoc]
      rfl
    have e2 : unhex (s.data.toList.take p) = unhex (s.data.toList.take q) := by
      subst hq
      rw [take_byte s q (by omega), unhex_odd q _ (by rw [len_take (by omega)]; omega) (by rw [len_take (by omega)]; omega)]
    rw [e1, unhex_snoc q _ (by rw [len_take (by omega)]; omega) (by rw [len_take (by omega)]; omega), ← e2, show (p + 1) / 2 = p / 2 + 1 by omega]
    simpa [U8] using ho
  · show some g ≠ some IT
    rintro e
    injection e with e
    rcases hat with hat | hat
    · exact h.far (by rw [hat, e])
    · omega

theorem or_16 : ∀ a b : Fin 16, Go.bits BinOp.or IntKind.u8 (((a.val : Nat) : Int) * 16) ((b.val : Nat) : Int) = ((16 * a.val + b.val : Nat) : Int) := by decide +kernel

theorem or_byte (a b : UInt8) (ha : isHex a = true) (hb : isHex b = true) : Go.bits BinOp.or IntKind.u8 (((hvn a : Nat) : Int) * 16) ((hvn b : Nat) : Int) = ((byte a b).toNat : Int) := by
  rw [byte_nat ha hb]
  exact or_16 ⟨hvn a, hvn_lt ha⟩ ⟨hvn b, hvn_lt hb⟩

set_option maxRecDepth 100000 in
set_option maxHeartbeats 1000000 in
theorem readHex_any (s : ByteArray) (w : World) (hm : s.size ≤ 100000000) : Calls Try.prog 106 #[.string s] w (HexPost w s.data.toList) := by
  obtain ⟨i0, hi0, hz0, hz1, hz2⟩ := info_parts info5
  obtain ⟨W1, hmk, hown0, hg0⟩ := run_make_own (P := Try.prog) w w.heap.size 24 5 i0 (.int .u8 0) 1 Try.underlying24 hi0 hz0 hz1 .i64 .i64 (s.size / 2) (by rw [hz2]; omega) (by unfold maxLen; omega) (Nat.le_refl _)
  have ec : ((s.size / 2 : Nat) : Int) = (s.size : Int) / 2 := by omega
  rw [ec] at hmk
  clear ec
  have O1 : Only (fun _ => False) w W1 := (Only.refl _ w).grown hg0 (fun k h => by cases h)
  have R0 : HexRel w s W1.heap.size 0 (.slice (some ⟨w.heap.size, 0, none⟩) 0 (s.size / 2)) (.int .u8 0) (W1.iter s 0) :=
    ⟨World.iter_heap _ _ _, hown0.alloc _, fun e => by
      injection e with e
      have := (hown0.lt _ rfl).2
      omega, O1.alloc _, rfl, fun h => by omega, hg0.size⟩
  have OO := Lib.hid O1
  clear hg0 hown0 O1
  go_enter Try.func106, Try.ntmps106
  go_wp2_with fail
  go_loopw [4, 5, 6] (fun v hi half wr => ∃ p : Nat, p ≤ s.size ∧ half = .bool (decide (p % 2 = 1)) ∧ HexRel w s W1.heap.size p v hi wr) (fun _ _ _ wr => s.size - wr.iterPos W1.heap.size)
  case atStart => exact ⟨0, Nat.zero_le _, rfl, R0⟩
  case round =>
    obtain ⟨p, hp, rfl, hR⟩ := hrel
    clear R0 hmk
    have IP : wr.iterPos W1.heap.size = p := by unfold World.iterPos; rw [hR.iter]
    by_cases hlt : p < s.size
    · by_cases hc : isHex s[p] = true
      · have hnx : ∀ ty, (Instr.next (.pointer (some ⟨W1.heap.size, 0, none⟩)) true ty).run Try.prog wr = _ := fun ty => run_next_ascii_at wr W1.heap.size s p ty hR.iter hlt (by simp only [isHex, Bool.or_eq_true, Bool.and_eq_true, decide_eq_true_eq] at hc; omega)
        have V := fun W => value_yes s[p] W hc
        by_cases he : p % 2 = 0
        · have NX := hR.even hlt he hc
          have hd : decide (p % 2 = 1) = false := by simp; omega
          have HIP := Lib.hid IP
          rw [hd]
          have HH := Lib.hid hd
          clear hR hc he IP hd
          go_wp2_with fail
          refine (V _).mono ?_
          rintro e w' ⟨rfl, rfl⟩
          go_wp2_with fail
          go_roundw
          case rel =>
            refine ⟨p + 1, by omega, ?_, NX⟩
            have : (p + 1) % 2 = 1 := by have := HH.out; simp at this; omega
            simp [this]
          case measure =>
            have a : (wr.iterAt W1.heap.size s (p + 1)).iterPos W1.heap.size = p + 1 := by unfold World.iterPos; rw [NX.iter]
            rw [a, HIP.out]
            omega
        · obtain ⟨q, hq, rfl, rfl⟩ := hR.high (by omega)
          have he' : q % 2 = 0 := by omega
          obtain ⟨x, hx⟩ : ∃ x : Int, x = ((hvn s[q] : Nat) : Int) := ⟨_, rfl⟩
          have hcq : isHex s[q] = true := List.all_eq_true.1 hR.all _ (by rw [take_byte s q hq]; simp)
          have x1 : x < 16 := by rw [hx]; have := hvn_lt hcq; omega
          have x0 : 0 ≤ x := by rw [hx]; omega
          obtain ⟨y, hy⟩ : ∃ y : Int, y = ((hvn s[q + 1] : Nat) : Int) := ⟨_, rfl⟩
          have y1 : y < 16 := by rw [hy]; have := hvn_lt hc; omega
          have y0 : 0 ≤ y := by rw [hy]; omega
          rw [← hx]
          rw [← hy] at V
          have hd : decide ((q + 1) % 2 = 1) = true := by simp; omega
          rw [hd]
          have hbits := or_byte s[q] s[q + 1] hcq hc
          rw [← hx, ← hy] at hbits
          obtain ⟨z, hz⟩ : ∃ z : Int, z = ((byte s[q] s[q + 1]).toNat : Int) := ⟨_, rfl⟩
          rw [← hz] at hbits
          obtain ⟨W2, hW2⟩ : ∃ W2, W2 = wr.iterAt W1.heap.size s (q + 1 + 1) := ⟨_, rfl⟩
          have IT2 : W2.heap[W1.heap.size]? = some (.stringIter s (q + 1 + 1)) := by rw [hW2]; exact iterAt_heap _ _ _ _ _ hR.iter
          have own2 : W2.ownsRow w.heap.size 5 1 u4 ((q + 1) / 2) (U8 (unhex (s.data.toList.take (q + 1)))) := by rw [hW2]; exact owns_iter hR.own hR.far s _
          have O2 : Only (fun _ => False) w W2 := by rw [hW2]; exact only_iterAt hR.old hR.it s _
          rw [← hW2] at hnx
          have HZ := Lib.hid hz
          have HR := Lib.hid hR
          have HO2 := Lib.hid O2
          have HIT2 := Lib.hid IT2
          have HIP := Lib.hid IP
          have HC := Lib.hid hc
          have HE := Lib.hid he'
          have hsz := O2.size
          have hq2 : (q + 1) / 2 + 1 ≤ 100000000 := by omega
          generalize hnn : (q + 1) / 2 = nn at own2 hq2
          have HNN := Lib.hid hnn
          clear hR hc he IP hd hcq he' hx hy hz hW2 O2 IT2 hnn
          go_wp2_with fail
          refine (V _).mono ?_
          rintro e w' ⟨rfl, rfl⟩
          go_wp2_with (at_builtin; refine wpList_append_lies _ rfl (.tmp 28) (.tmp 33) 24 rfl w.heap.size 5 i0 (.int .u8 0) 1 1 Try.underlying24 hi0 hz0 hz1 hz2 rfl (by decide) _ _ _ rfl (own2.alloc _) ⟨W2.heap.size, 0, none⟩ 1 1 [.int .u8 z] rfl rfl (World.news_of_block (cs := #[.int .u8 z]) (t := 5) (fr := (0, 0)) (heap_alloc_new W2 _)) (by simp [Value.oneCell']) (by omega) (by unfold maxLen; omega) (by omega) (by simp; omega) (W2.heap.size + 1) (by simp) ?_; intro g cap w3 hown3 hgrow3 hat3 _)
          go_roundw
          case rel =>
            have own3 := hown3
            rw [HZ.out, ← HNN.out] at own3
            have lIT := lt_of HIT2.out
            have NX := HR.out.odd (W := W2.alloc (.cells #[.int .u8 z] 5)) (hi' := .int .u8 y) hlt q rfl HE.out HC.out ((Below.heap_alloc _ _ _ lIT).trans HIT2.out) (HO2.out.alloc _) own3 hgrow3 (by rcases hat3 with h | h; exact .inl h; right; simpa using h)
            rw [HNN.out] at NX
            refine ⟨q + 1 + 1, by omega, ?_, NX⟩
            have : (q + 1 + 1) % 2 = 0 := by have := HE.out; omega
            simp [this]
          case measure =>
            have lIT := lt_of HIT2.out
            have own3 := hown3
            rw [HZ.out, ← HNN.out] at own3
            have NX := HR.out.odd (W := W2.alloc (.cells #[.int .u8 z] 5)) (hi' := .int .u8 y) hlt q rfl HE.out HC.out ((Below.heap_alloc _ _ _ lIT).trans HIT2.out) (HO2.out.alloc _) own3 hgrow3 (by rcases hat3 with h | h; exact .inl h; right; simpa using h)
            have a : w3.iterPos W1.heap.size = q + 1 + 1 := by unfold World.iterPos; rw [NX.iter]
            rw [a, HIP.out]
            omega
      · have hnx : ∀ ty, (Instr.next (.pointer (some ⟨W1.heap.size, 0, none⟩)) true ty).run Try.prog wr = _ := fun ty => run_next_any_at wr W1.heap.size s p ty hR.iter hlt
        have hro : ((Utf8.decode s p).1 : Int) < 48 ∨ (57 < ((Utf8.decode s p).1 : Int) ∧ ((Utf8.decode s p).1 : Int) < 97) ∨ 102 < ((Utf8.decode s p).1 : Int) := by
          by_cases ha : (s[p]'hlt).toNat < 128
          · rw [decode_ascii s p hlt ha]
            simp only [isHex, Bool.or_eq_true, Bool.and_eq_true, decide_eq_true_eq] at hc
            simp only
            omega
          · have := (decode_high s p hlt (by omega)).1
            omega
        have hfin : HexPost w s.data.toList (.returned (.tuple #[.slice none 0 0, .int .i64 3])) (wr.iterAt W1.heap.size s (p + (Utf8.decode s p).2)) := by
          refine ⟨only_iterAt hR.old hR.it s _, .inr (.inr ⟨?_, rfl⟩)⟩
          rw [List.all_eq_false]
          exact ⟨s[p], Array.mem_toList_iff.2 (Array.getElem_mem (xs := s.data) hlt), hc⟩
        have V := fun W => value_no _ W (Int.natCast_nonneg _) hro
        generalize (Utf8.decode s p).1 = r at hnx V
        generalize wr.iterAt W1.heap.size s (p + (Utf8.decode s p).2) = W2 at hnx hfin
        have HF := Lib.hid hfin
        clear hfin hro hc IP hR OO
        go_wp2_with fail
        refine (V _).mono ?_
        rintro e w' ⟨rfl, rfl⟩
        go_wp2_with fail
        go_ret2
        exact HF.out
    · obtain rfl : p = s.size := by omega
      have hnx : ∀ ty, (Instr.next (.pointer (some ⟨W1.heap.size, 0, none⟩)) true ty).run Try.prog wr = _ := fun ty => run_next_end_at wr W1.heap.size s s.size ty hR.iter (by omega)
      have hall := hR.all
      have hlen : s.data.toList.length = s.size := by simp
      have htk : s.data.toList.take s.size = s.data.toList := List.take_of_length_le (by omega)
      rw [htk] at hall
      by_cases he : s.size % 2 = 1
      · have hd : decide (s.size % 2 = 1) = true := by simp [he]
        have hfin : HexPost w s.data.toList (.returned (.tuple #[.slice none 0 0, .int .i64 4])) wr := ⟨hR.old, .inr (.inl ⟨hall, by omega, rfl⟩)⟩
        have HF := Lib.hid hfin
        rw [hd]
        clear hfin hall hlen htk he hd IP hR OO
        go_wp2_with fail
        go_ret2
        exact HF.out
      · have hd : decide (s.size % 2 = 1) = false := by simp [he]
        have hfin : HexPost w s.data.toList (.returned (.tuple #[u4, .int .i64 0])) wr := ⟨hR.old, .inl ⟨hall, by omega, u4, rfl, by have := Lst.of_owns hR.own; rwa [htk] at this⟩⟩
        have HF := Lib.hid hfin
        rw [hd]
        clear hfin hall hlen htk he hd IP hR OO
        go_wp2_with fail
        go_ret2
        exact HF.out
end Go.Proofs.Ytbjnejnjlidiaaa.numF
namespace Go.Proofs.Ytbjnejnjlidiaaa.numG
open Go.RowKit Go.Lib kit numA numC numE numF
set_option linter.unusedVariables false

end Go.Proofs.Ytbjnejnjlidiaaa.numG
namespace Go.Proofs.Ytbjnejnjlidiaaa.numH
open Go.RowKit Go.Lib kit numA numC numE numF numG
set_option linter.unusedVariables false

end Go.Proofs.Ytbjnejnjlidiaaa.numH
namespace Go.Proofs.Ytbjnejnjlidiaaa.numI
open Go.RowKit Go.Lib kit numA numC numE numF numG
set_option linter.unusedVariables false

end Go.Proofs.Ytbjnejnjlidiaaa.numI

