/- Wire: the law on what is read. -/
import Derived.Test.YtbjnejnjlidiaaaWsA
import Derived.Test.YtbjnejnjlidiaaaWsG
import Derived.Test.YtbjnejnjlidiaaaWsI
import Derived.Test.YtbjnejnjlidiaaaArgB
namespace Go.Proofs.Ytbjnejnjlidiaaa.wsK
open Go.RowKit kit numA numB numC numD numE numF numG numH numI tmA tmD trA trB prR prS prW prX wrA wrB wrC wrD wrE wrF wrG wrH wrI wrJ wrK wrM wrN wrO wrQ wrR wrS wrT wrU wrV wrW wrZ wsA wsF wsH wsI wsJ wsG
set_option linter.unusedVariables false
set_option linter.unusedSimpArgs false

theorem eqM_self (m : Msg) : eqM m m = true := (eqM_iff m m).2 ⟨rfl, rfl, rfl, rfl, rfl, rfl, rfl, rfl, rfl, rfl, rfl, rfl, rfl⟩
theorem slt {w : World} {S : Nat → Prop} {v : Value} {xs : List Value} (h : Sl w S v xs) : Sl w (fun k => k < w.heap.size) v xs := by
  obtain ⟨hm, a, c, hv, hx⟩ := h
  exact ⟨hm, a, c, hv, hx.imp id fun ⟨g, o, e, hS, hg, hc⟩ => ⟨g, o, e, hg, hg, hc⟩⟩
set_option maxRecDepth 100000 in
theorem rd_heavy (a : Option Addr) (cap : Nat) (bs : Txt) (w : World) (hs : Sl w (fun k => k < w.heap.size) (.slice a bs.length cap) (U8 bs)) (hc : bs.length ≤ cap) (hm : cap ≤ maxLen) (hl : 3000 < bs.length) : Calls Try.prog 11 #[.slice a bs.length cap] w (numA.Told w (.bool true)) := by
  have AW := Lib.hid (fun W => awake_any W)
  have O := Lib.hid (Only.refl (fun _ => False) w)
  obtain ⟨n, hn⟩ : ∃ n, n = bs.length := ⟨_, rfl⟩
  rw [← hn] at hl ⊢
  have k1 : ((3000 : Int) < (n : Int)) = True := eq_true (by omega)
  clear hs hc hm hn hl
  go_enter Try.func11, Try.ntmps11
  go_wp2_with fail
  (with_reducible refine (AW.out _).mono ?_)
  rintro e w2 ⟨rfl, o⟩
  replace O := Lib.hid (O.out.trans o)
  clear o
  go_wp2_with fail
  go_ret
  exact ⟨rfl, O.out⟩

set_option maxRecDepth 100000 in
set_option maxHeartbeats 3200000 in
theorem rd_err (a : Option Addr) (cap : Nat) (bs : Txt) (w : World) (hs : Sl w (fun k => k < w.heap.size) (.slice a bs.length cap) (U8 bs)) (hc : bs.length ≤ cap) (hm : cap ≤ maxLen) (hl : bs.length ≤ 3000) (c : Nat) (m : Msg) (h0 : c ≠ 0) (he : readM bs = (c, m)) : Calls Try.prog 11 #[.slice a bs.length cap] w (numA.Told w (.bool true)) := by
  have AW := Lib.hid (fun W => awake_any W)
  have O := Lib.hid (Only.refl (fun _ => False) w)
  obtain ⟨n, hn⟩ : ∃ n, n = bs.length := ⟨_, rfl⟩
  rw [← hn] at hl
  have k1 : ((3000 : Int) < (n : Int)) = False := eq_false (by omega)
  have SL := Lib.hid (show Sl w (fun _ => True) (.slice a n cap) (U8 bs) from by rw [hn]; exact hs.mono fun _ _ => trivial)
  have CR := Lib.hid (fun W (h : Sl W (fun _ => True) (.slice a n cap) (U8 bs)) => (show Calls Try.prog 60 #[.slice a n cap] W (numA.Told W (.tuple #[.agg #[.int .i64 m.k, .int .u32 m.s, .int .u32 m.r, .int .u64 m.c, .string (m.t 4), .string (m.t 5), .string (m.t 6), .string (m.t 7), .string (m.t 8), .string (m.t 9), .string (m.t 10), .string (m.t 11), .string (m.t 12)], .int .i64 ((c : Nat) : Int)])) from by
    rw [hn] at h ⊢
    have h1 := read_any a cap bs W (slt h) hc hm
    rw [he] at h1
    exact h1))
  have CD := Lib.hid (fun W (h : Sl W (fun _ => True) (.slice a n cap) (U8 bs)) => (show Calls Try.prog 65 #[.slice a n cap] W (numA.Told W (.tuple #[.agg #[.int .i64 m.k, .int .u32 m.s, .int .u32 m.r, .int .u64 m.c, .string (m.t 4), .string (m.t 5), .string (m.t 6), .string (m.t 7), .string (m.t 8), .string (m.t 9), .string (m.t 10), .string (m.t 11), .string (m.t 12)], .int .i64 ((c : Nat) : Int)])) from by
    rw [hn] at h ⊢
    have h1 := refread_any a cap bs W (slt h) hc hm (by omega)
    rw [he] at h1
    exact h1))
  have EQ := Lib.hid (fun W => (show (binOp .neq 61 (.agg #[.int .i64 m.k, .int .u32 m.s, .int .u32 m.r, .int .u64 m.c, .string (m.t 4), .string (m.t 5), .string (m.t 6), .string (m.t 7), .string (m.t 8), .string (m.t 9), .string (m.t 10), .string (m.t 11), .string (m.t 12)]) (.agg #[.int .i64 m.k, .int .u32 m.s, .int .u32 m.r, .int .u64 m.c, .string (m.t 4), .string (m.t 5), .string (m.t 6), .string (m.t 7), .string (m.t 8), .string (m.t 9), .string (m.t 10), .string (m.t 11), .string (m.t 12)])).run Try.prog W = .ok (.bool false) W from by have h := run_neqM m m W; rw [eqM_self] at h; exact h))
  have k2 : (((c : Nat) : Int) != 0) = true := by rw [bne_iff_ne]; omega
  rw [← hn]
  clear hs hc hm hn hl he
  go_enter Try.func11, Try.ntmps11
  go_wp2_with fail
  (with_reducible refine (AW.out _).mono ?_)
  rintro e w2 ⟨rfl, o⟩
  replace O := Lib.hid (O.out.trans o)
  replace SL := Lib.hid (Sl.keep SL.out o (fun _ _ h => h))
  clear o
  go_wp2_with fail
  (with_reducible refine ((CR.out _ SL.out)).mono ?_)
  rintro e w3 ⟨rfl, o⟩
  replace O := Lib.hid (O.out.trans o)
  replace SL := Lib.hid (Sl.keep SL.out o (fun _ _ h => h))
  clear o
  go_upto_region 6 with fail
  obtain ⟨Z1, hZ1⟩ : ∃ Z, Z = w3.alloc (.cells #[.int .i64 m.k, .int .u32 m.s, .int .u32 m.r, .int .u64 m.c, .string (m.t 4), .string (m.t 5), .string (m.t 6), .string (m.t 7), .string (m.t 8), .string (m.t 9), .string (m.t 10), .string (m.t 11), .string (m.t 12)] 61) := ⟨_, rfl⟩
  obtain ⟨G1, hG1⟩ : ∃ G, G = w3.heap.size := ⟨_, rfl⟩
  have oS : Only (fun _ => False) w3 Z1 := by rw [hZ1]; exact (Only.refl _ _).alloc _
  have HG1 := Lib.hid (show MsgAt Z1 G1 m from by rw [hZ1, hG1]; exact heap_alloc_new w3 _)
  rw [← hZ1, ← hG1]
  replace O := Lib.hid (O.out.trans oS)
  replace SL := Lib.hid (Sl.keep SL.out oS (fun _ _ h => h))
  clear oS hZ1 hG1
  go_wp2_with fail
  (with_reducible refine ((CD.out _ SL.out)).mono ?_)
  rintro e w4 ⟨rfl, o⟩
  replace O := Lib.hid (O.out.trans o)
  replace SL := Lib.hid (Sl.keep SL.out o (fun _ _ h => h))
  replace HG1 := Lib.hid (MsgAt.keep HG1.out o id)
  clear o
  go_upto_region 7 with fail
  obtain ⟨Z2, hZ2⟩ : ∃ Z, Z = w4.alloc (.cells #[.int .i64 m.k, .int .u32 m.s, .int .u32 m.r, .int .u64 m.c, .string (m.t 4), .string (m.t 5), .string (m.t 6), .string (m.t 7), .string (m.t 8), .string (m.t 9), .string (m.t 10), .string (m.t 11), .string (m.t 12)] 61) := ⟨_, rfl⟩
  obtain ⟨G2, hG2⟩ : ∃ G, G = w4.heap.size := ⟨_, rfl⟩
  have oS : Only (fun _ => False) w4 Z2 := by rw [hZ2]; exact (Only.refl _ _).alloc _
  have HG2 := Lib.hid (show MsgAt Z2 G2 m from by rw [hZ2, hG2]; exact heap_alloc_new w4 _)
  rw [← hZ2, ← hG2]
  replace O := Lib.hid (O.out.trans oS)
  replace SL := Lib.hid (Sl.keep SL.out oS (fun _ _ h => h))
  replace HG1 := Lib.hid (MsgAt.keep HG1.out oS id)
  clear oS hZ2 hG2
  obtain ⟨d0, d1, d2, d3, d4, d5, d6, d7, d8, d9, d10, d11, d12⟩ := MsgAt.cells HG1.out
  obtain ⟨f0, f1, f2, f3, f4, f5, f6, f7, f8, f9, f10, f11, f12⟩ := MsgAt.cells HG2.out
  have E := EQ.out
  go_wp2_with fail
  go_ret
  exact ⟨rfl, O.out⟩

set_option maxRecDepth 100000 in
set_option maxHeartbeats 3200000 in
theorem rd_ok (a : Option Addr) (cap : Nat) (bs : Txt) (w : World) (hs : Sl w (fun k => k < w.heap.size) (.slice a bs.length cap) (U8 bs)) (hc : bs.length ≤ cap) (hm : cap ≤ maxLen) (hl : bs.length ≤ 3000) (m : Msg) (he : readM bs = (0, m)) : Calls Try.prog 11 #[.slice a bs.length cap] w (numA.Told w (.bool true)) := by
  have AW := Lib.hid (fun W => awake_any W)
  have O := Lib.hid (Only.refl (fun _ => False) w)
  obtain ⟨n, hn⟩ : ∃ n, n = bs.length := ⟨_, rfl⟩
  rw [← hn] at hl
  have k1 : ((3000 : Int) < (n : Int)) = False := eq_false (by omega)
  have SL := Lib.hid (show Sl w (fun _ => True) (.slice a n cap) (U8 bs) from by rw [hn]; exact hs.mono fun _ _ => trivial)
  have CR := Lib.hid (fun W (h : Sl W (fun _ => True) (.slice a n cap) (U8 bs)) => (show Calls Try.prog 60 #[.slice a n cap] W (numA.Told W (.tuple #[.agg #[.int .i64 m.k, .int .u32 m.s, .int .u32 m.r, .int .u64 m.c, .string (m.t 4), .string (m.t 5), .string (m.t 6), .string (m.t 7), .string (m.t 8), .string (m.t 9), .string (m.t 10), .string (m.t 11), .string (m.t 12)], .int .i64 0])) from by
    rw [hn] at h ⊢
    have h1 := read_any a cap bs W (slt h) hc hm
    rw [he] at h1
    exact h1))
  have CD := Lib.hid (fun W (h : Sl W (fun _ => True) (.slice a n cap) (U8 bs)) => (show Calls Try.prog 65 #[.slice a n cap] W (numA.Told W (.tuple #[.agg #[.int .i64 m.k, .int .u32 m.s, .int .u32 m.r, .int .u64 m.c, .string (m.t 4), .string (m.t 5), .string (m.t 6), .string (m.t 7), .string (m.t 8), .string (m.t 9), .string (m.t 10), .string (m.t 11), .string (m.t 12)], .int .i64 0])) from by
    rw [hn] at h ⊢
    have h1 := refread_any a cap bs W (slt h) hc hm (by omega)
    rw [he] at h1
    exact h1))
  have EQ := Lib.hid (fun W => (show (binOp .neq 61 (.agg #[.int .i64 m.k, .int .u32 m.s, .int .u32 m.r, .int .u64 m.c, .string (m.t 4), .string (m.t 5), .string (m.t 6), .string (m.t 7), .string (m.t 8), .string (m.t 9), .string (m.t 10), .string (m.t 11), .string (m.t 12)]) (.agg #[.int .i64 m.k, .int .u32 m.s, .int .u32 m.r, .int .u64 m.c, .string (m.t 4), .string (m.t 5), .string (m.t 6), .string (m.t 7), .string (m.t 8), .string (m.t 9), .string (m.t 10), .string (m.t 11), .string (m.t 12)])).run Try.prog W = .ok (.bool false) W from by have h := run_neqM m m W; rw [eqM_self] at h; exact h))
  obtain ⟨hr, ho, ht, hs1, hr1, hc1⟩ := read_inv he
  obtain ⟨TB, hTB⟩ : ∃ b : ByteArray, b = ⟨bs.toArray⟩ := ⟨_, rfl⟩
  have hg : goodF m ≠ [] := by
    have hk := rightM_k hr
    rw [goodF_eq, hr]
    have e : m.k = 1 ∨ m.k = 2 ∨ m.k = 3 ∨ m.k = 4 := by omega
    rcases e with e | e | e | e <;> simp [rowOf, e]
  have hob : outB m (goodF m) = bs := by rw [goodF_eq, if_pos hr]; exact ho
  have CP := Lib.hid (fun W => (show Calls Try.prog 55 #[.agg #[.int .i64 m.k, .int .u32 m.s, .int .u32 m.r, .int .u64 m.c, .string (m.t 4), .string (m.t 5), .string (m.t 6), .string (m.t 7), .string (m.t 8), .string (m.t 9), .string (m.t 10), .string (m.t 11), .string (m.t 12)]] W (fun e w' => Only (fun _ => False) W w' ∧ ∃ a c, e = .returned (.tuple #[.slice a n c, .int .i64 0]) ∧ (convert 24 9 (.slice a n c)).run Try.prog w' = .ok (.string TB) w') from by
    refine Calls.mono (print_any m W (fun i => Nat.le_trans (ht i) (by omega)) hs1 hr1 hc1) ?_
    rintro e w' ⟨o, ⟨h, -⟩ | ⟨-, a, c, h, own⟩⟩
    · exact absurd h hg
    · rw [hob] at h own
      refine ⟨o, a, c, by rw [hn]; exact h, ?_⟩
      rw [hn, hTB]
      exact conv_lst (own_slt own)))
  have CV := Lib.hid (fun W (h : Sl W (fun _ => True) (.slice a n cap) (U8 bs)) => (show (convert 24 9 (.slice a n cap)).run Try.prog W = .ok (.string TB) W from by rw [hTB]; exact conv_lst h))
  clear hr ho ht hs1 hr1 hc1 hTB hg hob
  rw [← hn]
  clear hs hc hm hn hl he
  go_enter Try.func11, Try.ntmps11
  go_wp2_with fail
  (with_reducible refine (AW.out _).mono ?_)
  rintro e w2 ⟨rfl, o⟩
  replace O := Lib.hid (O.out.trans o)
  replace SL := Lib.hid (Sl.keep SL.out o (fun _ _ h => h))
  clear o
  go_wp2_with fail
  (with_reducible refine ((CR.out _ SL.out)).mono ?_)
  rintro e w3 ⟨rfl, o⟩
  replace O := Lib.hid (O.out.trans o)
  replace SL := Lib.hid (Sl.keep SL.out o (fun _ _ h => h))
  clear o
  go_upto_region 6 with fail
  obtain ⟨Z1, hZ1⟩ : ∃ Z, Z = w3.alloc (.cells #[.int .i64 m.k, .int .u32 m.s, .int .u32 m.r, .int .u64 m.c, .string (m.t 4), .string (m.t 5), .string (m.t 6), .string (m.t 7), .string (m.t 8), .string (m.t 9), .string (m.t 10), .string (m.t 11), .string (m.t 12)] 61) := ⟨_, rfl⟩
  obtain ⟨G1, hG1⟩ : ∃ G, G = w3.heap.size := ⟨_, rfl⟩
  have oS : Only (fun _ => False) w3 Z1 := by rw [hZ1]; exact (Only.refl _ _).alloc _
  have HG1 := Lib.hid (show MsgAt Z1 G1 m from by rw [hZ1, hG1]; exact heap_alloc_new w3 _)
  rw [← hZ1, ← hG1]
  replace O := Lib.hid (O.out.trans oS)
  replace SL := Lib.hid (Sl.keep SL.out oS (fun _ _ h => h))
  clear oS hZ1 hG1
  go_wp2_with fail
  (with_reducible refine ((CD.out _ SL.out)).mono ?_)
  rintro e w4 ⟨rfl, o⟩
  replace O := Lib.hid (O.out.trans o)
  replace SL := Lib.hid (Sl.keep SL.out o (fun _ _ h => h))
  replace HG1 := Lib.hid (MsgAt.keep HG1.out o id)
  clear o
  go_upto_region 7 with fail
  obtain ⟨Z2, hZ2⟩ : ∃ Z, Z = w4.alloc (.cells #[.int .i64 m.k, .int .u32 m.s, .int .u32 m.r, .int .u64 m.c, .string (m.t 4), .string (m.t 5), .string (m.t 6), .string (m.t 7), .string (m.t 8), .string (m.t 9), .string (m.t 10), .string (m.t 11), .string (m.t 12)] 61) := ⟨_, rfl⟩
  obtain ⟨G2, hG2⟩ : ∃ G, G = w4.heap.size := ⟨_, rfl⟩
  have oS : Only (fun _ => False) w4 Z2 := by rw [hZ2]; exact (Only.refl _ _).alloc _
  have HG2 := Lib.hid (show MsgAt Z2 G2 m from by rw [hZ2, hG2]; exact heap_alloc_new w4 _)
  rw [← hZ2, ← hG2]
  replace O := Lib.hid (O.out.trans oS)
  replace SL := Lib.hid (Sl.keep SL.out oS (fun _ _ h => h))
  replace HG1 := Lib.hid (MsgAt.keep HG1.out oS id)
  clear oS hZ2 hG2
  obtain ⟨d0, d1, d2, d3, d4, d5, d6, d7, d8, d9, d10, d11, d12⟩ := MsgAt.cells HG1.out
  obtain ⟨f0, f1, f2, f3, f4, f5, f6, f7, f8, f9, f10, f11, f12⟩ := MsgAt.cells HG2.out
  have E := EQ.out
  go_wp2_with fail
  (with_reducible refine (CP.out _).mono ?_)
  rintro e w5 ⟨o, a2, c2, rfl, cv2⟩
  replace O := Lib.hid (O.out.trans o)
  replace SL := Lib.hid (Sl.keep SL.out o (fun _ _ h => h))
  have cv1 := CV.out _ SL.out
  clear o
  go_wp2_with fail
  go_ret
  exact ⟨rfl, O.out⟩

theorem read_law_any (a : Option Addr) (cap : Nat) (bs : Txt) (w : World) (hs : Sl w (fun k => k < w.heap.size) (.slice a bs.length cap) (U8 bs)) (hc : bs.length ≤ cap) (hm : cap ≤ maxLen) : Calls Try.prog 11 #[.slice a bs.length cap] w (numA.Told w (.bool true)) := by
  by_cases hl : 3000 < bs.length
  · exact rd_heavy a cap bs w hs hc hm hl
  rcases hx : readM bs with ⟨c, m⟩
  by_cases h0 : c = 0
  · subst h0
    exact rd_ok a cap bs w hs hc hm (by omega) m hx
  · exact rd_err a cap bs w hs hc hm (by omega) c m h0 hx
theorem read_walk {w : World} (a : Option Addr) (len cap : Nat) (bs : Txt) (h : len = bs.length ∧ len ≤ cap ∧ cap ≤ maxLen ∧ Sl w (fun k => k < w.heap.size) (.slice a len cap) (U8 bs)) : Calls Try.prog 11 #[.slice a len cap] w fun e w' => e = .returned (.bool true) ∧ Below w.heap.size w w' := by
  obtain ⟨rfl, h1, h2, h3⟩ := h
  refine (read_law_any a cap bs w h3 h1 h2).mono ?_
  rintro e w' ⟨rfl, o⟩
  exact ⟨rfl, o.below (fun _ h => h.elim) (Nat.le_refl _)⟩

end Go.Proofs.Ytbjnejnjlidiaaa.wsK
