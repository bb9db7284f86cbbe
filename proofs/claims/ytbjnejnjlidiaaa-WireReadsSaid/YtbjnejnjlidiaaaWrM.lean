/- Wire: bytes of a number. -/
import Derived.Test.YtbjnejnjlidiaaaWrE
import Derived.Test.YtbjnejnjlidiaaaNumF
import Derived.Deep.Cut
import Derived.ScopeJumps
import Derived.Lib.AppendStr
import Derived.Deep.RegionWith
namespace Go.Proofs.Ytbjnejnjlidiaaa.wrM
open Go.RowKit kit numA numC numD numE numF tmA tmD trA trB prR prS prW prX wrA wrB wrC wrD wrE wrF
set_option linter.unusedVariables false
set_option linter.unusedSimpArgs false

/-- So many bytes of a number, the lowest first. -/
def leb : Nat → Nat → List UInt8
  | 0, _ => []
  | k + 1, u => UInt8.ofNat (u % 256) :: leb k (u / 256)

theorem leb_len : ∀ k u, (leb k u).length = k
  | 0, _ => rfl
  | k + 1, u => by rw [leb, List.length_cons, leb_len k]

theorem leb_snoc : ∀ k u, leb (k + 1) u = leb k u ++ [UInt8.ofNat (u / 256 ^ k % 256)]
  | 0, u => by simp [leb]
  | k + 1, u => by
    rw [leb, leb_snoc k (u / 256), leb, List.cons_append, Nat.div_div_eq_div_mul]
    congr 5
    rw [Nat.pow_succ, Nat.mul_comm]

theorem putb {w : World} {base : Nat} {v : Value} {acc : List UInt8} (own : w.ownsRow base 5 1 v acc.length (U8 acc)) (hb : base ≤ w.heap.size) (hk : acc.length ≤ 100000000) (x : UInt8) :
    ∃ g cp w', (Builtin.append_ #[24, 24] 24 #[v, .slice (some ⟨w.heap.size, 0, none⟩) 1 1]).run Try.prog (w.alloc (.cells #[.int .u8 (x.toNat : Int)] 5)) = .ok (.slice (some ⟨g, 0, none⟩) (acc.length + 1 : Nat) cp) w' ∧ w'.ownsRow base 5 1 (.slice (some ⟨g, 0, none⟩) (acc.length + 1 : Nat) cp) (acc.length + 1) (U8 (acc ++ [x])) ∧ ∀ w0, Only (fun k => base ≤ k) w0 w → Only (fun k => base ≤ k) w0 w' := by
  obtain ⟨i0, hi0, hz0, hz1, hz2⟩ := info_parts info5
  have oA : Only (fun _ => False) w (w.alloc (.cells #[.int .u8 (x.toNat : Int)] 5)) := (Only.refl (fun _ => False) w).alloc _
  have own' := trC.owns_keep own oA
  have hh := heap_alloc_new w (.cells #[.int .u8 (x.toNat : Int)] 5)
  have hs : (w.alloc (.cells #[.int .u8 (x.toNat : Int)] 5)).heap.size = w.heap.size + 1 := World.size_alloc _ _
  obtain ⟨g, cp, w', hrun, hown, hg, hat, _⟩ := run_append_lies (P := Try.prog) (w.alloc (.cells #[.int .u8 (x.toNat : Int)] 5)) 24 24 base 5 i0 _ 1 1 Try.underlying24 hi0 hz0 hz1 hz2 rfl (by omega) v acc.length (U8 acc) own' ⟨w.heap.size, 0, none⟩ 1 1 [.int .u8 (x.toNat : Int)] rfl (fun j u hj => by
    rw [Addr.add_lit, cell_of hh, Nat.zero_add]
    simpa using hj) (fun u hu => by simp at hu; rcases hu with rfl; rfl) (by omega) (by unfold maxLen; omega) (by omega) (by omega) _ rfl
  refine ⟨g, cp, w', hrun, ?_, fun w0 o0 => ((o0.trans (oA.mono fun _ h => h.elim))).trans ((Only.refl _ _).grown hg fun q hq => ?_)⟩
  · rw [U8, List.map_append]
    exact hown
  · exact (own'.lt q hq.symm.symm).1

theorem own_cap5 {w : World} {base : Nat} {v : Value} {n : Nat} {xs : List Value} (h : w.ownsRow base 5 1 v n xs) : ∃ a c, v = .slice a n c ∧ n ≤ c ∧ c ≤ maxLen := by
  rcases h.2 with ⟨rfl, rfl⟩ | ⟨g, cap, cur, rfl, _, _, hc, hm, _⟩
  · exact ⟨none, 0, rfl, Nat.le_refl _, Nat.zero_le _⟩
  · exact ⟨_, cap, rfl, hc, hm⟩

structure NR (W : World) (U j : Nat) (v : Value) (wr : World) : Prop where
  only : Only (fun k => W.heap.size ≤ k) W wr
  own : wr.ownsRow W.heap.size 5 1 v (leb j U).length (U8 (leb j U))

def Leb (w : World) (l : List UInt8) (e : Ending) (w' : World) : Prop := Only (fun _ => False) w w' ∧ ∃ a c, e = .returned (.slice a l.length c) ∧ w'.ownsRow w.heap.size 5 1 (.slice a l.length c) l.length (U8 l)

set_option maxRecDepth 100000 in
set_option maxHeartbeats 1600000 in
theorem refbytes_any (U k : Nat) (w : World) (hk : k ≤ 8) (hU : U ≤ most) : Calls Try.prog 124 #[.int .u64 U, .int .i64 k] w (Leb w (leb k U)) := by
  have N0 := Lib.hid (show NR w U 0 (.slice (some ⟨w.heap.size, 0, none⟩) 0 0) (w.alloc (.cells #[] 5)) from ⟨(Only.refl _ w).alloc _, World.ownsRow_made (e := 5) (size := 1) w #[] 0 (Nat.le_refl _) (by decide) rfl⟩)
  have HU := Lib.hid hU
  have HK := Lib.hid hk
  clear hU hk
  go_enter Try.func124, Try.ntmps124
  go_wp2_with fail
  go_loopw [0, 5, 6] (fun u v i wr => ∃ (j : Nat) (x : Value), i = .int .i64 j ∧ u = .int .u64 ((U / 256 ^ j : Nat) : Int) ∧ v = x ∧ j ≤ k ∧ NR w U j x wr) (fun _ _ i _ => k - (Lib.intOf i).toNat)
  case atStart => exact ⟨0, _, rfl, by simp, rfl, Nat.zero_le _, N0.out⟩
  case round =>
    obtain ⟨j, x, rfl, rfl, rfl, hj, hR⟩ := hrel
    have HR := Lib.hid hR
    have HJ := Lib.hid hj
    have wj : wrap64 ((j : Int) + 1) = (j : Int) + 1 := IntWalk.wrap64_in _ (by have := HK.out; omega)
    obtain ⟨N, hN⟩ : ∃ N, N = U / 256 ^ j := ⟨_, rfl⟩
    rw [← hN]
    have HN := Lib.hid hN
    have hNm : N ≤ most := by rw [hN]; exact Nat.le_trans (Nat.div_le_self _ _) HU.out
    by_cases hjk : j < k
    · have k1 : ((j : Int) < (k : Int)) = True := eq_true (by omega)
      obtain ⟨b, hb⟩ : ∃ b, b = UInt8.ofNat (N % 256) := ⟨_, rfl⟩
      have hbn : (b.toNat : Int) = (N : Int) % 256 := by rw [hb]; simp
      obtain ⟨G, cp, W4, hap, own4, on4⟩ := putb hR.own hR.only.size (by rw [leb_len]; have := HK.out; omega) b
      have HAP := Lib.hid hap
      have NX := Lib.hid (show NR w U (j + 1) (.slice (some ⟨G, 0, none⟩) ((leb j U).length + 1 : Nat) cp) W4 from ⟨on4 w hR.only, by rw [leb_snoc, ← hN, ← hb, List.length_append, List.length_singleton]; exact own4⟩)
      have ND := Lib.hid (show N / 256 = U / 256 ^ (j + 1) from by rw [hN, Nat.div_div_eq_div_mul, Nat.pow_succ])
      have HJK := Lib.hid hjk
      have w8 : IntKind.u8.wrap ((N : Int) % 256) = (N : Int) % 256 := IntWalk.u8_in _ (by omega)
      have q8 : (N : Int) % 256 = (b.toNat : Int) := hbn.symm
      have w9 : IntKind.u8.wrap (b.toNat : Int) = (b.toNat : Int) := by rw [hbn]; exact w8
      have WQ := Lib.hid (show IntKind.u64.wrap ((N : Int) / 256) = ((N / 256 : Nat) : Int) from by rw [IntWalk.u64_in _ (by unfold most at hNm; omega)]; omega)
      clear hR hj hN hNm hjk hb hbn hap own4 on4 w8
      go_wp2_with (at_builtin; refine Lib.wpList_append_run _ rfl (.tmp 13) (.tmp 17) 24 24 rfl _ _ rfl rfl _ _ HAP.out ?_)
      go_roundw
      case rel => exact ⟨j + 1, _, by first | rfl | (rw [wj]; rfl), by first | (rw [← ND.out]; rfl) | (rw [WQ.out, ← ND.out]), rfl, HJK.out, NX.out⟩
      case measure =>
        try rw [wj]
        have := HJK.out
        simp only [Lib.intOf]
        omega
    · obtain rfl : j = k := by omega
      have k1 : ((j : Int) < (j : Int)) = False := eq_false (by omega)
      obtain ⟨a, c, rfl, hc1, hc2⟩ := own_cap5 hR.own
      clear hR hj hN hNm hjk
      go_wp2_with fail
      go_ret
      exact ⟨Only.old HR.out.only, a, c, rfl, HR.out.own⟩
end Go.Proofs.Ytbjnejnjlidiaaa.wrM
namespace Go.Proofs.Ytbjnejnjlidiaaa.wrN
open Go.RowKit kit numA numC numD numE numF tmA tmD trA trB prR prS prW prX wrA wrB wrC wrD wrE wrF wrM
set_option linter.unusedVariables false
set_option linter.unusedSimpArgs false

theorem scope_jumps {P : Program} {a : Act} {w : World} {Q : Exit → Act → World → Prop} {c y : Code} (l : Nat) (J : Act → World → Prop) (μ : Act → World → Nat) (hf : findLabel c l = some (.seq .skip y))
    (pass : ∀ a w, J a w → y.wp P (Exit.jump l (fun a' w' => J a' w' ∧ μ a' w' < μ a w) Q) a w)
    (first : (∀ a w, J a w → y.wp P (Exit.jump l J Q) a w) → c.wp P (Exit.jump l J Q) a w) : (Code.scope c).wp P Q a w :=
  wp_scope_jumps l J μ hf (first fun a w h => Code.wp_mono (fun e a' w' q => by
    cases e
    case goto l' => exact ⟨q.1, q.2.1⟩
    all_goals exact q) (pass a w h)) fun a w h => wp_seq (wp_skip (pass a w h))

def Put (w : World) (base : Nat) (l : List UInt8) (e : Ending) (w' : World) : Prop := Only (fun k => base ≤ k) w w' ∧ ∃ a c, e = .returned (.slice a l.length c) ∧ w'.ownsRow base 5 1 (.slice a l.length c) l.length (U8 l)

structure PU (w : World) (base : Nat) (l : List UInt8) (x : Value) (w' : World) : Prop where
  only : Only (fun k => base ≤ k) w w'
  own : w'.ownsRow base 5 1 x l.length (U8 l)

set_option maxRecDepth 100000 in
set_option maxHeartbeats 1600000 in
theorem put_any (U k base : Nat) (a : Option Addr) (c : Nat) (acc : List UInt8) (w : World) (hk : k ≤ 8) (hU : U ≤ most) (own : w.ownsRow base 5 1 (.slice a acc.length c) acc.length (U8 acc)) (hb : base ≤ w.heap.size) (ha : acc.length ≤ 1000000) : Calls Try.prog 118 #[.slice a acc.length c, .int .i64 k, .int .u64 U] w (Put w base (acc ++ leb k U)) := by
  have P0 := Lib.hid (show PU w base acc (.slice a acc.length c) w from ⟨Only.refl _ w, own⟩)
  obtain ⟨T, hT⟩ : ∃ T, T = acc ++ leb k U := ⟨_, rfl⟩
  rw [← hT]
  have HT := Lib.hid hT
  have HK := Lib.hid (And.intro hk hU)
  have HB := Lib.hid (And.intro hb ha)
  clear hk hU own hb ha hT
  go_enter Try.func118, Try.ntmps118
  go_wp2_with fail
  refine scope_jumps 0 (fun a' w' => ∃ (r N : Nat) (l : List UInt8) (x q7 q8 q9 q10 q11 q12 q13 q14 q15 q16 q17 q18 : Value), a' = { tmps := #[x, .int .i64 r, .int .u64 N, undef, undef, undef, .slice none 0 0, q7, q8, q9, q10, q11, q12, q13, q14, q15, q16, q17, q18], defers := [] } ∧ r ≤ 8 ∧ N ≤ most ∧ l.length + r ≤ 1000010 ∧ l ++ leb r N = T ∧ PU w base l x w') (fun a' w' => (Lib.intOf (a'.tmps.getD 1 undef)).toNat) rfl ?_ ?_
  · rintro a' w' ⟨r, N, l, x, q7, q8, q9, q10, q11, q12, q13, q14, q15, q16, q17, q18, rfl, hr, hN, hl, hE, hP⟩
    have HP := Lib.hid hP
    have HE := Lib.hid hE
    go_hide hQ
    cases r with
    | zero =>
      have c0 : ((0 : Int) < ((0 : Nat) : Int)) = False := eq_false (by omega)
      obtain ⟨a2, c2, rfl, hc1, hc2⟩ := own_cap5 hP.own
      have HL := Lib.hid (show l = T from by rw [← hE]; simp [leb])
      clear hr hN hl hE hP
      go_wp2_with fail
      subst hQ
      simp only [Exit.jump]
      go_ret
      rw [← HL.out]
      exact ⟨HP.out.only, a2, c2, rfl, HP.out.own⟩
    | succ r =>
      have c0 : ((0 : Int) < ((r + 1 : Nat) : Int)) = True := eq_true (by omega)
      have c1 : ((0 : Int) < (r : Int) + 1) = True := eq_true (by omega)
      obtain ⟨b, hbb⟩ : ∃ b, b = UInt8.ofNat (N % 256) := ⟨_, rfl⟩
      have hbn : (b.toNat : Int) = (N : Int) % 256 := by rw [hbb]; simp
      have w8 : IntKind.u8.wrap (N : Int) = (b.toNat : Int) := by rw [IntKind.wrap_u8, hbn]
      obtain ⟨G, cp, W4, hap, own4, on4⟩ := putb hP.own (Nat.le_trans HB.out.1 hP.only.size) (by omega) b
      have HAP := Lib.hid hap
      have NX := Lib.hid (show PU w base (l ++ [b]) (.slice (some ⟨G, 0, none⟩) (l.length + 1 : Nat) cp) W4 from ⟨on4 w hP.only, by rw [List.length_append, List.length_singleton]; exact own4⟩)
      have NE := Lib.hid (show (l ++ [b]) ++ leb r (N / 256) = T from by rw [← hE, leb, hbb]; simp)
      have NB := Lib.hid (show r ≤ 8 ∧ N / 256 ≤ most ∧ (l ++ [b]).length + r ≤ 1000010 from ⟨by omega, Nat.le_trans (Nat.div_le_self _ _) hN, by rw [List.length_append, List.length_singleton]; omega⟩)
      have wr1 : wrap64 (((r + 1 : Nat) : Int) - 1) = (r : Int) := by rw [IntWalk.wrap64_in _ (by omega)]; omega
      have WR := Lib.hid wr1
      clear hr hN hl hE hP hbb hbn hap own4 on4
      go_wp2_with (at_builtin; refine Lib.wpList_append_run _ rfl (.tmp 9) (.tmp 12) 24 24 rfl _ _ rfl rfl _ _ HAP.out ?_)
      go_step3
      subst hQ
      have wr2 : wrap64 (r : Int) = (r : Int) := IntWalk.wrap64_in _ (by have := NB.out.1; omega)
      refine ⟨rfl, ⟨r, N / 256, l ++ [b], (.slice (some ⟨G, 0, none⟩) (l.length + 1 : Nat) cp), _, _, _, _, _, _, _, _, _, _, _, _, by first | rfl | (rw [wr2]; rfl), NB.out.1, NB.out.2.1, NB.out.2.2, NE.out, NX.out⟩, ?_⟩
      first | rw [wr2] | skip
      simp [Lib.intOf]
      try omega
  · intro hrest
    refine wp_seq ?_
    go_step3
    exact hrest _ _ ⟨k, U, acc, _, _, _, _, _, _, _, _, _, _, _, _, _, rfl, HK.out.1, HK.out.2, by have := HB.out.2; have := HK.out.1; omega, HT.out.symm, P0.out⟩
end Go.Proofs.Ytbjnejnjlidiaaa.wrN
namespace Go.Proofs.Ytbjnejnjlidiaaa.wrO
open Go.RowKit kit numA numC numD numE numF tmA tmD trA trB prR prS prW prX wrA wrB wrC wrD wrE wrF wrM wrN
set_option linter.unusedVariables false
set_option linter.unusedSimpArgs false

theorem strCells_U8 (s : ByteArray) : Lib.strCells s = U8 s.data.toList := by
  simp [Lib.strCells, U8]

set_option maxRecDepth 100000 in
theorem puts {w : World} {base : Nat} {v : Value} {acc : List UInt8} (own : w.ownsRow base 5 1 v acc.length (U8 acc)) (hb : base ≤ w.heap.size) (hk : acc.length ≤ 100000000) (s : ByteArray) (hs : s.size ≤ 100000000) :
    ∃ v' w', (Builtin.append_ #[24, 9] 24 #[v, .string s]).run Try.prog w = .ok v' w' ∧ w'.ownsRow base 5 1 v' (acc.length + s.size) (U8 (acc ++ s.data.toList)) ∧ (∀ (S' : Nat → Prop) (w0 : World), Only S' w0 w → (∀ q, v.ownBlock = some q → S' q) → Only S' w0 w') ∧ ∀ w0, Only (fun k => base ≤ k) w0 w → Only (fun k => base ≤ k) w0 w' := by
  obtain ⟨i0, hi0, hz0, hz1, hz2⟩ := info_parts info5
  obtain ⟨v', w', hrun, hown, hg, _⟩ := Lib.run_append_own_string (P := Try.prog) w base 24 9 24 5 i0 Try.underlying24 Try.underlying9 hi0 hz0 hz1 hz2 v acc.length (U8 acc) own s (by unfold maxLen; omega) (by omega) hb
  refine ⟨v', w', hrun, ?_, fun S' w0 o0 hS' => o0.grown hg fun q hq => hS' q hq.symm.symm, fun w0 o0 => o0.trans ((Only.refl _ _).grown hg fun q hq => (own.lt q hq.symm.symm).1)⟩
  rw [strCells_U8] at hown
  rw [U8, List.map_append]
  exact hown

set_option maxRecDepth 100000 in
/-- A row of bytes of one's own takes a slice of bytes. -/
theorem addb {w : World} {base g n cap : Nat} {xs : List Value} {S : Nat → Prop} {a : Option Addr} {m c : Nat} {bs : List UInt8} (hown : w.ownsRow base 5 1 (.slice (some ⟨g, 0, none⟩) n cap) n xs) (hsl : Sl w S (.slice a m c) (U8 bs)) (hb : base ≤ w.heap.size) (hn : n ≤ 100000000) (hm : bs.length ≤ 100000000) :
    ∃ g' cp w', (Builtin.append_ #[24, 24] 24 #[.slice (some ⟨g, 0, none⟩) n cap, .slice a m c]).run Try.prog w = .ok (.slice (some ⟨g', 0, none⟩) (n + m : Nat) cp) w' ∧ w'.ownsRow base 5 1 (.slice (some ⟨g', 0, none⟩) (n + m : Nat) cp) (n + m) (xs ++ U8 bs) ∧ (∀ (S' : Nat → Prop) (w0 : World), Only S' w0 w → (∀ q, (Value.slice (some ⟨g, 0, none⟩) n cap).ownBlock = some q → S' q) → Only S' w0 w') ∧ ∀ w0, Only (fun k => base ≤ k) w0 w → Only (fun k => base ≤ k) w0 w' := by
  obtain ⟨i0, hi0, hz0, hz1, hz2⟩ := info_parts info5
  obtain rfl : m = bs.length := by
    obtain ⟨_, a', c', h, _⟩ := hsl
    injection h with _ h _
    rw [h, U8, List.length_map]
  by_cases h0 : bs = []
  · subst h0
    have hr : (Builtin.append_ #[24, 24] 24 #[.slice (some ⟨g, 0, none⟩) n cap, .slice a 0 c]).run Try.prog w = .ok (.slice (some ⟨g, 0, none⟩) n cap) w := by
      rcases hown.2 with ⟨q, _⟩ | ⟨g', cap', cur, q, _, _, hnc, _⟩
      · cases q
      · injection q with q1 q2 q3
        subst q3
        cases a <;> simp [Builtin.append_, run_underlying Try.underlying24, sizeOf, typeInfo, hi0, Builtin.lenOf, Builtin.firstCells, hnc, storeCells, loadCells, loadCellsFrom, Result.andThen]
    exact ⟨g, cap, w, hr, by simpa [U8] using hown, fun _ _ o _ => o, fun w0 o => o⟩
  · have h1 : 0 < bs.length := List.length_pos_iff.2 h0
    obtain ⟨_, a', cap', h, hx | ⟨ga, o, ha, hS, hg, hc⟩⟩ := hsl
    · exact absurd (List.map_eq_nil_iff.1 hx) h0
    · injection h with e1 e2 e3
      subst e1
      subst ha
      obtain ⟨g', cp, w', hr, hown', hgr, _, _⟩ := run_append_lies (P := Try.prog) w 24 24 base 5 i0 _ 1 1 Try.underlying24 hi0 hz0 hz1 hz2 rfl (by omega) _ n xs hown ⟨ga, o, none⟩ bs.length c (U8 bs) (by simp [U8]) (fun j u hj => by
        have hjl : j < (U8 bs).length := (List.getElem?_eq_some_iff.1 hj).1
        rw [Addr.add_lit, hc j hjl]
        rw [List.getD_eq_getElem?_getD, hj]
        rfl) (fun u hu => by
          obtain ⟨p, _, rfl⟩ := List.mem_map.1 hu
          rfl) h1 (by unfold maxLen; omega) (by omega) hb _ rfl
      exact ⟨g', cp, w', hr, hown', fun S' w0 o0 hS' => o0.grown hgr fun q hq => hS' q hq.symm.symm, fun w0 o0 => o0.trans ((Only.refl _ _).grown hgr fun q hq => (hown.lt q hq.symm.symm).1)⟩

/-- An owned row of bytes reads as bytes. -/
theorem own_slb {w : World} {base : Nat} {v : Value} {bs : List UInt8} (h : w.ownsRow base 5 1 v bs.length (U8 bs)) : Sl w (fun k => base ≤ k) v (U8 bs) := Sl.of_lst (Lst.of_owns h)

theorem own_litb (w : World) (bs : List UInt8) (hl : bs.length ≤ 1000) : (w.alloc (.cells (U8 bs).toArray 5)).ownsRow w.heap.size 5 1 (.slice (some ⟨w.heap.size, 0, none⟩) bs.length bs.length) bs.length (U8 bs) := by
  refine ⟨by simp [U8], .inr ⟨w.heap.size, bs.length, _, rfl, Nat.le_refl _, heap_alloc_new w _, Nat.le_refl _, by unfold maxLen; omega, by simp [U8], ?_⟩⟩
  rw [List.take_of_length_le (by simp [U8])]
end Go.Proofs.Ytbjnejnjlidiaaa.wrO
namespace Go.Proofs.Ytbjnejnjlidiaaa.wrQ
open Go.RowKit kit numA numC numD numE numF tmA tmD trA trB prR prS wrA wrB wrC wrD wrE wrF wrM wrN wrO
set_option linter.unusedVariables false
set_option linter.unusedSimpArgs false

def fB (m : Msg) (f : Fl) : List UInt8 := match f with
  | .n i => leb 4 (if i = 1 then m.s else m.r).toNat
  | .c => leb 8 m.c.toNat
  | .t i => leb 2 (m.t i).size ++ (m.t i).data.toList
def headB (m : Msg) : List UInt8 := [UInt8.ofNat m.k.toNat, 0, 0, 0]
def outB (m : Msg) (fs : List Fl) : List UInt8 := headB m ++ fs.flatMap (fB m)

theorem ownb_base {w : World} {base base' : Nat} {v : Value} {n : Nat} {xs : List Value} (h : w.ownsRow base 5 1 v n xs) (hb : base' ≤ base) : w.ownsRow base' 5 1 v n xs := prS.owns_base h hb

structure BR (W : World) (m : Msg) (fs : List Fl) (j : Nat) (acc : List UInt8) (v : Value) (wr : World) : Prop where
  le : j ≤ fs.length
  only : Only (fun k => W.heap.size ≤ k) W wr
  own : wr.ownsRow W.heap.size 5 1 v acc.length (U8 acc)
  eq : acc = outB m (fs.take j)
  len : acc.length ≤ 4 + j * 70000

theorem outB_succ {m : Msg} {fs : List Fl} {j : Nat} {f : Fl} (hj : fs[j]? = some f) : outB m (fs.take (j + 1)) = outB m (fs.take j) ++ fB m f := by
  unfold outB
  rw [List.take_add_one, hj, List.flatMap_append, List.append_assoc]
  simp
theorem BR_put {W wr w' : World} {m : Msg} {fs : List Fl} {j : Nat} {f : Fl} {acc : List UInt8} {v v' : Value} (h : BR W m fs j acc v wr) (hj : fs[j]? = some f) (own : w'.ownsRow W.heap.size 5 1 v' (acc ++ fB m f).length (U8 (acc ++ fB m f))) (o : Only (fun k => W.heap.size ≤ k) wr w') (hl : (fB m f).length ≤ 70000) : BR W m fs (j + 1) (acc ++ fB m f) v' w' :=
  ⟨(List.getElem?_eq_some_iff.1 hj).1, h.only.trans o, own, by rw [outB_succ hj, ← h.eq], by have := h.len; rw [List.length_append]; omega⟩

theorem goodF_k {m : Msg} (h : goodF m ≠ []) : 1 ≤ m.k ∧ m.k ≤ 4 := by
  refine Decidable.byContradiction fun q => h ?_
  have e : rowOf m.k = [] := by unfold rowOf; rw [if_neg (by omega), if_neg (by omega), if_neg (by omega), if_neg (by omega)]
  unfold goodF
  rw [e]
  split <;> rfl

def PrintP (m : Msg) (w : World) (e : Ending) (w' : World) : Prop := Only (fun _ => False) w w' ∧ ((goodF m = [] ∧ e = .returned (.tuple #[.slice none 0 0, .int .i64 3])) ∨ (goodF m ≠ [] ∧ ∃ a c, e = .returned (.tuple #[.slice a (outB m (goodF m)).length c, .int .i64 0]) ∧ w'.ownsRow w.heap.size 5 1 (.slice a (outB m (goodF m)).length c) (outB m (goodF m)).length (U8 (outB m (goodF m)))))

set_option maxRecDepth 100000 in
set_option maxHeartbeats 3200000 in
theorem print_any (m : Msg) (w : World) (ht : ∀ i, (m.t i).size ≤ 60000) (hs : 0 ≤ m.s ∧ m.s ≤ 4294967295) (hr : 0 ≤ m.r ∧ m.r ≤ 4294967295) (hc : 0 ≤ m.c ∧ m.c ≤ (most : Nat)) : Calls Try.prog 55 #[mval m] w (PrintP m w) := by
  have HA := Lib.hid (show MsgAt (w.alloc (.cells m.row 61)) w.heap.size m from heap_alloc_new w _)
  have oW := Lib.hid (show Only (fun _ => False) w (w.alloc (.cells m.row 61)) from (Only.refl _ w).alloc _)
  have CR := Lib.hid (right_any m (w.alloc (.cells m.row 61)) (fun i => Nat.le_trans (ht i) (by decide)))
  have HS := Lib.hid hs
  have HR := Lib.hid hr
  have HC := Lib.hid hc
  have HTT := Lib.hid ht
  obtain ⟨d0, d1, d2, d3, d4, d5, d6, d7, d8, d9, d10, d11, d12⟩ := MsgAt.cells HA.out
  simp only [mval, Msg.row] at CR d0 d1 d2 d3 d4 d5 d6 d7 d8 d9 d10 d11 d12
  unfold mval
  clear ht hs hr hc
  go_enter Try.func55, Try.ntmps55
  go_wp2_with fail
  (with_reducible refine CR.out.mono ?_)
  rintro e W2 ⟨o, v, rfl, hv⟩
  obtain ⟨a, cap, rfl⟩ := hv.len
  obtain ⟨fs, hfs⟩ : ∃ fs, fs = goodF m := ⟨_, rfl⟩
  have O2 := Lib.hid (show Only (fun _ => False) (w.alloc (.cells m.row 61)) W2 from o)
  have HA2 := Lib.hid (MsgAt.keep HA.out O2.out id)
  have HV := Lib.hid hv
  have hlt := MsgAt.lt HA2.out
  clear o hv CR d0 d1 d2 d3 d4 d5 d6 d7 d8 d9 d10 d11 d12
  rw [← hfs] at HV ⊢
  by_cases h0 : fs = []
  · have HF := Lib.hid (show goodF m = [] from by rw [← hfs]; exact h0)
    subst h0
    clear hfs
    go_wp2_with fail
    go_ret2
    exact ⟨oW.out.trans O2.out, .inl ⟨HF.out, rfl⟩⟩
  have HFS := Lib.hid hfs
  have HNE := Lib.hid (show goodF m ≠ [] from by rw [← hfs]; exact h0)
  have l0 : ((fs.length : Int) == 0) = false := by
    rw [beq_eq_false_iff_ne]
    intro q
    exact h0 (List.length_eq_zero_iff.1 (by omega))
  have hk : 1 ≤ m.k ∧ m.k ≤ 4 := goodF_k HNE.out
  have u8k : IntKind.u8.wrap m.k = m.k := IntWalk.u8_in _ (by omega)
  have HK := Lib.hid hk
  have dk := (MsgAt.nums HA2.out).1
  clear hfs h0 hk
  go_wp2_with fail
  have T0 := Lib.hid (show BR W2 m fs 0 (headB m) (.slice (some ⟨W2.heap.size, 0, none⟩) 4 4) (W2.alloc (.cells #[.int .u8 m.k, .int .u8 0, .int .u8 0, .int .u8 0] 5)) from by
    have e : (((UInt8.ofNat m.k.toNat).toNat : Nat) : Int) = m.k := by have := HK.out; simp; omega
    have h := own_litb W2 (headB m) (by simp [headB])
    have e2 : (U8 (headB m)).toArray = #[.int .u8 m.k, .int .u8 0, .int .u8 0, .int .u8 0] := by
      have e3 : U8 (headB m) = [.int .u8 (((UInt8.ofNat m.k.toNat).toNat : Nat) : Int), .int .u8 0, .int .u8 0, .int .u8 0] := rfl
      rw [e3, e]
    rw [e2] at h
    exact ⟨Nat.zero_le _, (Only.refl _ W2).alloc _, h, by simp [outB], by simp [headB]⟩)
  obtain ⟨A, hA⟩ : ∃ A, A = w.heap.size := ⟨_, rfl⟩
  rw [← hA] at HA HA2 hlt ⊢
  have HAE := Lib.hid hA
  clear hA dk
  go_loopw [5, 7, 8, 20] (fun v' _ _ i wr => ∃ (j : Nat) (acc : List UInt8) (v : Value), v' = v ∧ i = .int .i64 j ∧ BR W2 m fs j acc v wr) (fun _ _ _ i _ => fs.length - (Lib.intOf i).toNat)
  case atStart => exact ⟨0, _, _, rfl, rfl, T0.out⟩
  case round =>
    obtain ⟨j, acc, v, rfl, rfl, hR⟩ := hrel
    have TH := Lib.hid hR
    have wj : wrap64 ((j : Int) + 1) = (j : Int) + 1 := IntWalk.wrap64_in _ (by have := hR.le; have := goodF_len m; rw [← HFS.out] at this; omega)
    have HAr := Lib.hid (MsgAt.keep HA2.out hR.only (by omega))
    by_cases hj : j < fs.length
    · have HVr := Lib.hid (RowV.above HV.out hR.only)
      obtain ⟨f, hf⟩ : ∃ f, fs[j]? = some f := ⟨_, List.getElem?_eq_getElem hj⟩
      obtain ⟨g, o, rfl, hg, hcap, hF⟩ := RowV.at HVr.out hf
      obtain ⟨va, vc, rfl, hvc1, hvc2⟩ := own_cap5 hR.own
      have k0 : (0 : Int) ≤ (j : Int) := by omega
      have k1 : (j : Int) < (fs.length : Int) := by omega
      have k1' : ((j : Int) < (fs.length : Int)) = True := eq_true k1
      have HJ := Lib.hid hj
      have hacc : acc.length ≤ 900000 := by have := hR.len; have := hR.le; have := goodF_len m; rw [← HFS.out] at this; omega
      have HACC := Lib.hid hacc
      have hok : okFl f := rowOf_ok m.k f (by
        have h := List.mem_of_getElem? hf
        rw [HFS.out] at h
        unfold goodF at h
        split at h
        · exact h
        · simp at h)
      have HFJ := Lib.hid hf
      obtain ⟨b, ⟨f0, f1, f2, f3⟩, hbx⟩ := hF
      have HBX := Lib.hid hbx
      clear hf hR hj hbx hacc hvc1 hvc2
      cases f with
      | t i =>
        obtain ⟨h4, h12⟩ := hok
        have f0' : wr.cell? ⟨g, o + j * 4, none⟩ = some (.int .i64 0) := f0
        have f1' : wr.cell? ⟨g, o + j * 4 + 1, none⟩ = some (.nilFunc) := f1
        have f2' : wr.cell? ⟨g, o + j * 4 + 2, none⟩ = some (.nilFunc) := f2
        have f3' : wr.cell? ⟨g, o + j * 4 + 3, none⟩ = some (.func (.func (fnT i)) #[] #[]) := f3
        have hcf := enter_text i
        have TA := Lib.hid (fun W => text_any i h4 h12 A W)
        obtain ⟨X, hX⟩ : ∃ X, X = wr.alloc (.cells #[.int .i64 0, .nilFunc, .nilFunc, .func (.func (fnT i)) #[] #[]] 155) := ⟨_, rfl⟩
        have oX : Only (fun _ => False) wr X := by rw [hX]; exact (Only.refl _ wr).alloc _
        have HAX := Lib.hid (MsgAt.keep HAr.out oX id)
        have cA := MsgAt.text HAX.out h4 h12
        have OX := Lib.hid (show Only (fun k => W2.heap.size ≤ k) wr X from oX.mono fun _ h => h.elim)
        have PN := Lib.hid (show Calls Try.prog 118 #[.slice va acc.length vc, .int .i64 2, .int .u64 (m.t i).size] X _ from put_any (m.t i).size 2 W2.heap.size va vc acc X (by decide) (by have := HTT.out i; unfold most; omega) (trC.owns_keep TH.out.own oX) (TH.out.only.trans OX.out).size (by have := HACC.out; omega))
        have su : IntKind.u64.wrap ((m.t i).size : Int) = ((m.t i).size : Int) := IntWalk.u64_in _ (by have := HTT.out i; omega)
        have HX := Lib.hid hX
        clear f0 f1 f2 f3 oX hX
        go_wp2_with fail
        (with_reducible refine (TA.out _).mono ?_)
        rintro e x ⟨rfl, hx⟩
        obtain rfl := hx
        rw [← HX.out]
        go_wp2_with fail
        (with_reducible refine PN.out.mono ?_)
        rintro e X2 ⟨o2, a2, c2, rfl, own2⟩
        rw [List.length_append, leb_len] at own2 ⊢
        obtain ⟨v3, X3, hap, own3, -, on3⟩ := puts (acc := acc ++ leb 2 (m.t i).size) (by rw [List.length_append, leb_len]; exact own2) ((TH.out.only.trans (OX.out.trans o2)).size) (by rw [List.length_append, leb_len]; have := HACC.out; omega) (m.t i) (by have := HTT.out i; omega)
        have HAP := Lib.hid hap
        have TN := Lib.hid (BR_put (v' := v3) TH.out HFJ.out (by
          have e : acc ++ fB m (.t i) = (acc ++ leb 2 (m.t i).size) ++ (m.t i).data.toList := by simp [fB]
          rw [e, List.length_append, tl_size]
          exact own3) (on3 wr (OX.out.trans o2)) (by simp only [fB, List.length_append, leb_len, tl_size]; have := HTT.out i; omega))
        clear hap own3 on3 own2 o2
        go_wp2_with (at_builtin; refine Lib.wpList_append_run _ rfl (.tmp 43) (.tmp 44) 24 9 rfl _ _ rfl rfl _ _ HAP.out ?_)
        go_roundw
        case rel => exact ⟨j + 1, _, _, rfl, by first | rfl | (rw [wj]; rfl), TN.out⟩
        case measure =>
          try rw [wj]
          have := HJ.out
          simp only [Lib.intOf]
          omega
      | n i =>
        rcases hok with rfl | rfl
        · obtain ⟨N, hN⟩ : ∃ N : Nat, m.s = N := Int.eq_ofNat_of_zero_le HS.out.1
          have f0' : wr.cell? ⟨g, o + j * 4, none⟩ = some (.int .i64 4) := f0
          have f1' : wr.cell? ⟨g, o + j * 4 + 1, none⟩ = some (.func (.func 215) #[] #[.pointer (some ⟨b, 0, none⟩)]) := f1
          have f2' : wr.cell? ⟨g, o + j * 4 + 2, none⟩ = some (.func (.func 216) #[] #[.pointer (some ⟨b, 0, none⟩)]) := f2
          have f3' : wr.cell? ⟨g, o + j * 4 + 3, none⟩ = some (.nilFunc) := f3
          obtain ⟨X, hX⟩ : ∃ X, X = wr.alloc (.cells #[.int .i64 4, .func (.func 215) #[] #[.pointer (some ⟨b, 0, none⟩)], .func (.func 216) #[] #[.pointer (some ⟨b, 0, none⟩)], .nilFunc] 155) := ⟨_, rfl⟩
          have oX : Only (fun _ => False) wr X := by rw [hX]; exact (Only.refl _ wr).alloc _
          have hb : X.heap[wr.heap.size]? = some (.cells #[.int .i64 4, .func (.func 215) #[] #[.pointer (some ⟨b, 0, none⟩)], .func (.func 216) #[] #[.pointer (some ⟨b, 0, none⟩)], .nilFunc] 155 (0, 0)) := by rw [hX]; exact heap_alloc_new wr _
          have x0 : X.drew.cell? ⟨wr.heap.size, 0, none⟩ = some (.int .i64 4) := cell_of hb
          have x1 : X.drew.cell? ⟨wr.heap.size, 1, none⟩ = some (.func (.func 215) #[] #[.pointer (some ⟨b, 0, none⟩)]) := cell_of hb
          have y0 : X.cell? ⟨wr.heap.size, 0, none⟩ = some (.int .i64 4) := cell_of hb
          have HAX := MsgAt.keep HAr.out oX id
          have HBF := BoxF.keep (HBX.out 1 rfl) oX
          have G1 := Lib.hid (get1 A b m X.drew HAX HBF HS.out)
          clear HBF
          have OX := Lib.hid (show Only (fun k => W2.heap.size ≤ k) wr X.drew from (oX.mono fun _ h => h.elim).drew)
          have PN := Lib.hid (show Calls Try.prog 118 #[.slice va acc.length vc, .int .i64 4, .int .u64 m.s] X.drew _ from by rw [hN]; exact put_any N 4 W2.heap.size va vc acc X.drew (by decide) (by have := HS.out; unfold most at *; omega) (trC.owns_keep TH.out.own oX.drew) (TH.out.only.trans OX.out).size (by have := HACC.out; omega))
          have HX := Lib.hid hX
          have HFB := Lib.hid (show fB m (.n 1) = leb 4 N from by simp [fB, hN])
          rw [hX] at y0
          clear f0 f1 f2 f3 oX hX hb HAX hN
          go_upto_region 9 with fail
          rw [← HX.out]
          go_region_with (first
            | (go_at_call 215; (with_reducible refine Calls.mono G1.out ?_); rintro e w7 ⟨rfl, rfl⟩)
            | (go_at_call 118; (with_reducible refine Calls.mono PN.out ?_); rintro e w8 ⟨o8, a2, c2, rfl, own8⟩))
          all_goals
            have TN := Lib.hid (BR_put TH.out HFJ.out (by rw [HFB.out]; exact own8) (OX.out.trans o8) (by rw [HFB.out, leb_len]; decide))
            clear own8 o8
            go_wp2_with fail
            go_roundw
            case rel => exact ⟨j + 1, _, .slice a2 (acc ++ leb 4 N).length c2, by first | rfl | rw [List.length_append] | simp [leb_len], by first | rfl | (rw [wj]; rfl), TN.out⟩
            case measure =>
              try rw [wj]
              have := HJ.out
              simp only [Lib.intOf]
              omega
        · obtain ⟨N, hN⟩ : ∃ N : Nat, m.r = N := Int.eq_ofNat_of_zero_le HR.out.1
          have f0' : wr.cell? ⟨g, o + j * 4, none⟩ = some (.int .i64 4) := f0
          have f1' : wr.cell? ⟨g, o + j * 4 + 1, none⟩ = some (.func (.func 215) #[] #[.pointer (some ⟨b, 0, none⟩)]) := f1
          have f2' : wr.cell? ⟨g, o + j * 4 + 2, none⟩ = some (.func (.func 216) #[] #[.pointer (some ⟨b, 0, none⟩)]) := f2
          have f3' : wr.cell? ⟨g, o + j * 4 + 3, none⟩ = some (.nilFunc) := f3
          obtain ⟨X, hX⟩ : ∃ X, X = wr.alloc (.cells #[.int .i64 4, .func (.func 215) #[] #[.pointer (some ⟨b, 0, none⟩)], .func (.func 216) #[] #[.pointer (some ⟨b, 0, none⟩)], .nilFunc] 155) := ⟨_, rfl⟩
          have oX : Only (fun _ => False) wr X := by rw [hX]; exact (Only.refl _ wr).alloc _
          have hb : X.heap[wr.heap.size]? = some (.cells #[.int .i64 4, .func (.func 215) #[] #[.pointer (some ⟨b, 0, none⟩)], .func (.func 216) #[] #[.pointer (some ⟨b, 0, none⟩)], .nilFunc] 155 (0, 0)) := by rw [hX]; exact heap_alloc_new wr _
          have x0 : X.drew.cell? ⟨wr.heap.size, 0, none⟩ = some (.int .i64 4) := cell_of hb
          have x1 : X.drew.cell? ⟨wr.heap.size, 1, none⟩ = some (.func (.func 215) #[] #[.pointer (some ⟨b, 0, none⟩)]) := cell_of hb
          have y0 : X.cell? ⟨wr.heap.size, 0, none⟩ = some (.int .i64 4) := cell_of hb
          have HAX := MsgAt.keep HAr.out oX id
          have HBF := BoxF.keep (HBX.out 2 rfl) oX
          have G1 := Lib.hid (get2 A b m X.drew HAX HBF HR.out)
          clear HBF
          have OX := Lib.hid (show Only (fun k => W2.heap.size ≤ k) wr X.drew from (oX.mono fun _ h => h.elim).drew)
          have PN := Lib.hid (show Calls Try.prog 118 #[.slice va acc.length vc, .int .i64 4, .int .u64 m.r] X.drew _ from by rw [hN]; exact put_any N 4 W2.heap.size va vc acc X.drew (by decide) (by have := HR.out; unfold most at *; omega) (trC.owns_keep TH.out.own oX.drew) (TH.out.only.trans OX.out).size (by have := HACC.out; omega))
          have HX := Lib.hid hX
          have HFB := Lib.hid (show fB m (.n 2) = leb 4 N from by simp [fB, hN])
          rw [hX] at y0
          clear f0 f1 f2 f3 oX hX hb HAX hN
          go_upto_region 9 with fail
          rw [← HX.out]
          go_region_with (first
            | (go_at_call 215; (with_reducible refine Calls.mono G1.out ?_); rintro e w7 ⟨rfl, rfl⟩)
            | (go_at_call 118; (with_reducible refine Calls.mono PN.out ?_); rintro e w8 ⟨o8, a2, c2, rfl, own8⟩))
          all_goals
            have TN := Lib.hid (BR_put TH.out HFJ.out (by rw [HFB.out]; exact own8) (OX.out.trans o8) (by rw [HFB.out, leb_len]; decide))
            clear own8 o8
            go_wp2_with fail
            go_roundw
            case rel => exact ⟨j + 1, _, .slice a2 (acc ++ leb 4 N).length c2, by first | rfl | rw [List.length_append] | simp [leb_len], by first | rfl | (rw [wj]; rfl), TN.out⟩
            case measure =>
              try rw [wj]
              have := HJ.out
              simp only [Lib.intOf]
              omega
      | c =>
        obtain ⟨N, hN⟩ : ∃ N : Nat, m.c = N := Int.eq_ofNat_of_zero_le HC.out.1
        have f0' : wr.cell? ⟨g, o + j * 4, none⟩ = some (.int .i64 8) := f0
        have f1' : wr.cell? ⟨g, o + j * 4 + 1, none⟩ = some (.func (.func 188) #[] #[]) := f1
        have f2' : wr.cell? ⟨g, o + j * 4 + 2, none⟩ = some (.func (.func 189) #[] #[]) := f2
        have f3' : wr.cell? ⟨g, o + j * 4 + 3, none⟩ = some (.nilFunc) := f3
        obtain ⟨X, hX⟩ : ∃ X, X = wr.alloc (.cells #[.int .i64 8, .func (.func 188) #[] #[], .func (.func 189) #[] #[], .nilFunc] 155) := ⟨_, rfl⟩
        have oX : Only (fun _ => False) wr X := by rw [hX]; exact (Only.refl _ wr).alloc _
        have hb : X.heap[wr.heap.size]? = some (.cells #[.int .i64 8, .func (.func 188) #[] #[], .func (.func 189) #[] #[], .nilFunc] 155 (0, 0)) := by rw [hX]; exact heap_alloc_new wr _
        have x0 : X.drew.cell? ⟨wr.heap.size, 0, none⟩ = some (.int .i64 8) := cell_of hb
        have x1 : X.drew.cell? ⟨wr.heap.size, 1, none⟩ = some (.func (.func 188) #[] #[]) := cell_of hb
        have y0 : X.cell? ⟨wr.heap.size, 0, none⟩ = some (.int .i64 8) := cell_of hb
        have HAX := MsgAt.keep HAr.out oX id
        have G1 := Lib.hid (get3 A m X.drew HAX)
        have OX := Lib.hid (show Only (fun k => W2.heap.size ≤ k) wr X.drew from (oX.mono fun _ h => h.elim).drew)
        have PN := Lib.hid (show Calls Try.prog 118 #[.slice va acc.length vc, .int .i64 8, .int .u64 m.c] X.drew _ from by rw [hN]; exact put_any N 8 W2.heap.size va vc acc X.drew (by decide) (by have := HC.out; unfold most at *; omega) (trC.owns_keep TH.out.own oX.drew) (TH.out.only.trans OX.out).size (by have := HACC.out; omega))
        have HX := Lib.hid hX
        have HFB := Lib.hid (show fB m (.c) = leb 8 N from by simp [fB, hN])
        rw [hX] at y0
        clear f0 f1 f2 f3 oX hX hb HAX hN
        go_upto_region 9 with fail
        rw [← HX.out]
        go_region_with (first
          | (go_at_call 188; (with_reducible refine Calls.mono G1.out ?_); rintro e w7 ⟨rfl, rfl⟩)
          | (go_at_call 118; (with_reducible refine Calls.mono PN.out ?_); rintro e w8 ⟨o8, a2, c2, rfl, own8⟩))
        all_goals
          have TN := Lib.hid (BR_put TH.out HFJ.out (by rw [HFB.out]; exact own8) (OX.out.trans o8) (by rw [HFB.out, leb_len]; decide))
          clear own8 o8
          go_wp2_with fail
          go_roundw
          case rel => exact ⟨j + 1, _, .slice a2 (acc ++ leb 8 N).length c2, by first | rfl | rw [List.length_append] | simp [leb_len], by first | rfl | (rw [wj]; rfl), TN.out⟩
          case measure =>
            try rw [wj]
            have := HJ.out
            simp only [Lib.intOf]
            omega

    · obtain rfl : j = fs.length := by have := hR.le; omega
      have j1 : ((fs.length : Int) < (fs.length : Int)) = False := eq_false (by omega)
      have HQ := Lib.hid (show acc = outB m (goodF m) from by rw [hR.eq, List.take_length, HFS.out])
      obtain ⟨va, vc, rfl, hvc1, hvc2⟩ := own_cap5 hR.own
      clear hR hj
      go_wp2_with fail
      go_ret2
      have hlt' := HAE.out
      refine ⟨(oW.out.trans O2.out).trans (Only.old TH.out.only), .inr ⟨HNE.out, va, vc, by rw [← HQ.out]; rfl, ?_⟩⟩
      rw [← HQ.out]
      exact ownb_base TH.out.own (by omega)
end Go.Proofs.Ytbjnejnjlidiaaa.wrQ
