/- Wire: the document's Print. -/
import Derived.Test.YtbjnejnjlidiaaaWrM
import Derived.Test.YtbjnejnjlidiaaaWrH
namespace Go.Proofs.Ytbjnejnjlidiaaa.wrY
open Go.RowKit kit numA numB numC numD numE numF tmA tmD trA trB prR prS prW prX wrA wrB wrC wrD wrE wrF wrG wrH wrI wrJ wrK wrM wrN wrO wrQ
set_option linter.unusedVariables false
set_option linter.unusedSimpArgs false

/-- The terms of a message, in a block of their own. -/
def TermsP (w : World) (xs : List ByteArray) (e : Ending) (w' : World) : Prop := Only (fun _ => False) w w' ∧ ∃ g, e = .returned (.slice (some ⟨g, 0, none⟩) xs.length xs.length) ∧ w'.heap[g]? = some (.cells (xs.map Value.string).toArray 9 (0, 0))

set_option maxRecDepth 100000 in
theorem termsP_1 (m : Msg) (hk : m.k = 1) (w : World) : Calls Try.prog 62 #[mval m] w (TermsP w [m.t 4, m.t 5, m.t 6, m.t 11, m.t 12]) := by
  have HA := Lib.hid (show MsgAt (w.alloc (.cells m.row 61)) w.heap.size m from heap_alloc_new w _)
  obtain ⟨d0, d1, d2, d3, d4, d5, d6, d7, d8, d9, d10, d11, d12⟩ := MsgAt.cells HA.out
  simp only [Msg.row] at d0 d1 d2 d3 d4 d5 d6 d7 d8 d9 d10 d11 d12
  have c1 : (m.k == 1) = true := by rw [beq_iff_eq]; omega
  unfold mval
  clear hk
  go_enter Try.func62, Try.ntmps62
  go_wp2_with fail
  go_ret
  refine ⟨((Only.refl _ w).alloc _).alloc _, w.heap.size + 1, rfl, ?_⟩
  have h := heap_alloc_new (w.alloc (.cells m.row 61)) (.cells (([m.t 4, m.t 5, m.t 6, m.t 11, m.t 12] : List ByteArray).map Value.string).toArray 9)
  rw [World.size_alloc] at h
  exact h

set_option maxRecDepth 100000 in
theorem termsP_2 (m : Msg) (hk : m.k = 2) (w : World) : Calls Try.prog 62 #[mval m] w (TermsP w [m.t 4, m.t 7, m.t 11, m.t 12]) := by
  have HA := Lib.hid (show MsgAt (w.alloc (.cells m.row 61)) w.heap.size m from heap_alloc_new w _)
  obtain ⟨d0, d1, d2, d3, d4, d5, d6, d7, d8, d9, d10, d11, d12⟩ := MsgAt.cells HA.out
  simp only [Msg.row] at d0 d1 d2 d3 d4 d5 d6 d7 d8 d9 d10 d11 d12
  have c1 : (m.k == 1) = false := by rw [beq_eq_false_iff_ne]; omega
  have c2 : (m.k == 2) = true := by rw [beq_iff_eq]; omega
  unfold mval
  clear hk
  go_enter Try.func62, Try.ntmps62
  go_wp2_with fail
  go_ret
  refine ⟨((Only.refl _ w).alloc _).alloc _, w.heap.size + 1, rfl, ?_⟩
  have h := heap_alloc_new (w.alloc (.cells m.row 61)) (.cells (([m.t 4, m.t 7, m.t 11, m.t 12] : List ByteArray).map Value.string).toArray 9)
  rw [World.size_alloc] at h
  exact h

set_option maxRecDepth 100000 in
theorem termsP_3 (m : Msg) (hk : m.k = 3) (w : World) : Calls Try.prog 62 #[mval m] w (TermsP w [m.t 8, m.t 9]) := by
  have HA := Lib.hid (show MsgAt (w.alloc (.cells m.row 61)) w.heap.size m from heap_alloc_new w _)
  obtain ⟨d0, d1, d2, d3, d4, d5, d6, d7, d8, d9, d10, d11, d12⟩ := MsgAt.cells HA.out
  simp only [Msg.row] at d0 d1 d2 d3 d4 d5 d6 d7 d8 d9 d10 d11 d12
  have c1 : (m.k == 1) = false := by rw [beq_eq_false_iff_ne]; omega
  have c2 : (m.k == 2) = false := by rw [beq_eq_false_iff_ne]; omega
  have c3 : (m.k == 3) = true := by rw [beq_iff_eq]; omega
  unfold mval
  clear hk
  go_enter Try.func62, Try.ntmps62
  go_wp2_with fail
  go_ret
  refine ⟨((Only.refl _ w).alloc _).alloc _, w.heap.size + 1, rfl, ?_⟩
  have h := heap_alloc_new (w.alloc (.cells m.row 61)) (.cells (([m.t 8, m.t 9] : List ByteArray).map Value.string).toArray 9)
  rw [World.size_alloc] at h
  exact h

set_option maxRecDepth 100000 in
theorem termsP_4 (m : Msg) (hk : m.k = 4) (w : World) : Calls Try.prog 62 #[mval m] w (TermsP w [m.t 10]) := by
  have HA := Lib.hid (show MsgAt (w.alloc (.cells m.row 61)) w.heap.size m from heap_alloc_new w _)
  obtain ⟨d0, d1, d2, d3, d4, d5, d6, d7, d8, d9, d10, d11, d12⟩ := MsgAt.cells HA.out
  simp only [Msg.row] at d0 d1 d2 d3 d4 d5 d6 d7 d8 d9 d10 d11 d12
  have c1 : (m.k == 1) = false := by rw [beq_eq_false_iff_ne]; omega
  have c2 : (m.k == 2) = false := by rw [beq_eq_false_iff_ne]; omega
  have c3 : (m.k == 3) = false := by rw [beq_eq_false_iff_ne]; omega
  have c4 : (m.k == 4) = true := by rw [beq_iff_eq]; omega
  unfold mval
  clear hk
  go_enter Try.func62, Try.ntmps62
  go_wp2_with fail
  go_ret
  refine ⟨((Only.refl _ w).alloc _).alloc _, w.heap.size + 1, rfl, ?_⟩
  have h := heap_alloc_new (w.alloc (.cells m.row 61)) (.cells (([m.t 10] : List ByteArray).map Value.string).toArray 9)
  rw [World.size_alloc] at h
  exact h

structure PR (X : World) (base : Nat) (acc : Txt) (G cp : Nat) (wr : World) : Prop where
  own : wr.ownsRow base 5 1 (.slice (some ⟨G, 0, none⟩) acc.length cp) acc.length (U8 acc)
  only : Only (fun k => base ≤ k) X wr
theorem own_at {w : World} {base n : Nat} {v : Value} {xs : List Value} (h : w.ownsRow base 5 1 v n xs) (hn : 0 < n) : ∃ g cap, v = .slice (some ⟨g, 0, none⟩) n cap := by
  rcases h.2 with ⟨-, q⟩ | ⟨g, cap, cur, q, -⟩
  · subst q; omega
  · exact ⟨g, cap, q⟩
theorem own_type {w : World} {base n G cp : Nat} {xs : List Value} (h : w.ownsRow base 5 1 (.slice (some ⟨G, 0, none⟩) n cp) n xs) : ∃ cur fr, w.heap[G]? = some (.cells cur 5 fr) := by
  rcases h.2 with ⟨q, -⟩ | ⟨g, cap, cur, q, -, hg, -⟩
  · cases q
  · injection q with q1 q2 q3
    injection q1 with q1
    injection q1 with q1 q4
    subst q1
    exact ⟨cur, _, hg⟩
theorem PR_add {X wr w2 : World} {base G cp b2 n c : Nat} {acc bs : Txt} {a : Option Addr} (h : PR X base acc G cp wr) (hb : base ≤ X.heap.size) (o : Only (fun _ => False) wr w2) (ob : w2.ownsRow b2 5 1 (.slice a n c) n (U8 bs)) (hn : bs.length = n) (h1 : acc.length ≤ 10000000) (h2 : n ≤ 10000000) :
    ∃ G' cp' w', (Builtin.append_ #[24, 24] 24 #[.slice (some ⟨G, 0, none⟩) acc.length cp, .slice a n c]).run Try.prog w2 = .ok (.slice (some ⟨G', 0, none⟩) (acc ++ bs).length cp') w' ∧ PR X base (acc ++ bs) G' cp' w' ∧ Only (fun q => q = G) w2 w' := by
  subst hn
  obtain ⟨G', cp', w', hap, own', cl, on⟩ := addb (trC.owns_keep h.own o) (own_slb ob) (by have := h.only.size; have := o.size; omega) (by omega) (by omega)
  refine ⟨G', cp', w', ?_, ⟨?_, on X (h.only.trans (o.mono fun _ h => h.elim))⟩, cl (fun q => q = G) w2 (Only.refl _ _) (fun q hq => by simp [Value.ownBlock] at hq; exact hq.symm)⟩
  · rw [List.length_append]; exact hap
  · rw [List.length_append, show U8 (acc ++ bs) = U8 acc ++ U8 bs from by simp [U8]]; exact own'
theorem PR_puts {X wr : World} {base G cp : Nat} {acc : Txt} {s : ByteArray} (h : PR X base acc G cp wr) (hb : base ≤ X.heap.size) (h0 : 0 < acc.length) (h1 : acc.length ≤ 10000000) (h2 : s.size ≤ 10000000) :
    ∃ G' cp' w', (Builtin.append_ #[24, 9] 24 #[.slice (some ⟨G, 0, none⟩) acc.length cp, .string s]).run Try.prog wr = .ok (.slice (some ⟨G', 0, none⟩) (acc ++ s.data.toList).length cp') w' ∧ PR X base (acc ++ s.data.toList) G' cp' w' ∧ Only (fun q => q = G) wr w' := by
  obtain ⟨v', w', hap, own', cl, on⟩ := puts h.own (by have := h.only.size; omega) (by omega) s (by omega)
  obtain ⟨G', cp', rfl⟩ := own_at own' (by omega)
  refine ⟨G', cp', w', ?_, ⟨?_, on X h.only⟩, cl (fun q => q = G) wr (Only.refl _ _) (fun q hq => by simp [Value.ownBlock] at hq; exact hq.symm)⟩
  · rw [List.length_append, tl_size]; exact hap
  · rw [List.length_append, tl_size]; exact own'
/-- The bytes of a message, as the document prints it. -/
def textB (b : ByteArray) : Txt := leb 2 b.size ++ b.data.toList
def printM (m : Msg) : Txt := headB m ++ (if m.k ≤ 2 then leb 4 m.s.toNat else []) ++ (if 2 ≤ m.k then leb 4 m.r.toNat else []) ++ (if m.k = 4 then leb 8 m.c.toNat else []) ++ (rtexts m).flatMap textB
theorem PR.keepM {X wr : World} {base G cp A : Nat} {acc : Txt} {m : Msg} (h : PR X base acc G cp wr) (hA : MsgAt X A m) (hb : A < base) : MsgAt wr A m := MsgAt.keep hA h.only (by omega)
structure BP (X : World) (base : Nat) (h0 : Txt) (xs : List ByteArray) (g j : Nat) (acc : Txt) (G cp : Nat) (wr : World) : Prop where
  pr : PR X base acc G cp wr
  tb : wr.heap[g]? = some (.cells (xs.map Value.string).toArray 9 (0, 0))
  eq : acc = h0 ++ (xs.take j).flatMap textB
  le : j ≤ xs.length
  len : 0 < acc.length ∧ acc.length ≤ 100 + 60002 * j
theorem BP.cell {X : World} {base : Nat} {h0 : Txt} {xs : List ByteArray} {g j : Nat} {acc : Txt} {G cp : Nat} {wr : World} (h : BP X base h0 xs g j acc G cp wr) (hj : j < xs.length) : wr.cell? ⟨g, j, none⟩ = some (.string (xs.getD j ⟨#[]⟩)) := by
  have h1 := h.tb
  simp [World.cell?, h1, hj]
set_option maxRecDepth 100000 in
set_option maxHeartbeats 4000000 in
theorem refprint_1 (m : Msg) (w : World) (hk : m.k = 1) (ht : ∀ i, (m.t i).size ≤ 60000) (hs : 0 ≤ m.s ∧ m.s ≤ 4294967295) (hr : 0 ≤ m.r ∧ m.r ≤ 4294967295) (hc : 0 ≤ m.c ∧ m.c ≤ (most : Nat)) : Calls Try.prog 61 #[mval m] w (Leb w (printM m)) := by
  have HA0 := Lib.hid (show MsgAt (w.alloc (.cells m.row 61)) w.heap.size m from heap_alloc_new w _)
  obtain ⟨S, hS⟩ : ∃ S : Nat, m.s = S := Int.eq_ofNat_of_zero_le hs.1
  obtain ⟨R, hR⟩ : ∃ R : Nat, m.r = R := Int.eq_ofNat_of_zero_le hr.1
  obtain ⟨C, hC⟩ : ∃ C : Nat, m.c = C := Int.eq_ofNat_of_zero_le hc.1
  have us : IntKind.u64.wrap m.s = (S : Int) := by rw [IntWalk.u64_in _ (by omega), hS]
  have ur : IntKind.u64.wrap m.r = (R : Int) := by rw [IntWalk.u64_in _ (by omega), hR]
  have NBs := Lib.hid (fun W => (show Calls Try.prog 124 #[.int .u64 (S : Nat), .int .i64 4] W (Leb W (leb 4 S)) from refbytes_any S 4 W (by decide) (by unfold most; omega)))
  have NL := Lib.hid (fun W (x : ByteArray) (hx : x.size ≤ 60000) => (show Calls Try.prog 124 #[.int .u64 (x.size : Nat), .int .i64 2] W (Leb W (leb 2 x.size)) from refbytes_any x.size 2 W (by decide) (by unfold most; omega)))
  have TP := Lib.hid (fun W => termsP_1 m hk W)
  unfold mval at TP
  rw [hk] at TP
  obtain ⟨xs, hxs⟩ : ∃ xs, xs = [m.t 4, m.t 5, m.t 6, m.t 11, m.t 12] := ⟨_, rfl⟩
  rw [← hxs] at TP
  have HXL := Lib.hid (show xs.length = 5 from by rw [hxs]; rfl)
  have HXB := Lib.hid (show ∀ j, (xs.getD j ⟨#[]⟩).size ≤ 60000 from by
    intro j
    rw [hxs]
    rcases (show j = 0 ∨ j = 1 ∨ j = 2 ∨ j = 3 ∨ j = 4 ∨ 5 ≤ j by omega) with rfl | rfl | rfl | rfl | rfl | h
    all_goals first | exact ht _ | exact Nat.zero_le _ | (rw [List.getD_eq_getElem?_getD, List.getElem?_eq_none (by simp; omega)]; exact Nat.zero_le _))
  have HEND := Lib.hid (show printM m = (headB m ++ leb 4 m.s.toNat) ++ xs.flatMap textB from by rw [hxs]; unfold printM rtexts; simp [hk])
  have HH : headB m = [1, 0, 0, 0] := by unfold headB; rw [hk]; rfl
  obtain ⟨A, hA⟩ : ∃ A, A = w.heap.size := ⟨_, rfl⟩
  obtain ⟨X, hX⟩ : ∃ X, X = (w.alloc (.cells m.row 61)).alloc (.cells #[.int .u8 1, .int .u8 0, .int .u8 0, .int .u8 0] 5) := ⟨_, rfl⟩
  have HA := Lib.hid (show MsgAt X A m from by rw [hX, hA]; exact Only.keep ((Only.refl (fun _ => False) _).alloc _) HA0.out id)
  have HP := Lib.hid (show PR X (A + 1) (headB m) (A + 1) 4 X from ⟨by
    have h := own_litb (w.alloc (.cells m.row 61)) [1, 0, 0, 0] (by decide)
    rw [World.size_alloc, ← hA] at h
    rw [hX, HH]
    exact h, Only.refl _ _⟩)
  have HXS := Lib.hid (show A + 1 ≤ X.heap.size from by rw [hX, World.size_alloc, World.size_alloc, hA]; omega)
  have OX := Lib.hid (show Only (fun _ => False) w X from by rw [hX]; exact ((Only.refl _ w).alloc _).alloc _)
  have HL0 := Lib.hid (show (headB m).length = 4 from by rw [HH]; rfl)
  have HX := Lib.hid hX
  have HAE := Lib.hid hA
  have KK := Lib.hid hk
  simp only [Msg.row] at HX
  rw [hk] at HX
  obtain ⟨d0, d1, d2, d3, d4, d5, d6, d7, d8, d9, d10, d11, d12⟩ := MsgAt.cells HA0.out
  simp only [Msg.row] at d0 d1 d2 d3 d4 d5 d6 d7 d8 d9 d10 d11 d12
  rw [hk] at d0 d1 d2 d3 d4 d5 d6 d7 d8 d9 d10 d11 d12
  obtain ⟨acc, hacc⟩ : ∃ acc, acc = headB m := ⟨_, rfl⟩
  rw [← hacc] at HP HL0
  have hacc4 : ((4 : Nat) : Int) = 4 := rfl
  have HACC := Lib.hid hacc
  have HSR := Lib.hid (And.intro hS (And.intro hR hC))
  unfold mval
  rw [hk]
  clear hS hR hX hA hxs HH hk hs hr hc ht hacc hacc4 hC
  go_enter Try.func61, Try.ntmps61
  go_wp2_with fail
  rw [← HX.out, ← HAE.out]
  (with_reducible refine (NBs.out _).mono ?_)
  rintro e W1 ⟨o1, a1, q1, rfl, own1⟩
  rw [leb_len] at own1 ⊢
  obtain ⟨G1, p1, X1, hap1, hp1, oc1⟩ := PR_add HP.out HXS.out o1 own1 (leb_len _ _) (by rw [HL0.out]; decide) (by decide)
  rw [HL0.out] at hap1
  obtain ⟨acc1, hacc1⟩ : ∃ l, l = acc ++ leb 4 S := ⟨_, rfl⟩
  rw [← hacc1] at hap1 hp1
  have HL1 := Lib.hid (show acc1.length = 8 from by rw [hacc1, List.length_append, HL0.out, leb_len])
  rw [HL1.out] at hap1
  have HAP1 := Lib.hid hap1
  have HP1 := Lib.hid hp1
  have HA1 := Lib.hid (PR.keepM hp1 HA.out (Nat.lt_succ_self A))
  obtain ⟨e10, e11, e12, e13, e14, e15, e16, e17, e18, e19, e110, e111, e112⟩ := MsgAt.cells HA1.out
  try rw [KK.out] at e10
  clear hap1 hp1 oc1 o1 own1
  have HE1 := Lib.hid hacc1
  clear hacc1
  go_wp2_with (at_builtin; refine Lib.wpList_append_run _ rfl (.tmp 13) (.tmp 17) 24 24 rfl _ _ rfl rfl _ _ HAP1.out ?_)
  (with_reducible refine (TP.out _).mono ?_)
  rintro e W ⟨o, g, rfl, hg⟩
  have BP0 := Lib.hid (show BP X (A + 1) acc1 xs g 0 acc1 G1 p1 W from ⟨⟨trC.owns_keep HP1.out.own o, HP1.out.only.trans (o.mono fun _ h => h.elim)⟩, hg, by simp, Nat.zero_le _, by rw [HL1.out]; omega⟩)
  rw [HXL.out]
  have HE0 := Lib.hid (show printM m = acc1 ++ xs.flatMap textB from by
    rw [HEND.out]
    simp only [HSR.out.1, HSR.out.2.1, HSR.out.2.2, Int.toNat_natCast]
    rw [HE1.out, HACC.out])
  clear o hg
  go_wp2_with fail
  go_loopw [3, 5] (fun u i wr => ∃ (j G' cp' : Nat) (ac : Txt), u = .slice (some ⟨G', 0, none⟩) ac.length cp' ∧ i = .int .i64 j ∧ BP X (A + 1) acc1 xs g j ac G' cp' wr) (fun _ i _ => 5 - (Lib.intOf i).toNat)
  case atStart => exact ⟨0, _, _, _, by rw [HL1.out], rfl, BP0.out⟩
  case round =>
    obtain ⟨j, G', cp', ac, rfl, rfl, hR⟩ := hrel
    have HR := Lib.hid hR
    have hle := hR.le
    rw [HXL.out] at hle
    have wj : wrap64 ((j : Int) + 1) = (j : Int) + 1 := IntWalk.wrap64_in _ (by omega)
    by_cases hj : j < 5
    · have k0 : (0 : Int) ≤ (j : Int) := by omega
      have k1 : (j : Int) < 5 := by omega
      have k2 : ((j : Int) < 5) = True := eq_true k1
      have c := hR.cell (by rw [HXL.out]; exact hj)
      have hx := HXB.out j
      obtain ⟨x, hxe⟩ : ∃ x, x = xs.getD j ⟨#[]⟩ := ⟨_, rfl⟩
      rw [← hxe] at c hx
      have su : IntKind.u64.wrap (x.size : Int) = (x.size : Int) := IntWalk.u64_in _ (by omega)
      have HXE := Lib.hid hxe
      have HJ := Lib.hid hj
      have HXX := Lib.hid hx
      clear hR hle hj hx hxe
      go_wp2_with fail
      (with_reducible refine (NL.out _ x HXX.out).mono ?_)
      rintro e V1 ⟨o1, a1, q1, rfl, own1⟩
      rw [leb_len] at own1 ⊢
      have hb1 : ac.length ≤ 10000000 := by have := HR.out.len; have := HJ.out; omega
      obtain ⟨H1, s1, Y1, hap1, hp1, oc1⟩ := PR_add HR.out.pr HXS.out o1 own1 (leb_len _ _) hb1 (by decide)
      have hb2 : 0 < (ac ++ leb 2 x.size).length ∧ (ac ++ leb 2 x.size).length ≤ 10000000 := by
        rw [List.length_append, leb_len]
        have := HR.out.len
        have := HJ.out
        omega
      obtain ⟨bc, hbc⟩ : ∃ l, l = ac ++ leb 2 x.size := ⟨_, rfl⟩
      rw [← hbc] at hap1 hp1 hb2
      have HBC := Lib.hid hbc
      have HAPa := Lib.hid hap1
      obtain ⟨H2, s2, Y2, hap2, hp2, oc2⟩ := PR_puts hp1 HXS.out hb2.1 hb2.2 (s := x) (by have := HXX.out; omega)
      obtain ⟨cc, hcc⟩ : ∃ l, l = bc ++ x.data.toList := ⟨_, rfl⟩
      rw [← hcc] at hap2 hp2
      have HCC := Lib.hid hcc
      have HAPb := Lib.hid hap2
      obtain ⟨cur, fr, ty⟩ := own_type HR.out.pr.own
      have hne : g ≠ G' := by
        intro e
        have tb := HR.out.tb
        rw [e] at tb
        rw [tb] at ty
        simp at ty
      obtain ⟨cur1, fr1, ty1⟩ := own_type hp1.own
      have tb0 := Only.keep o1 HR.out.tb (fun h => h)
      have tb1 := Only.keep oc1 tb0 hne
      have hne1 : g ≠ H1 := by
        intro e
        rw [e] at tb1
        rw [tb1] at ty1
        simp at ty1
      have tb2 := Only.keep oc2 tb1 hne1
      have cY : Y1.cell? ⟨g, j, none⟩ = some (.string x) := by
        have hj := HJ.out
        have := HXL.out
        rw [HXE.out]
        simp [World.cell?, tb1, this, hj]
      have TN := Lib.hid (show BP X (A + 1) acc1 xs g (j + 1) cc H2 s2 Y2 from ⟨hp2, tb2, by
        have hj := HJ.out
        rw [HCC.out, HBC.out, HR.out.eq, List.take_add_one, List.flatMap_append, HXE.out]
        have e : xs[j]? = some (xs.getD j ⟨#[]⟩) := by rw [List.getD_eq_getElem?_getD, List.getElem?_eq_getElem (by rw [HXL.out]; exact hj)]; rfl
        rw [e]
        simp [textB], by rw [HXL.out]; exact HJ.out, by
        have h1 := HR.out.len
        have h2 := HXX.out
        rw [HCC.out, HBC.out, List.length_append, List.length_append, leb_len, tl_size]
        omega⟩)
      clear hap1 hp1 oc1 hap2 hp2 oc2 o1 own1 hb1 hb2 ty ty1 hne hne1 tb0 tb1 tb2 hbc hcc
      go_wp2_with (first | (at_builtin; refine Lib.wpList_append_run _ rfl (.tmp 44) (.tmp 51) 24 24 rfl _ _ rfl rfl _ _ HAPa.out ?_) | (at_builtin; refine Lib.wpList_append_run _ rfl (.tmp 53) (.tmp 57) 24 9 rfl _ _ rfl rfl _ _ HAPb.out ?_))
      go_roundw
      case rel => exact ⟨j + 1, H2, s2, _, rfl, by first | rfl | (rw [wj]; rfl), TN.out⟩
      case measure =>
        try rw [wj]
        have := HJ.out
        simp only [Lib.intOf]
        omega
    · obtain rfl : j = 5 := by omega
      clear hj
      go_wp2_with fail
      go_ret
      obtain rfl : ac = printM m := by rw [HR.out.eq, List.take_of_length_le (by rw [HXL.out]; exact Nat.le_refl _), HE0.out]
      exact ⟨Only.old ((OX.out.mono fun _ h => h.elim).trans (HR.out.pr.only.mono fun k h => by have := HAE.out; omega)), _, _, rfl, ownb_base HR.out.pr.own (by have := HAE.out; omega)⟩

set_option maxRecDepth 100000 in
set_option maxHeartbeats 4000000 in
theorem refprint_2 (m : Msg) (w : World) (hk : m.k = 2) (ht : ∀ i, (m.t i).size ≤ 60000) (hs : 0 ≤ m.s ∧ m.s ≤ 4294967295) (hr : 0 ≤ m.r ∧ m.r ≤ 4294967295) (hc : 0 ≤ m.c ∧ m.c ≤ (most : Nat)) : Calls Try.prog 61 #[mval m] w (Leb w (printM m)) := by
  have HA0 := Lib.hid (show MsgAt (w.alloc (.cells m.row 61)) w.heap.size m from heap_alloc_new w _)
  obtain ⟨S, hS⟩ : ∃ S : Nat, m.s = S := Int.eq_ofNat_of_zero_le hs.1
  obtain ⟨R, hR⟩ : ∃ R : Nat, m.r = R := Int.eq_ofNat_of_zero_le hr.1
  obtain ⟨C, hC⟩ : ∃ C : Nat, m.c = C := Int.eq_ofNat_of_zero_le hc.1
  have us : IntKind.u64.wrap m.s = (S : Int) := by rw [IntWalk.u64_in _ (by omega), hS]
  have ur : IntKind.u64.wrap m.r = (R : Int) := by rw [IntWalk.u64_in _ (by omega), hR]
  have NBs := Lib.hid (fun W => (show Calls Try.prog 124 #[.int .u64 (S : Nat), .int .i64 4] W (Leb W (leb 4 S)) from refbytes_any S 4 W (by decide) (by unfold most; omega)))
  have NBr := Lib.hid (fun W => (show Calls Try.prog 124 #[.int .u64 (R : Nat), .int .i64 4] W (Leb W (leb 4 R)) from refbytes_any R 4 W (by decide) (by unfold most; omega)))
  have NL := Lib.hid (fun W (x : ByteArray) (hx : x.size ≤ 60000) => (show Calls Try.prog 124 #[.int .u64 (x.size : Nat), .int .i64 2] W (Leb W (leb 2 x.size)) from refbytes_any x.size 2 W (by decide) (by unfold most; omega)))
  have TP := Lib.hid (fun W => termsP_2 m hk W)
  unfold mval at TP
  rw [hk] at TP
  obtain ⟨xs, hxs⟩ : ∃ xs, xs = [m.t 4, m.t 7, m.t 11, m.t 12] := ⟨_, rfl⟩
  rw [← hxs] at TP
  have HXL := Lib.hid (show xs.length = 4 from by rw [hxs]; rfl)
  have HXB := Lib.hid (show ∀ j, (xs.getD j ⟨#[]⟩).size ≤ 60000 from by
    intro j
    rw [hxs]
    rcases (show j = 0 ∨ j = 1 ∨ j = 2 ∨ j = 3 ∨ j = 4 ∨ 5 ≤ j by omega) with rfl | rfl | rfl | rfl | rfl | h
    all_goals first | exact ht _ | exact Nat.zero_le _ | (rw [List.getD_eq_getElem?_getD, List.getElem?_eq_none (by simp; omega)]; exact Nat.zero_le _))
  have HEND := Lib.hid (show printM m = (headB m ++ leb 4 m.s.toNat ++ leb 4 m.r.toNat) ++ xs.flatMap textB from by rw [hxs]; unfold printM rtexts; simp [hk])
  have HH : headB m = [2, 0, 0, 0] := by unfold headB; rw [hk]; rfl
  obtain ⟨A, hA⟩ : ∃ A, A = w.heap.size := ⟨_, rfl⟩
  obtain ⟨X, hX⟩ : ∃ X, X = (w.alloc (.cells m.row 61)).alloc (.cells #[.int .u8 2, .int .u8 0, .int .u8 0, .int .u8 0] 5) := ⟨_, rfl⟩
  have HA := Lib.hid (show MsgAt X A m from by rw [hX, hA]; exact Only.keep ((Only.refl (fun _ => False) _).alloc _) HA0.out id)
  have HP := Lib.hid (show PR X (A + 1) (headB m) (A + 1) 4 X from ⟨by
    have h := own_litb (w.alloc (.cells m.row 61)) [2, 0, 0, 0] (by decide)
    rw [World.size_alloc, ← hA] at h
    rw [hX, HH]
    exact h, Only.refl _ _⟩)
  have HXS := Lib.hid (show A + 1 ≤ X.heap.size from by rw [hX, World.size_alloc, World.size_alloc, hA]; omega)
  have OX := Lib.hid (show Only (fun _ => False) w X from by rw [hX]; exact ((Only.refl _ w).alloc _).alloc _)
  have HL0 := Lib.hid (show (headB m).length = 4 from by rw [HH]; rfl)
  have HX := Lib.hid hX
  have HAE := Lib.hid hA
  have KK := Lib.hid hk
  simp only [Msg.row] at HX
  rw [hk] at HX
  obtain ⟨d0, d1, d2, d3, d4, d5, d6, d7, d8, d9, d10, d11, d12⟩ := MsgAt.cells HA0.out
  simp only [Msg.row] at d0 d1 d2 d3 d4 d5 d6 d7 d8 d9 d10 d11 d12
  rw [hk] at d0 d1 d2 d3 d4 d5 d6 d7 d8 d9 d10 d11 d12
  obtain ⟨acc, hacc⟩ : ∃ acc, acc = headB m := ⟨_, rfl⟩
  rw [← hacc] at HP HL0
  have hacc4 : ((4 : Nat) : Int) = 4 := rfl
  have HACC := Lib.hid hacc
  have HSR := Lib.hid (And.intro hS (And.intro hR hC))
  unfold mval
  rw [hk]
  clear hS hR hX hA hxs HH hk hs hr hc ht hacc hacc4 hC
  go_enter Try.func61, Try.ntmps61
  go_wp2_with fail
  rw [← HX.out, ← HAE.out]
  (with_reducible refine (NBs.out _).mono ?_)
  rintro e W1 ⟨o1, a1, q1, rfl, own1⟩
  rw [leb_len] at own1 ⊢
  obtain ⟨G1, p1, X1, hap1, hp1, oc1⟩ := PR_add HP.out HXS.out o1 own1 (leb_len _ _) (by rw [HL0.out]; decide) (by decide)
  rw [HL0.out] at hap1
  obtain ⟨acc1, hacc1⟩ : ∃ l, l = acc ++ leb 4 S := ⟨_, rfl⟩
  rw [← hacc1] at hap1 hp1
  have HL1 := Lib.hid (show acc1.length = 8 from by rw [hacc1, List.length_append, HL0.out, leb_len])
  rw [HL1.out] at hap1
  have HAP1 := Lib.hid hap1
  have HP1 := Lib.hid hp1
  have HA1 := Lib.hid (PR.keepM hp1 HA.out (Nat.lt_succ_self A))
  obtain ⟨e10, e11, e12, e13, e14, e15, e16, e17, e18, e19, e110, e111, e112⟩ := MsgAt.cells HA1.out
  try rw [KK.out] at e10
  clear hap1 hp1 oc1 o1 own1
  have HE1 := Lib.hid hacc1
  clear hacc1
  go_wp2_with (at_builtin; refine Lib.wpList_append_run _ rfl (.tmp 13) (.tmp 17) 24 24 rfl _ _ rfl rfl _ _ HAP1.out ?_)
  (with_reducible refine (NBr.out _).mono ?_)
  rintro e W2 ⟨o2, a2, q2, rfl, own2⟩
  rw [leb_len] at own2 ⊢
  obtain ⟨G2, p2, X2, hap2, hp2, oc2⟩ := PR_add HP1.out HXS.out o2 own2 (leb_len _ _) (by rw [HL1.out]; decide) (by decide)
  rw [HL1.out] at hap2
  obtain ⟨acc2, hacc2⟩ : ∃ l, l = acc1 ++ leb 4 R := ⟨_, rfl⟩
  rw [← hacc2] at hap2 hp2
  have HL2 := Lib.hid (show acc2.length = 12 from by rw [hacc2, List.length_append, HL1.out, leb_len])
  rw [HL2.out] at hap2
  have HAP2 := Lib.hid hap2
  have HP2 := Lib.hid hp2
  have HA2 := Lib.hid (PR.keepM hp2 HA.out (Nat.lt_succ_self A))
  obtain ⟨e20, e21, e22, e23, e24, e25, e26, e27, e28, e29, e210, e211, e212⟩ := MsgAt.cells HA2.out
  try rw [KK.out] at e20
  clear hap2 hp2 oc2 o2 own2
  have HE2 := Lib.hid hacc2
  clear hacc2
  go_wp2_with (at_builtin; refine Lib.wpList_append_run _ rfl (.tmp 22) (.tmp 26) 24 24 rfl _ _ rfl rfl _ _ HAP2.out ?_)
  (with_reducible refine (TP.out _).mono ?_)
  rintro e W ⟨o, g, rfl, hg⟩
  have BP0 := Lib.hid (show BP X (A + 1) acc2 xs g 0 acc2 G2 p2 W from ⟨⟨trC.owns_keep HP2.out.own o, HP2.out.only.trans (o.mono fun _ h => h.elim)⟩, hg, by simp, Nat.zero_le _, by rw [HL2.out]; omega⟩)
  rw [HXL.out]
  have HE0 := Lib.hid (show printM m = acc2 ++ xs.flatMap textB from by
    rw [HEND.out]
    simp only [HSR.out.1, HSR.out.2.1, HSR.out.2.2, Int.toNat_natCast]
    rw [HE2.out, HE1.out, HACC.out])
  clear o hg
  go_wp2_with fail
  go_loopw [3, 5] (fun u i wr => ∃ (j G' cp' : Nat) (ac : Txt), u = .slice (some ⟨G', 0, none⟩) ac.length cp' ∧ i = .int .i64 j ∧ BP X (A + 1) acc2 xs g j ac G' cp' wr) (fun _ i _ => 4 - (Lib.intOf i).toNat)
  case atStart => exact ⟨0, _, _, _, by rw [HL2.out], rfl, BP0.out⟩
  case round =>
    obtain ⟨j, G', cp', ac, rfl, rfl, hR⟩ := hrel
    have HR := Lib.hid hR
    have hle := hR.le
    rw [HXL.out] at hle
    have wj : wrap64 ((j : Int) + 1) = (j : Int) + 1 := IntWalk.wrap64_in _ (by omega)
    by_cases hj : j < 4
    · have k0 : (0 : Int) ≤ (j : Int) := by omega
      have k1 : (j : Int) < 4 := by omega
      have k2 : ((j : Int) < 4) = True := eq_true k1
      have c := hR.cell (by rw [HXL.out]; exact hj)
      have hx := HXB.out j
      obtain ⟨x, hxe⟩ : ∃ x, x = xs.getD j ⟨#[]⟩ := ⟨_, rfl⟩
      rw [← hxe] at c hx
      have su : IntKind.u64.wrap (x.size : Int) = (x.size : Int) := IntWalk.u64_in _ (by omega)
      have HXE := Lib.hid hxe
      have HJ := Lib.hid hj
      have HXX := Lib.hid hx
      clear hR hle hj hx hxe
      go_wp2_with fail
      (with_reducible refine (NL.out _ x HXX.out).mono ?_)
      rintro e V1 ⟨o1, a1, q1, rfl, own1⟩
      rw [leb_len] at own1 ⊢
      have hb1 : ac.length ≤ 10000000 := by have := HR.out.len; have := HJ.out; omega
      obtain ⟨H1, s1, Y1, hap1, hp1, oc1⟩ := PR_add HR.out.pr HXS.out o1 own1 (leb_len _ _) hb1 (by decide)
      have hb2 : 0 < (ac ++ leb 2 x.size).length ∧ (ac ++ leb 2 x.size).length ≤ 10000000 := by
        rw [List.length_append, leb_len]
        have := HR.out.len
        have := HJ.out
        omega
      obtain ⟨bc, hbc⟩ : ∃ l, l = ac ++ leb 2 x.size := ⟨_, rfl⟩
      rw [← hbc] at hap1 hp1 hb2
      have HBC := Lib.hid hbc
      have HAPa := Lib.hid hap1
      obtain ⟨H2, s2, Y2, hap2, hp2, oc2⟩ := PR_puts hp1 HXS.out hb2.1 hb2.2 (s := x) (by have := HXX.out; omega)
      obtain ⟨cc, hcc⟩ : ∃ l, l = bc ++ x.data.toList := ⟨_, rfl⟩
      rw [← hcc] at hap2 hp2
      have HCC := Lib.hid hcc
      have HAPb := Lib.hid hap2
      obtain ⟨cur, fr, ty⟩ := own_type HR.out.pr.own
      have hne : g ≠ G' := by
        intro e
        have tb := HR.out.tb
        rw [e] at tb
        rw [tb] at ty
        simp at ty
      obtain ⟨cur1, fr1, ty1⟩ := own_type hp1.own
      have tb0 := Only.keep o1 HR.out.tb (fun h => h)
      have tb1 := Only.keep oc1 tb0 hne
      have hne1 : g ≠ H1 := by
        intro e
        rw [e] at tb1
        rw [tb1] at ty1
        simp at ty1
      have tb2 := Only.keep oc2 tb1 hne1
      have cY : Y1.cell? ⟨g, j, none⟩ = some (.string x) := by
        have hj := HJ.out
        have := HXL.out
        rw [HXE.out]
        simp [World.cell?, tb1, this, hj]
      have TN := Lib.hid (show BP X (A + 1) acc2 xs g (j + 1) cc H2 s2 Y2 from ⟨hp2, tb2, by
        have hj := HJ.out
        rw [HCC.out, HBC.out, HR.out.eq, List.take_add_one, List.flatMap_append, HXE.out]
        have e : xs[j]? = some (xs.getD j ⟨#[]⟩) := by rw [List.getD_eq_getElem?_getD, List.getElem?_eq_getElem (by rw [HXL.out]; exact hj)]; rfl
        rw [e]
        simp [textB], by rw [HXL.out]; exact HJ.out, by
        have h1 := HR.out.len
        have h2 := HXX.out
        rw [HCC.out, HBC.out, List.length_append, List.length_append, leb_len, tl_size]
        omega⟩)
      clear hap1 hp1 oc1 hap2 hp2 oc2 o1 own1 hb1 hb2 ty ty1 hne hne1 tb0 tb1 tb2 hbc hcc
      go_wp2_with (first | (at_builtin; refine Lib.wpList_append_run _ rfl (.tmp 44) (.tmp 51) 24 24 rfl _ _ rfl rfl _ _ HAPa.out ?_) | (at_builtin; refine Lib.wpList_append_run _ rfl (.tmp 53) (.tmp 57) 24 9 rfl _ _ rfl rfl _ _ HAPb.out ?_))
      go_roundw
      case rel => exact ⟨j + 1, H2, s2, _, rfl, by first | rfl | (rw [wj]; rfl), TN.out⟩
      case measure =>
        try rw [wj]
        have := HJ.out
        simp only [Lib.intOf]
        omega
    · obtain rfl : j = 4 := by omega
      clear hj
      go_wp2_with fail
      go_ret
      obtain rfl : ac = printM m := by rw [HR.out.eq, List.take_of_length_le (by rw [HXL.out]; exact Nat.le_refl _), HE0.out]
      exact ⟨Only.old ((OX.out.mono fun _ h => h.elim).trans (HR.out.pr.only.mono fun k h => by have := HAE.out; omega)), _, _, rfl, ownb_base HR.out.pr.own (by have := HAE.out; omega)⟩

set_option maxRecDepth 100000 in
set_option maxHeartbeats 4000000 in
theorem refprint_3 (m : Msg) (w : World) (hk : m.k = 3) (ht : ∀ i, (m.t i).size ≤ 60000) (hs : 0 ≤ m.s ∧ m.s ≤ 4294967295) (hr : 0 ≤ m.r ∧ m.r ≤ 4294967295) (hc : 0 ≤ m.c ∧ m.c ≤ (most : Nat)) : Calls Try.prog 61 #[mval m] w (Leb w (printM m)) := by
  have HA0 := Lib.hid (show MsgAt (w.alloc (.cells m.row 61)) w.heap.size m from heap_alloc_new w _)
  obtain ⟨S, hS⟩ : ∃ S : Nat, m.s = S := Int.eq_ofNat_of_zero_le hs.1
  obtain ⟨R, hR⟩ : ∃ R : Nat, m.r = R := Int.eq_ofNat_of_zero_le hr.1
  obtain ⟨C, hC⟩ : ∃ C : Nat, m.c = C := Int.eq_ofNat_of_zero_le hc.1
  have us : IntKind.u64.wrap m.s = (S : Int) := by rw [IntWalk.u64_in _ (by omega), hS]
  have ur : IntKind.u64.wrap m.r = (R : Int) := by rw [IntWalk.u64_in _ (by omega), hR]
  have NBr := Lib.hid (fun W => (show Calls Try.prog 124 #[.int .u64 (R : Nat), .int .i64 4] W (Leb W (leb 4 R)) from refbytes_any R 4 W (by decide) (by unfold most; omega)))
  have NL := Lib.hid (fun W (x : ByteArray) (hx : x.size ≤ 60000) => (show Calls Try.prog 124 #[.int .u64 (x.size : Nat), .int .i64 2] W (Leb W (leb 2 x.size)) from refbytes_any x.size 2 W (by decide) (by unfold most; omega)))
  have TP := Lib.hid (fun W => termsP_3 m hk W)
  unfold mval at TP
  rw [hk] at TP
  obtain ⟨xs, hxs⟩ : ∃ xs, xs = [m.t 8, m.t 9] := ⟨_, rfl⟩
  rw [← hxs] at TP
  have HXL := Lib.hid (show xs.length = 2 from by rw [hxs]; rfl)
  have HXB := Lib.hid (show ∀ j, (xs.getD j ⟨#[]⟩).size ≤ 60000 from by
    intro j
    rw [hxs]
    rcases (show j = 0 ∨ j = 1 ∨ j = 2 ∨ j = 3 ∨ j = 4 ∨ 5 ≤ j by omega) with rfl | rfl | rfl | rfl | rfl | h
    all_goals first | exact ht _ | exact Nat.zero_le _ | (rw [List.getD_eq_getElem?_getD, List.getElem?_eq_none (by simp; omega)]; exact Nat.zero_le _))
  have HEND := Lib.hid (show printM m = (headB m ++ leb 4 m.r.toNat) ++ xs.flatMap textB from by rw [hxs]; unfold printM rtexts; simp [hk])
  have HH : headB m = [3, 0, 0, 0] := by unfold headB; rw [hk]; rfl
  obtain ⟨A, hA⟩ : ∃ A, A = w.heap.size := ⟨_, rfl⟩
  obtain ⟨X, hX⟩ : ∃ X, X = (w.alloc (.cells m.row 61)).alloc (.cells #[.int .u8 3, .int .u8 0, .int .u8 0, .int .u8 0] 5) := ⟨_, rfl⟩
  have HA := Lib.hid (show MsgAt X A m from by rw [hX, hA]; exact Only.keep ((Only.refl (fun _ => False) _).alloc _) HA0.out id)
  have HP := Lib.hid (show PR X (A + 1) (headB m) (A + 1) 4 X from ⟨by
    have h := own_litb (w.alloc (.cells m.row 61)) [3, 0, 0, 0] (by decide)
    rw [World.size_alloc, ← hA] at h
    rw [hX, HH]
    exact h, Only.refl _ _⟩)
  have HXS := Lib.hid (show A + 1 ≤ X.heap.size from by rw [hX, World.size_alloc, World.size_alloc, hA]; omega)
  have OX := Lib.hid (show Only (fun _ => False) w X from by rw [hX]; exact ((Only.refl _ w).alloc _).alloc _)
  have HL0 := Lib.hid (show (headB m).length = 4 from by rw [HH]; rfl)
  have HX := Lib.hid hX
  have HAE := Lib.hid hA
  have KK := Lib.hid hk
  simp only [Msg.row] at HX
  rw [hk] at HX
  obtain ⟨d0, d1, d2, d3, d4, d5, d6, d7, d8, d9, d10, d11, d12⟩ := MsgAt.cells HA0.out
  simp only [Msg.row] at d0 d1 d2 d3 d4 d5 d6 d7 d8 d9 d10 d11 d12
  rw [hk] at d0 d1 d2 d3 d4 d5 d6 d7 d8 d9 d10 d11 d12
  obtain ⟨acc, hacc⟩ : ∃ acc, acc = headB m := ⟨_, rfl⟩
  rw [← hacc] at HP HL0
  have hacc4 : ((4 : Nat) : Int) = 4 := rfl
  have HACC := Lib.hid hacc
  have HSR := Lib.hid (And.intro hS (And.intro hR hC))
  unfold mval
  rw [hk]
  clear hS hR hX hA hxs HH hk hs hr hc ht hacc hacc4 hC
  go_enter Try.func61, Try.ntmps61
  go_wp2_with fail
  rw [← HX.out, ← HAE.out]
  (with_reducible refine (NBr.out _).mono ?_)
  rintro e W1 ⟨o1, a1, q1, rfl, own1⟩
  rw [leb_len] at own1 ⊢
  obtain ⟨G1, p1, X1, hap1, hp1, oc1⟩ := PR_add HP.out HXS.out o1 own1 (leb_len _ _) (by rw [HL0.out]; decide) (by decide)
  rw [HL0.out] at hap1
  obtain ⟨acc1, hacc1⟩ : ∃ l, l = acc ++ leb 4 R := ⟨_, rfl⟩
  rw [← hacc1] at hap1 hp1
  have HL1 := Lib.hid (show acc1.length = 8 from by rw [hacc1, List.length_append, HL0.out, leb_len])
  rw [HL1.out] at hap1
  have HAP1 := Lib.hid hap1
  have HP1 := Lib.hid hp1
  have HA1 := Lib.hid (PR.keepM hp1 HA.out (Nat.lt_succ_self A))
  obtain ⟨e10, e11, e12, e13, e14, e15, e16, e17, e18, e19, e110, e111, e112⟩ := MsgAt.cells HA1.out
  try rw [KK.out] at e10
  clear hap1 hp1 oc1 o1 own1
  have HE1 := Lib.hid hacc1
  clear hacc1
  go_wp2_with (at_builtin; refine Lib.wpList_append_run _ rfl (.tmp 22) (.tmp 26) 24 24 rfl _ _ rfl rfl _ _ HAP1.out ?_)
  (with_reducible refine (TP.out _).mono ?_)
  rintro e W ⟨o, g, rfl, hg⟩
  have BP0 := Lib.hid (show BP X (A + 1) acc1 xs g 0 acc1 G1 p1 W from ⟨⟨trC.owns_keep HP1.out.own o, HP1.out.only.trans (o.mono fun _ h => h.elim)⟩, hg, by simp, Nat.zero_le _, by rw [HL1.out]; omega⟩)
  rw [HXL.out]
  have HE0 := Lib.hid (show printM m = acc1 ++ xs.flatMap textB from by
    rw [HEND.out]
    simp only [HSR.out.1, HSR.out.2.1, HSR.out.2.2, Int.toNat_natCast]
    rw [HE1.out, HACC.out])
  clear o hg
  go_wp2_with fail
  go_loopw [3, 5] (fun u i wr => ∃ (j G' cp' : Nat) (ac : Txt), u = .slice (some ⟨G', 0, none⟩) ac.length cp' ∧ i = .int .i64 j ∧ BP X (A + 1) acc1 xs g j ac G' cp' wr) (fun _ i _ => 2 - (Lib.intOf i).toNat)
  case atStart => exact ⟨0, _, _, _, by rw [HL1.out], rfl, BP0.out⟩
  case round =>
    obtain ⟨j, G', cp', ac, rfl, rfl, hR⟩ := hrel
    have HR := Lib.hid hR
    have hle := hR.le
    rw [HXL.out] at hle
    have wj : wrap64 ((j : Int) + 1) = (j : Int) + 1 := IntWalk.wrap64_in _ (by omega)
    by_cases hj : j < 2
    · have k0 : (0 : Int) ≤ (j : Int) := by omega
      have k1 : (j : Int) < 2 := by omega
      have k2 : ((j : Int) < 2) = True := eq_true k1
      have c := hR.cell (by rw [HXL.out]; exact hj)
      have hx := HXB.out j
      obtain ⟨x, hxe⟩ : ∃ x, x = xs.getD j ⟨#[]⟩ := ⟨_, rfl⟩
      rw [← hxe] at c hx
      have su : IntKind.u64.wrap (x.size : Int) = (x.size : Int) := IntWalk.u64_in _ (by omega)
      have HXE := Lib.hid hxe
      have HJ := Lib.hid hj
      have HXX := Lib.hid hx
      clear hR hle hj hx hxe
      go_wp2_with fail
      (with_reducible refine (NL.out _ x HXX.out).mono ?_)
      rintro e V1 ⟨o1, a1, q1, rfl, own1⟩
      rw [leb_len] at own1 ⊢
      have hb1 : ac.length ≤ 10000000 := by have := HR.out.len; have := HJ.out; omega
      obtain ⟨H1, s1, Y1, hap1, hp1, oc1⟩ := PR_add HR.out.pr HXS.out o1 own1 (leb_len _ _) hb1 (by decide)
      have hb2 : 0 < (ac ++ leb 2 x.size).length ∧ (ac ++ leb 2 x.size).length ≤ 10000000 := by
        rw [List.length_append, leb_len]
        have := HR.out.len
        have := HJ.out
        omega
      obtain ⟨bc, hbc⟩ : ∃ l, l = ac ++ leb 2 x.size := ⟨_, rfl⟩
      rw [← hbc] at hap1 hp1 hb2
      have HBC := Lib.hid hbc
      have HAPa := Lib.hid hap1
      obtain ⟨H2, s2, Y2, hap2, hp2, oc2⟩ := PR_puts hp1 HXS.out hb2.1 hb2.2 (s := x) (by have := HXX.out; omega)
      obtain ⟨cc, hcc⟩ : ∃ l, l = bc ++ x.data.toList := ⟨_, rfl⟩
      rw [← hcc] at hap2 hp2
      have HCC := Lib.hid hcc
      have HAPb := Lib.hid hap2
      obtain ⟨cur, fr, ty⟩ := own_type HR.out.pr.own
      have hne : g ≠ G' := by
        intro e
        have tb := HR.out.tb
        rw [e] at tb
        rw [tb] at ty
        simp at ty
      obtain ⟨cur1, fr1, ty1⟩ := own_type hp1.own
      have tb0 := Only.keep o1 HR.out.tb (fun h => h)
      have tb1 := Only.keep oc1 tb0 hne
      have hne1 : g ≠ H1 := by
        intro e
        rw [e] at tb1
        rw [tb1] at ty1
        simp at ty1
      have tb2 := Only.keep oc2 tb1 hne1
      have cY : Y1.cell? ⟨g, j, none⟩ = some (.string x) := by
        have hj := HJ.out
        have := HXL.out
        rw [HXE.out]
        simp [World.cell?, tb1, this, hj]
      have TN := Lib.hid (show BP X (A + 1) acc1 xs g (j + 1) cc H2 s2 Y2 from ⟨hp2, tb2, by
        have hj := HJ.out
        rw [HCC.out, HBC.out, HR.out.eq, List.take_add_one, List.flatMap_append, HXE.out]
        have e : xs[j]? = some (xs.getD j ⟨#[]⟩) := by rw [List.getD_eq_getElem?_getD, List.getElem?_eq_getElem (by rw [HXL.out]; exact hj)]; rfl
        rw [e]
        simp [textB], by rw [HXL.out]; exact HJ.out, by
        have h1 := HR.out.len
        have h2 := HXX.out
        rw [HCC.out, HBC.out, List.length_append, List.length_append, leb_len, tl_size]
        omega⟩)
      clear hap1 hp1 oc1 hap2 hp2 oc2 o1 own1 hb1 hb2 ty ty1 hne hne1 tb0 tb1 tb2 hbc hcc
      go_wp2_with (first | (at_builtin; refine Lib.wpList_append_run _ rfl (.tmp 44) (.tmp 51) 24 24 rfl _ _ rfl rfl _ _ HAPa.out ?_) | (at_builtin; refine Lib.wpList_append_run _ rfl (.tmp 53) (.tmp 57) 24 9 rfl _ _ rfl rfl _ _ HAPb.out ?_))
      go_roundw
      case rel => exact ⟨j + 1, H2, s2, _, rfl, by first | rfl | (rw [wj]; rfl), TN.out⟩
      case measure =>
        try rw [wj]
        have := HJ.out
        simp only [Lib.intOf]
        omega
    · obtain rfl : j = 2 := by omega
      clear hj
      go_wp2_with fail
      go_ret
      obtain rfl : ac = printM m := by rw [HR.out.eq, List.take_of_length_le (by rw [HXL.out]; exact Nat.le_refl _), HE0.out]
      exact ⟨Only.old ((OX.out.mono fun _ h => h.elim).trans (HR.out.pr.only.mono fun k h => by have := HAE.out; omega)), _, _, rfl, ownb_base HR.out.pr.own (by have := HAE.out; omega)⟩

set_option maxRecDepth 100000 in
set_option maxHeartbeats 4000000 in
theorem refprint_4 (m : Msg) (w : World) (hk : m.k = 4) (ht : ∀ i, (m.t i).size ≤ 60000) (hs : 0 ≤ m.s ∧ m.s ≤ 4294967295) (hr : 0 ≤ m.r ∧ m.r ≤ 4294967295) (hc : 0 ≤ m.c ∧ m.c ≤ (most : Nat)) : Calls Try.prog 61 #[mval m] w (Leb w (printM m)) := by
  have HA0 := Lib.hid (show MsgAt (w.alloc (.cells m.row 61)) w.heap.size m from heap_alloc_new w _)
  obtain ⟨S, hS⟩ : ∃ S : Nat, m.s = S := Int.eq_ofNat_of_zero_le hs.1
  obtain ⟨R, hR⟩ : ∃ R : Nat, m.r = R := Int.eq_ofNat_of_zero_le hr.1
  obtain ⟨C, hC⟩ : ∃ C : Nat, m.c = C := Int.eq_ofNat_of_zero_le hc.1
  have us : IntKind.u64.wrap m.s = (S : Int) := by rw [IntWalk.u64_in _ (by omega), hS]
  have ur : IntKind.u64.wrap m.r = (R : Int) := by rw [IntWalk.u64_in _ (by omega), hR]
  have NBr := Lib.hid (fun W => (show Calls Try.prog 124 #[.int .u64 (R : Nat), .int .i64 4] W (Leb W (leb 4 R)) from refbytes_any R 4 W (by decide) (by unfold most; omega)))
  have NBc := Lib.hid (fun W => (show Calls Try.prog 124 #[.int .u64 m.c, .int .i64 8] W (Leb W (leb 8 C)) from by rw [hC]; exact refbytes_any C 8 W (by decide) (Int.ofNat_le.mp (by have h := hc.2; rw [hC] at h; exact h))))
  have NL := Lib.hid (fun W (x : ByteArray) (hx : x.size ≤ 60000) => (show Calls Try.prog 124 #[.int .u64 (x.size : Nat), .int .i64 2] W (Leb W (leb 2 x.size)) from refbytes_any x.size 2 W (by decide) (by unfold most; omega)))
  have TP := Lib.hid (fun W => termsP_4 m hk W)
  unfold mval at TP
  rw [hk] at TP
  obtain ⟨xs, hxs⟩ : ∃ xs, xs = [m.t 10] := ⟨_, rfl⟩
  rw [← hxs] at TP
  have HXL := Lib.hid (show xs.length = 1 from by rw [hxs]; rfl)
  have HXB := Lib.hid (show ∀ j, (xs.getD j ⟨#[]⟩).size ≤ 60000 from by
    intro j
    rw [hxs]
    rcases (show j = 0 ∨ j = 1 ∨ j = 2 ∨ j = 3 ∨ j = 4 ∨ 5 ≤ j by omega) with rfl | rfl | rfl | rfl | rfl | h
    all_goals first | exact ht _ | exact Nat.zero_le _ | (rw [List.getD_eq_getElem?_getD, List.getElem?_eq_none (by simp; omega)]; exact Nat.zero_le _))
  have HEND := Lib.hid (show printM m = (headB m ++ leb 4 m.r.toNat ++ leb 8 m.c.toNat) ++ xs.flatMap textB from by rw [hxs]; unfold printM rtexts; simp [hk])
  have HH : headB m = [4, 0, 0, 0] := by unfold headB; rw [hk]; rfl
  obtain ⟨A, hA⟩ : ∃ A, A = w.heap.size := ⟨_, rfl⟩
  obtain ⟨X, hX⟩ : ∃ X, X = (w.alloc (.cells m.row 61)).alloc (.cells #[.int .u8 4, .int .u8 0, .int .u8 0, .int .u8 0] 5) := ⟨_, rfl⟩
  have HA := Lib.hid (show MsgAt X A m from by rw [hX, hA]; exact Only.keep ((Only.refl (fun _ => False) _).alloc _) HA0.out id)
  have HP := Lib.hid (show PR X (A + 1) (headB m) (A + 1) 4 X from ⟨by
    have h := own_litb (w.alloc (.cells m.row 61)) [4, 0, 0, 0] (by decide)
    rw [World.size_alloc, ← hA] at h
    rw [hX, HH]
    exact h, Only.refl _ _⟩)
  have HXS := Lib.hid (show A + 1 ≤ X.heap.size from by rw [hX, World.size_alloc, World.size_alloc, hA]; omega)
  have OX := Lib.hid (show Only (fun _ => False) w X from by rw [hX]; exact ((Only.refl _ w).alloc _).alloc _)
  have HL0 := Lib.hid (show (headB m).length = 4 from by rw [HH]; rfl)
  have HX := Lib.hid hX
  have HAE := Lib.hid hA
  have KK := Lib.hid hk
  simp only [Msg.row] at HX
  rw [hk] at HX
  obtain ⟨d0, d1, d2, d3, d4, d5, d6, d7, d8, d9, d10, d11, d12⟩ := MsgAt.cells HA0.out
  simp only [Msg.row] at d0 d1 d2 d3 d4 d5 d6 d7 d8 d9 d10 d11 d12
  rw [hk] at d0 d1 d2 d3 d4 d5 d6 d7 d8 d9 d10 d11 d12
  obtain ⟨acc, hacc⟩ : ∃ acc, acc = headB m := ⟨_, rfl⟩
  rw [← hacc] at HP HL0
  have hacc4 : ((4 : Nat) : Int) = 4 := rfl
  have HACC := Lib.hid hacc
  have HSR := Lib.hid (And.intro hS (And.intro hR hC))
  unfold mval
  rw [hk]
  clear hS hR hX hA hxs HH hk hs hr hc ht hacc hacc4 hC
  go_enter Try.func61, Try.ntmps61
  go_wp2_with fail
  rw [← HX.out, ← HAE.out]
  (with_reducible refine (NBr.out _).mono ?_)
  rintro e W1 ⟨o1, a1, q1, rfl, own1⟩
  rw [leb_len] at own1 ⊢
  obtain ⟨G1, p1, X1, hap1, hp1, oc1⟩ := PR_add HP.out HXS.out o1 own1 (leb_len _ _) (by rw [HL0.out]; decide) (by decide)
  rw [HL0.out] at hap1
  obtain ⟨acc1, hacc1⟩ : ∃ l, l = acc ++ leb 4 R := ⟨_, rfl⟩
  rw [← hacc1] at hap1 hp1
  have HL1 := Lib.hid (show acc1.length = 8 from by rw [hacc1, List.length_append, HL0.out, leb_len])
  rw [HL1.out] at hap1
  have HAP1 := Lib.hid hap1
  have HP1 := Lib.hid hp1
  have HA1 := Lib.hid (PR.keepM hp1 HA.out (Nat.lt_succ_self A))
  obtain ⟨e10, e11, e12, e13, e14, e15, e16, e17, e18, e19, e110, e111, e112⟩ := MsgAt.cells HA1.out
  try rw [KK.out] at e10
  clear hap1 hp1 oc1 o1 own1
  have HE1 := Lib.hid hacc1
  clear hacc1
  go_wp2_with (at_builtin; refine Lib.wpList_append_run _ rfl (.tmp 22) (.tmp 26) 24 24 rfl _ _ rfl rfl _ _ HAP1.out ?_)
  (with_reducible refine (NBc.out _).mono ?_)
  rintro e W2 ⟨o2, a2, q2, rfl, own2⟩
  rw [leb_len] at own2 ⊢
  obtain ⟨G2, p2, X2, hap2, hp2, oc2⟩ := PR_add HP1.out HXS.out o2 own2 (leb_len _ _) (by rw [HL1.out]; decide) (by decide)
  rw [HL1.out] at hap2
  obtain ⟨acc2, hacc2⟩ : ∃ l, l = acc1 ++ leb 8 C := ⟨_, rfl⟩
  rw [← hacc2] at hap2 hp2
  have HL2 := Lib.hid (show acc2.length = 16 from by rw [hacc2, List.length_append, HL1.out, leb_len])
  rw [HL2.out] at hap2
  have HAP2 := Lib.hid hap2
  have HP2 := Lib.hid hp2
  have HA2 := Lib.hid (PR.keepM hp2 HA.out (Nat.lt_succ_self A))
  obtain ⟨e20, e21, e22, e23, e24, e25, e26, e27, e28, e29, e210, e211, e212⟩ := MsgAt.cells HA2.out
  try rw [KK.out] at e20
  clear hap2 hp2 oc2 o2 own2
  have HE2 := Lib.hid hacc2
  clear hacc2
  go_wp2_with (at_builtin; refine Lib.wpList_append_run _ rfl (.tmp 31) (.tmp 34) 24 24 rfl _ _ rfl rfl _ _ HAP2.out ?_)
  (with_reducible refine (TP.out _).mono ?_)
  rintro e W ⟨o, g, rfl, hg⟩
  have BP0 := Lib.hid (show BP X (A + 1) acc2 xs g 0 acc2 G2 p2 W from ⟨⟨trC.owns_keep HP2.out.own o, HP2.out.only.trans (o.mono fun _ h => h.elim)⟩, hg, by simp, Nat.zero_le _, by rw [HL2.out]; omega⟩)
  rw [HXL.out]
  have HE0 := Lib.hid (show printM m = acc2 ++ xs.flatMap textB from by
    rw [HEND.out]
    simp only [HSR.out.1, HSR.out.2.1, HSR.out.2.2, Int.toNat_natCast]
    rw [HE2.out, HE1.out, HACC.out])
  clear o hg
  go_wp2_with fail
  go_loopw [3, 5] (fun u i wr => ∃ (j G' cp' : Nat) (ac : Txt), u = .slice (some ⟨G', 0, none⟩) ac.length cp' ∧ i = .int .i64 j ∧ BP X (A + 1) acc2 xs g j ac G' cp' wr) (fun _ i _ => 1 - (Lib.intOf i).toNat)
  case atStart => exact ⟨0, _, _, _, by rw [HL2.out], rfl, BP0.out⟩
  case round =>
    obtain ⟨j, G', cp', ac, rfl, rfl, hR⟩ := hrel
    have HR := Lib.hid hR
    have hle := hR.le
    rw [HXL.out] at hle
    have wj : wrap64 ((j : Int) + 1) = (j : Int) + 1 := IntWalk.wrap64_in _ (by omega)
    by_cases hj : j < 1
    · have k0 : (0 : Int) ≤ (j : Int) := by omega
      have k1 : (j : Int) < 1 := by omega
      have k2 : ((j : Int) < 1) = True := eq_true k1
      have c := hR.cell (by rw [HXL.out]; exact hj)
      have hx := HXB.out j
      obtain ⟨x, hxe⟩ : ∃ x, x = xs.getD j ⟨#[]⟩ := ⟨_, rfl⟩
      rw [← hxe] at c hx
      have su : IntKind.u64.wrap (x.size : Int) = (x.size : Int) := IntWalk.u64_in _ (by omega)
      have HXE := Lib.hid hxe
      have HJ := Lib.hid hj
      have HXX := Lib.hid hx
      clear hR hle hj hx hxe
      go_wp2_with fail
      (with_reducible refine (NL.out _ x HXX.out).mono ?_)
      rintro e V1 ⟨o1, a1, q1, rfl, own1⟩
      rw [leb_len] at own1 ⊢
      have hb1 : ac.length ≤ 10000000 := by have := HR.out.len; have := HJ.out; omega
      obtain ⟨H1, s1, Y1, hap1, hp1, oc1⟩ := PR_add HR.out.pr HXS.out o1 own1 (leb_len _ _) hb1 (by decide)
      have hb2 : 0 < (ac ++ leb 2 x.size).length ∧ (ac ++ leb 2 x.size).length ≤ 10000000 := by
        rw [List.length_append, leb_len]
        have := HR.out.len
        have := HJ.out
        omega
      obtain ⟨bc, hbc⟩ : ∃ l, l = ac ++ leb 2 x.size := ⟨_, rfl⟩
      rw [← hbc] at hap1 hp1 hb2
      have HBC := Lib.hid hbc
      have HAPa := Lib.hid hap1
      obtain ⟨H2, s2, Y2, hap2, hp2, oc2⟩ := PR_puts hp1 HXS.out hb2.1 hb2.2 (s := x) (by have := HXX.out; omega)
      obtain ⟨cc, hcc⟩ : ∃ l, l = bc ++ x.data.toList := ⟨_, rfl⟩
      rw [← hcc] at hap2 hp2
      have HCC := Lib.hid hcc
      have HAPb := Lib.hid hap2
      obtain ⟨cur, fr, ty⟩ := own_type HR.out.pr.own
      have hne : g ≠ G' := by
        intro e
        have tb := HR.out.tb
        rw [e] at tb
        rw [tb] at ty
        simp at ty
      obtain ⟨cur1, fr1, ty1⟩ := own_type hp1.own
      have tb0 := Only.keep o1 HR.out.tb (fun h => h)
      have tb1 := Only.keep oc1 tb0 hne
      have hne1 : g ≠ H1 := by
        intro e
        rw [e] at tb1
        rw [tb1] at ty1
        simp at ty1
      have tb2 := Only.keep oc2 tb1 hne1
      have cY : Y1.cell? ⟨g, j, none⟩ = some (.string x) := by
        have hj := HJ.out
        have := HXL.out
        rw [HXE.out]
        simp [World.cell?, tb1, this, hj]
      have TN := Lib.hid (show BP X (A + 1) acc2 xs g (j + 1) cc H2 s2 Y2 from ⟨hp2, tb2, by
        have hj := HJ.out
        rw [HCC.out, HBC.out, HR.out.eq, List.take_add_one, List.flatMap_append, HXE.out]
        have e : xs[j]? = some (xs.getD j ⟨#[]⟩) := by rw [List.getD_eq_getElem?_getD, List.getElem?_eq_getElem (by rw [HXL.out]; exact hj)]; rfl
        rw [e]
        simp [textB], by rw [HXL.out]; exact HJ.out, by
        have h1 := HR.out.len
        have h2 := HXX.out
        rw [HCC.out, HBC.out, List.length_append, List.length_append, leb_len, tl_size]
        omega⟩)
      clear hap1 hp1 oc1 hap2 hp2 oc2 o1 own1 hb1 hb2 ty ty1 hne hne1 tb0 tb1 tb2 hbc hcc
      go_wp2_with (first | (at_builtin; refine Lib.wpList_append_run _ rfl (.tmp 44) (.tmp 51) 24 24 rfl _ _ rfl rfl _ _ HAPa.out ?_) | (at_builtin; refine Lib.wpList_append_run _ rfl (.tmp 53) (.tmp 57) 24 9 rfl _ _ rfl rfl _ _ HAPb.out ?_))
      go_roundw
      case rel => exact ⟨j + 1, H2, s2, _, rfl, by first | rfl | (rw [wj]; rfl), TN.out⟩
      case measure =>
        try rw [wj]
        have := HJ.out
        simp only [Lib.intOf]
        omega
    · obtain rfl : j = 1 := by omega
      clear hj
      go_wp2_with fail
      go_ret
      obtain rfl : ac = printM m := by rw [HR.out.eq, List.take_of_length_le (by rw [HXL.out]; exact Nat.le_refl _), HE0.out]
      exact ⟨Only.old ((OX.out.mono fun _ h => h.elim).trans (HR.out.pr.only.mono fun k h => by have := HAE.out; omega)), _, _, rfl, ownb_base HR.out.pr.own (by have := HAE.out; omega)⟩


end Go.Proofs.Ytbjnejnjlidiaaa.wrY
