/- Wire: Terms. -/
import Derived.Test.YtbjnejnjlidiaaaWrA
import Derived.Test.YtbjnejnjlidiaaaTrE
import Derived.Test.YtbjnejnjlidiaaaPrX
import Derived.Test.YtbjnejnjlidiaaaTsJ
import Derived.Test.YtbjnejnjlidiaaaTsF
namespace Go.Proofs.Ytbjnejnjlidiaaa.wrE
open Go.RowKit kit numA numC numD tmA tmD trA trB prR prS wrA wrB wrC wrD
set_option linter.unusedVariables false
set_option linter.unusedSimpArgs false

theorem put1 {w : World} {base : Nat} {v : Value} {acc : List Txt} (own : w.ownsRow base 9 1 v acc.length (acc.map sv)) (hb : base ≤ w.heap.size) (hk : acc.length ≤ 1000000) (b : ByteArray) :
    ∃ g cp w', (Builtin.append_ #[25, 25] 25 #[v, .slice (some ⟨w.heap.size, 0, none⟩) 1 1]).run Try.prog (w.alloc (.cells #[.string b] 9)) = .ok (.slice (some ⟨g, 0, none⟩) (acc.length + 1 : Nat) cp) w' ∧ w'.ownsRow base 9 1 (.slice (some ⟨g, 0, none⟩) (acc.length + 1 : Nat) cp) (acc.length + 1) ((acc ++ [b.data.toList]).map sv) ∧ ∀ w0, Only (fun k => base ≤ k) w0 w → Only (fun k => base ≤ k) w0 w' := by
  obtain ⟨i0, hi0, hz0, hz1, hz2⟩ := trC.info_parts trC.info9
  have oA : Only (fun _ => False) w (w.alloc (.cells #[.string b] 9)) := (Only.refl (fun _ => False) w).alloc _
  have own' := trC.owns_keep own oA
  have hh := heap_alloc_new w (.cells #[.string b] 9)
  have hs : (w.alloc (.cells #[.string b] 9)).heap.size = w.heap.size + 1 := World.size_alloc _ _
  obtain ⟨g, cp, w', hrun, hown, hg, hat, _⟩ := run_append_lies (P := Try.prog) (w.alloc (.cells #[.string b] 9)) 25 25 base 9 i0 _ 1 16 Try.underlying25 hi0 hz0 hz1 hz2 rfl (by omega) v acc.length (acc.map sv) own' ⟨w.heap.size, 0, none⟩ 1 1 [.string b] rfl (fun j u hj => by
    rw [Addr.add_lit, cell_of hh, Nat.zero_add]
    simpa using hj) (fun u hu => by simp at hu; rcases hu with rfl; rfl) (by omega) (by unfold maxLen; omega) (by omega) (by omega) _ rfl
  refine ⟨g, cp, w', hrun, ?_, fun w0 o0 => ((o0.trans (oA.mono fun _ h => h.elim))).trans ((Only.refl _ _).grown hg fun q hq => ?_)⟩
  · rw [List.map_append]
    exact hown
  · exact (own'.lt q hq.symm.symm).1

/-- The texts of fields. -/
def txt (m : Msg) (fs : List Fl) : List Txt := fs.filterMap fun f => match f with | .t i => some (m.t i).data.toList | _ => none
def termsOf (m : Msg) : List Txt := txt m (goodF m)

structure TR (W : World) (m : Msg) (fs : List Fl) (j : Nat) (acc : List Txt) (v : Value) (wr : World) : Prop where
  le : j ≤ fs.length
  only : Only (fun k => W.heap.size ≤ k) W wr
  own : wr.ownsRow W.heap.size 9 1 v acc.length (acc.map sv)
  eq : acc = txt m (fs.take j)
  len : acc.length ≤ j

theorem txt_succ {m : Msg} {fs : List Fl} {j : Nat} {f : Fl} (hj : fs[j]? = some f) : txt m (fs.take (j + 1)) = txt m (fs.take j) ++ txt m [f] := by
  unfold txt
  rw [List.take_add_one, hj, List.filterMap_append]
  rfl
theorem TR_skip {W wr w' : World} {m : Msg} {fs : List Fl} {j : Nat} {f : Fl} {acc : List Txt} {v : Value} (h : TR W m fs j acc v wr) (hj : fs[j]? = some f) (ht : txt m [f] = []) (o : Only (fun _ => False) wr w') : TR W m fs (j + 1) acc v w' :=
  ⟨(List.getElem?_eq_some_iff.1 hj).1, h.only.trans (o.mono fun _ h => h.elim), trC.owns_keep h.own o, by rw [txt_succ hj, ht, List.append_nil]; exact h.eq, by have := h.len; omega⟩
theorem TR_move {W wr X : World} {m : Msg} {fs : List Fl} {j : Nat} {acc : List Txt} {v : Value} (h : TR W m fs j acc v wr) (o : Only (fun _ => False) wr X) : TR W m fs j acc v X := ⟨h.le, h.only.trans (o.mono fun _ h => h.elim), trC.owns_keep h.own o, h.eq, h.len⟩
theorem TR_put {W wr w' : World} {m : Msg} {fs : List Fl} {j i : Nat} {acc : List Txt} {v v' : Value} (h : TR W m fs j acc v wr) (hj : fs[j]? = some (.t i)) (own : w'.ownsRow W.heap.size 9 1 v' (acc.length + 1) ((acc ++ [(m.t i).data.toList]).map sv)) (o : ∀ w0, Only (fun k => W.heap.size ≤ k) w0 wr → Only (fun k => W.heap.size ≤ k) w0 w') : TR W m fs (j + 1) (acc ++ [(m.t i).data.toList]) v' w' :=
  ⟨(List.getElem?_eq_some_iff.1 hj).1, o W h.only, by rw [List.length_append]; exact own, by rw [txt_succ hj, ← h.eq]; rfl, by have := h.len; rw [List.length_append, List.length_singleton]; omega⟩

def Lists (w : World) (l : List Txt) (e : Ending) (w' : World) : Prop := Only (fun _ => False) w w' ∧ ∃ a c, e = .returned (.slice a l.length c) ∧ l.length ≤ c ∧ c ≤ maxLen ∧ Sl w' (fun k => w.heap.size ≤ k) (.slice a l.length c) (l.map sv)

theorem own_cap {w : World} {base : Nat} {v : Value} {n : Nat} {xs : List Value} (h : w.ownsRow base 9 1 v n xs) : ∃ a c, v = .slice a n c ∧ n ≤ c ∧ c ≤ maxLen := by
  rcases h.2 with ⟨rfl, rfl⟩ | ⟨g, cap, cur, rfl, _, _, hc, hm, _⟩
  · exact ⟨none, 0, rfl, Nat.le_refl _, Nat.zero_le _⟩
  · exact ⟨_, cap, rfl, hc, hm⟩

theorem goodF_len (m : Msg) : (goodF m).length ≤ 6 := by
  unfold goodF
  split
  · exact rowOf_len m.k
  · exact Nat.zero_le _

set_option maxRecDepth 100000 in
set_option maxHeartbeats 3200000 in
theorem terms_any (m : Msg) (w : World) (ht : ∀ i, (m.t i).size ≤ 100000000) : Calls Try.prog 57 #[mval m] w (Lists w (termsOf m)) := by
  have HA := Lib.hid (show MsgAt (w.alloc (.cells m.row 61)) w.heap.size m from heap_alloc_new w _)
  have oW := Lib.hid (show Only (fun _ => False) w (w.alloc (.cells m.row 61)) from (Only.refl _ w).alloc _)
  have CR := Lib.hid (right_any m (w.alloc (.cells m.row 61)) ht)
  obtain ⟨d0, d1, d2, d3, d4, d5, d6, d7, d8, d9, d10, d11, d12⟩ := MsgAt.cells HA.out
  simp only [mval, Msg.row] at CR d0 d1 d2 d3 d4 d5 d6 d7 d8 d9 d10 d11 d12
  unfold mval
  clear ht
  go_enter Try.func57, Try.ntmps57
  go_wp2_with fail
  (with_reducible refine CR.out.mono ?_)
  rintro e W2 ⟨o, v, rfl, hv⟩
  obtain ⟨a, cap, rfl⟩ := hv.len
  obtain ⟨fs, hfs⟩ : ∃ fs, fs = goodF m := ⟨_, rfl⟩
  have O2 := Lib.hid (show Only (fun _ => False) (w.alloc (.cells m.row 61)) W2 from o)
  have HA2 := Lib.hid (MsgAt.keep HA.out O2.out id)
  have HV := Lib.hid hv
  have hlt := MsgAt.lt HA2.out
  clear o hv CR d0 d1 d2 d3 d4 d5 d6 d7 d8 d9 d10 d11 d12
  rw [← hfs] at HV ⊢
  have HFS := Lib.hid hfs
  clear hfs
  go_wp2_with fail
  have TH0 := Lib.hid (show TR W2 m fs 0 [] (.slice none 0 0) W2 from ⟨Nat.zero_le _, Only.refl _ W2, ⟨rfl, .inl ⟨rfl, rfl⟩⟩, by simp [txt], Nat.le_refl _⟩)
  obtain ⟨A, hA⟩ : ∃ A, A = w.heap.size := ⟨_, rfl⟩
  rw [← hA] at HA HA2 hlt ⊢
  have HAE := Lib.hid hA
  clear hA
  go_loopw [3, 5, 9] (fun v' _ i wr => ∃ (j : Nat) (acc : List Txt) (v : Value), v' = v ∧ i = .int .i64 j ∧ TR W2 m fs j acc v wr) (fun _ _ i _ => fs.length - (Lib.intOf i).toNat)
  case atStart => exact ⟨0, [], _, rfl, rfl, TH0.out⟩
  case round =>
    obtain ⟨j, acc, v, rfl, rfl, hR⟩ := hrel
    have TH := Lib.hid hR
    have wj : wrap64 ((j : Int) + 1) = (j : Int) + 1 := IntWalk.wrap64_in _ (by have := hR.le; have := goodF_len m; rw [← HFS.out] at this; omega)
    have HAr := Lib.hid (MsgAt.keep HA2.out hR.only (by omega))
    by_cases hj : j < fs.length
    · have HVr := Lib.hid (RowV.above HV.out hR.only)
      obtain ⟨f, hf⟩ : ∃ f, fs[j]? = some f := ⟨_, List.getElem?_eq_getElem hj⟩
      obtain ⟨g, o, rfl, hg, hcap, hF⟩ := RowV.at HVr.out hf
      have k0 : (0 : Int) ≤ (j : Int) := by omega
      have k1 : (j : Int) < (fs.length : Int) := by omega
      have k1' : ((j : Int) < (fs.length : Int)) = True := eq_true k1
      have HJ := Lib.hid hj
      have hok : okFl f := rowOf_ok m.k f (by
        have h := List.mem_of_getElem? hf
        rw [HFS.out] at h
        unfold goodF at h
        split at h
        · exact h
        · simp at h)
      have HFJ := Lib.hid hf
      obtain ⟨b, ⟨f0, f1, f2, f3⟩, hbx⟩ := hF
      clear hf hR hj hbx
      cases f with
      | t i =>
        obtain ⟨h4, h12⟩ := hok
        have f0' : wr.cell? ⟨g, o + j * 4, none⟩ = some (.int .i64 0) := f0
        have f1' : wr.cell? ⟨g, o + j * 4 + 1, none⟩ = some (.nilFunc) := f1
        have f2' : wr.cell? ⟨g, o + j * 4 + 2, none⟩ = some (.nilFunc) := f2
        have f3' : wr.cell? ⟨g, o + j * 4 + 3, none⟩ = some (.func (.func (fnT i)) #[] #[]) := f3
        have hcf := enter_text i
        have TA := Lib.hid (fun W => text_any i h4 h12 A W)
        obtain ⟨X, hX⟩ : ∃ X, X = wr.alloc (.cells #[.int .i64 0, .nilFunc, .nilFunc, .func (.func (fnT i)) #[] #[]] 155) := ⟨_, rfl⟩
        have oX : Only (fun _ => False) wr X := by rw [hX]; exact (Only.refl _ wr).alloc _
        have HAX := Lib.hid (MsgAt.keep HAr.out oX id)
        have cA := MsgAt.text HAX.out h4 h12
        have TX := Lib.hid (TR_move TH.out oX)
        obtain ⟨G, cp, W4, hap, own4, on4⟩ := put1 TX.out.own TX.out.only.size (by have := TH.out.len; have := TH.out.le; have := goodF_len m; rw [← HFS.out] at this; omega) (m.t i)
        have TN := Lib.hid (TR_put TX.out HFJ.out own4 on4)
        have HX := Lib.hid hX
        have HAP := Lib.hid hap
        clear f0 f1 f2 f3 oX hX own4 on4 hap
        go_wp2_with fail
        (with_reducible refine (TA.out _).mono ?_)
        rintro e x ⟨rfl, hx⟩
        obtain rfl := hx
        rw [← HX.out]
        go_wp2_with (at_builtin; refine Lib.wpList_append_run _ rfl (.tmp 16) (.tmp 22) 25 25 rfl _ _ rfl rfl _ _ HAP.out ?_)
        go_roundw
        case rel => exact ⟨j + 1, _, _, rfl, by rw [wj]; rfl, TN.out⟩
        case measure =>
          rw [wj]
          have := HJ.out
          simp only [Lib.intOf]
          omega
      | n i =>
        have f0' : wr.cell? ⟨g, o + j * 4, none⟩ = some (.int .i64 4) := f0
        have f1' : wr.cell? ⟨g, o + j * 4 + 1, none⟩ = some (.func (.func 215) #[] #[.pointer (some ⟨b, 0, none⟩)]) := f1
        have f2' : wr.cell? ⟨g, o + j * 4 + 2, none⟩ = some (.func (.func 216) #[] #[.pointer (some ⟨b, 0, none⟩)]) := f2
        have f3' : wr.cell? ⟨g, o + j * 4 + 3, none⟩ = some (.nilFunc) := f3
        obtain ⟨X, hX⟩ : ∃ X, X = wr.alloc (.cells #[.int .i64 4, .func (.func 215) #[] #[.pointer (some ⟨b, 0, none⟩)], .func (.func 216) #[] #[.pointer (some ⟨b, 0, none⟩)], .nilFunc] 155) := ⟨_, rfl⟩
        have oX : Only (fun _ => False) wr X := by rw [hX]; exact (Only.refl _ wr).alloc _
        have OX := Lib.hid oX
        have HX := Lib.hid hX
        clear oX hX f0 f1 f2 f3
        go_wp2_with fail
        rw [← HX.out]
        go_roundw
        case rel => exact ⟨j + 1, acc, _, rfl, by rw [wj]; rfl, TR_skip TH.out HFJ.out rfl OX.out⟩
        case measure =>
          rw [wj]
          have := HJ.out
          simp only [Lib.intOf]
          omega

      | c =>
        have f0' : wr.cell? ⟨g, o + j * 4, none⟩ = some (.int .i64 8) := f0
        have f1' : wr.cell? ⟨g, o + j * 4 + 1, none⟩ = some (.func (.func 188) #[] #[]) := f1
        have f2' : wr.cell? ⟨g, o + j * 4 + 2, none⟩ = some (.func (.func 189) #[] #[]) := f2
        have f3' : wr.cell? ⟨g, o + j * 4 + 3, none⟩ = some (.nilFunc) := f3
        obtain ⟨X, hX⟩ : ∃ X, X = wr.alloc (.cells #[.int .i64 8, .func (.func 188) #[] #[], .func (.func 189) #[] #[], .nilFunc] 155) := ⟨_, rfl⟩
        have oX : Only (fun _ => False) wr X := by rw [hX]; exact (Only.refl _ wr).alloc _
        have OX := Lib.hid oX
        have HX := Lib.hid hX
        clear oX hX f0 f1 f2 f3
        go_wp2_with fail
        rw [← HX.out]
        go_roundw
        case rel => exact ⟨j + 1, acc, _, rfl, by rw [wj]; rfl, TR_skip TH.out HFJ.out rfl OX.out⟩
        case measure =>
          rw [wj]
          have := HJ.out
          simp only [Lib.intOf]
          omega

    · obtain rfl : j = fs.length := by have := hR.le; omega
      have j1 : ((fs.length : Int) < (fs.length : Int)) = False := eq_false (by omega)
      have HQ := Lib.hid (show acc = termsOf m from by rw [hR.eq, List.take_length, HFS.out]; rfl)
      clear hR hj
      go_wp2_with fail
      go_ret
      have hlt' := HAE.out
      obtain ⟨a, c, rfl, hc1, hc2⟩ := own_cap TH.out.own
      refine ⟨(oW.out.trans O2.out).trans (Only.old TH.out.only), a, c, by rw [← HQ.out]; rfl, by rw [← HQ.out]; exact hc1, hc2, ?_⟩
      rw [← HQ.out]
      exact (trE.own_sl (NB := A) (prS.owns_base TH.out.own (by omega))).mono fun k hk => by rw [← HAE.out]; omega
end Go.Proofs.Ytbjnejnjlidiaaa.wrE
namespace Go.Proofs.Ytbjnejnjlidiaaa.wrF
open Go.RowKit kit numA numC numD tmA tmD trA trB prR prS prW prX wrA wrB wrC wrD wrE
set_option linter.unusedVariables false
set_option linter.unusedSimpArgs false

/-- The text of a number. -/
def numT (n : Int) : Txt := mkI 3 n.toNat [] []

theorem number_any (n : Int) (w : World) (h0 : 0 ≤ n) (h1 : n ≤ (most : Nat)) : Calls Try.prog 119 #[.int .u64 n] w (Made w (numT n)) := by
  obtain ⟨N, rfl⟩ := Int.eq_ofNat_of_zero_le h0
  have CM := Lib.hid (make_any 3 N [] [] (fun _ => False) (fun _ => False) (.slice none 0 0) (.slice none 0 0) w (by omega) (sl_nil _ _) (Nat.zero_le _) (sl_nil _ _) (by simp) (Nat.zero_le _))
  clear h0 h1
  go_enter Try.func119, Try.ntmps119
  go_wp2_with fail
  (with_reducible refine CM.out.mono ?_)
  rintro e w2 ⟨o, rfl⟩
  have O := Lib.hid o
  clear o
  go_wp2_with fail
  go_ret
  exact ⟨O.out, rfl⟩

end Go.Proofs.Ytbjnejnjlidiaaa.wrF
namespace Go.Proofs.Ytbjnejnjlidiaaa.wrG
open Go.RowKit kit numA numC numD tmA tmD trA trB prR prS prW prX wrA wrB wrC wrD wrE wrF
set_option linter.unusedVariables false
set_option linter.unusedSimpArgs false

/-- The texts of a kind. -/
def rtexts (m : Msg) : List ByteArray := if m.k = 1 then [m.t 4, m.t 5, m.t 6, m.t 11, m.t 12] else if m.k = 2 then [m.t 4, m.t 7, m.t 11, m.t 12] else if m.k = 3 then [m.t 8, m.t 9] else if m.k = 4 then [m.t 10] else []
def rterms (m : Msg) : List Txt := (rtexts m).map (·.data.toList)

theorem lists_new {w : World} {o : Obj} (xs : List ByteArray) (hl : xs.length ≤ 1000) (e : Ending) (he : e = .returned (.slice (some ⟨w.heap.size + 1, 0, none⟩) xs.length xs.length)) : Lists w (xs.map (·.data.toList)) e ((w.alloc o).alloc (.cells (xs.map Value.string).toArray 9)) := by
  refine ⟨((Only.refl _ w).alloc _).alloc _, some ⟨w.heap.size + 1, 0, none⟩, xs.length, by rw [he, List.length_map], by rw [List.length_map]; exact Nat.le_refl _, by unfold maxLen; omega, ?_⟩
  have h := sl_strs (w.alloc o) xs hl
  rw [World.size_alloc] at h
  rw [List.length_map]
  exact h.mono fun k hk => by omega

set_option maxRecDepth 100000 in
theorem refterms_1 (m : Msg) (hk : m.k = 1) (w : World) : Calls Try.prog 62 #[mval m] w (Lists w (rterms m)) := by
  have HA := Lib.hid (show MsgAt (w.alloc (.cells m.row 61)) w.heap.size m from heap_alloc_new w _)
  obtain ⟨d0, d1, d2, d3, d4, d5, d6, d7, d8, d9, d10, d11, d12⟩ := MsgAt.cells HA.out
  simp only [Msg.row] at d0 d1 d2 d3 d4 d5 d6 d7 d8 d9 d10 d11 d12
  have c1 : (m.k == 1) = true := by rw [beq_iff_eq]; omega
  have HR := Lib.hid (show rterms m = ([m.t 4, m.t 5, m.t 6, m.t 11, m.t 12] : List ByteArray).map (·.data.toList) from by unfold rterms; rw [rtexts, if_pos hk])
  unfold mval
  clear hk
  go_enter Try.func62, Try.ntmps62
  go_wp2_with fail
  go_ret
  rw [HR.out]
  exact lists_new [m.t 4, m.t 5, m.t 6, m.t 11, m.t 12] (by simp) _ rfl

set_option maxRecDepth 100000 in
theorem refterms_2 (m : Msg) (hk : m.k = 2) (w : World) : Calls Try.prog 62 #[mval m] w (Lists w (rterms m)) := by
  have HA := Lib.hid (show MsgAt (w.alloc (.cells m.row 61)) w.heap.size m from heap_alloc_new w _)
  obtain ⟨d0, d1, d2, d3, d4, d5, d6, d7, d8, d9, d10, d11, d12⟩ := MsgAt.cells HA.out
  simp only [Msg.row] at d0 d1 d2 d3 d4 d5 d6 d7 d8 d9 d10 d11 d12
  have c1 : (m.k == 1) = false := by rw [beq_eq_false_iff_ne]; omega
  have c2 : (m.k == 2) = true := by rw [beq_iff_eq]; omega
  have HR := Lib.hid (show rterms m = ([m.t 4, m.t 7, m.t 11, m.t 12] : List ByteArray).map (·.data.toList) from by unfold rterms; rw [rtexts, if_neg (by omega), if_pos hk])
  unfold mval
  clear hk
  go_enter Try.func62, Try.ntmps62
  go_wp2_with fail
  go_ret
  rw [HR.out]
  exact lists_new [m.t 4, m.t 7, m.t 11, m.t 12] (by simp) _ rfl

set_option maxRecDepth 100000 in
theorem refterms_3 (m : Msg) (hk : m.k = 3) (w : World) : Calls Try.prog 62 #[mval m] w (Lists w (rterms m)) := by
  have HA := Lib.hid (show MsgAt (w.alloc (.cells m.row 61)) w.heap.size m from heap_alloc_new w _)
  obtain ⟨d0, d1, d2, d3, d4, d5, d6, d7, d8, d9, d10, d11, d12⟩ := MsgAt.cells HA.out
  simp only [Msg.row] at d0 d1 d2 d3 d4 d5 d6 d7 d8 d9 d10 d11 d12
  have c1 : (m.k == 1) = false := by rw [beq_eq_false_iff_ne]; omega
  have c2 : (m.k == 2) = false := by rw [beq_eq_false_iff_ne]; omega
  have c3 : (m.k == 3) = true := by rw [beq_iff_eq]; omega
  have HR := Lib.hid (show rterms m = ([m.t 8, m.t 9] : List ByteArray).map (·.data.toList) from by unfold rterms; rw [rtexts, if_neg (by omega), if_neg (by omega), if_pos hk])
  unfold mval
  clear hk
  go_enter Try.func62, Try.ntmps62
  go_wp2_with fail
  go_ret
  rw [HR.out]
  exact lists_new [m.t 8, m.t 9] (by simp) _ rfl

set_option maxRecDepth 100000 in
theorem refterms_4 (m : Msg) (hk : m.k = 4) (w : World) : Calls Try.prog 62 #[mval m] w (Lists w (rterms m)) := by
  have HA := Lib.hid (show MsgAt (w.alloc (.cells m.row 61)) w.heap.size m from heap_alloc_new w _)
  obtain ⟨d0, d1, d2, d3, d4, d5, d6, d7, d8, d9, d10, d11, d12⟩ := MsgAt.cells HA.out
  simp only [Msg.row] at d0 d1 d2 d3 d4 d5 d6 d7 d8 d9 d10 d11 d12
  have c1 : (m.k == 1) = false := by rw [beq_eq_false_iff_ne]; omega
  have c2 : (m.k == 2) = false := by rw [beq_eq_false_iff_ne]; omega
  have c3 : (m.k == 3) = false := by rw [beq_eq_false_iff_ne]; omega
  have c4 : (m.k == 4) = true := by rw [beq_iff_eq]; omega
  have HR := Lib.hid (show rterms m = ([m.t 10] : List ByteArray).map (·.data.toList) from by unfold rterms; rw [rtexts, if_neg (by omega), if_neg (by omega), if_neg (by omega), if_pos hk])
  unfold mval
  clear hk
  go_enter Try.func62, Try.ntmps62
  go_wp2_with fail
  go_ret
  rw [HR.out]
  exact lists_new [m.t 10] (by simp) _ rfl

set_option maxRecDepth 100000 in
theorem refterms_5 (m : Msg) (hk : m.k < 1 ∨ 4 < m.k) (w : World) : Calls Try.prog 62 #[mval m] w (Lists w (rterms m)) := by
  have HA := Lib.hid (show MsgAt (w.alloc (.cells m.row 61)) w.heap.size m from heap_alloc_new w _)
  obtain ⟨d0, d1, d2, d3, d4, d5, d6, d7, d8, d9, d10, d11, d12⟩ := MsgAt.cells HA.out
  simp only [Msg.row] at d0 d1 d2 d3 d4 d5 d6 d7 d8 d9 d10 d11 d12
  have c1 : (m.k == 1) = false := by rw [beq_eq_false_iff_ne]; omega
  have c2 : (m.k == 2) = false := by rw [beq_eq_false_iff_ne]; omega
  have c3 : (m.k == 3) = false := by rw [beq_eq_false_iff_ne]; omega
  have c4 : (m.k == 4) = false := by rw [beq_eq_false_iff_ne]; omega
  have HR := Lib.hid (show rterms m = ([] : List ByteArray).map (·.data.toList) from by unfold rterms; rw [rtexts, if_neg (by omega), if_neg (by omega), if_neg (by omega), if_neg (by omega)])
  unfold mval
  clear hk
  go_enter Try.func62, Try.ntmps62
  go_wp2_with fail
  go_ret
  rw [HR.out]
  exact ⟨(Only.refl _ w).alloc _, none, 0, rfl, Nat.le_refl _, Nat.zero_le _, sl_nil _ _⟩

theorem refterms_any (m : Msg) (w : World) : Calls Try.prog 62 #[mval m] w (Lists w (rterms m)) := by
  by_cases h : m.k < 1 ∨ 4 < m.k
  · exact refterms_5 m h w
  have e : m.k = 1 ∨ m.k = 2 ∨ m.k = 3 ∨ m.k = 4 := by omega
  rcases e with e | e | e | e
  · exact refterms_1 m e w
  · exact refterms_2 m e w
  · exact refterms_3 m e w
  · exact refterms_4 m e w

theorem refnumber_any (n : Int) (w : World) (h0 : 0 ≤ n) (h1 : n ≤ (most : Nat)) : Calls Try.prog 125 #[.int .u64 n] w (Made w (numT n)) := by
  obtain ⟨N, rfl⟩ := Int.eq_ofNat_of_zero_le h0
  have CM := Lib.hid (tsF.refmake_any 3 N [] [] (fun _ => False) (fun _ => False) (.slice none 0 0) (.slice none 0 0) w (by omega) (sl_nil _ _) (Nat.zero_le _) (sl_nil _ _) (Nat.zero_le _) (Nat.zero_le _))
  clear h0 h1
  go_enter Try.func125, Try.ntmps125
  go_wp2_with fail
  (with_reducible refine CM.out.mono ?_)
  rintro e w2 ⟨o, rfl⟩
  have O := Lib.hid o
  clear o
  go_wp2_with fail
  go_ret
  exact ⟨O.out, rfl⟩

end Go.Proofs.Ytbjnejnjlidiaaa.wrG
