/- Addresses: the text of four bytes. -/
import Derived.Test.YtokbaknckagfmaaAdI
import Derived.Test.YtokbaknckagfmaaRgA
import Derived.Test.YtokbaknckagfmaaShJ
namespace Go.Proofs.Ytokbaknckagfmaa.adJ
open Go.RowKit kit numA numB numC numD shJ adA adB adC adD adE adF adG adI
set_option linter.unusedVariables false
set_option linter.unusedSimpArgs false

def sv (p : Txt) : Value := .string ⟨p.toArray⟩
theorem info9 : (Try.prog.info? 9).map (fun i => (i.zero, i.size, i.bytes)) = some (some (.string ⟨#[]⟩), 1, 16) := by kernel_rfl
theorem owns_keep {w w' : World} {base : Nat} {e : TypeId} {size : Nat} {v : Value} {n : Nat} {xs : List Value} (h : w.ownsRow base e size v n xs) (o : Only (fun _ => False) w w') : w'.ownsRow base e size v n xs := by
  refine ⟨h.1, ?_⟩
  rcases h.2 with h0 | ⟨g, cap, cur, hv, hb, hg, r⟩
  · exact .inl h0
  · exact .inr ⟨g, cap, cur, hv, hb, o.keep hg id, r⟩

theorem put1 {w : World} {base : Nat} {v : Value} {acc : List Txt} (own : w.ownsRow base 9 1 v acc.length (acc.map sv)) (hb : base ≤ w.heap.size) (hk : acc.length ≤ 1000000) (b : ByteArray) :
    ∃ g cp w', (Builtin.append_ #[48, 48] 48 #[v, .slice (some ⟨w.heap.size, 0, none⟩) 1 1]).run Try.prog (w.alloc (.cells #[.string b] 9)) = .ok (.slice (some ⟨g, 0, none⟩) (acc.length + 1 : Nat) cp) w' ∧ w'.ownsRow base 9 1 (.slice (some ⟨g, 0, none⟩) (acc.length + 1 : Nat) cp) (acc.length + 1) ((acc ++ [b.data.toList]).map sv) ∧ ∀ w0, Only (fun k => base ≤ k) w0 w → Only (fun k => base ≤ k) w0 w' := by
  obtain ⟨i0, hi0, hz0, hz1, hz2⟩ := info_parts info9
  have oA : Only (fun _ => False) w (w.alloc (.cells #[.string b] 9)) := (Only.refl (fun _ => False) w).alloc _
  have own' := owns_keep own oA
  have hh := heap_alloc_new w (.cells #[.string b] 9)
  have hs : (w.alloc (.cells #[.string b] 9)).heap.size = w.heap.size + 1 := World.size_alloc _ _
  obtain ⟨g, cp, w', hrun, hown, hg, hat, _⟩ := run_append_lies (P := Try.prog) (w.alloc (.cells #[.string b] 9)) 48 48 base 9 i0 _ 1 16 Try.underlying48 hi0 hz0 hz1 hz2 rfl (by omega) v acc.length (acc.map sv) own' ⟨w.heap.size, 0, none⟩ 1 1 [.string b] rfl (fun j u hj => by
    rw [Addr.add_lit, cell_of hh, Nat.zero_add]
    simpa using hj) (fun u hu => by simp at hu; rcases hu with rfl; rfl) (by omega) (by unfold maxLen; omega) (by omega) (by omega) _ rfl
  refine ⟨g, cp, w', hrun, ?_, fun w0 o0 => ((o0.trans (oA.mono fun _ h => h.elim))).trans ((Only.refl _ _).grown hg fun q hq => ?_)⟩
  · rw [List.map_append]
    exact hown
  · exact (own'.lt q hq.symm.symm).1

def decs (l : Txt) : List Txt := l.map fun x => dec x.toNat
theorem decs_step (l : Txt) (k : Nat) (hk : k < l.length) : decs (l.take k) ++ [dec (l.getD k 0).toNat] = decs (l.take (k + 1)) := by
  unfold decs
  rw [take_snoc l k hk 0, List.map_append]
  rfl
theorem decs_len (l : Txt) : (decs l).length = l.length := by simp [decs]
theorem wrapN2 {n : Nat} (h : n ≤ 1000) : wrap64 ((n : Int) + 1) = (n : Int) + 1 := IntWalk.wrap64_in _ (by omega)
theorem at4 {k : Nat} (h1 : ¬ k < 4) (h2 : k ≤ 4) : k = 4 := by omega
theorem meas4 {k : Nat} (h : k < 4) (hw : wrap64 ((k : Int) + 1) = (k : Int) + 1) : 4 - (intOf (Value.int IntKind.i64 (wrap64 ((k : Int) + 1)))).toNat < 4 - (intOf (Value.int IntKind.i64 (k : Int))).toNat := by
  rw [hw]
  simp only [intOf]
  omega
theorem join_cell {w : World} {g n : Nat} {fr : Nat × Nat} {cur : Array Value} {l : List Txt} (hxx : List.take n cur.toList = l.map sv) (hhg : w.heap[g]? = some (.cells cur 9 fr)) (j : Nat) (x : ByteArray) (hj : (l.map fun t => (⟨t.toArray⟩ : ByteArray))[j]? = some x) : w.cell? ⟨g, 0 + j, none⟩ = some (.string x) := by
  rw [Nat.zero_add, cell_of hhg]
  rw [List.getElem?_map] at hj
  cases e : l[j]? with
  | none => rw [e] at hj; cases hj
  | some t =>
    rw [e] at hj
    obtain rfl : (⟨t.toArray⟩ : ByteArray) = x := by simpa using hj
    have h1 := congrArg (fun z => z[j]?) hxx
    simp only [List.getElem?_map, e, Option.map_some, List.getElem?_take] at h1
    split at h1
    · simpa [sv] using h1
    · cases h1
theorem map_back (l : List Txt) : (l.map (fun t => (⟨t.toArray⟩ : ByteArray))).map (·.data.toList) = l := by
  rw [List.map_map]
  exact List.map_id _
theorem join_small (l : Txt) (h : l.length = 4) : (Lib.join (((decs l).map (fun t => (⟨t.toArray⟩ : ByteArray))).map (·.data.toList)) (⟨#[46]⟩ : ByteArray).data.toList).length ≤ 140737488355328 := by
  match l, h with
  | [a, b, c, d], _ =>
    have e : ∀ x : UInt8, (dec x.toNat).length ≤ 20 := fun x => dec_len 19 _ (by have := UInt8.toNat_lt x; omega)
    have := e a
    have := e b
    have := e c
    have := e d
    simp [decs, Lib.join]
    omega
theorem keep1 {w w' : World} (o : Only (fun _ => False) w w') {B : Nat} (h : B < w.heap.size) : w'.cell? ⟨B, 0, none⟩ = w.cell? ⟨B, 0, none⟩ := World.cell?_of_block (w := w) (a := ⟨B, 0, none⟩) (o.block B h id)
theorem owns_set8 {w : World} {base : Nat} {e : TypeId} {size : Nat} {v : Value} {n : Nat} {xs : List Value} (h : w.ownsRow base e size v n xs) {B o : Nat} {u : Value} (hB : B < base) : (w.setCell ⟨B, o, none⟩ u).ownsRow base e size v n xs := by
  refine ⟨h.1, ?_⟩
  rcases h.2 with h0 | ⟨g, cap, cur, hv, hb, hg, r⟩
  · exact .inl h0
  · exact .inr ⟨g, cap, cur, hv, hb, (heap_other (by omega)).trans hg, r⟩
set_option maxRecDepth 100000 in
set_option maxHeartbeats 3200000 in
theorem print4 (S : Nat → Prop) (a : Option Addr) (c : Nat) (l : Txt) (w : World) (hs : Sl w S (.slice a 4 c) (U8 l)) (hl : l.length = 4) : Calls Try.prog 21 #[.slice a 4 c] w (numA.Told w (.tuple #[.string ⟨(Lib.join (decs l) [46]).toArray⟩, .int .i64 0])) := by
  obtain ⟨X, hX⟩ : ∃ X, X = w.alloc (.cells #[.slice none 0 0] 48) := ⟨_, rfl⟩
  obtain ⟨B, hB⟩ : ∃ A, A = w.heap.size := ⟨_, rfl⟩
  have O := Lib.hid (show Only (fun _ => False) w X from by rw [hX]; exact (Only.refl _ w).alloc _)
  have HK := Lib.hid (show X.heap[B]? = some (.cells #[.slice none 0 0] 48 (0, 0)) from by rw [hX, hB]; exact heap_alloc_new w _)
  have SA := Lib.hid (Sl.keep (T := fun _ => False) (show Sl w (fun x => x < B) (.slice a 4 c) (U8 l) from by rw [hB]; exact slt hs) O.out (fun _ _ h => h))
  have HX := Lib.hid hX
  have HBE := Lib.hid hB
  have HL := Lib.hid hl
  clear hX hB hs hl
  go_enter Try.func21, Try.ntmps21
  go_upto_region 2 with fail
  rw [← HX.out, ← HBE.out]
  go_wp2_with fail
  go_loopw [14] (fun i wr => ∃ (k : Nat) (v : Value), i = .int .i64 (k : Nat) ∧ k ≤ 4 ∧ wr.heap[B]? = some (.cells #[v] 48 (0, 0)) ∧ wr.ownsRow (B + 1) 9 1 v (decs (l.take k)).length ((decs (l.take k)).map sv) ∧ Only (fun x => B ≤ x) X wr) (fun i _ => 4 - (intOf i).toNat)
  case atStart => exact ⟨0, .slice none 0 0, rfl, by decide, HK.out, World.ownsRow_nil _ _ _ _, Only.refl _ _⟩
  case round =>
    obtain ⟨k, v, rfl, hk, hbk, how, ho⟩ := hrel
    have HBK := Lib.hid hbk
    have HOW := Lib.hid how
    have HO3 := Lib.hid ho
    have SA3 := Lib.hid (Sl.keep SA.out ho (fun x h h' => by omega))
    clear hbk how ho
    by_cases hk4 : k < 4
    · obtain ⟨g0, o0, rfl, xc⟩ := sl_u8 SA3.out (j := k) (by have := HL.out; omega)
      obtain ⟨X8, hX8⟩ : ∃ x, x = (l.getD k 0).toNat := ⟨_, rfl⟩
      rw [← hX8] at xc
      have hx8 : X8 < 256 := by rw [hX8]; exact UInt8.toNat_lt _
      have k1 : ((k : Int) < 4) = True := eq_true (by omega)
      have wk := wrapN2 (n := k) (by omega)
      have wu : IntKind.u64.wrap (X8 : Int) = (X8 : Int) := IntWalk.u64_in _ (by omega)
      have NP := Lib.hid (fun W => print_any X8 W (by unfold most; omega))
      have HST := Lib.hid (show decs (l.take k) ++ [dec X8] = decs (l.take (k + 1)) from by rw [hX8]; exact decs_step l k (by have := HL.out; omega))
      have HK4 := Lib.hid hk4
      have HXB := Lib.hid hx8
      clear hk4 hk hX8 hx8
      go_upto_region 7 with fail
      have D := Lib.hid ((Only.refl (fun _ => False) wr).drew)
      have x1 : wr.drew.cell? ⟨B, 0, none⟩ = some v := cell_of (Only.keep D.out HBK.out id)
      have HBX := Lib.hid (lt_of HBK.out)
      refine wp_region_held_drew (S := (fun _ => True)) (by kernel_rfl) ?_ (fun hHeld => ?_)
      · trivial
      refine rgA.tk 1 hHeld ?_
      refine rgA.tk 2 hHeld ?_
      refine wpAnyH_ready (rs := [0, 3]) (by kernel_rfl) (by simp) ?_
      refine AllReadyH.cons rfl (fun K hK => ?br1) (AllReadyH.cons rfl (fun K hK => ?br2) (AllReadyH.nil))
      case' br1 =>
        go_simp
        refine hK.out _ _ ?_ (fun hHeld => ?_)
        · trivial
        clear hK K
        try simp only [List.getElem_toArray, List.getElem_cons_succ, List.getElem_cons_zero, Act.put, List.setIfInBounds_toArray, List.set_cons_zero, List.set_cons_succ]
        refine rgA.rd 3 (fun K hK => ?_)
        go_simp
        (with_reducible refine (NP.out _).mono ?_)
        rintro e w7 ⟨rfl, o7⟩
        have y0 : w7.cell? ⟨B, 0, none⟩ = some v := (keep1 o7 HBX.out).trans x1
        have z0 := free_of (o := 0) (Only.keep (D.out.trans o7) HBK.out id)
        have OW7 := owns_keep HOW.out (D.out.trans o7)
        have ON7 := Lib.hid (HO3.out.trans ((D.out.trans o7).mono fun _ h => h.elim))
        have BK7 := Lib.hid (Only.keep (D.out.trans o7) HBK.out id)
        obtain ⟨g, cp, w8, hap, own8, on8⟩ := put1 OW7 (by have := lt_of BK7.out; omega) (by rw [decs_len, List.length_take]; have := HL.out; omega) ⟨(dec X8).toArray⟩
        have HAP := Lib.hid hap
        have OW8 := Lib.hid own8
        have BK8 := Lib.hid (Only.keep (on8 w7 (Only.refl _ _)) BK7.out (by omega))
        have ON8 := Lib.hid (show Only (fun x => B ≤ x) X w8 from ON7.out.trans ((on8 w7 (Only.refl _ _)).mono fun x h => by omega))
        have y1 : (w7.alloc (.cells #[.string ⟨(dec X8).toArray⟩] 9)).cell? ⟨B, 0, none⟩ = some v := cell_of (Only.keep ((Only.refl (fun _ => False) w7).alloc _) BK7.out id)
        clear hap own8 on8 OW7 o7
        go_wp2_with fail
        refine hK.out _ _ ?_ (fun hHeld => ?_)
        · trivial
        clear hK K
        try simp only [List.getElem_toArray, List.getElem_cons_succ, List.getElem_cons_zero, Act.put, List.setIfInBounds_toArray, List.set_cons_zero, List.set_cons_succ]
        refine rgA.rd 4 (fun K hK => ?_)
        go_simp
        refine hK.out _ _ ?_ (fun hHeld => ?_)
        · trivial
        clear hK K
        try simp only [List.getElem_toArray, List.getElem_cons_succ, List.getElem_cons_zero, Act.put, List.setIfInBounds_toArray, List.set_cons_zero, List.set_cons_succ]
        refine rgA.rd 5 (fun K hK => ?_)
        rw [if_pos (by rfl)]
        refine Lib.wp_append_run _ (.tmp 18) (.tmp 22) 48 48 rfl _ _ rfl rfl _ _ HAP.out ?_
        have x8 : w8.cell? ⟨B, 0, none⟩ = some v := cell_of BK8.out
        have z8 := free_of (o := 0) BK8.out
        refine hK.out _ _ ?_ (fun hHeld => ?_)
        · trivial
        clear hK K
        try simp only [List.getElem_toArray, List.getElem_cons_succ, List.getElem_cons_zero, Act.put, List.setIfInBounds_toArray, List.set_cons_zero, List.set_cons_succ]
        refine rgA.rd 6 (fun K hK => ?_)
        go_simp
        refine hK.out _ _ ?_ (fun hHeld => ?_)
        · trivial
        clear hK K
        try simp only [List.getElem_toArray, List.getElem_cons_succ, List.getElem_cons_zero, Act.put, List.setIfInBounds_toArray, List.set_cons_zero, List.set_cons_succ]
        refine wpAnyH_done (by kernel_rfl) ?_ _
      case' br2 =>
        go_simp
        (with_reducible refine (NP.out _).mono ?_)
        rintro e w7 ⟨rfl, o7⟩
        have y0 : w7.cell? ⟨B, 0, none⟩ = some v := (keep1 o7 HBX.out).trans x1
        have z0 := free_of (o := 0) (Only.keep (D.out.trans o7) HBK.out id)
        have OW7 := owns_keep HOW.out (D.out.trans o7)
        have ON7 := Lib.hid (HO3.out.trans ((D.out.trans o7).mono fun _ h => h.elim))
        have BK7 := Lib.hid (Only.keep (D.out.trans o7) HBK.out id)
        obtain ⟨g, cp, w8, hap, own8, on8⟩ := put1 OW7 (by have := lt_of BK7.out; omega) (by rw [decs_len, List.length_take]; have := HL.out; omega) ⟨(dec X8).toArray⟩
        have HAP := Lib.hid hap
        have OW8 := Lib.hid own8
        have BK8 := Lib.hid (Only.keep (on8 w7 (Only.refl _ _)) BK7.out (by omega))
        have ON8 := Lib.hid (show Only (fun x => B ≤ x) X w8 from ON7.out.trans ((on8 w7 (Only.refl _ _)).mono fun x h => by omega))
        have y1 : (w7.alloc (.cells #[.string ⟨(dec X8).toArray⟩] 9)).cell? ⟨B, 0, none⟩ = some v := cell_of (Only.keep ((Only.refl (fun _ => False) w7).alloc _) BK7.out id)
        clear hap own8 on8 OW7 o7
        go_wp2_with fail
        refine hK.out _ _ ?_ (fun hHeld => ?_)
        · trivial
        clear hK K
        try simp only [List.getElem_toArray, List.getElem_cons_succ, List.getElem_cons_zero, Act.put, List.setIfInBounds_toArray, List.set_cons_zero, List.set_cons_succ]
        refine wpAnyH_ready (rs := [0, 4]) (by kernel_rfl) (by simp) ?_
        refine AllReadyH.cons rfl (fun K hK => ?br3) (AllReadyH.cons rfl (fun K hK => ?br4) (AllReadyH.nil))
        case' br3 =>
          go_simp
          refine hK.out _ _ ?_ (fun hHeld => ?_)
          · trivial
          clear hK K
          try simp only [List.getElem_toArray, List.getElem_cons_succ, List.getElem_cons_zero, Act.put, List.setIfInBounds_toArray, List.set_cons_zero, List.set_cons_succ]
          refine rgA.rd 4 (fun K hK => ?_)
          go_simp
          refine hK.out _ _ ?_ (fun hHeld => ?_)
          · trivial
          clear hK K
          try simp only [List.getElem_toArray, List.getElem_cons_succ, List.getElem_cons_zero, Act.put, List.setIfInBounds_toArray, List.set_cons_zero, List.set_cons_succ]
          refine rgA.rd 5 (fun K hK => ?_)
          rw [if_pos (by rfl)]
          refine Lib.wp_append_run _ (.tmp 18) (.tmp 22) 48 48 rfl _ _ rfl rfl _ _ HAP.out ?_
          have x8 : w8.cell? ⟨B, 0, none⟩ = some v := cell_of BK8.out
          have z8 := free_of (o := 0) BK8.out
          refine hK.out _ _ ?_ (fun hHeld => ?_)
          · trivial
          clear hK K
          try simp only [List.getElem_toArray, List.getElem_cons_succ, List.getElem_cons_zero, Act.put, List.setIfInBounds_toArray, List.set_cons_zero, List.set_cons_succ]
          refine rgA.rd 6 (fun K hK => ?_)
          go_simp
          refine hK.out _ _ ?_ (fun hHeld => ?_)
          · trivial
          clear hK K
          try simp only [List.getElem_toArray, List.getElem_cons_succ, List.getElem_cons_zero, Act.put, List.setIfInBounds_toArray, List.set_cons_zero, List.set_cons_succ]
          refine wpAnyH_done (by kernel_rfl) ?_ _
        case' br4 =>
          go_simp
          refine hK.out _ _ ?_ (fun hHeld => ?_)
          · trivial
          clear hK K
          try simp only [List.getElem_toArray, List.getElem_cons_succ, List.getElem_cons_zero, Act.put, List.setIfInBounds_toArray, List.set_cons_zero, List.set_cons_succ]
          refine rgA.rd 0 (fun K hK => ?_)
          go_simp
          refine hK.out _ _ ?_ (fun hHeld => ?_)
          · trivial
          clear hK K
          try simp only [List.getElem_toArray, List.getElem_cons_succ, List.getElem_cons_zero, Act.put, List.setIfInBounds_toArray, List.set_cons_zero, List.set_cons_succ]
          refine rgA.rd 5 (fun K hK => ?_)
          rw [if_pos (by rfl)]
          refine Lib.wp_append_run _ (.tmp 18) (.tmp 22) 48 48 rfl _ _ rfl rfl _ _ HAP.out ?_
          have x8 : w8.cell? ⟨B, 0, none⟩ = some v := cell_of BK8.out
          have z8 := free_of (o := 0) BK8.out
          refine hK.out _ _ ?_ (fun hHeld => ?_)
          · trivial
          clear hK K
          try simp only [List.getElem_toArray, List.getElem_cons_succ, List.getElem_cons_zero, Act.put, List.setIfInBounds_toArray, List.set_cons_zero, List.set_cons_succ]
          refine rgA.rd 6 (fun K hK => ?_)
          go_simp
          refine hK.out _ _ ?_ (fun hHeld => ?_)
          · trivial
          clear hK K
          try simp only [List.getElem_toArray, List.getElem_cons_succ, List.getElem_cons_zero, Act.put, List.setIfInBounds_toArray, List.set_cons_zero, List.set_cons_succ]
          refine wpAnyH_done (by kernel_rfl) ?_ _
      all_goals clear hHeld
      all_goals go_wp2_with fail
      all_goals go_roundw
      all_goals first
        | exact meas4 HK4.out wk
        | exact ⟨k + 1, _, by first | rfl | (rw [wk]; rfl), HK4.out, heap_set BK8.out, by
            have h := owns_set8 OW8.out (B := B) (o := 0) (u := .slice (some ⟨g, 0, none⟩) ((decs (l.take k)).length + 1 : Nat) cp) (by omega)
            have hlen : (decs (l.take (k + 1))).length = (decs (l.take k)).length + 1 := by rw [← HST.out, List.length_append]; rfl
            rw [hlen, ← HST.out]
            exact h, ON8.out.set (Nat.le_refl _)⟩
      all_goals trace_state
      all_goals sorry
    · obtain rfl : k = 4 := at4 hk4 hk
      have x1 : wr.cell? ⟨B, 0, none⟩ = some v := cell_of HBK.out
      have HT := Lib.hid (show l.take 4 = l from List.take_of_length_le (by rw [HL.out]; exact Nat.le_refl _))
      rw [HT.out] at HOW
      have LC := Lst.of_owns HOW.out
      have hdl : (decs l).length = 4 := by rw [decs_len, HL.out]
      rw [hdl] at HOW
      rcases HOW.out.2 with ⟨rfl, hh⟩ | ⟨g, cap, cur, rfl, hbg, hhg, hcc, hmm, hca, hxx⟩
      · exfalso
        omega
      have hxl : ((decs l).map (fun t => (⟨t.toArray⟩ : ByteArray))).length = 4 := by rw [List.length_map, hdl]
      have CJ := Lib.hid (join_any g 0 cap ((decs l).map (fun t => (⟨t.toArray⟩ : ByteArray))) ⟨#[46]⟩ wr (join_cell hxx hhg) (lt_of hhg) (by omega) (by rw [hxl]; exact hcc) (join_small l HL.out))
      rw [hxl, map_back, show (⟨#[46]⟩ : ByteArray).data.toList = [46] from rfl] at CJ
      have k1 : ((4 : Nat) : Int) = 4 := rfl
      clear LC hdl hhg hcc hmm hca hxx hxl hk4 hk hbg
      go_wp2_with fail
      (with_reducible refine CJ.out.mono ?_)
      rintro e w9 ⟨rfl, o9⟩
      have O9 := Lib.hid o9
      clear o9
      go_wp2_with fail
      go_ret2
      exact ⟨rfl, Only.old ((O.out.mono fun _ h => h.elim).trans ((HO3.out.mono fun x h => by rw [← HBE.out]; exact h).trans (O9.out.mono fun _ h => h.elim)))⟩


end Go.Proofs.Ytokbaknckagfmaa.adJ
