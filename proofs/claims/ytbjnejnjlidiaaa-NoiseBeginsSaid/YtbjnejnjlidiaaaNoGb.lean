/- Noise: the document's Begin. -/
import Derived.Test.YtbjnejnjlidiaaaNoG
import Derived.Test.YtbjnejnjlidiaaaRgA
import Derived.Deep.DeepCutAuto
namespace Go.Proofs.Ytbjnejnjlidiaaa.noGb
open Go.RowKit kit numA numB numC numD numE tmA tmB tmC tmD tmE trA trB prR prS prW prX tsA tsB tsF tsI wrA wrB wrC wrD wrE wrF wrG wrH wrI wrJ mkA maA maB maC noA noB noC noD noE tsG noF noG
set_option linter.unusedVariables false
set_option linter.unusedSimpArgs false

def Cut78 (V : World) (t c h : ByteArray) (a b : Value) (wx : World) : Prop := a = .string t ∧ ∃ G, b = .pointer (some ⟨G, 0, none⟩) ∧ Blk wx G 78 (chainV c h) ∧ V.heap.size ≤ G ∧ Only (fun _ => False) V wx

/-- The document's With of a block of five texts. -/
theorem with1_blk (x : Int) (eph st se : ByteArray) (W : World) (G : Nat) (h : W.heap[G]? = some (.cells #[.string eph, .string st, .string se, .string ⟨#[48]⟩, .string ⟨#[48]⟩] 9 (0, 0))) : Calls Try.prog 74 #[.int .i64 1, .int .u32 x, .int .u32 0, .int .u64 0, .slice (some ⟨G, 0, none⟩) 5 5] W (numA.Told W (.agg (initM x eph st se).row)) := by
  refine (with_1 (initM x eph st se) W G 0 5 (lt_of h) (fun i hi => ?_)).mono ?_
  · rcases (by omega : i = 0 ∨ i = 1 ∨ i = 2 ∨ i = 3 ∨ i = 4) with rfl | rfl | rfl | rfl | rfl <;> exact cell_of h
  · rintro e w' ⟨o, rfl⟩
    exact ⟨rfl, o⟩

set_option maxRecDepth 100000 in
set_option maxHeartbeats 4000000 in
theorem refbegin_ok (s e pk : ByteArray) (N : Nat) (x : Int) (eph u c1 h1 k1 p st c2 h2 u2 k2 nb se c3 h3 : ByteArray) (w : World) (hN : N ≤ most) (hB : BegT s e pk N eph u c1 h1 k1 p st c2 h2 u2 k2 nb se c3 h3) (sz : s.size ≤ 10000000) (ez : e.size ≤ 10000000) (tz : pk.size ≤ 10000000) : Calls Try.prog 69 #[.string s, .string e, .string pk, .int .u64 N, .int .u32 x] w (numA.Told w (.tuple #[.agg (initM x eph st se).row, .agg (chainV c3 h3)])) := by
  obtain ⟨eeph, eu, ec1, eh1, ek1, ep, est, ec2, eh2, eu2, ek2, enb, ese, ec3, eh3⟩ := hB
  have ephz : eph.size ≤ 10000000 := u_le eeph (Nat.le_trans (pub_most _) (by decide))
  have uz : u.size ≤ 10000000 := u_le eu (Nat.le_trans (agr_most _ _) (by decide))
  have c1z : c1.size ≤ 10000000 := u_le ec1 (Nat.le_trans (kdf_most _ (by decide) _ _) (by decide))
  have h1z : h1.size ≤ 10000000 := u_le eh1 (Nat.le_trans (hash_most _ _) (by decide))
  have k1z : k1.size ≤ 10000000 := u_le ek1 (Nat.le_trans (kdf_most _ (by decide) _ _) (by decide))
  have pz : p.size ≤ 10000000 := u_le ep (Nat.le_trans (pub_most _) (by decide))
  have stz : st.size ≤ 10000000 := u_le est (Nat.le_trans (seal_most _ _ _) (by decide))
  have c2z : c2.size ≤ 10000000 := u_le ec2 (Nat.le_trans (kdf_most _ (by decide) _ _) (by decide))
  have h2z : h2.size ≤ 10000000 := u_le eh2 (Nat.le_trans (hash_most _ _) (by decide))
  have u2z : u2.size ≤ 10000000 := u_le eu2 (Nat.le_trans (agr_most _ _) (by decide))
  have k2z : k2.size ≤ 10000000 := u_le ek2 (Nat.le_trans (kdf_most _ (by decide) _ _) (by decide))
  have nbz : nb.size ≤ 10000000 := u_le enb (Nat.le_trans (mk_most hN) (by decide))
  have sez : se.size ≤ 10000000 := u_le ese (Nat.le_trans (seal_most _ _ _) (by decide))
  have c3z : c3.size ≤ 10000000 := u_le ec3 (Nat.le_trans (kdf_most _ (by decide) _ _) (by decide))
  have h3z : h3.size ≤ 10000000 := u_le eh3 (Nat.le_trans (hash_most _ _) (by decide))
  have C0 := Lib.hid (fun W => told_str (b := eph) eeph (pub_any e W ez))
  have C1 := Lib.hid (fun W => (show Calls Try.prog 136 #[.string pk, .string eph] W (numA.Told W (.agg #[.string c1, .string h1])) from noD.first_any pk eph c1 h1 W ec1 eh1 tz ephz))
  have C2 := Lib.hid (fun W => told_str (b := u) eu (refagree_any e pk W ez tz))
  have C3 := Lib.hid (fun W => told_str (b := p) ep (pub_any s W sz))
  have C4 := Lib.hid (fun W => (show Calls Try.prog 137 #[.agg #[.string c1, .string h1], .string u, .string p] W (numA.Told W (.tuple #[.string st, .agg (chainV c2 h2)])) from seals_any c1 h1 u p st c2 h2 W (by rw [est, ek1]) (ec2) (eh2) c1z uz pz h1z))
  have C5 := Lib.hid (fun W => told_str (b := u2) eu2 (refagree_any s pk W sz tz))
  have C6 := Lib.hid (fun W => told_str (b := nb) (by rw [enb]; rfl) (refnumber_any N W (by omega) (by omega)))
  have C7 := Lib.hid (fun W => (show Calls Try.prog 137 #[.agg #[.string c2, .string h2], .string u2, .string nb] W (numA.Told W (.tuple #[.string se, .agg (chainV c3 h3)])) from seals_any c2 h2 u2 nb se c3 h3 W (by rw [ese, ek2]) (ec3) (eh3) c2z u2z nbz h2z))
  have C8 := Lib.hid (fun W G h => with1_blk x eph st se W G h)
  clear sz ez tz hN eeph ephz eu uz ec1 c1z eh1 h1z ek1 k1z ep pz est stz ec2 c2z eh2 h2z eu2 u2z ek2 k2z enb nbz ese sez ec3 c3z eh3 h3z
  obtain ⟨Y, hY⟩ : ∃ Y, Y = ((w.alloc (.cells #[.int .i64 0, .int .u32 0, .int .u32 0, .int .u64 0, .string ⟨#[]⟩, .string ⟨#[]⟩, .string ⟨#[]⟩, .string ⟨#[]⟩, .string ⟨#[]⟩, .string ⟨#[]⟩, .string ⟨#[]⟩, .string ⟨#[]⟩, .string ⟨#[]⟩] 61)).alloc (.cells #[.string ⟨#[]⟩, .string ⟨#[]⟩] 78)) := ⟨_, rfl⟩
  obtain ⟨A, hA⟩ : ∃ A, A = w.heap.size := ⟨_, rfl⟩
  have O := Lib.hid (show Only (fun _ => False) w Y from by rw [hY]; exact ((Only.refl _ w).alloc _).alloc _)
  have HR0 := Lib.hid (show Blk Y (A) 61 #[.int .i64 0, .int .u32 0, .int .u32 0, .int .u64 0, .string ⟨#[]⟩, .string ⟨#[]⟩, .string ⟨#[]⟩, .string ⟨#[]⟩, .string ⟨#[]⟩, .string ⟨#[]⟩, .string ⟨#[]⟩, .string ⟨#[]⟩, .string ⟨#[]⟩] from by have h := (Blk.keep (Blk.new w 61 #[.int .i64 0, .int .u32 0, .int .u32 0, .int .u64 0, .string ⟨#[]⟩, .string ⟨#[]⟩, .string ⟨#[]⟩, .string ⟨#[]⟩, .string ⟨#[]⟩, .string ⟨#[]⟩, .string ⟨#[]⟩, .string ⟨#[]⟩, .string ⟨#[]⟩]) ((Only.refl (fun _ => False) _).alloc (.cells #[.string ⟨#[]⟩, .string ⟨#[]⟩] 78)) id); rw [hY, hA]; exact h)
  have HR1 := Lib.hid (show Blk Y (A + 1) 78 #[.string ⟨#[]⟩, .string ⟨#[]⟩] from by have h := (Blk.new (w.alloc (.cells #[.int .i64 0, .int .u32 0, .int .u32 0, .int .u64 0, .string ⟨#[]⟩, .string ⟨#[]⟩, .string ⟨#[]⟩, .string ⟨#[]⟩, .string ⟨#[]⟩, .string ⟨#[]⟩, .string ⟨#[]⟩, .string ⟨#[]⟩, .string ⟨#[]⟩] 61)) 78 #[.string ⟨#[]⟩, .string ⟨#[]⟩]); simp only [World.size_alloc] at h; rw [hY, hA]; exact h)
  have HY := Lib.hid hY
  have HAE := Lib.hid hA
  have HYS := Lib.hid (show Y.heap.size = A + 2 from by rw [hY, hA]; simp only [World.size_alloc])
  have HYW := Lib.hid (show Y.heap.size = w.heap.size + 1 + 1 from by rw [hY]; simp only [World.size_alloc])
  clear hY hA
  go_enter Try.func69, Try.ntmps69
  go_wp2_with fail
  rw [← HY.out, ← HAE.out]
  (with_reducible refine (C0.out _).mono ?_)
  rintro e w2 ⟨rfl, o⟩
  replace O := Lib.hid (O.out.trans o)
  replace HR0 := Lib.hid (Blk.keep HR0.out o id)
  replace HR1 := Lib.hid (Blk.keep HR1.out o id)
  clear o
  go_wp2_with fail
  (with_reducible refine (C1.out _).mono ?_)
  rintro e w2 ⟨rfl, o⟩
  replace O := Lib.hid (O.out.trans o)
  replace HR0 := Lib.hid (Blk.keep HR0.out o id)
  replace HR1 := Lib.hid (Blk.keep HR1.out o id)
  clear o
  go_upto_region 3 with fail
  obtain ⟨G, hG⟩ : ∃ G, G = w2.heap.size := ⟨_, rfl⟩
  obtain ⟨V, hV⟩ : ∃ Z, Z = w2.alloc (.cells #[.string c1, .string h1] 78) := ⟨_, rfl⟩
  have oV : Only (fun _ => False) w2 V := by rw [hV]; exact (Only.refl _ _).alloc _
  have HX := Lib.hid (show Blk V G 78 (chainV c1 h1) from by rw [hV, hG]; exact Blk.new w2 78 _)
  rw [← hV, ← hG]
  replace HR0 := Lib.hid (Blk.keep HR0.out oV id)
  replace HR1 := Lib.hid (Blk.keep HR1.out oV id)
  replace O := Lib.hid (O.out.trans oV)
  clear hV hG oV
  go_cut [14, 15] (fun a b wx => Cut78 V st c2 h2 a b wx)
  case first =>
    have HLT := Lib.hid (Blk.lt HX.out)
    have O := Lib.hid (Only.refl (fun _ => False) V)
    have R := Lib.hid ((Only.refl (fun _ => False) V).drew)
    refine wp_region_held_drew (S := (fun w' => w'.cell? ⟨G, 0, none⟩ = some (.string c1) ∧ w'.cell? ⟨G, 1, none⟩ = some (.string h1))) (by kernel_rfl) ?_ (fun hHeld => ?_)
    · exact ⟨Blk.cell (Blk.keep HX.out R.out id) 0, Blk.cell (Blk.keep HX.out R.out id) 1⟩
    refine rgA.tk 0 hHeld ?_
    refine rgA.tk 1 hHeld ?_
    refine rgA.tk 2 hHeld ?_
    refine rgA.tk 4 hHeld ?_
    refine wpAnyH_ready (rs := [3, 10]) (by kernel_rfl) (by simp) ?_
    refine AllReadyH.cons rfl (fun K hK => ?br1) (AllReadyH.cons rfl (fun K hK => ?br2) (AllReadyH.nil))
    case' br1 =>
      go_simp
      (with_reducible refine (C2.out _).mono ?_)
      rintro e w2 ⟨rfl, o⟩
      replace R := Lib.hid (R.out.trans o)
      clear o
      go_wp2_with fail
      refine hK.out _ _ ?_ (fun hHeld => ?_)
      · first | exact ⟨Blk.cell (Blk.keep HX.out R.out id) 0, Blk.cell (Blk.keep HX.out R.out id) 1⟩ | exact ⟨Blk.cell (Blk.off (Blk.keep HX.out R.out id) _ (by have := NX.out; omega)) 0, Blk.cell (Blk.off (Blk.keep HX.out R.out id) _ (by have := NX.out; omega)) 1⟩
      clear hK K
      try simp only [List.getElem_toArray, List.getElem_cons_succ, List.getElem_cons_zero, Act.put, List.setIfInBounds_toArray, List.set_cons_zero, List.set_cons_succ]
      refine wpAnyH_ready (rs := [5, 10]) (by kernel_rfl) (by simp) ?_
      refine AllReadyH.cons rfl (fun K hK => ?br3) (AllReadyH.cons rfl (fun K hK => ?br4) (AllReadyH.nil))
      case' br3 =>
        go_simp
        (with_reducible refine (C3.out _).mono ?_)
        rintro e w2 ⟨rfl, o⟩
        replace R := Lib.hid (R.out.trans o)
        clear o
        go_wp2_with fail
        refine hK.out _ _ ?_ (fun hHeld => ?_)
        · first | exact ⟨Blk.cell (Blk.keep HX.out R.out id) 0, Blk.cell (Blk.keep HX.out R.out id) 1⟩ | exact ⟨Blk.cell (Blk.off (Blk.keep HX.out R.out id) _ (by have := NX.out; omega)) 0, Blk.cell (Blk.off (Blk.keep HX.out R.out id) _ (by have := NX.out; omega)) 1⟩
        clear hK K
        try simp only [List.getElem_toArray, List.getElem_cons_succ, List.getElem_cons_zero, Act.put, List.setIfInBounds_toArray, List.set_cons_zero, List.set_cons_succ]
        refine wpAnyH_ready (rs := [6, 10]) (by kernel_rfl) (by simp) ?_
        refine AllReadyH.cons rfl (fun K hK => ?br5) (AllReadyH.cons rfl (fun K hK => ?br6) (AllReadyH.nil))
        case' br5 =>
          go_simp
          (with_reducible refine (C4.out _).mono ?_)
          rintro e w2 ⟨rfl, o⟩
          replace R := Lib.hid (R.out.trans o)
          clear o
          go_wp2_with fail
          refine hK.out _ _ ?_ (fun hHeld => ?_)
          · first | exact ⟨Blk.cell (Blk.keep HX.out R.out id) 0, Blk.cell (Blk.keep HX.out R.out id) 1⟩ | exact ⟨Blk.cell (Blk.off (Blk.keep HX.out R.out id) _ (by have := NX.out; omega)) 0, Blk.cell (Blk.off (Blk.keep HX.out R.out id) _ (by have := NX.out; omega)) 1⟩
          clear hK K
          try simp only [List.getElem_toArray, List.getElem_cons_succ, List.getElem_cons_zero, Act.put, List.setIfInBounds_toArray, List.set_cons_zero, List.set_cons_succ]
          refine rgA.tk 7 hHeld ?_
          refine rgA.tk 8 hHeld ?_
          refine rgA.tk 9 hHeld ?_
          refine rgA.rd 10 (fun K hK => ?_)
          go_simp
          obtain ⟨GN, hGN⟩ : ∃ g, g = w2.heap.size := ⟨_, rfl⟩
          obtain ⟨w9, hw9⟩ : ∃ z, z = w2.alloc (.cells #[.string ⟨#[]⟩, .string ⟨#[]⟩] 78) := ⟨_, rfl⟩
          rw [← hw9, ← hGN]
          have HN := Lib.hid (show w9.heap[GN]? = some (.cells #[.string ⟨#[]⟩, .string ⟨#[]⟩] 78 (0, 0)) from by rw [hw9, hGN]; exact heap_alloc_new w2 _)
          have oN : Only (fun _ => False) w2 w9 := by rw [hw9]; exact (Only.refl _ w2).alloc _
          have NG := Lib.hid (show V.heap.size ≤ GN from by rw [hGN]; exact (show V.heap.size ≤ (w2).heap.size from (O.out.trans R.out).size))
          have NX := Lib.hid (show G < GN from by have h := NG.out; have h2 := HLT.out; omega)
          replace HX := Lib.hid (Only.keep (R.out.trans oN) HX.out id)
          replace O := Lib.hid (O.out.trans (R.out.trans oN))
          have R := Lib.hid (Only.refl (fun _ => False) w9)
          clear oN hw9 hGN
          obtain ⟨w2, hw2⟩ : ∃ z, z = w9 := ⟨_, rfl⟩
          rw [← hw2] at R O HX HN ⊢
          clear hw2
          refine hK.out _ _ ?_ (fun hHeld => ?_)
          · first | exact ⟨Blk.cell (Blk.keep HX.out R.out id) 0, Blk.cell (Blk.keep HX.out R.out id) 1⟩ | exact ⟨Blk.cell (Blk.off (Blk.keep HX.out R.out id) _ (by have := NX.out; omega)) 0, Blk.cell (Blk.off (Blk.keep HX.out R.out id) _ (by have := NX.out; omega)) 1⟩
          clear hK K
          try simp only [List.getElem_toArray, List.getElem_cons_succ, List.getElem_cons_zero, Act.put, List.setIfInBounds_toArray, List.set_cons_zero, List.set_cons_succ]
          refine rgA.tk 11 hHeld ?_
          refine rgA.rd 12 (fun K hK => ?_)
          rw [if_pos (by rfl)]
          refine wp_store_row 78 (.tmp 15) (.tmp 32) rfl GN (chainV c2 h2) rfl rfl 78 _ (Only.keep R.out HN.out id) (info78 c2 h2) rfl (one78 c2 h2) ?_
          refine hK.out _ _ ?_ (fun hHeld => ?_)
          · first | exact ⟨Blk.cell (Blk.keep HX.out R.out id) 0, Blk.cell (Blk.keep HX.out R.out id) 1⟩ | exact ⟨Blk.cell (Blk.off (Blk.keep HX.out R.out id) _ (by have := NX.out; omega)) 0, Blk.cell (Blk.off (Blk.keep HX.out R.out id) _ (by have := NX.out; omega)) 1⟩
          clear hK K
          try simp only [List.getElem_toArray, List.getElem_cons_succ, List.getElem_cons_zero, Act.put, List.setIfInBounds_toArray, List.set_cons_zero, List.set_cons_succ]
          refine wpAnyH_done (by kernel_rfl) ?_ _
          clear hHeld
        case' br6 =>
          go_simp
          obtain ⟨GN, hGN⟩ : ∃ g, g = w2.heap.size := ⟨_, rfl⟩
          obtain ⟨w9, hw9⟩ : ∃ z, z = w2.alloc (.cells #[.string ⟨#[]⟩, .string ⟨#[]⟩] 78) := ⟨_, rfl⟩
          rw [← hw9, ← hGN]
          have HN := Lib.hid (show w9.heap[GN]? = some (.cells #[.string ⟨#[]⟩, .string ⟨#[]⟩] 78 (0, 0)) from by rw [hw9, hGN]; exact heap_alloc_new w2 _)
          have oN : Only (fun _ => False) w2 w9 := by rw [hw9]; exact (Only.refl _ w2).alloc _
          have NG := Lib.hid (show V.heap.size ≤ GN from by rw [hGN]; exact (show V.heap.size ≤ (w2).heap.size from (O.out.trans R.out).size))
          have NX := Lib.hid (show G < GN from by have h := NG.out; have h2 := HLT.out; omega)
          replace HX := Lib.hid (Only.keep (R.out.trans oN) HX.out id)
          replace O := Lib.hid (O.out.trans (R.out.trans oN))
          have R := Lib.hid (Only.refl (fun _ => False) w9)
          clear oN hw9 hGN
          obtain ⟨w2, hw2⟩ : ∃ z, z = w9 := ⟨_, rfl⟩
          rw [← hw2] at R O HX HN ⊢
          clear hw2
          refine hK.out _ _ ?_ (fun hHeld => ?_)
          · first | exact ⟨Blk.cell (Blk.keep HX.out R.out id) 0, Blk.cell (Blk.keep HX.out R.out id) 1⟩ | exact ⟨Blk.cell (Blk.off (Blk.keep HX.out R.out id) _ (by have := NX.out; omega)) 0, Blk.cell (Blk.off (Blk.keep HX.out R.out id) _ (by have := NX.out; omega)) 1⟩
          clear hK K
          try simp only [List.getElem_toArray, List.getElem_cons_succ, List.getElem_cons_zero, Act.put, List.setIfInBounds_toArray, List.set_cons_zero, List.set_cons_succ]
          refine rgA.rd 6 (fun K hK => ?_)
          go_simp
          (with_reducible refine (C4.out _).mono ?_)
          rintro e w2 ⟨rfl, o⟩
          replace R := Lib.hid (R.out.trans o)
          clear o
          go_wp2_with fail
          refine hK.out _ _ ?_ (fun hHeld => ?_)
          · first | exact ⟨Blk.cell (Blk.keep HX.out R.out id) 0, Blk.cell (Blk.keep HX.out R.out id) 1⟩ | exact ⟨Blk.cell (Blk.off (Blk.keep HX.out R.out id) _ (by have := NX.out; omega)) 0, Blk.cell (Blk.off (Blk.keep HX.out R.out id) _ (by have := NX.out; omega)) 1⟩
          clear hK K
          try simp only [List.getElem_toArray, List.getElem_cons_succ, List.getElem_cons_zero, Act.put, List.setIfInBounds_toArray, List.set_cons_zero, List.set_cons_succ]
          refine rgA.tk 7 hHeld ?_
          refine rgA.tk 8 hHeld ?_
          refine rgA.tk 9 hHeld ?_
          refine rgA.tk 11 hHeld ?_
          refine rgA.rd 12 (fun K hK => ?_)
          rw [if_pos (by rfl)]
          refine wp_store_row 78 (.tmp 15) (.tmp 32) rfl GN (chainV c2 h2) rfl rfl 78 _ (Only.keep R.out HN.out id) (info78 c2 h2) rfl (one78 c2 h2) ?_
          refine hK.out _ _ ?_ (fun hHeld => ?_)
          · first | exact ⟨Blk.cell (Blk.keep HX.out R.out id) 0, Blk.cell (Blk.keep HX.out R.out id) 1⟩ | exact ⟨Blk.cell (Blk.off (Blk.keep HX.out R.out id) _ (by have := NX.out; omega)) 0, Blk.cell (Blk.off (Blk.keep HX.out R.out id) _ (by have := NX.out; omega)) 1⟩
          clear hK K
          try simp only [List.getElem_toArray, List.getElem_cons_succ, List.getElem_cons_zero, Act.put, List.setIfInBounds_toArray, List.set_cons_zero, List.set_cons_succ]
          refine wpAnyH_done (by kernel_rfl) ?_ _
          clear hHeld
      case' br4 =>
        go_simp
        obtain ⟨GN, hGN⟩ : ∃ g, g = w2.heap.size := ⟨_, rfl⟩
        obtain ⟨w9, hw9⟩ : ∃ z, z = w2.alloc (.cells #[.string ⟨#[]⟩, .string ⟨#[]⟩] 78) := ⟨_, rfl⟩
        rw [← hw9, ← hGN]
        have HN := Lib.hid (show w9.heap[GN]? = some (.cells #[.string ⟨#[]⟩, .string ⟨#[]⟩] 78 (0, 0)) from by rw [hw9, hGN]; exact heap_alloc_new w2 _)
        have oN : Only (fun _ => False) w2 w9 := by rw [hw9]; exact (Only.refl _ w2).alloc _
        have NG := Lib.hid (show V.heap.size ≤ GN from by rw [hGN]; exact (show V.heap.size ≤ (w2).heap.size from (O.out.trans R.out).size))
        have NX := Lib.hid (show G < GN from by have h := NG.out; have h2 := HLT.out; omega)
        replace HX := Lib.hid (Only.keep (R.out.trans oN) HX.out id)
        replace O := Lib.hid (O.out.trans (R.out.trans oN))
        have R := Lib.hid (Only.refl (fun _ => False) w9)
        clear oN hw9 hGN
        obtain ⟨w2, hw2⟩ : ∃ z, z = w9 := ⟨_, rfl⟩
        rw [← hw2] at R O HX HN ⊢
        clear hw2
        refine hK.out _ _ ?_ (fun hHeld => ?_)
        · first | exact ⟨Blk.cell (Blk.keep HX.out R.out id) 0, Blk.cell (Blk.keep HX.out R.out id) 1⟩ | exact ⟨Blk.cell (Blk.off (Blk.keep HX.out R.out id) _ (by have := NX.out; omega)) 0, Blk.cell (Blk.off (Blk.keep HX.out R.out id) _ (by have := NX.out; omega)) 1⟩
        clear hK K
        try simp only [List.getElem_toArray, List.getElem_cons_succ, List.getElem_cons_zero, Act.put, List.setIfInBounds_toArray, List.set_cons_zero, List.set_cons_succ]
        refine rgA.rd 5 (fun K hK => ?_)
        go_simp
        (with_reducible refine (C3.out _).mono ?_)
        rintro e w2 ⟨rfl, o⟩
        replace R := Lib.hid (R.out.trans o)
        clear o
        go_wp2_with fail
        refine hK.out _ _ ?_ (fun hHeld => ?_)
        · first | exact ⟨Blk.cell (Blk.keep HX.out R.out id) 0, Blk.cell (Blk.keep HX.out R.out id) 1⟩ | exact ⟨Blk.cell (Blk.off (Blk.keep HX.out R.out id) _ (by have := NX.out; omega)) 0, Blk.cell (Blk.off (Blk.keep HX.out R.out id) _ (by have := NX.out; omega)) 1⟩
        clear hK K
        try simp only [List.getElem_toArray, List.getElem_cons_succ, List.getElem_cons_zero, Act.put, List.setIfInBounds_toArray, List.set_cons_zero, List.set_cons_succ]
        refine rgA.rd 6 (fun K hK => ?_)
        go_simp
        (with_reducible refine (C4.out _).mono ?_)
        rintro e w2 ⟨rfl, o⟩
        replace R := Lib.hid (R.out.trans o)
        clear o
        go_wp2_with fail
        refine hK.out _ _ ?_ (fun hHeld => ?_)
        · first | exact ⟨Blk.cell (Blk.keep HX.out R.out id) 0, Blk.cell (Blk.keep HX.out R.out id) 1⟩ | exact ⟨Blk.cell (Blk.off (Blk.keep HX.out R.out id) _ (by have := NX.out; omega)) 0, Blk.cell (Blk.off (Blk.keep HX.out R.out id) _ (by have := NX.out; omega)) 1⟩
        clear hK K
        try simp only [List.getElem_toArray, List.getElem_cons_succ, List.getElem_cons_zero, Act.put, List.setIfInBounds_toArray, List.set_cons_zero, List.set_cons_succ]
        refine rgA.tk 7 hHeld ?_
        refine rgA.tk 8 hHeld ?_
        refine rgA.tk 9 hHeld ?_
        refine rgA.tk 11 hHeld ?_
        refine rgA.rd 12 (fun K hK => ?_)
        rw [if_pos (by rfl)]
        refine wp_store_row 78 (.tmp 15) (.tmp 32) rfl GN (chainV c2 h2) rfl rfl 78 _ (Only.keep R.out HN.out id) (info78 c2 h2) rfl (one78 c2 h2) ?_
        refine hK.out _ _ ?_ (fun hHeld => ?_)
        · first | exact ⟨Blk.cell (Blk.keep HX.out R.out id) 0, Blk.cell (Blk.keep HX.out R.out id) 1⟩ | exact ⟨Blk.cell (Blk.off (Blk.keep HX.out R.out id) _ (by have := NX.out; omega)) 0, Blk.cell (Blk.off (Blk.keep HX.out R.out id) _ (by have := NX.out; omega)) 1⟩
        clear hK K
        try simp only [List.getElem_toArray, List.getElem_cons_succ, List.getElem_cons_zero, Act.put, List.setIfInBounds_toArray, List.set_cons_zero, List.set_cons_succ]
        refine wpAnyH_done (by kernel_rfl) ?_ _
        clear hHeld
    case' br2 =>
      go_simp
      obtain ⟨GN, hGN⟩ : ∃ g, g = V.heap.size := ⟨_, rfl⟩
      obtain ⟨w9, hw9⟩ : ∃ z, z = (V.alloc (.cells #[.string ⟨#[]⟩, .string ⟨#[]⟩] 78)).drew := ⟨_, rfl⟩
      rw [← hw9, ← hGN]
      have HN := Lib.hid (show w9.heap[GN]? = some (.cells #[.string ⟨#[]⟩, .string ⟨#[]⟩] 78 (0, 0)) from by rw [hw9, hGN]; exact heap_alloc_new V _)
      have oN : Only (fun _ => False) V.drew w9 := by rw [hw9]; exact (Only.refl _ V.drew).alloc _
      have NG := Lib.hid (show V.heap.size ≤ GN from by rw [hGN]; exact (show V.heap.size ≤ (V.drew).heap.size from (O.out.trans R.out).size))
      have NX := Lib.hid (show G < GN from by have h := NG.out; have h2 := HLT.out; omega)
      replace HX := Lib.hid (Only.keep (R.out.trans oN) HX.out id)
      replace O := Lib.hid (O.out.trans (R.out.trans oN))
      have R := Lib.hid (Only.refl (fun _ => False) w9)
      clear oN hw9 hGN
      obtain ⟨w2, hw2⟩ : ∃ z, z = w9 := ⟨_, rfl⟩
      rw [← hw2] at R O HX HN ⊢
      clear hw2
      refine hK.out _ _ ?_ (fun hHeld => ?_)
      · first | exact ⟨Blk.cell (Blk.keep HX.out R.out id) 0, Blk.cell (Blk.keep HX.out R.out id) 1⟩ | exact ⟨Blk.cell (Blk.off (Blk.keep HX.out R.out id) _ (by have := NX.out; omega)) 0, Blk.cell (Blk.off (Blk.keep HX.out R.out id) _ (by have := NX.out; omega)) 1⟩
      clear hK K
      try simp only [List.getElem_toArray, List.getElem_cons_succ, List.getElem_cons_zero, Act.put, List.setIfInBounds_toArray, List.set_cons_zero, List.set_cons_succ]
      refine rgA.rd 3 (fun K hK => ?_)
      go_simp
      (with_reducible refine (C2.out _).mono ?_)
      rintro e w2 ⟨rfl, o⟩
      replace R := Lib.hid (R.out.trans o)
      clear o
      go_wp2_with fail
      refine hK.out _ _ ?_ (fun hHeld => ?_)
      · first | exact ⟨Blk.cell (Blk.keep HX.out R.out id) 0, Blk.cell (Blk.keep HX.out R.out id) 1⟩ | exact ⟨Blk.cell (Blk.off (Blk.keep HX.out R.out id) _ (by have := NX.out; omega)) 0, Blk.cell (Blk.off (Blk.keep HX.out R.out id) _ (by have := NX.out; omega)) 1⟩
      clear hK K
      try simp only [List.getElem_toArray, List.getElem_cons_succ, List.getElem_cons_zero, Act.put, List.setIfInBounds_toArray, List.set_cons_zero, List.set_cons_succ]
      refine rgA.rd 5 (fun K hK => ?_)
      go_simp
      (with_reducible refine (C3.out _).mono ?_)
      rintro e w2 ⟨rfl, o⟩
      replace R := Lib.hid (R.out.trans o)
      clear o
      go_wp2_with fail
      refine hK.out _ _ ?_ (fun hHeld => ?_)
      · first | exact ⟨Blk.cell (Blk.keep HX.out R.out id) 0, Blk.cell (Blk.keep HX.out R.out id) 1⟩ | exact ⟨Blk.cell (Blk.off (Blk.keep HX.out R.out id) _ (by have := NX.out; omega)) 0, Blk.cell (Blk.off (Blk.keep HX.out R.out id) _ (by have := NX.out; omega)) 1⟩
      clear hK K
      try simp only [List.getElem_toArray, List.getElem_cons_succ, List.getElem_cons_zero, Act.put, List.setIfInBounds_toArray, List.set_cons_zero, List.set_cons_succ]
      refine rgA.rd 6 (fun K hK => ?_)
      go_simp
      (with_reducible refine (C4.out _).mono ?_)
      rintro e w2 ⟨rfl, o⟩
      replace R := Lib.hid (R.out.trans o)
      clear o
      go_wp2_with fail
      refine hK.out _ _ ?_ (fun hHeld => ?_)
      · first | exact ⟨Blk.cell (Blk.keep HX.out R.out id) 0, Blk.cell (Blk.keep HX.out R.out id) 1⟩ | exact ⟨Blk.cell (Blk.off (Blk.keep HX.out R.out id) _ (by have := NX.out; omega)) 0, Blk.cell (Blk.off (Blk.keep HX.out R.out id) _ (by have := NX.out; omega)) 1⟩
      clear hK K
      try simp only [List.getElem_toArray, List.getElem_cons_succ, List.getElem_cons_zero, Act.put, List.setIfInBounds_toArray, List.set_cons_zero, List.set_cons_succ]
      refine rgA.tk 7 hHeld ?_
      refine rgA.tk 8 hHeld ?_
      refine rgA.tk 9 hHeld ?_
      refine rgA.tk 11 hHeld ?_
      refine rgA.rd 12 (fun K hK => ?_)
      rw [if_pos (by rfl)]
      refine wp_store_row 78 (.tmp 15) (.tmp 32) rfl GN (chainV c2 h2) rfl rfl 78 _ (Only.keep R.out HN.out id) (info78 c2 h2) rfl (one78 c2 h2) ?_
      refine hK.out _ _ ?_ (fun hHeld => ?_)
      · first | exact ⟨Blk.cell (Blk.keep HX.out R.out id) 0, Blk.cell (Blk.keep HX.out R.out id) 1⟩ | exact ⟨Blk.cell (Blk.off (Blk.keep HX.out R.out id) _ (by have := NX.out; omega)) 0, Blk.cell (Blk.off (Blk.keep HX.out R.out id) _ (by have := NX.out; omega)) 1⟩
      clear hK K
      try simp only [List.getElem_toArray, List.getElem_cons_succ, List.getElem_cons_zero, Act.put, List.setIfInBounds_toArray, List.set_cons_zero, List.set_cons_succ]
      refine wpAnyH_done (by kernel_rfl) ?_ _
      clear hHeld
    all_goals
      go_wp2_with fail
      go_meet
      exact ⟨rfl, GN, rfl, setRow_heap _ _ _ _ _ _ (Only.keep R.out HN.out id), NG.out, Only.old (only_row ((O.out.trans R.out).mono fun _ h => h.elim) _ NG.out)⟩
  case rest =>
    obtain ⟨rfl, GN, rfl, hb, hge, oc⟩ := hcut
    have NGA := Lib.hid (show A + 1 < GN from Nat.lt_of_lt_of_le (Blk.lt HR1.out) hge)
    clear hge
    replace HX := Lib.hid hb
    replace HR0 := Lib.hid (Blk.keep HR0.out oc id)
    replace HR1 := Lib.hid (Blk.keep HR1.out oc id)
    replace O := Lib.hid (O.out.trans oc)
    clear oc hb
    obtain ⟨V, hV⟩ : ∃ V, V = wc := ⟨_, rfl⟩
    rw [← hV] at HX HR0 HR1 O ⊢
    clear hV
    go_upto_region 4 with fail
    obtain ⟨G, hG⟩ : ∃ G, G = GN := ⟨_, rfl⟩
    rw [← hG] at HX ⊢
    clear hG
    go_cut [16, 17] (fun a b wx => Cut78 V se c3 h3 a b wx)
    case first =>
      have HLT := Lib.hid (Blk.lt HX.out)
      have O := Lib.hid (Only.refl (fun _ => False) V)
      have R := Lib.hid ((Only.refl (fun _ => False) V).drew)
      refine wp_region_held_drew (S := (fun w' => w'.cell? ⟨G, 0, none⟩ = some (.string c2) ∧ w'.cell? ⟨G, 1, none⟩ = some (.string h2))) (by kernel_rfl) ?_ (fun hHeld => ?_)
      · exact ⟨Blk.cell (Blk.keep HX.out R.out id) 0, Blk.cell (Blk.keep HX.out R.out id) 1⟩
      refine rgA.tk 0 hHeld ?_
      refine rgA.tk 1 hHeld ?_
      refine rgA.tk 2 hHeld ?_
      refine rgA.tk 4 hHeld ?_
      refine wpAnyH_ready (rs := [3, 10]) (by kernel_rfl) (by simp) ?_
      refine AllReadyH.cons rfl (fun K hK => ?br7) (AllReadyH.cons rfl (fun K hK => ?br8) (AllReadyH.nil))
      case' br7 =>
        go_simp
        (with_reducible refine (C5.out _).mono ?_)
        rintro e w2 ⟨rfl, o⟩
        replace R := Lib.hid (R.out.trans o)
        clear o
        go_wp2_with fail
        refine hK.out _ _ ?_ (fun hHeld => ?_)
        · first | exact ⟨Blk.cell (Blk.keep HX.out R.out id) 0, Blk.cell (Blk.keep HX.out R.out id) 1⟩ | exact ⟨Blk.cell (Blk.off (Blk.keep HX.out R.out id) _ (by have := NX.out; omega)) 0, Blk.cell (Blk.off (Blk.keep HX.out R.out id) _ (by have := NX.out; omega)) 1⟩
        clear hK K
        try simp only [List.getElem_toArray, List.getElem_cons_succ, List.getElem_cons_zero, Act.put, List.setIfInBounds_toArray, List.set_cons_zero, List.set_cons_succ]
        refine wpAnyH_ready (rs := [5, 10]) (by kernel_rfl) (by simp) ?_
        refine AllReadyH.cons rfl (fun K hK => ?br9) (AllReadyH.cons rfl (fun K hK => ?br10) (AllReadyH.nil))
        case' br9 =>
          go_simp
          (with_reducible refine (C6.out _).mono ?_)
          rintro e w2 ⟨rfl, o⟩
          replace R := Lib.hid (R.out.trans o)
          clear o
          go_wp2_with fail
          refine hK.out _ _ ?_ (fun hHeld => ?_)
          · first | exact ⟨Blk.cell (Blk.keep HX.out R.out id) 0, Blk.cell (Blk.keep HX.out R.out id) 1⟩ | exact ⟨Blk.cell (Blk.off (Blk.keep HX.out R.out id) _ (by have := NX.out; omega)) 0, Blk.cell (Blk.off (Blk.keep HX.out R.out id) _ (by have := NX.out; omega)) 1⟩
          clear hK K
          try simp only [List.getElem_toArray, List.getElem_cons_succ, List.getElem_cons_zero, Act.put, List.setIfInBounds_toArray, List.set_cons_zero, List.set_cons_succ]
          refine wpAnyH_ready (rs := [6, 10]) (by kernel_rfl) (by simp) ?_
          refine AllReadyH.cons rfl (fun K hK => ?br11) (AllReadyH.cons rfl (fun K hK => ?br12) (AllReadyH.nil))
          case' br11 =>
            go_simp
            (with_reducible refine (C7.out _).mono ?_)
            rintro e w2 ⟨rfl, o⟩
            replace R := Lib.hid (R.out.trans o)
            clear o
            go_wp2_with fail
            refine hK.out _ _ ?_ (fun hHeld => ?_)
            · first | exact ⟨Blk.cell (Blk.keep HX.out R.out id) 0, Blk.cell (Blk.keep HX.out R.out id) 1⟩ | exact ⟨Blk.cell (Blk.off (Blk.keep HX.out R.out id) _ (by have := NX.out; omega)) 0, Blk.cell (Blk.off (Blk.keep HX.out R.out id) _ (by have := NX.out; omega)) 1⟩
            clear hK K
            try simp only [List.getElem_toArray, List.getElem_cons_succ, List.getElem_cons_zero, Act.put, List.setIfInBounds_toArray, List.set_cons_zero, List.set_cons_succ]
            refine rgA.tk 7 hHeld ?_
            refine rgA.tk 8 hHeld ?_
            refine rgA.tk 9 hHeld ?_
            refine rgA.rd 10 (fun K hK => ?_)
            go_simp
            obtain ⟨GN, hGN⟩ : ∃ g, g = w2.heap.size := ⟨_, rfl⟩
            obtain ⟨w9, hw9⟩ : ∃ z, z = w2.alloc (.cells #[.string ⟨#[]⟩, .string ⟨#[]⟩] 78) := ⟨_, rfl⟩
            rw [← hw9, ← hGN]
            have HN := Lib.hid (show w9.heap[GN]? = some (.cells #[.string ⟨#[]⟩, .string ⟨#[]⟩] 78 (0, 0)) from by rw [hw9, hGN]; exact heap_alloc_new w2 _)
            have oN : Only (fun _ => False) w2 w9 := by rw [hw9]; exact (Only.refl _ w2).alloc _
            have NG := Lib.hid (show V.heap.size ≤ GN from by rw [hGN]; exact (show V.heap.size ≤ (w2).heap.size from (O.out.trans R.out).size))
            have NX := Lib.hid (show G < GN from by have h := NG.out; have h2 := HLT.out; omega)
            replace HX := Lib.hid (Only.keep (R.out.trans oN) HX.out id)
            replace O := Lib.hid (O.out.trans (R.out.trans oN))
            have R := Lib.hid (Only.refl (fun _ => False) w9)
            clear oN hw9 hGN
            obtain ⟨w2, hw2⟩ : ∃ z, z = w9 := ⟨_, rfl⟩
            rw [← hw2] at R O HX HN ⊢
            clear hw2
            refine hK.out _ _ ?_ (fun hHeld => ?_)
            · first | exact ⟨Blk.cell (Blk.keep HX.out R.out id) 0, Blk.cell (Blk.keep HX.out R.out id) 1⟩ | exact ⟨Blk.cell (Blk.off (Blk.keep HX.out R.out id) _ (by have := NX.out; omega)) 0, Blk.cell (Blk.off (Blk.keep HX.out R.out id) _ (by have := NX.out; omega)) 1⟩
            clear hK K
            try simp only [List.getElem_toArray, List.getElem_cons_succ, List.getElem_cons_zero, Act.put, List.setIfInBounds_toArray, List.set_cons_zero, List.set_cons_succ]
            refine rgA.tk 11 hHeld ?_
            refine rgA.rd 12 (fun K hK => ?_)
            rw [if_pos (by rfl)]
            refine wp_store_row 78 (.tmp 17) (.tmp 42) rfl GN (chainV c3 h3) rfl rfl 78 _ (Only.keep R.out HN.out id) (info78 c3 h3) rfl (one78 c3 h3) ?_
            refine hK.out _ _ ?_ (fun hHeld => ?_)
            · first | exact ⟨Blk.cell (Blk.keep HX.out R.out id) 0, Blk.cell (Blk.keep HX.out R.out id) 1⟩ | exact ⟨Blk.cell (Blk.off (Blk.keep HX.out R.out id) _ (by have := NX.out; omega)) 0, Blk.cell (Blk.off (Blk.keep HX.out R.out id) _ (by have := NX.out; omega)) 1⟩
            clear hK K
            try simp only [List.getElem_toArray, List.getElem_cons_succ, List.getElem_cons_zero, Act.put, List.setIfInBounds_toArray, List.set_cons_zero, List.set_cons_succ]
            refine wpAnyH_done (by kernel_rfl) ?_ _
            clear hHeld
          case' br12 =>
            go_simp
            obtain ⟨GN, hGN⟩ : ∃ g, g = w2.heap.size := ⟨_, rfl⟩
            obtain ⟨w9, hw9⟩ : ∃ z, z = w2.alloc (.cells #[.string ⟨#[]⟩, .string ⟨#[]⟩] 78) := ⟨_, rfl⟩
            rw [← hw9, ← hGN]
            have HN := Lib.hid (show w9.heap[GN]? = some (.cells #[.string ⟨#[]⟩, .string ⟨#[]⟩] 78 (0, 0)) from by rw [hw9, hGN]; exact heap_alloc_new w2 _)
            have oN : Only (fun _ => False) w2 w9 := by rw [hw9]; exact (Only.refl _ w2).alloc _
            have NG := Lib.hid (show V.heap.size ≤ GN from by rw [hGN]; exact (show V.heap.size ≤ (w2).heap.size from (O.out.trans R.out).size))
            have NX := Lib.hid (show G < GN from by have h := NG.out; have h2 := HLT.out; omega)
            replace HX := Lib.hid (Only.keep (R.out.trans oN) HX.out id)
            replace O := Lib.hid (O.out.trans (R.out.trans oN))
            have R := Lib.hid (Only.refl (fun _ => False) w9)
            clear oN hw9 hGN
            obtain ⟨w2, hw2⟩ : ∃ z, z = w9 := ⟨_, rfl⟩
            rw [← hw2] at R O HX HN ⊢
            clear hw2
            refine hK.out _ _ ?_ (fun hHeld => ?_)
            · first | exact ⟨Blk.cell (Blk.keep HX.out R.out id) 0, Blk.cell (Blk.keep HX.out R.out id) 1⟩ | exact ⟨Blk.cell (Blk.off (Blk.keep HX.out R.out id) _ (by have := NX.out; omega)) 0, Blk.cell (Blk.off (Blk.keep HX.out R.out id) _ (by have := NX.out; omega)) 1⟩
            clear hK K
            try simp only [List.getElem_toArray, List.getElem_cons_succ, List.getElem_cons_zero, Act.put, List.setIfInBounds_toArray, List.set_cons_zero, List.set_cons_succ]
            refine rgA.rd 6 (fun K hK => ?_)
            go_simp
            (with_reducible refine (C7.out _).mono ?_)
            rintro e w2 ⟨rfl, o⟩
            replace R := Lib.hid (R.out.trans o)
            clear o
            go_wp2_with fail
            refine hK.out _ _ ?_ (fun hHeld => ?_)
            · first | exact ⟨Blk.cell (Blk.keep HX.out R.out id) 0, Blk.cell (Blk.keep HX.out R.out id) 1⟩ | exact ⟨Blk.cell (Blk.off (Blk.keep HX.out R.out id) _ (by have := NX.out; omega)) 0, Blk.cell (Blk.off (Blk.keep HX.out R.out id) _ (by have := NX.out; omega)) 1⟩
            clear hK K
            try simp only [List.getElem_toArray, List.getElem_cons_succ, List.getElem_cons_zero, Act.put, List.setIfInBounds_toArray, List.set_cons_zero, List.set_cons_succ]
            refine rgA.tk 7 hHeld ?_
            refine rgA.tk 8 hHeld ?_
            refine rgA.tk 9 hHeld ?_
            refine rgA.tk 11 hHeld ?_
            refine rgA.rd 12 (fun K hK => ?_)
            rw [if_pos (by rfl)]
            refine wp_store_row 78 (.tmp 17) (.tmp 42) rfl GN (chainV c3 h3) rfl rfl 78 _ (Only.keep R.out HN.out id) (info78 c3 h3) rfl (one78 c3 h3) ?_
            refine hK.out _ _ ?_ (fun hHeld => ?_)
            · first | exact ⟨Blk.cell (Blk.keep HX.out R.out id) 0, Blk.cell (Blk.keep HX.out R.out id) 1⟩ | exact ⟨Blk.cell (Blk.off (Blk.keep HX.out R.out id) _ (by have := NX.out; omega)) 0, Blk.cell (Blk.off (Blk.keep HX.out R.out id) _ (by have := NX.out; omega)) 1⟩
            clear hK K
            try simp only [List.getElem_toArray, List.getElem_cons_succ, List.getElem_cons_zero, Act.put, List.setIfInBounds_toArray, List.set_cons_zero, List.set_cons_succ]
            refine wpAnyH_done (by kernel_rfl) ?_ _
            clear hHeld
        case' br10 =>
          go_simp
          obtain ⟨GN, hGN⟩ : ∃ g, g = w2.heap.size := ⟨_, rfl⟩
          obtain ⟨w9, hw9⟩ : ∃ z, z = w2.alloc (.cells #[.string ⟨#[]⟩, .string ⟨#[]⟩] 78) := ⟨_, rfl⟩
          rw [← hw9, ← hGN]
          have HN := Lib.hid (show w9.heap[GN]? = some (.cells #[.string ⟨#[]⟩, .string ⟨#[]⟩] 78 (0, 0)) from by rw [hw9, hGN]; exact heap_alloc_new w2 _)
          have oN : Only (fun _ => False) w2 w9 := by rw [hw9]; exact (Only.refl _ w2).alloc _
          have NG := Lib.hid (show V.heap.size ≤ GN from by rw [hGN]; exact (show V.heap.size ≤ (w2).heap.size from (O.out.trans R.out).size))
          have NX := Lib.hid (show G < GN from by have h := NG.out; have h2 := HLT.out; omega)
          replace HX := Lib.hid (Only.keep (R.out.trans oN) HX.out id)
          replace O := Lib.hid (O.out.trans (R.out.trans oN))
          have R := Lib.hid (Only.refl (fun _ => False) w9)
          clear oN hw9 hGN
          obtain ⟨w2, hw2⟩ : ∃ z, z = w9 := ⟨_, rfl⟩
          rw [← hw2] at R O HX HN ⊢
          clear hw2
          refine hK.out _ _ ?_ (fun hHeld => ?_)
          · first | exact ⟨Blk.cell (Blk.keep HX.out R.out id) 0, Blk.cell (Blk.keep HX.out R.out id) 1⟩ | exact ⟨Blk.cell (Blk.off (Blk.keep HX.out R.out id) _ (by have := NX.out; omega)) 0, Blk.cell (Blk.off (Blk.keep HX.out R.out id) _ (by have := NX.out; omega)) 1⟩
          clear hK K
          try simp only [List.getElem_toArray, List.getElem_cons_succ, List.getElem_cons_zero, Act.put, List.setIfInBounds_toArray, List.set_cons_zero, List.set_cons_succ]
          refine rgA.rd 5 (fun K hK => ?_)
          go_simp
          (with_reducible refine (C6.out _).mono ?_)
          rintro e w2 ⟨rfl, o⟩
          replace R := Lib.hid (R.out.trans o)
          clear o
          go_wp2_with fail
          refine hK.out _ _ ?_ (fun hHeld => ?_)
          · first | exact ⟨Blk.cell (Blk.keep HX.out R.out id) 0, Blk.cell (Blk.keep HX.out R.out id) 1⟩ | exact ⟨Blk.cell (Blk.off (Blk.keep HX.out R.out id) _ (by have := NX.out; omega)) 0, Blk.cell (Blk.off (Blk.keep HX.out R.out id) _ (by have := NX.out; omega)) 1⟩
          clear hK K
          try simp only [List.getElem_toArray, List.getElem_cons_succ, List.getElem_cons_zero, Act.put, List.setIfInBounds_toArray, List.set_cons_zero, List.set_cons_succ]
          refine rgA.rd 6 (fun K hK => ?_)
          go_simp
          (with_reducible refine (C7.out _).mono ?_)
          rintro e w2 ⟨rfl, o⟩
          replace R := Lib.hid (R.out.trans o)
          clear o
          go_wp2_with fail
          refine hK.out _ _ ?_ (fun hHeld => ?_)
          · first | exact ⟨Blk.cell (Blk.keep HX.out R.out id) 0, Blk.cell (Blk.keep HX.out R.out id) 1⟩ | exact ⟨Blk.cell (Blk.off (Blk.keep HX.out R.out id) _ (by have := NX.out; omega)) 0, Blk.cell (Blk.off (Blk.keep HX.out R.out id) _ (by have := NX.out; omega)) 1⟩
          clear hK K
          try simp only [List.getElem_toArray, List.getElem_cons_succ, List.getElem_cons_zero, Act.put, List.setIfInBounds_toArray, List.set_cons_zero, List.set_cons_succ]
          refine rgA.tk 7 hHeld ?_
          refine rgA.tk 8 hHeld ?_
          refine rgA.tk 9 hHeld ?_
          refine rgA.tk 11 hHeld ?_
          refine rgA.rd 12 (fun K hK => ?_)
          rw [if_pos (by rfl)]
          refine wp_store_row 78 (.tmp 17) (.tmp 42) rfl GN (chainV c3 h3) rfl rfl 78 _ (Only.keep R.out HN.out id) (info78 c3 h3) rfl (one78 c3 h3) ?_
          refine hK.out _ _ ?_ (fun hHeld => ?_)
          · first | exact ⟨Blk.cell (Blk.keep HX.out R.out id) 0, Blk.cell (Blk.keep HX.out R.out id) 1⟩ | exact ⟨Blk.cell (Blk.off (Blk.keep HX.out R.out id) _ (by have := NX.out; omega)) 0, Blk.cell (Blk.off (Blk.keep HX.out R.out id) _ (by have := NX.out; omega)) 1⟩
          clear hK K
          try simp only [List.getElem_toArray, List.getElem_cons_succ, List.getElem_cons_zero, Act.put, List.setIfInBounds_toArray, List.set_cons_zero, List.set_cons_succ]
          refine wpAnyH_done (by kernel_rfl) ?_ _
          clear hHeld
      case' br8 =>
        go_simp
        obtain ⟨GN, hGN⟩ : ∃ g, g = V.heap.size := ⟨_, rfl⟩
        obtain ⟨w9, hw9⟩ : ∃ z, z = (V.alloc (.cells #[.string ⟨#[]⟩, .string ⟨#[]⟩] 78)).drew := ⟨_, rfl⟩
        rw [← hw9, ← hGN]
        have HN := Lib.hid (show w9.heap[GN]? = some (.cells #[.string ⟨#[]⟩, .string ⟨#[]⟩] 78 (0, 0)) from by rw [hw9, hGN]; exact heap_alloc_new V _)
        have oN : Only (fun _ => False) V.drew w9 := by rw [hw9]; exact (Only.refl _ V.drew).alloc _
        have NG := Lib.hid (show V.heap.size ≤ GN from by rw [hGN]; exact (show V.heap.size ≤ (V.drew).heap.size from (O.out.trans R.out).size))
        have NX := Lib.hid (show G < GN from by have h := NG.out; have h2 := HLT.out; omega)
        replace HX := Lib.hid (Only.keep (R.out.trans oN) HX.out id)
        replace O := Lib.hid (O.out.trans (R.out.trans oN))
        have R := Lib.hid (Only.refl (fun _ => False) w9)
        clear oN hw9 hGN
        obtain ⟨w2, hw2⟩ : ∃ z, z = w9 := ⟨_, rfl⟩
        rw [← hw2] at R O HX HN ⊢
        clear hw2
        refine hK.out _ _ ?_ (fun hHeld => ?_)
        · first | exact ⟨Blk.cell (Blk.keep HX.out R.out id) 0, Blk.cell (Blk.keep HX.out R.out id) 1⟩ | exact ⟨Blk.cell (Blk.off (Blk.keep HX.out R.out id) _ (by have := NX.out; omega)) 0, Blk.cell (Blk.off (Blk.keep HX.out R.out id) _ (by have := NX.out; omega)) 1⟩
        clear hK K
        try simp only [List.getElem_toArray, List.getElem_cons_succ, List.getElem_cons_zero, Act.put, List.setIfInBounds_toArray, List.set_cons_zero, List.set_cons_succ]
        refine rgA.rd 3 (fun K hK => ?_)
        go_simp
        (with_reducible refine (C5.out _).mono ?_)
        rintro e w2 ⟨rfl, o⟩
        replace R := Lib.hid (R.out.trans o)
        clear o
        go_wp2_with fail
        refine hK.out _ _ ?_ (fun hHeld => ?_)
        · first | exact ⟨Blk.cell (Blk.keep HX.out R.out id) 0, Blk.cell (Blk.keep HX.out R.out id) 1⟩ | exact ⟨Blk.cell (Blk.off (Blk.keep HX.out R.out id) _ (by have := NX.out; omega)) 0, Blk.cell (Blk.off (Blk.keep HX.out R.out id) _ (by have := NX.out; omega)) 1⟩
        clear hK K
        try simp only [List.getElem_toArray, List.getElem_cons_succ, List.getElem_cons_zero, Act.put, List.setIfInBounds_toArray, List.set_cons_zero, List.set_cons_succ]
        refine rgA.rd 5 (fun K hK => ?_)
        go_simp
        (with_reducible refine (C6.out _).mono ?_)
        rintro e w2 ⟨rfl, o⟩
        replace R := Lib.hid (R.out.trans o)
        clear o
        go_wp2_with fail
        refine hK.out _ _ ?_ (fun hHeld => ?_)
        · first | exact ⟨Blk.cell (Blk.keep HX.out R.out id) 0, Blk.cell (Blk.keep HX.out R.out id) 1⟩ | exact ⟨Blk.cell (Blk.off (Blk.keep HX.out R.out id) _ (by have := NX.out; omega)) 0, Blk.cell (Blk.off (Blk.keep HX.out R.out id) _ (by have := NX.out; omega)) 1⟩
        clear hK K
        try simp only [List.getElem_toArray, List.getElem_cons_succ, List.getElem_cons_zero, Act.put, List.setIfInBounds_toArray, List.set_cons_zero, List.set_cons_succ]
        refine rgA.rd 6 (fun K hK => ?_)
        go_simp
        (with_reducible refine (C7.out _).mono ?_)
        rintro e w2 ⟨rfl, o⟩
        replace R := Lib.hid (R.out.trans o)
        clear o
        go_wp2_with fail
        refine hK.out _ _ ?_ (fun hHeld => ?_)
        · first | exact ⟨Blk.cell (Blk.keep HX.out R.out id) 0, Blk.cell (Blk.keep HX.out R.out id) 1⟩ | exact ⟨Blk.cell (Blk.off (Blk.keep HX.out R.out id) _ (by have := NX.out; omega)) 0, Blk.cell (Blk.off (Blk.keep HX.out R.out id) _ (by have := NX.out; omega)) 1⟩
        clear hK K
        try simp only [List.getElem_toArray, List.getElem_cons_succ, List.getElem_cons_zero, Act.put, List.setIfInBounds_toArray, List.set_cons_zero, List.set_cons_succ]
        refine rgA.tk 7 hHeld ?_
        refine rgA.tk 8 hHeld ?_
        refine rgA.tk 9 hHeld ?_
        refine rgA.tk 11 hHeld ?_
        refine rgA.rd 12 (fun K hK => ?_)
        rw [if_pos (by rfl)]
        refine wp_store_row 78 (.tmp 17) (.tmp 42) rfl GN (chainV c3 h3) rfl rfl 78 _ (Only.keep R.out HN.out id) (info78 c3 h3) rfl (one78 c3 h3) ?_
        refine hK.out _ _ ?_ (fun hHeld => ?_)
        · first | exact ⟨Blk.cell (Blk.keep HX.out R.out id) 0, Blk.cell (Blk.keep HX.out R.out id) 1⟩ | exact ⟨Blk.cell (Blk.off (Blk.keep HX.out R.out id) _ (by have := NX.out; omega)) 0, Blk.cell (Blk.off (Blk.keep HX.out R.out id) _ (by have := NX.out; omega)) 1⟩
        clear hK K
        try simp only [List.getElem_toArray, List.getElem_cons_succ, List.getElem_cons_zero, Act.put, List.setIfInBounds_toArray, List.set_cons_zero, List.set_cons_succ]
        refine wpAnyH_done (by kernel_rfl) ?_ _
        clear hHeld
      all_goals
        go_wp2_with fail
        go_meet
        exact ⟨rfl, GN, rfl, setRow_heap _ _ _ _ _ _ (Only.keep R.out HN.out id), NG.out, Only.old (only_row ((O.out.trans R.out).mono fun _ h => h.elim) _ NG.out)⟩
    case rest =>
      obtain ⟨rfl, GN, rfl, hb, hge, oc⟩ := hcut
      have NGA := Lib.hid (show A + 1 < GN from Nat.lt_of_lt_of_le (Blk.lt HR1.out) hge)
      clear hge
      replace HX := Lib.hid hb
      replace HR0 := Lib.hid (Blk.keep HR0.out oc id)
      replace HR1 := Lib.hid (Blk.keep HR1.out oc id)
      replace O := Lib.hid (O.out.trans oc)
      clear oc hb
      obtain ⟨V, hV⟩ : ∃ V, V = wc := ⟨_, rfl⟩
      rw [← hV] at HX HR0 HR1 O ⊢
      clear hV
      go_upto_region 5 with fail
      obtain ⟨G, hG⟩ : ∃ G, G = GN := ⟨_, rfl⟩
      rw [← hG] at HX NGA ⊢
      clear hG
      have HXA := Lib.hid (show G ≠ A ∧ G ≠ A + 1 from by have := NGA.out; omega)
      have R := Lib.hid ((Only.refl (fun _ => False) V).drew)
      refine wp_region_held_drew (S := (fun w' => w'.cell? ⟨G, 0, none⟩ = some (.string c3) ∧ w'.cell? ⟨G, 1, none⟩ = some (.string h3))) (by kernel_rfl) ?_ (fun hHeld => ?_)
      · exact ⟨Blk.cell (Blk.keep HX.out R.out id) 0, Blk.cell (Blk.keep HX.out R.out id) 1⟩
      refine rgA.tk 0 hHeld ?_
      refine rgA.tk 1 hHeld ?_
      refine rgA.tk 2 hHeld ?_
      refine rgA.tk 3 hHeld ?_
      refine rgA.tk 6 hHeld ?_
      refine rgA.rd 4 (fun K hK => ?_)
      go_simp
      obtain ⟨BS, hBS⟩ : ∃ g, g = V.heap.size := ⟨_, rfl⟩
      obtain ⟨w9, hw9⟩ : ∃ z, z = (V.alloc (.cells #[.string eph, .string st, .string se, .string ⟨#[48]⟩, .string ⟨#[48]⟩] 9)).drew := ⟨_, rfl⟩
      rw [← hw9, ← hBS]
      have HS := Lib.hid (show w9.heap[BS]? = some (.cells #[.string eph, .string st, .string se, .string ⟨#[48]⟩, .string ⟨#[48]⟩] 9 (0, 0)) from by rw [hw9, hBS]; exact heap_alloc_new V _)
      have oN : Only (fun _ => False) V.drew w9 := by rw [hw9]; exact (Only.refl _ V.drew).alloc _
      replace HX := Lib.hid (Only.keep (R.out.trans oN) HX.out id)
      replace HR0 := Lib.hid (Only.keep (R.out.trans oN) HR0.out id)
      replace HR1 := Lib.hid (Only.keep (R.out.trans oN) HR1.out id)
      replace O := Lib.hid (O.out.trans (R.out.trans oN))
      have R := Lib.hid (Only.refl (fun _ => False) w9)
      clear oN hw9 hBS
      obtain ⟨w2, hw2⟩ : ∃ z, z = w9 := ⟨_, rfl⟩
      rw [← hw2] at R O HX HR0 HR1 HS ⊢
      clear hw2
      refine hK.out _ _ ?_ (fun hHeld => ?_)
      · first | exact ⟨Blk.cell (Blk.keep HX.out R.out id) 0, Blk.cell (Blk.keep HX.out R.out id) 1⟩ | exact ⟨Blk.cell (Blk.off (Blk.keep HX.out R.out id) _ HXA.out.1) 0, Blk.cell (Blk.off (Blk.keep HX.out R.out id) _ HXA.out.1) 1⟩ | exact ⟨Blk.cell (Blk.off (Blk.off (Blk.keep HX.out R.out id) _ HXA.out.1) _ HXA.out.2) 0, Blk.cell (Blk.off (Blk.off (Blk.keep HX.out R.out id) _ HXA.out.1) _ HXA.out.2) 1⟩
      clear hK K
      try simp only [List.getElem_toArray, List.getElem_cons_succ, List.getElem_cons_zero, Act.put, List.setIfInBounds_toArray, List.set_cons_zero, List.set_cons_succ]
      refine rgA.rd 5 (fun K hK => ?_)
      go_simp
      (with_reducible refine (C8.out _ _ ?_).mono ?_)
      · exact Only.keep R.out HS.out id
      rintro e w2 ⟨rfl, o⟩
      replace R := Lib.hid (R.out.trans o)
      clear o
      go_wp2_with fail
      refine hK.out _ _ ?_ (fun hHeld => ?_)
      · first | exact ⟨Blk.cell (Blk.keep HX.out R.out id) 0, Blk.cell (Blk.keep HX.out R.out id) 1⟩ | exact ⟨Blk.cell (Blk.off (Blk.keep HX.out R.out id) _ HXA.out.1) 0, Blk.cell (Blk.off (Blk.keep HX.out R.out id) _ HXA.out.1) 1⟩ | exact ⟨Blk.cell (Blk.off (Blk.off (Blk.keep HX.out R.out id) _ HXA.out.1) _ HXA.out.2) 0, Blk.cell (Blk.off (Blk.off (Blk.keep HX.out R.out id) _ HXA.out.1) _ HXA.out.2) 1⟩
      clear hK K
      try simp only [List.getElem_toArray, List.getElem_cons_succ, List.getElem_cons_zero, Act.put, List.setIfInBounds_toArray, List.set_cons_zero, List.set_cons_succ]
      refine rgA.rd 7 (fun K hK => ?_)
      rw [if_pos (by rfl)]
      refine wp_store_row 61 (.tmp 10) (.tmp 48) rfl A (initM x eph st se).row rfl rfl 61 _ (Blk.keep HR0.out R.out id) (info61 _) (size61 (zeroM 0) _) (one61 _) ?_
      refine hK.out _ _ ?_ (fun hHeld => ?_)
      · first | exact ⟨Blk.cell (Blk.keep HX.out R.out id) 0, Blk.cell (Blk.keep HX.out R.out id) 1⟩ | exact ⟨Blk.cell (Blk.off (Blk.keep HX.out R.out id) _ HXA.out.1) 0, Blk.cell (Blk.off (Blk.keep HX.out R.out id) _ HXA.out.1) 1⟩ | exact ⟨Blk.cell (Blk.off (Blk.off (Blk.keep HX.out R.out id) _ HXA.out.1) _ HXA.out.2) 0, Blk.cell (Blk.off (Blk.off (Blk.keep HX.out R.out id) _ HXA.out.1) _ HXA.out.2) 1⟩
      clear hK K
      try simp only [List.getElem_toArray, List.getElem_cons_succ, List.getElem_cons_zero, Act.put, List.setIfInBounds_toArray, List.set_cons_zero, List.set_cons_succ]
      refine rgA.rd 8 (fun K hK => ?_)
      rw [if_pos (by rfl)]
      refine wp_store_row 78 (.tmp 11) (.tmp 49) rfl (A + 1) (chainV c3 h3) rfl rfl 78 _ (Blk.off (Blk.keep HR1.out R.out id) _ (by omega)) (info78 c3 h3) rfl (one78 c3 h3) ?_
      refine hK.out _ _ ?_ (fun hHeld => ?_)
      · first | exact ⟨Blk.cell (Blk.keep HX.out R.out id) 0, Blk.cell (Blk.keep HX.out R.out id) 1⟩ | exact ⟨Blk.cell (Blk.off (Blk.keep HX.out R.out id) _ HXA.out.1) 0, Blk.cell (Blk.off (Blk.keep HX.out R.out id) _ HXA.out.1) 1⟩ | exact ⟨Blk.cell (Blk.off (Blk.off (Blk.keep HX.out R.out id) _ HXA.out.1) _ HXA.out.2) 0, Blk.cell (Blk.off (Blk.off (Blk.keep HX.out R.out id) _ HXA.out.1) _ HXA.out.2) 1⟩
      clear hK K
      try simp only [List.getElem_toArray, List.getElem_cons_succ, List.getElem_cons_zero, Act.put, List.setIfInBounds_toArray, List.set_cons_zero, List.set_cons_succ]
      refine wpAnyH_done (by kernel_rfl) ?_ _
      clear hHeld
      go_wp2_with fail
      exact bodyPost_ret (res_cc Try.results69 _ _ A (A + 1) 61 78 (initM x eph st se).row (chainV c3 h3) (0, 0) (0, 0) _ _ rfl (Blk.off (Blk.row (Blk.keep HR0.out R.out id) _) _ (by omega)) Try.underlying61 rfl (info61 _) rfl (Blk.row (Blk.off (Blk.keep HR1.out R.out id) _ (by omega)) _) Try.underlying78 rfl (info78 _ _)) rfl ⟨rfl, Only.old (only_row (only_row ((O.out.trans R.out).mono fun _ h => h.elim) _ (by rw [HAE.out]; exact Nat.le_refl _)) _ (by rw [HAE.out]; omega))⟩

end Go.Proofs.Ytbjnejnjlidiaaa.noGb
