/- Noise: the document's Hear. -/
import Derived.Test.YtbjnejnjlidiaaaNoH
namespace Go.Proofs.Ytbjnejnjlidiaaa.noI
open Go.RowKit kit numA numB numC numD numE tmA tmB tmC tmD tmE trA trB prR prS prW prX tsA tsB tsF tsI wrA wrB wrC wrD wrE wrF wrG wrH wrI wrJ mkA maA maB maC noA noB noC noD noE tsG noF noG noH
set_option linter.unusedVariables false
set_option linter.unusedSimpArgs false

abbrev refV (p : ByteArray) (n : Int) (c h : ByteArray) : Array Value := #[.string p, .int .u64 n, .string c, .string h]
def refHearVal (r : Txt) (m : Msg) : Value :=
  if (hearR r m).1 = 0 then .tuple #[.agg (refV ⟨(hearR r m).2.1.toArray⟩ ((hearR r m).2.2.1 : Nat) ⟨(hearR r m).2.2.2.1.toArray⟩ ⟨(hearR r m).2.2.2.2.toArray⟩), .int .i64 0] else .tuple #[.agg #[.string ⟨#[]⟩, .int .u64 0, .string ⟨#[]⟩, .string ⟨#[]⟩], .int .i64 ((hearR r m).1 : Nat)]
theorem rhv_no {r : Txt} {m : Msg} {k : Nat} (h : hearR r m = (k, [], 0, [], [])) (hk : k ≠ 0) : refHearVal r m = .tuple #[.agg #[.string ⟨#[]⟩, .int .u64 0, .string ⟨#[]⟩, .string ⟨#[]⟩], .int .i64 (k : Nat)] := by
  unfold refHearVal
  rw [h, if_neg hk]
theorem info87 (p : ByteArray) (n : Int) (c h : ByteArray) : (Try.prog.info? 87).map (·.size) = some (refV p n c h).size := by
  rw [show (refV p n c h).size = 4 from rfl]; kernel_rfl
theorem one87 (p : ByteArray) (n : Int) (c h : ByteArray) : (refV p n c h).all (·.oneCell') = true := by simp [refV, Value.oneCell']
def CutP (V : World) (c h : ByteArray) (a : Value) (wx : World) : Prop := ∃ G, a = .pointer (some ⟨G, 0, none⟩) ∧ Blk wx G 78 (chainV c h) ∧ V.heap.size ≤ G ∧ Only (fun _ => False) V wx
theorem refopen_let (s key : ByteArray) (n : Nat) (v b : ByteArray) (c : Nat) (w : World) (hm : s.size ≤ 100000000) (hb : b.data.toList = (opn s.data.toList key.data.toList n v.data.toList).1) (hc : c = (opn s.data.toList key.data.toList n v.data.toList).2) : Calls Try.prog 34 #[.string s, .string key, .int .u64 n, .string v] w (numA.Told w (.tuple #[.string b, .int .i64 (c : Nat)])) := by
  have h := tsG.refopen_any s key n v w hm
  rw [← hb, ← hc] at h
  have e : (⟨b.data.toList.toArray⟩ : ByteArray) = b := by simp
  rw [e] at h
  exact h

set_option maxRecDepth 100000 in
set_option maxHeartbeats 8000000 in
theorem refhear_any (r : ByteArray) (m : Msg) (w : World) (ht : ∀ i, (m.t i).size ≤ 10000000) (rz : r.size ≤ 10000000) : Calls Try.prog 71 #[.string r, mval m] w (numA.Told w (refHearVal r.data.toList m)) := by
  obtain ⟨b1, hb1⟩ : ∃ b, b = isT r.data.toList := ⟨_, rfl⟩
  obtain ⟨b2, hb2⟩ : ∃ b, b = rightM m := ⟨_, rfl⟩
  obtain ⟨ke, hke⟩ : ∃ k, k = (trJ.ndOf (m.t 4).data.toList).k := ⟨_, rfl⟩
  obtain ⟨pr, hpr⟩ : ∃ pr : ByteArray, pr.data.toList = pubT r.data.toList := ⟨⟨(pubT r.data.toList).toArray⟩, rfl⟩
  obtain ⟨u, hu⟩ : ∃ u : ByteArray, u.data.toList = agr r.data.toList (m.t 4).data.toList := ⟨⟨(agr r.data.toList (m.t 4).data.toList).toArray⟩, rfl⟩
  obtain ⟨c1, hc1⟩ : ∃ c1 : ByteArray, c1.data.toList = hc1T (m.t 4).data.toList := ⟨⟨(hc1T (m.t 4).data.toList).toArray⟩, rfl⟩
  obtain ⟨h1, hh1⟩ : ∃ h1 : ByteArray, h1.data.toList = hh1T r.data.toList (m.t 4).data.toList := ⟨⟨(hh1T r.data.toList (m.t 4).data.toList).toArray⟩, rfl⟩
  obtain ⟨k1, hk1⟩ : ∃ k1 : ByteArray, k1.data.toList = hk1T r.data.toList (m.t 4).data.toList := ⟨⟨(hk1T r.data.toList (m.t 4).data.toList).toArray⟩, rfl⟩
  obtain ⟨f, hf⟩ : ∃ f : ByteArray, f.data.toList = hfrom r.data.toList (m.t 4).data.toList (m.t 5).data.toList := ⟨⟨(hfrom r.data.toList (m.t 4).data.toList (m.t 5).data.toList).toArray⟩, rfl⟩
  obtain ⟨x1, hx1⟩ : ∃ x, x = (opn (m.t 5).data.toList (hk1T r.data.toList (m.t 4).data.toList) 0 (hh1T r.data.toList (m.t 4).data.toList)).2 := ⟨_, rfl⟩
  obtain ⟨kf, hkf⟩ : ∃ k, k = (trJ.ndOf f.data.toList).k := ⟨_, rfl⟩
  obtain ⟨c2, hc2⟩ : ∃ c2 : ByteArray, c2.data.toList = hc2T r.data.toList (m.t 4).data.toList := ⟨⟨(hc2T r.data.toList (m.t 4).data.toList).toArray⟩, rfl⟩
  obtain ⟨h2, hh2⟩ : ∃ h2 : ByteArray, h2.data.toList = hh2T r.data.toList (m.t 4).data.toList (m.t 5).data.toList := ⟨⟨(hh2T r.data.toList (m.t 4).data.toList (m.t 5).data.toList).toArray⟩, rfl⟩
  obtain ⟨v, hv⟩ : ∃ v : ByteArray, v.data.toList = hvT r.data.toList (m.t 4).data.toList (m.t 5).data.toList := ⟨⟨(hvT r.data.toList (m.t 4).data.toList (m.t 5).data.toList).toArray⟩, rfl⟩
  obtain ⟨k2, hk2⟩ : ∃ k2 : ByteArray, k2.data.toList = hk2T r.data.toList (m.t 4).data.toList (m.t 5).data.toList := ⟨⟨(hk2T r.data.toList (m.t 4).data.toList (m.t 5).data.toList).toArray⟩, rfl⟩
  obtain ⟨g, hg⟩ : ∃ g : ByteArray, g.data.toList = hst r.data.toList (m.t 4).data.toList (m.t 5).data.toList (m.t 6).data.toList := ⟨⟨(hst r.data.toList (m.t 4).data.toList (m.t 5).data.toList (m.t 6).data.toList).toArray⟩, rfl⟩
  obtain ⟨x2, hx2⟩ : ∃ x, x = (opn (m.t 6).data.toList (hk2T r.data.toList (m.t 4).data.toList (m.t 5).data.toList) 0 (hh2T r.data.toList (m.t 4).data.toList (m.t 5).data.toList)).2 := ⟨_, rfl⟩
  obtain ⟨N, hN⟩ : ∃ N, N = (trJ.ndOf g.data.toList).n := ⟨_, rfl⟩
  obtain ⟨kk, hkk⟩ : ∃ k, k = (trJ.ndOf g.data.toList).k := ⟨_, rfl⟩
  obtain ⟨c3, hc3⟩ : ∃ c3 : ByteArray, c3.data.toList = hc3T r.data.toList (m.t 4).data.toList (m.t 5).data.toList := ⟨⟨(hc3T r.data.toList (m.t 4).data.toList (m.t 5).data.toList).toArray⟩, rfl⟩
  obtain ⟨h3, hh3⟩ : ∃ h3 : ByteArray, h3.data.toList = hh3T r.data.toList (m.t 4).data.toList (m.t 5).data.toList (m.t 6).data.toList := ⟨⟨(hh3T r.data.toList (m.t 4).data.toList (m.t 5).data.toList (m.t 6).data.toList).toArray⟩, rfl⟩
  have prz : pr.size ≤ 10000000 := u_le hpr (Nat.le_trans (pub_most _) (by decide))
  have uz : u.size ≤ 10000000 := u_le hu (Nat.le_trans (agr_most _ _) (by decide))
  have vz : v.size ≤ 10000000 := u_le hv (Nat.le_trans (agr_most _ _) (by decide))
  have c1z : c1.size ≤ 10000000 := u_le hc1 (Nat.le_trans (kdf_most _ (by decide) _ _) (by decide))
  have k1z : k1.size ≤ 10000000 := u_le hk1 (Nat.le_trans (kdf_most _ (by decide) _ _) (by decide))
  have c2z : c2.size ≤ 10000000 := u_le hc2 (Nat.le_trans (kdf_most _ (by decide) _ _) (by decide))
  have k2z : k2.size ≤ 10000000 := u_le hk2 (Nat.le_trans (kdf_most _ (by decide) _ _) (by decide))
  have c3z : c3.size ≤ 10000000 := u_le hc3 (Nat.le_trans (kdf_most _ (by decide) _ _) (by decide))
  have h1z : h1.size ≤ 10000000 := u_le hh1 (Nat.le_trans (hash_most _ _) (by decide))
  have h2z : h2.size ≤ 10000000 := u_le hh2 (Nat.le_trans (hash_most _ _) (by decide))
  have h3z : h3.size ≤ 10000000 := u_le hh3 (Nat.le_trans (hash_most _ _) (by decide))
  have fz : f.size ≤ 10000000 := u_le hf (Nat.le_trans (opn_le _ _ _ _) (by rw [tl_size]; exact ht 5))
  have gz : g.size ≤ 10000000 := u_le hg (Nat.le_trans (opn_le _ _ _ _) (by rw [tl_size]; exact ht 6))
  have C1 := Lib.hid (fun W => (show Calls Try.prog 39 #[.string r] W (numA.Told W (.bool b1)) from by rw [hb1]; exact trJ.is_any r W (Nat.le_trans rz (by decide))))
  have C2 := Lib.hid (fun W => (show Calls Try.prog 56 #[.agg #[.int .i64 m.k, .int .u32 m.s, .int .u32 m.r, .int .u64 m.c, .string (m.t 4), .string (m.t 5), .string (m.t 6), .string (m.t 7), .string (m.t 8), .string (m.t 9), .string (m.t 10), .string (m.t 11), .string (m.t 12)]] W (numA.Told W (.bool b2)) from by rw [hb2]; exact refright_any m W (fun i => Nat.le_trans (ht i) (by decide))))
  have C3 := Lib.hid (fun W => trJ.read_nd (m.t 4) W (Nat.le_trans (ht 4) (by decide)))
  have C4 := Lib.hid (fun W => told_str (b := pr) hpr (pub_any r W rz))
  have C5 := Lib.hid (fun W => (show Calls Try.prog 136 #[.string pr, .string (m.t 4)] W (numA.Told W (.agg #[.string c1, .string h1])) from noD.first_any pr (m.t 4) c1 h1 W (by rw [hc1]; rfl) (by rw [hh1, hpr]; rfl) prz (ht 4)))
  have C6 := Lib.hid (fun W => told_str (b := u) hu (tsG.refagree_any r (m.t 4) W rz (ht 4)))
  have C7 := Lib.hid (fun W => (show Calls Try.prog 139 #[.int .u64 2, .string c1, .string u] W (numA.Told W (.string k1)) from kdf_any 2 c1 u k1 W (by rw [hk1, hc1, hu]; rfl) (by decide) (c1z) (uz)))
  have C8 := Lib.hid (fun W => (show Calls Try.prog 34 #[.string (m.t 5), .string k1, .int .u64 0, .string h1] W (numA.Told W (.tuple #[.string f, .int .i64 (x1 : Nat)])) from refopen_let (m.t 5) k1 0 h1 f x1 W (Nat.le_trans (ht 5) (by decide)) (by rw [hf, hk1, hh1]; rfl) (by rw [hx1, hk1, hh1])))
  have C9 := Lib.hid (fun W => trJ.read_nd f W (Nat.le_trans fz (by decide)))
  have C10 := Lib.hid (fun W => (show Calls Try.prog 139 #[.int .u64 1, .string c1, .string u] W (numA.Told W (.string c2)) from kdf_any 1 c1 u c2 W (by rw [hc2, hc1, hu]; rfl) (by decide) (c1z) (uz)))
  have C11 := Lib.hid (fun W => hash_any h1 (m.t 5) h2 W (by rw [hh2, hh1]; rfl) h1z (ht 5))
  have C12 := Lib.hid (fun W => told_str (b := v) (by rw [hv, hf]; rfl) (tsG.refagree_any r f W rz fz))
  have C13 := Lib.hid (fun W => (show Calls Try.prog 139 #[.int .u64 2, .string c2, .string v] W (numA.Told W (.string k2)) from kdf_any 2 c2 v k2 W (by rw [hk2, hc2, hv]; rfl) (by decide) (c2z) (vz)))
  have C14 := Lib.hid (fun W => (show Calls Try.prog 34 #[.string (m.t 6), .string k2, .int .u64 0, .string h2] W (numA.Told W (.tuple #[.string g, .int .i64 (x2 : Nat)])) from refopen_let (m.t 6) k2 0 h2 g x2 W (Nat.le_trans (ht 6) (by decide)) (by rw [hg, hk2, hh2]; rfl) (by rw [hx2, hk2, hh2])))
  have C15 := Lib.hid (fun W => trJ.read_nd g W (Nat.le_trans gz (by decide)))
  have C16 := Lib.hid (fun W => (show Calls Try.prog 139 #[.int .u64 1, .string c2, .string v] W (numA.Told W (.string c3)) from kdf_any 1 c2 v c3 W (by rw [hc3, hc2, hv]; rfl) (by decide) (c2z) (vz)))
  have C17 := Lib.hid (fun W => hash_any h2 (m.t 6) h3 W (by rw [hh3, hh2]; rfl) h2z (ht 6))
  have HB1 := Lib.hid hb1
  have HB2 := Lib.hid hb2
  have HKE := Lib.hid hke.symm
  have HKF := Lib.hid hkf.symm
  have HX1 := Lib.hid hx1
  have HX2 := Lib.hid hx2
  have HKG := Lib.hid hkk.symm
  have HNG := Lib.hid hN.symm
  have HFQ := Lib.hid hf
  have HGQ := Lib.hid hg
  have HOK := Lib.hid (show f.data.toList = hfrom r.data.toList (m.t 4).data.toList (m.t 5).data.toList ∧ c3.data.toList = hc3T r.data.toList (m.t 4).data.toList (m.t 5).data.toList ∧ h3.data.toList = hh3T r.data.toList (m.t 4).data.toList (m.t 5).data.toList (m.t 6).data.toList from ⟨hf, hc3, hh3⟩)
  clear hb1 hb2 hke hkf hx1 hx2 hkk hN ht rz hpr prz hu uz hc1 c1z hh1 h1z hk1 k1z hf fz hc2 c2z hh2 h2z hv vz hk2 k2z hg gz hc3 c3z hh3 h3z
  unfold mval
  obtain ⟨Y, hY⟩ : ∃ Y, Y = ((w.alloc (.cells #[.int .i64 m.k, .int .u32 m.s, .int .u32 m.r, .int .u64 m.c, .string (m.t 4), .string (m.t 5), .string (m.t 6), .string (m.t 7), .string (m.t 8), .string (m.t 9), .string (m.t 10), .string (m.t 11), .string (m.t 12)] 61)).alloc (.cells #[.string ⟨#[]⟩, .int .u64 0, .string ⟨#[]⟩, .string ⟨#[]⟩] 87)) := ⟨_, rfl⟩
  obtain ⟨A, hA⟩ : ∃ A, A = w.heap.size := ⟨_, rfl⟩
  have O := Lib.hid (show Only (fun _ => False) w Y from by rw [hY]; exact ((Only.refl _ w).alloc _).alloc _)
  have HR0 := Lib.hid (show Blk Y (A) 61 #[.int .i64 m.k, .int .u32 m.s, .int .u32 m.r, .int .u64 m.c, .string (m.t 4), .string (m.t 5), .string (m.t 6), .string (m.t 7), .string (m.t 8), .string (m.t 9), .string (m.t 10), .string (m.t 11), .string (m.t 12)] from by have h := (Blk.keep (Blk.new w 61 #[.int .i64 m.k, .int .u32 m.s, .int .u32 m.r, .int .u64 m.c, .string (m.t 4), .string (m.t 5), .string (m.t 6), .string (m.t 7), .string (m.t 8), .string (m.t 9), .string (m.t 10), .string (m.t 11), .string (m.t 12)]) ((Only.refl (fun _ => False) _).alloc (.cells #[.string ⟨#[]⟩, .int .u64 0, .string ⟨#[]⟩, .string ⟨#[]⟩] 87)) id); rw [hY, hA]; exact h)
  have HR1 := Lib.hid (show Blk Y (A + 1) 87 #[.string ⟨#[]⟩, .int .u64 0, .string ⟨#[]⟩, .string ⟨#[]⟩] from by have h := (Blk.new (w.alloc (.cells #[.int .i64 m.k, .int .u32 m.s, .int .u32 m.r, .int .u64 m.c, .string (m.t 4), .string (m.t 5), .string (m.t 6), .string (m.t 7), .string (m.t 8), .string (m.t 9), .string (m.t 10), .string (m.t 11), .string (m.t 12)] 61)) 87 #[.string ⟨#[]⟩, .int .u64 0, .string ⟨#[]⟩, .string ⟨#[]⟩]); simp only [World.size_alloc] at h; rw [hY, hA]; exact h)
  have HY := Lib.hid hY
  have HAE := Lib.hid hA
  have HYS := Lib.hid (show Y.heap.size = A + 2 from by rw [hY, hA]; simp only [World.size_alloc])
  have HYW := Lib.hid (show Y.heap.size = w.heap.size + 1 + 1 from by rw [hY]; simp only [World.size_alloc])
  clear hY hA
  have HA := Lib.hid (show MsgAt Y A m from HR0.out)
  go_enter Try.func71, Try.ntmps71
  go_wp2_with fail
  rw [← HY.out, ← HAE.out]
  (with_reducible refine (C1.out _).mono ?_)
  rintro e w2 ⟨rfl, o⟩
  replace O := Lib.hid (O.out.trans o)
  replace HR1 := Lib.hid (Blk.keep HR1.out o id)
  replace HA := Lib.hid (MsgAt.keep HA.out o id)
  clear o
  cases b1
  case false =>
    have HV := rhv_no (show hearR r.data.toList m = (3, [], 0, [], []) from by rw [hearR, if_neg (fun q => by have := q.1; rw [← HB1.out] at this; cases this)]) (by decide)
    go_wp2_with (refine wpList_store_row rfl 87 (.tmp 4) (.tmp 35) rfl (A + 1) #[.string ⟨#[]⟩, .int .u64 0, .string ⟨#[]⟩, .string ⟨#[]⟩] rfl rfl 87 _ HR1.out (info87 ⟨#[]⟩ 0 ⟨#[]⟩ ⟨#[]⟩) rfl (one87 ⟨#[]⟩ 0 ⟨#[]⟩ ⟨#[]⟩) ?_)
    exact bodyPost_ret (trB.res2 Try.results71 _ _ (A + 1) 87 #[.string ⟨#[]⟩, .int .u64 0, .string ⟨#[]⟩, .string ⟨#[]⟩] (0, 0) _ rfl (Blk.row HR1.out _) Try.underlying87 rfl (info87 ⟨#[]⟩ 0 ⟨#[]⟩ ⟨#[]⟩)) rfl ⟨by rw [HV]; rfl, Only.old (only_row (O.out.mono fun _ h => h.elim) _ (by rw [HAE.out]; omega))⟩
  obtain ⟨d0, d1, d2, d3, d4, d5, d6, d7, d8, d9, d10, d11, d12⟩ := MsgAt.cells HA.out
  go_wp2_with fail
  (with_reducible refine (C2.out _).mono ?_)
  rintro e w2 ⟨rfl, o⟩
  replace O := Lib.hid (O.out.trans o)
  replace HR1 := Lib.hid (Blk.keep HR1.out o id)
  replace HA := Lib.hid (MsgAt.keep HA.out o id)
  clear o
  cases b2
  case false =>
    have HV := rhv_no (show hearR r.data.toList m = (3, [], 0, [], []) from by rw [hearR, if_neg (fun q => by have := q.2.1; rw [← HB2.out, Bool.and_false] at this; cases this)]) (by decide)
    go_wp2_with (refine wpList_store_row rfl 87 (.tmp 4) (.tmp 35) rfl (A + 1) #[.string ⟨#[]⟩, .int .u64 0, .string ⟨#[]⟩, .string ⟨#[]⟩] rfl rfl 87 _ HR1.out (info87 ⟨#[]⟩ 0 ⟨#[]⟩ ⟨#[]⟩) rfl (one87 ⟨#[]⟩ 0 ⟨#[]⟩ ⟨#[]⟩) ?_)
    exact bodyPost_ret (trB.res2 Try.results71 _ _ (A + 1) 87 #[.string ⟨#[]⟩, .int .u64 0, .string ⟨#[]⟩, .string ⟨#[]⟩] (0, 0) _ rfl (Blk.row HR1.out _) Try.underlying87 rfl (info87 ⟨#[]⟩ 0 ⟨#[]⟩ ⟨#[]⟩)) rfl ⟨by rw [HV]; rfl, Only.old (only_row (O.out.mono fun _ h => h.elim) _ (by rw [HAE.out]; omega))⟩
  clear d0 d1 d2 d3 d4 d5 d6 d7 d8 d9 d10 d11 d12
  have d0 := HA.out.nums.1
  have d4 := MsgAt.text HA.out (i := 4) (by decide) (by decide)
  by_cases hk1 : m.k = 1
  case neg =>
    have q1 : (m.k != 1) = true := by rw [bne_iff_ne]; exact hk1
    have HV := rhv_no (show hearR r.data.toList m = (3, [], 0, [], []) from by rw [hearR, if_neg (fun q => by have := q.2.1; rw [beq_eq_false_iff_ne.2 hk1, Bool.false_and] at this; cases this)]) (by decide)
    go_wp2_with (refine wpList_store_row rfl 87 (.tmp 4) (.tmp 35) rfl (A + 1) #[.string ⟨#[]⟩, .int .u64 0, .string ⟨#[]⟩, .string ⟨#[]⟩] rfl rfl 87 _ HR1.out (info87 ⟨#[]⟩ 0 ⟨#[]⟩ ⟨#[]⟩) rfl (one87 ⟨#[]⟩ 0 ⟨#[]⟩ ⟨#[]⟩) ?_)
    exact bodyPost_ret (trB.res2 Try.results71 _ _ (A + 1) 87 #[.string ⟨#[]⟩, .int .u64 0, .string ⟨#[]⟩, .string ⟨#[]⟩] (0, 0) _ rfl (Blk.row HR1.out _) Try.underlying87 rfl (info87 ⟨#[]⟩ 0 ⟨#[]⟩ ⟨#[]⟩)) rfl ⟨by rw [HV]; rfl, Only.old (only_row (O.out.mono fun _ h => h.elim) _ (by rw [HAE.out]; omega))⟩
  have q1 : (m.k != 1) = false := by rw [bne_eq_false_iff_eq]; exact hk1
  have HK1 := Lib.hid hk1
  clear hk1
  go_wp2_with fail
  (with_reducible refine (C3.out _).mono ?_)
  rintro e w2 ⟨o, vv, rfl, ab, nb, cb, a', n', c', rfl, -, -⟩
  replace O := Lib.hid (O.out.trans o)
  rw [HKE.out]
  have hf0 := fun W => trJ.field0 (.int .i64 ke) (.int .u64 (trJ.ndOf (m.t 4).data.toList).n) (.slice ab nb cb) (.slice a' n' c') W
  replace HR1 := Lib.hid (Blk.keep HR1.out o id)
  replace HA := Lib.hid (MsgAt.keep HA.out o id)
  clear o
  by_cases he5 : ke = 5
  case neg =>
    have q5 : ((ke : Int) != 5) = true := by rw [bne_iff_ne]; omega
    have HV := rhv_no (show hearR r.data.toList m = (3, [], 0, [], []) from by rw [hearR, if_neg (fun q => by have h := q.2.2; rw [pubB, show nd (m.t 4).data.toList = trJ.ndOf (m.t 4).data.toList from rfl, HKE.out, beq_iff_eq] at h; exact he5 h)]) (by decide)
    go_wp2_with (refine wpList_store_row rfl 87 (.tmp 4) (.tmp 35) rfl (A + 1) #[.string ⟨#[]⟩, .int .u64 0, .string ⟨#[]⟩, .string ⟨#[]⟩] rfl rfl 87 _ HR1.out (info87 ⟨#[]⟩ 0 ⟨#[]⟩ ⟨#[]⟩) rfl (one87 ⟨#[]⟩ 0 ⟨#[]⟩ ⟨#[]⟩) ?_)
    exact bodyPost_ret (trB.res2 Try.results71 _ _ (A + 1) 87 #[.string ⟨#[]⟩, .int .u64 0, .string ⟨#[]⟩, .string ⟨#[]⟩] (0, 0) _ rfl (Blk.row HR1.out _) Try.underlying87 rfl (info87 ⟨#[]⟩ 0 ⟨#[]⟩ ⟨#[]⟩)) rfl ⟨by rw [HV]; rfl, Only.old (only_row (O.out.mono fun _ h => h.elim) _ (by rw [HAE.out]; omega))⟩
  have q5 : ((ke : Int) != 5) = false := by rw [bne_eq_false_iff_eq]; omega
  have HP := Lib.hid (show isT r.data.toList = true ∧ (m.k == 1 && rightM m) = true ∧ pubB (m.t 4).data.toList = true from ⟨HB1.out.symm, by rw [HK1.out, ← HB2.out]; rfl, by rw [pubB, show nd (m.t 4).data.toList = trJ.ndOf (m.t 4).data.toList from rfl, HKE.out, he5]; rfl⟩)
  clear he5 d0 d4
  go_upto_region 3 with fail
  clear hf0 q1 q5
  obtain ⟨V, hV⟩ : ∃ V, V = w2 := ⟨_, rfl⟩
  rw [← hV] at HA HR1 O ⊢
  clear hV
  have HB1L := Lib.hid (Blk.lt HR1.out)
  go_cut [6] (fun a wx => CutP V c1 h1 a wx)
  case first =>
    have HLT := Lib.hid (MsgAt.lt HA.out)
    have O := Lib.hid (Only.refl (fun _ => False) V)
    have R := Lib.hid ((Only.refl (fun _ => False) V).drew)
    refine wp_region_held_drew (S := (fun w' => w'.cell? ⟨A, 4, none⟩ = some (.string (m.t 4)))) (by kernel_rfl) ?_ (fun hHeld => ?_)
    · exact MsgAt.text (MsgAt.keep HA.out R.out id) (i := 4) (by decide) (by decide)
    refine rgA.tk 0 hHeld ?_
    refine rgA.tk 2 hHeld ?_
    refine rgA.tk 3 hHeld ?_
    refine wpAnyH_ready (rs := [1, 5]) (by kernel_rfl) (by simp) ?_
    refine AllReadyH.cons rfl (fun K hK => ?br1) (AllReadyH.cons rfl (fun K hK => ?br2) (AllReadyH.nil))
    case' br1 =>
      go_simp
      (with_reducible refine (C4.out _).mono ?_)
      rintro e w2 ⟨rfl, o⟩
      replace R := Lib.hid (R.out.trans o)
      clear o
      go_wp2_with fail
      refine hK.out _ _ ?_ (fun hHeld => ?_)
      · first | exact MsgAt.text (MsgAt.keep HA.out R.out id) (i := 4) (by decide) (by decide) | exact MsgAt.text (show MsgAt _ A m from Blk.off (Blk.keep HA.out R.out id) _ (by have := NA.out; omega)) (i := 4) (by decide) (by decide)
      clear hK K
      try simp only [List.getElem_toArray, List.getElem_cons_succ, List.getElem_cons_zero, Act.put, List.setIfInBounds_toArray, List.set_cons_zero, List.set_cons_succ]
      refine wpAnyH_ready (rs := [4, 5]) (by kernel_rfl) (by simp) ?_
      refine AllReadyH.cons rfl (fun K hK => ?br3) (AllReadyH.cons rfl (fun K hK => ?br4) (AllReadyH.nil))
      case' br3 =>
        go_simp
        (with_reducible refine (C5.out _).mono ?_)
        rintro e w2 ⟨rfl, o⟩
        replace R := Lib.hid (R.out.trans o)
        clear o
        go_wp2_with fail
        refine hK.out _ _ ?_ (fun hHeld => ?_)
        · first | exact MsgAt.text (MsgAt.keep HA.out R.out id) (i := 4) (by decide) (by decide) | exact MsgAt.text (show MsgAt _ A m from Blk.off (Blk.keep HA.out R.out id) _ (by have := NA.out; omega)) (i := 4) (by decide) (by decide)
        clear hK K
        try simp only [List.getElem_toArray, List.getElem_cons_succ, List.getElem_cons_zero, Act.put, List.setIfInBounds_toArray, List.set_cons_zero, List.set_cons_succ]
        refine rgA.rd 5 (fun K hK => ?_)
        go_simp
        obtain ⟨GN, hGN⟩ : ∃ g, g = w2.heap.size := ⟨_, rfl⟩
        obtain ⟨w9, hw9⟩ : ∃ z, z = w2.alloc (.cells #[.string ⟨#[]⟩, .string ⟨#[]⟩] 78) := ⟨_, rfl⟩
        rw [← hw9, ← hGN]
        have HN := Lib.hid (show w9.heap[GN]? = some (.cells #[.string ⟨#[]⟩, .string ⟨#[]⟩] 78 (0, 0)) from by rw [hw9, hGN]; exact heap_alloc_new w2 _)
        have oN : Only (fun _ => False) w2 w9 := by rw [hw9]; exact (Only.refl _ w2).alloc _
        have NG := Lib.hid (show V.heap.size ≤ GN from by rw [hGN]; exact (show V.heap.size ≤ (w2).heap.size from (O.out.trans R.out).size))
        have NA := Lib.hid (show A < GN from by have h := NG.out; have h2 := HLT.out; omega)
        replace HA := Lib.hid (MsgAt.keep HA.out (R.out.trans oN) id)
        replace O := Lib.hid (O.out.trans (R.out.trans oN))
        have R := Lib.hid (Only.refl (fun _ => False) w9)
        clear oN hw9 hGN
        obtain ⟨w2, hw2⟩ : ∃ z, z = w9 := ⟨_, rfl⟩
        rw [← hw2] at R O HA HN ⊢
        clear hw2
        refine hK.out _ _ ?_ (fun hHeld => ?_)
        · first | exact MsgAt.text (MsgAt.keep HA.out R.out id) (i := 4) (by decide) (by decide) | exact MsgAt.text (show MsgAt _ A m from Blk.off (Blk.keep HA.out R.out id) _ (by have := NA.out; omega)) (i := 4) (by decide) (by decide)
        clear hK K
        try simp only [List.getElem_toArray, List.getElem_cons_succ, List.getElem_cons_zero, Act.put, List.setIfInBounds_toArray, List.set_cons_zero, List.set_cons_succ]
        refine rgA.rd 6 (fun K hK => ?_)
        rw [if_pos (by rfl)]
        refine wp_store_row 78 (.tmp 6) (.tmp 40) rfl GN (chainV c1 h1) rfl rfl 78 _ (Only.keep R.out HN.out id) (info78 c1 h1) rfl (one78 c1 h1) ?_
        refine hK.out _ _ ?_ (fun hHeld => ?_)
        · first | exact MsgAt.text (MsgAt.keep HA.out R.out id) (i := 4) (by decide) (by decide) | exact MsgAt.text (show MsgAt _ A m from Blk.off (Blk.keep HA.out R.out id) _ (by have := NA.out; omega)) (i := 4) (by decide) (by decide)
        clear hK K
        try simp only [List.getElem_toArray, List.getElem_cons_succ, List.getElem_cons_zero, Act.put, List.setIfInBounds_toArray, List.set_cons_zero, List.set_cons_succ]
        refine wpAnyH_done (by kernel_rfl) ?_ _
        clear hHeld
      case' br4 =>
        go_simp
        obtain ⟨GN, hGN⟩ : ∃ g, g = w2.heap.size := ⟨_, rfl⟩
        obtain ⟨w9, hw9⟩ : ∃ z, z = w2.alloc (.cells #[.string ⟨#[]⟩, .string ⟨#[]⟩] 78) := ⟨_, rfl⟩
        rw [← hw9, ← hGN]
        have HN := Lib.hid (show w9.heap[GN]? = some (.cells #[.string ⟨#[]⟩, .string ⟨#[]⟩] 78 (0, 0)) from by rw [hw9, hGN]; exact heap_alloc_new w2 _)
        have oN : Only (fun _ => False) w2 w9 := by rw [hw9]; exact (Only.refl _ w2).alloc _
        have NG := Lib.hid (show V.heap.size ≤ GN from by rw [hGN]; exact (show V.heap.size ≤ (w2).heap.size from (O.out.trans R.out).size))
        have NA := Lib.hid (show A < GN from by have h := NG.out; have h2 := HLT.out; omega)
        replace HA := Lib.hid (MsgAt.keep HA.out (R.out.trans oN) id)
        replace O := Lib.hid (O.out.trans (R.out.trans oN))
        have R := Lib.hid (Only.refl (fun _ => False) w9)
        clear oN hw9 hGN
        obtain ⟨w2, hw2⟩ : ∃ z, z = w9 := ⟨_, rfl⟩
        rw [← hw2] at R O HA HN ⊢
        clear hw2
        refine hK.out _ _ ?_ (fun hHeld => ?_)
        · first | exact MsgAt.text (MsgAt.keep HA.out R.out id) (i := 4) (by decide) (by decide) | exact MsgAt.text (show MsgAt _ A m from Blk.off (Blk.keep HA.out R.out id) _ (by have := NA.out; omega)) (i := 4) (by decide) (by decide)
        clear hK K
        try simp only [List.getElem_toArray, List.getElem_cons_succ, List.getElem_cons_zero, Act.put, List.setIfInBounds_toArray, List.set_cons_zero, List.set_cons_succ]
        refine rgA.rd 4 (fun K hK => ?_)
        go_simp
        (with_reducible refine (C5.out _).mono ?_)
        rintro e w2 ⟨rfl, o⟩
        replace R := Lib.hid (R.out.trans o)
        clear o
        go_wp2_with fail
        refine hK.out _ _ ?_ (fun hHeld => ?_)
        · first | exact MsgAt.text (MsgAt.keep HA.out R.out id) (i := 4) (by decide) (by decide) | exact MsgAt.text (show MsgAt _ A m from Blk.off (Blk.keep HA.out R.out id) _ (by have := NA.out; omega)) (i := 4) (by decide) (by decide)
        clear hK K
        try simp only [List.getElem_toArray, List.getElem_cons_succ, List.getElem_cons_zero, Act.put, List.setIfInBounds_toArray, List.set_cons_zero, List.set_cons_succ]
        refine rgA.rd 6 (fun K hK => ?_)
        rw [if_pos (by rfl)]
        refine wp_store_row 78 (.tmp 6) (.tmp 40) rfl GN (chainV c1 h1) rfl rfl 78 _ (Only.keep R.out HN.out id) (info78 c1 h1) rfl (one78 c1 h1) ?_
        refine hK.out _ _ ?_ (fun hHeld => ?_)
        · first | exact MsgAt.text (MsgAt.keep HA.out R.out id) (i := 4) (by decide) (by decide) | exact MsgAt.text (show MsgAt _ A m from Blk.off (Blk.keep HA.out R.out id) _ (by have := NA.out; omega)) (i := 4) (by decide) (by decide)
        clear hK K
        try simp only [List.getElem_toArray, List.getElem_cons_succ, List.getElem_cons_zero, Act.put, List.setIfInBounds_toArray, List.set_cons_zero, List.set_cons_succ]
        refine wpAnyH_done (by kernel_rfl) ?_ _
        clear hHeld
    case' br2 =>
      go_simp
      obtain ⟨GN, hGN⟩ : ∃ g, g = V.heap.size := ⟨_, rfl⟩
      obtain ⟨w9, hw9⟩ : ∃ z, z = (V.alloc (.cells #[.string ⟨#[]⟩, .string ⟨#[]⟩] 78)).drew := ⟨_, rfl⟩
      rw [← hw9, ← hGN]
      have HN := Lib.hid (show w9.heap[GN]? = some (.cells #[.string ⟨#[]⟩, .string ⟨#[]⟩] 78 (0, 0)) from by rw [hw9, hGN]; exact heap_alloc_new V _)
      have oN : Only (fun _ => False) V.drew w9 := by rw [hw9]; exact (Only.refl _ V.drew).alloc _
      have NG := Lib.hid (show V.heap.size ≤ GN from by rw [hGN]; exact (show V.heap.size ≤ (V.drew).heap.size from (O.out.trans R.out).size))
      have NA := Lib.hid (show A < GN from by have h := NG.out; have h2 := HLT.out; omega)
      replace HA := Lib.hid (MsgAt.keep HA.out (R.out.trans oN) id)
      replace O := Lib.hid (O.out.trans (R.out.trans oN))
      have R := Lib.hid (Only.refl (fun _ => False) w9)
      clear oN hw9 hGN
      obtain ⟨w2, hw2⟩ : ∃ z, z = w9 := ⟨_, rfl⟩
      rw [← hw2] at R O HA HN ⊢
      clear hw2
      refine hK.out _ _ ?_ (fun hHeld => ?_)
      · first | exact MsgAt.text (MsgAt.keep HA.out R.out id) (i := 4) (by decide) (by decide) | exact MsgAt.text (show MsgAt _ A m from Blk.off (Blk.keep HA.out R.out id) _ (by have := NA.out; omega)) (i := 4) (by decide) (by decide)
      clear hK K
      try simp only [List.getElem_toArray, List.getElem_cons_succ, List.getElem_cons_zero, Act.put, List.setIfInBounds_toArray, List.set_cons_zero, List.set_cons_succ]
      refine rgA.rd 1 (fun K hK => ?_)
      go_simp
      (with_reducible refine (C4.out _).mono ?_)
      rintro e w2 ⟨rfl, o⟩
      replace R := Lib.hid (R.out.trans o)
      clear o
      go_wp2_with fail
      refine hK.out _ _ ?_ (fun hHeld => ?_)
      · first | exact MsgAt.text (MsgAt.keep HA.out R.out id) (i := 4) (by decide) (by decide) | exact MsgAt.text (show MsgAt _ A m from Blk.off (Blk.keep HA.out R.out id) _ (by have := NA.out; omega)) (i := 4) (by decide) (by decide)
      clear hK K
      try simp only [List.getElem_toArray, List.getElem_cons_succ, List.getElem_cons_zero, Act.put, List.setIfInBounds_toArray, List.set_cons_zero, List.set_cons_succ]
      refine rgA.rd 4 (fun K hK => ?_)
      go_simp
      (with_reducible refine (C5.out _).mono ?_)
      rintro e w2 ⟨rfl, o⟩
      replace R := Lib.hid (R.out.trans o)
      clear o
      go_wp2_with fail
      refine hK.out _ _ ?_ (fun hHeld => ?_)
      · first | exact MsgAt.text (MsgAt.keep HA.out R.out id) (i := 4) (by decide) (by decide) | exact MsgAt.text (show MsgAt _ A m from Blk.off (Blk.keep HA.out R.out id) _ (by have := NA.out; omega)) (i := 4) (by decide) (by decide)
      clear hK K
      try simp only [List.getElem_toArray, List.getElem_cons_succ, List.getElem_cons_zero, Act.put, List.setIfInBounds_toArray, List.set_cons_zero, List.set_cons_succ]
      refine rgA.rd 6 (fun K hK => ?_)
      rw [if_pos (by rfl)]
      refine wp_store_row 78 (.tmp 6) (.tmp 40) rfl GN (chainV c1 h1) rfl rfl 78 _ (Only.keep R.out HN.out id) (info78 c1 h1) rfl (one78 c1 h1) ?_
      refine hK.out _ _ ?_ (fun hHeld => ?_)
      · first | exact MsgAt.text (MsgAt.keep HA.out R.out id) (i := 4) (by decide) (by decide) | exact MsgAt.text (show MsgAt _ A m from Blk.off (Blk.keep HA.out R.out id) _ (by have := NA.out; omega)) (i := 4) (by decide) (by decide)
      clear hK K
      try simp only [List.getElem_toArray, List.getElem_cons_succ, List.getElem_cons_zero, Act.put, List.setIfInBounds_toArray, List.set_cons_zero, List.set_cons_succ]
      refine wpAnyH_done (by kernel_rfl) ?_ _
      clear hHeld
    all_goals
      go_wp2_with fail
      go_meet
      exact ⟨GN, rfl, setRow_heap _ _ _ _ _ _ (Only.keep R.out HN.out id), NG.out, Only.old (only_row ((O.out.trans R.out).mono fun _ h => h.elim) _ NG.out)⟩
  case rest =>
    obtain ⟨GN, rfl, hb, hge, oc⟩ := hcut
    replace HA := Lib.hid (MsgAt.keep HA.out oc id)
    replace HR1 := Lib.hid (Blk.keep HR1.out oc id)
    replace O := Lib.hid (O.out.trans oc)
    have NGA := Lib.hid (show A + 1 < GN from by have h := hge; have h2 := HB1L.out; omega)
    have HX := Lib.hid hb
    clear oc hb hge
    have d4 := MsgAt.text HA.out (i := 4) (by decide) (by decide)
    go_wp2_with fail
    (with_reducible refine (C6.out _).mono ?_)
    rintro e w2 ⟨rfl, o⟩
    replace O := Lib.hid (O.out.trans o)
    replace HR1 := Lib.hid (Blk.keep HR1.out o id)
    replace HA := Lib.hid (MsgAt.keep HA.out o id)
    replace HX := Lib.hid (Blk.keep HX.out o id)
    clear o
    clear d4
    go_upto_region 5 with fail
    obtain ⟨G, hG⟩ : ∃ G, G = GN := ⟨_, rfl⟩
    rw [← hG] at HX NGA ⊢
    clear hG
    obtain ⟨V, hV⟩ : ∃ V, V = w2 := ⟨_, rfl⟩
    rw [← hV] at HA HR1 O HX ⊢
    clear hV
    have R := Lib.hid ((Only.refl (fun _ => False) V).drew)
    refine wp_region_held_drew (S := (fun w' => w'.cell? ⟨A, 5, none⟩ = some (.string (m.t 5)) ∧ w'.cell? ⟨G, 0, none⟩ = some (.string c1) ∧ w'.cell? ⟨G, 1, none⟩ = some (.string h1))) (by kernel_rfl) ?_ (fun hHeld => ?_)
    · exact ⟨MsgAt.text (MsgAt.keep HA.out R.out id) (i := 5) (by decide) (by decide), Blk.cell (Blk.keep HX.out R.out id) 0, Blk.cell (Blk.keep HX.out R.out id) 1⟩
    refine rgA.tk 0 hHeld ?_
    refine rgA.tk 1 hHeld ?_
    refine rgA.tk 2 hHeld ?_
    refine rgA.tk 3 hHeld ?_
    refine rgA.tk 4 hHeld ?_
    refine rgA.tk 6 hHeld ?_
    refine rgA.tk 7 hHeld ?_
    refine rgA.rd 5 (fun K hK => ?_)
    go_simp
    (with_reducible refine (C7.out _).mono ?_)
    rintro e w2 ⟨rfl, o⟩
    replace R := Lib.hid (R.out.trans o)
    clear o
    go_wp2_with fail
    refine hK.out _ _ ?_ (fun hHeld => ?_)
    · exact ⟨MsgAt.text (MsgAt.keep HA.out R.out id) (i := 5) (by decide) (by decide), Blk.cell (Blk.keep HX.out R.out id) 0, Blk.cell (Blk.keep HX.out R.out id) 1⟩
    clear hK K
    try simp only [List.getElem_toArray, List.getElem_cons_succ, List.getElem_cons_zero, Act.put, List.setIfInBounds_toArray, List.set_cons_zero, List.set_cons_succ]
    refine rgA.rd 8 (fun K hK => ?_)
    go_simp
    (with_reducible refine (C8.out _).mono ?_)
    rintro e w2 ⟨rfl, o⟩
    replace R := Lib.hid (R.out.trans o)
    clear o
    go_wp2_with fail
    refine hK.out _ _ ?_ (fun hHeld => ?_)
    · exact ⟨MsgAt.text (MsgAt.keep HA.out R.out id) (i := 5) (by decide) (by decide), Blk.cell (Blk.keep HX.out R.out id) 0, Blk.cell (Blk.keep HX.out R.out id) 1⟩
    clear hK K
    try simp only [List.getElem_toArray, List.getElem_cons_succ, List.getElem_cons_zero, Act.put, List.setIfInBounds_toArray, List.set_cons_zero, List.set_cons_succ]
    refine rgA.tk 9 hHeld ?_
    refine rgA.tk 10 hHeld ?_
    refine rgA.tk 11 hHeld ?_
    refine rgA.tk 12 hHeld ?_
    refine rgA.tk 13 hHeld ?_
    refine wpAnyH_done (by kernel_rfl) ?_ _
    replace O := Lib.hid (O.out.trans R.out)
    replace HA := Lib.hid (MsgAt.keep HA.out R.out id)
    replace HR1 := Lib.hid (Blk.keep HR1.out R.out id)
    replace HX := Lib.hid (Blk.keep HX.out R.out id)
    clear R
    by_cases hz1 : x1 = 0
    case neg =>
      have z1 : ((x1 : Int) != 0) = true := by rw [bne_iff_ne]; omega
      have HV := rhv_no (show hearR r.data.toList m = (8, [], 0, [], []) from by rw [hearR, if_pos HP.out, hear4, if_neg (by rw [← HX1.out]; exact hz1)]) (by decide)
      go_wp2_with (refine wpList_store_row rfl 87 (.tmp 4) (.tmp 59) rfl (A + 1) #[.string ⟨#[]⟩, .int .u64 0, .string ⟨#[]⟩, .string ⟨#[]⟩] rfl rfl 87 _ HR1.out (info87 ⟨#[]⟩ 0 ⟨#[]⟩ ⟨#[]⟩) rfl (one87 ⟨#[]⟩ 0 ⟨#[]⟩ ⟨#[]⟩) ?_)
      exact bodyPost_ret (trB.res2 Try.results71 _ _ (A + 1) 87 #[.string ⟨#[]⟩, .int .u64 0, .string ⟨#[]⟩, .string ⟨#[]⟩] (0, 0) _ rfl (Blk.row HR1.out _) Try.underlying87 rfl (info87 ⟨#[]⟩ 0 ⟨#[]⟩ ⟨#[]⟩)) rfl ⟨by rw [HV]; rfl, Only.old (only_row (O.out.mono fun _ h => h.elim) _ (by rw [HAE.out]; omega))⟩
    have z1 : ((x1 : Int) != 0) = false := by rw [bne_eq_false_iff_eq]; omega
    have HZ1 := Lib.hid hz1
    clear hz1
    go_wp2_with fail
    (with_reducible refine (C9.out _).mono ?_)
    rintro e w2 ⟨o, vv, rfl, ab, nb, cb, a', n', c', rfl, -, -⟩
    replace O := Lib.hid (O.out.trans o)
    rw [HKF.out]
    have hf0 := fun W => trJ.field0 (.int .i64 kf) (.int .u64 (trJ.ndOf f.data.toList).n) (.slice ab nb cb) (.slice a' n' c') W
    replace HR1 := Lib.hid (Blk.keep HR1.out o id)
    replace HA := Lib.hid (MsgAt.keep HA.out o id)
    replace HX := Lib.hid (Blk.keep HX.out o id)
    clear o
    have HPF := Lib.hid (show pubB (hfrom r.data.toList (m.t 4).data.toList (m.t 5).data.toList) = true ↔ kf = 5 from by rw [← HFQ.out, pubB, show nd f.data.toList = trJ.ndOf f.data.toList from rfl, HKF.out, beq_iff_eq])
    by_cases hf5 : kf = 5
    case neg =>
      have q5 : ((kf : Int) != 5) = true := by rw [bne_iff_ne]; omega
      have HV := rhv_no (show hearR r.data.toList m = (3, [], 0, [], []) from by rw [hearR, if_pos HP.out, hear4, if_pos (by rw [← HX1.out]; exact HZ1.out), if_neg (fun q => hf5 (HPF.out.1 q))]) (by decide)
      go_wp2_with (refine wpList_store_row rfl 87 (.tmp 4) (.tmp 64) rfl (A + 1) #[.string ⟨#[]⟩, .int .u64 0, .string ⟨#[]⟩, .string ⟨#[]⟩] rfl rfl 87 _ HR1.out (info87 ⟨#[]⟩ 0 ⟨#[]⟩ ⟨#[]⟩) rfl (one87 ⟨#[]⟩ 0 ⟨#[]⟩ ⟨#[]⟩) ?_)
      exact bodyPost_ret (trB.res2 Try.results71 _ _ (A + 1) 87 #[.string ⟨#[]⟩, .int .u64 0, .string ⟨#[]⟩, .string ⟨#[]⟩] (0, 0) _ rfl (Blk.row HR1.out _) Try.underlying87 rfl (info87 ⟨#[]⟩ 0 ⟨#[]⟩ ⟨#[]⟩)) rfl ⟨by rw [HV]; rfl, Only.old (only_row (O.out.mono fun _ h => h.elim) _ (by rw [HAE.out]; omega))⟩
    have q5 : ((kf : Int) != 5) = false := by rw [bne_eq_false_iff_eq]; omega
    have HF5 := Lib.hid hf5
    clear hf5
    go_upto_region 10 with fail
    clear hf0 q5
    obtain ⟨V, hV⟩ : ∃ V, V = w2 := ⟨_, rfl⟩
    rw [← hV] at HA HR1 O HX ⊢
    clear hV
    replace HB1L := Lib.hid (Blk.lt HR1.out)
    go_cut [10] (fun a wx => CutP V c2 h2 a wx)
    case first =>
      have HLT := Lib.hid (MsgAt.lt HA.out)
      have HLX := Lib.hid (Blk.lt HX.out)
      have O := Lib.hid (Only.refl (fun _ => False) V)
      have R := Lib.hid ((Only.refl (fun _ => False) V).drew)
      refine wp_region_held_drew (S := (fun w' => w'.cell? ⟨A, 5, none⟩ = some (.string (m.t 5)) ∧ w'.cell? ⟨G, 0, none⟩ = some (.string c1) ∧ w'.cell? ⟨G, 1, none⟩ = some (.string h1))) (by kernel_rfl) ?_ (fun hHeld => ?_)
      · exact ⟨MsgAt.text (MsgAt.keep HA.out R.out id) (i := 5) (by decide) (by decide), Blk.cell (Blk.keep HX.out R.out id) 0, Blk.cell (Blk.keep HX.out R.out id) 1⟩
      refine rgA.tk 0 hHeld ?_
      refine rgA.tk 1 hHeld ?_
      refine rgA.tk 2 hHeld ?_
      refine rgA.tk 4 hHeld ?_
      refine rgA.tk 5 hHeld ?_
      refine rgA.tk 6 hHeld ?_
      refine rgA.tk 7 hHeld ?_
      refine wpAnyH_ready (rs := [3, 10]) (by kernel_rfl) (by simp) ?_
      refine AllReadyH.cons rfl (fun K hK => ?br5) (AllReadyH.cons rfl (fun K hK => ?br6) (AllReadyH.nil))
      case' br5 =>
        go_simp
        (with_reducible refine (C10.out _).mono ?_)
        rintro e w2 ⟨rfl, o⟩
        replace R := Lib.hid (R.out.trans o)
        clear o
        go_wp2_with fail
        refine hK.out _ _ ?_ (fun hHeld => ?_)
        · first | exact ⟨MsgAt.text (MsgAt.keep HA.out R.out id) (i := 5) (by decide) (by decide), Blk.cell (Blk.keep HX.out R.out id) 0, Blk.cell (Blk.keep HX.out R.out id) 1⟩ | exact ⟨MsgAt.text (show MsgAt _ A m from Blk.off (Blk.keep HA.out R.out id) _ (by have := NA.out; omega)) (i := 5) (by decide) (by decide), Blk.cell (Blk.off (Blk.keep HX.out R.out id) _ (by have := NX.out; omega)) 0, Blk.cell (Blk.off (Blk.keep HX.out R.out id) _ (by have := NX.out; omega)) 1⟩
        clear hK K
        try simp only [List.getElem_toArray, List.getElem_cons_succ, List.getElem_cons_zero, Act.put, List.setIfInBounds_toArray, List.set_cons_zero, List.set_cons_succ]
        refine wpAnyH_ready (rs := [8, 10]) (by kernel_rfl) (by simp) ?_
        refine AllReadyH.cons rfl (fun K hK => ?br7) (AllReadyH.cons rfl (fun K hK => ?br8) (AllReadyH.nil))
        case' br7 =>
          go_simp
          (with_reducible refine (C11.out _).mono ?_)
          rintro e w2 ⟨rfl, o⟩
          replace R := Lib.hid (R.out.trans o)
          clear o
          go_wp2_with fail
          refine hK.out _ _ ?_ (fun hHeld => ?_)
          · first | exact ⟨MsgAt.text (MsgAt.keep HA.out R.out id) (i := 5) (by decide) (by decide), Blk.cell (Blk.keep HX.out R.out id) 0, Blk.cell (Blk.keep HX.out R.out id) 1⟩ | exact ⟨MsgAt.text (show MsgAt _ A m from Blk.off (Blk.keep HA.out R.out id) _ (by have := NA.out; omega)) (i := 5) (by decide) (by decide), Blk.cell (Blk.off (Blk.keep HX.out R.out id) _ (by have := NX.out; omega)) 0, Blk.cell (Blk.off (Blk.keep HX.out R.out id) _ (by have := NX.out; omega)) 1⟩
          clear hK K
          try simp only [List.getElem_toArray, List.getElem_cons_succ, List.getElem_cons_zero, Act.put, List.setIfInBounds_toArray, List.set_cons_zero, List.set_cons_succ]
          refine rgA.tk 9 hHeld ?_
          refine rgA.rd 10 (fun K hK => ?_)
          go_simp
          obtain ⟨GN, hGN⟩ : ∃ g, g = w2.heap.size := ⟨_, rfl⟩
          obtain ⟨w9, hw9⟩ : ∃ z, z = w2.alloc (.cells #[.string ⟨#[]⟩, .string ⟨#[]⟩] 78) := ⟨_, rfl⟩
          rw [← hw9, ← hGN]
          have HN := Lib.hid (show w9.heap[GN]? = some (.cells #[.string ⟨#[]⟩, .string ⟨#[]⟩] 78 (0, 0)) from by rw [hw9, hGN]; exact heap_alloc_new w2 _)
          have oN : Only (fun _ => False) w2 w9 := by rw [hw9]; exact (Only.refl _ w2).alloc _
          have NG := Lib.hid (show V.heap.size ≤ GN from by rw [hGN]; exact (show V.heap.size ≤ (w2).heap.size from (O.out.trans R.out).size))
          have NA := Lib.hid (show A < GN from by have h := NG.out; have h2 := HLT.out; omega)
          have NX := Lib.hid (show G < GN from by have h := NG.out; have h2 := HLX.out; omega)
          replace HA := Lib.hid (MsgAt.keep HA.out (R.out.trans oN) id)
          replace HX := Lib.hid (Only.keep (R.out.trans oN) HX.out id)
          replace O := Lib.hid (O.out.trans (R.out.trans oN))
          have R := Lib.hid (Only.refl (fun _ => False) w9)
          clear oN hw9 hGN
          obtain ⟨w2, hw2⟩ : ∃ z, z = w9 := ⟨_, rfl⟩
          rw [← hw2] at R O HA HX HN ⊢
          clear hw2
          refine hK.out _ _ ?_ (fun hHeld => ?_)
          · first | exact ⟨MsgAt.text (MsgAt.keep HA.out R.out id) (i := 5) (by decide) (by decide), Blk.cell (Blk.keep HX.out R.out id) 0, Blk.cell (Blk.keep HX.out R.out id) 1⟩ | exact ⟨MsgAt.text (show MsgAt _ A m from Blk.off (Blk.keep HA.out R.out id) _ (by have := NA.out; omega)) (i := 5) (by decide) (by decide), Blk.cell (Blk.off (Blk.keep HX.out R.out id) _ (by have := NX.out; omega)) 0, Blk.cell (Blk.off (Blk.keep HX.out R.out id) _ (by have := NX.out; omega)) 1⟩
          clear hK K
          try simp only [List.getElem_toArray, List.getElem_cons_succ, List.getElem_cons_zero, Act.put, List.setIfInBounds_toArray, List.set_cons_zero, List.set_cons_succ]
          refine rgA.rd 11 (fun K hK => ?_)
          rw [if_pos (by rfl)]
          refine wp_store_row 78 (.tmp 10) (.tmp 74) rfl GN (chainV c2 h2) rfl rfl 78 _ (Only.keep R.out HN.out id) (info78 c2 h2) rfl (one78 c2 h2) ?_
          refine hK.out _ _ ?_ (fun hHeld => ?_)
          · first | exact ⟨MsgAt.text (MsgAt.keep HA.out R.out id) (i := 5) (by decide) (by decide), Blk.cell (Blk.keep HX.out R.out id) 0, Blk.cell (Blk.keep HX.out R.out id) 1⟩ | exact ⟨MsgAt.text (show MsgAt _ A m from Blk.off (Blk.keep HA.out R.out id) _ (by have := NA.out; omega)) (i := 5) (by decide) (by decide), Blk.cell (Blk.off (Blk.keep HX.out R.out id) _ (by have := NX.out; omega)) 0, Blk.cell (Blk.off (Blk.keep HX.out R.out id) _ (by have := NX.out; omega)) 1⟩
          clear hK K
          try simp only [List.getElem_toArray, List.getElem_cons_succ, List.getElem_cons_zero, Act.put, List.setIfInBounds_toArray, List.set_cons_zero, List.set_cons_succ]
          refine wpAnyH_done (by kernel_rfl) ?_ _
          clear hHeld
        case' br8 =>
          go_simp
          obtain ⟨GN, hGN⟩ : ∃ g, g = w2.heap.size := ⟨_, rfl⟩
          obtain ⟨w9, hw9⟩ : ∃ z, z = w2.alloc (.cells #[.string ⟨#[]⟩, .string ⟨#[]⟩] 78) := ⟨_, rfl⟩
          rw [← hw9, ← hGN]
          have HN := Lib.hid (show w9.heap[GN]? = some (.cells #[.string ⟨#[]⟩, .string ⟨#[]⟩] 78 (0, 0)) from by rw [hw9, hGN]; exact heap_alloc_new w2 _)
          have oN : Only (fun _ => False) w2 w9 := by rw [hw9]; exact (Only.refl _ w2).alloc _
          have NG := Lib.hid (show V.heap.size ≤ GN from by rw [hGN]; exact (show V.heap.size ≤ (w2).heap.size from (O.out.trans R.out).size))
          have NA := Lib.hid (show A < GN from by have h := NG.out; have h2 := HLT.out; omega)
          have NX := Lib.hid (show G < GN from by have h := NG.out; have h2 := HLX.out; omega)
          replace HA := Lib.hid (MsgAt.keep HA.out (R.out.trans oN) id)
          replace HX := Lib.hid (Only.keep (R.out.trans oN) HX.out id)
          replace O := Lib.hid (O.out.trans (R.out.trans oN))
          have R := Lib.hid (Only.refl (fun _ => False) w9)
          clear oN hw9 hGN
          obtain ⟨w2, hw2⟩ : ∃ z, z = w9 := ⟨_, rfl⟩
          rw [← hw2] at R O HA HX HN ⊢
          clear hw2
          refine hK.out _ _ ?_ (fun hHeld => ?_)
          · first | exact ⟨MsgAt.text (MsgAt.keep HA.out R.out id) (i := 5) (by decide) (by decide), Blk.cell (Blk.keep HX.out R.out id) 0, Blk.cell (Blk.keep HX.out R.out id) 1⟩ | exact ⟨MsgAt.text (show MsgAt _ A m from Blk.off (Blk.keep HA.out R.out id) _ (by have := NA.out; omega)) (i := 5) (by decide) (by decide), Blk.cell (Blk.off (Blk.keep HX.out R.out id) _ (by have := NX.out; omega)) 0, Blk.cell (Blk.off (Blk.keep HX.out R.out id) _ (by have := NX.out; omega)) 1⟩
          clear hK K
          try simp only [List.getElem_toArray, List.getElem_cons_succ, List.getElem_cons_zero, Act.put, List.setIfInBounds_toArray, List.set_cons_zero, List.set_cons_succ]
          refine rgA.rd 8 (fun K hK => ?_)
          go_simp
          (with_reducible refine (C11.out _).mono ?_)
          rintro e w2 ⟨rfl, o⟩
          replace R := Lib.hid (R.out.trans o)
          clear o
          go_wp2_with fail
          refine hK.out _ _ ?_ (fun hHeld => ?_)
          · first | exact ⟨MsgAt.text (MsgAt.keep HA.out R.out id) (i := 5) (by decide) (by decide), Blk.cell (Blk.keep HX.out R.out id) 0, Blk.cell (Blk.keep HX.out R.out id) 1⟩ | exact ⟨MsgAt.text (show MsgAt _ A m from Blk.off (Blk.keep HA.out R.out id) _ (by have := NA.out; omega)) (i := 5) (by decide) (by decide), Blk.cell (Blk.off (Blk.keep HX.out R.out id) _ (by have := NX.out; omega)) 0, Blk.cell (Blk.off (Blk.keep HX.out R.out id) _ (by have := NX.out; omega)) 1⟩
          clear hK K
          try simp only [List.getElem_toArray, List.getElem_cons_succ, List.getElem_cons_zero, Act.put, List.setIfInBounds_toArray, List.set_cons_zero, List.set_cons_succ]
          refine rgA.tk 9 hHeld ?_
          refine rgA.rd 11 (fun K hK => ?_)
          rw [if_pos (by rfl)]
          refine wp_store_row 78 (.tmp 10) (.tmp 74) rfl GN (chainV c2 h2) rfl rfl 78 _ (Only.keep R.out HN.out id) (info78 c2 h2) rfl (one78 c2 h2) ?_
          refine hK.out _ _ ?_ (fun hHeld => ?_)
          · first | exact ⟨MsgAt.text (MsgAt.keep HA.out R.out id) (i := 5) (by decide) (by decide), Blk.cell (Blk.keep HX.out R.out id) 0, Blk.cell (Blk.keep HX.out R.out id) 1⟩ | exact ⟨MsgAt.text (show MsgAt _ A m from Blk.off (Blk.keep HA.out R.out id) _ (by have := NA.out; omega)) (i := 5) (by decide) (by decide), Blk.cell (Blk.off (Blk.keep HX.out R.out id) _ (by have := NX.out; omega)) 0, Blk.cell (Blk.off (Blk.keep HX.out R.out id) _ (by have := NX.out; omega)) 1⟩
          clear hK K
          try simp only [List.getElem_toArray, List.getElem_cons_succ, List.getElem_cons_zero, Act.put, List.setIfInBounds_toArray, List.set_cons_zero, List.set_cons_succ]
          refine wpAnyH_done (by kernel_rfl) ?_ _
          clear hHeld
      case' br6 =>
        go_simp
        obtain ⟨GN, hGN⟩ : ∃ g, g = V.heap.size := ⟨_, rfl⟩
        obtain ⟨w9, hw9⟩ : ∃ z, z = (V.alloc (.cells #[.string ⟨#[]⟩, .string ⟨#[]⟩] 78)).drew := ⟨_, rfl⟩
        rw [← hw9, ← hGN]
        have HN := Lib.hid (show w9.heap[GN]? = some (.cells #[.string ⟨#[]⟩, .string ⟨#[]⟩] 78 (0, 0)) from by rw [hw9, hGN]; exact heap_alloc_new V _)
        have oN : Only (fun _ => False) V.drew w9 := by rw [hw9]; exact (Only.refl _ V.drew).alloc _
        have NG := Lib.hid (show V.heap.size ≤ GN from by rw [hGN]; exact (show V.heap.size ≤ (V.drew).heap.size from (O.out.trans R.out).size))
        have NA := Lib.hid (show A < GN from by have h := NG.out; have h2 := HLT.out; omega)
        have NX := Lib.hid (show G < GN from by have h := NG.out; have h2 := HLX.out; omega)
        replace HA := Lib.hid (MsgAt.keep HA.out (R.out.trans oN) id)
        replace HX := Lib.hid (Only.keep (R.out.trans oN) HX.out id)
        replace O := Lib.hid (O.out.trans (R.out.trans oN))
        have R := Lib.hid (Only.refl (fun _ => False) w9)
        clear oN hw9 hGN
        obtain ⟨w2, hw2⟩ : ∃ z, z = w9 := ⟨_, rfl⟩
        rw [← hw2] at R O HA HX HN ⊢
        clear hw2
        refine hK.out _ _ ?_ (fun hHeld => ?_)
        · first | exact ⟨MsgAt.text (MsgAt.keep HA.out R.out id) (i := 5) (by decide) (by decide), Blk.cell (Blk.keep HX.out R.out id) 0, Blk.cell (Blk.keep HX.out R.out id) 1⟩ | exact ⟨MsgAt.text (show MsgAt _ A m from Blk.off (Blk.keep HA.out R.out id) _ (by have := NA.out; omega)) (i := 5) (by decide) (by decide), Blk.cell (Blk.off (Blk.keep HX.out R.out id) _ (by have := NX.out; omega)) 0, Blk.cell (Blk.off (Blk.keep HX.out R.out id) _ (by have := NX.out; omega)) 1⟩
        clear hK K
        try simp only [List.getElem_toArray, List.getElem_cons_succ, List.getElem_cons_zero, Act.put, List.setIfInBounds_toArray, List.set_cons_zero, List.set_cons_succ]
        refine rgA.rd 3 (fun K hK => ?_)
        go_simp
        (with_reducible refine (C10.out _).mono ?_)
        rintro e w2 ⟨rfl, o⟩
        replace R := Lib.hid (R.out.trans o)
        clear o
        go_wp2_with fail
        refine hK.out _ _ ?_ (fun hHeld => ?_)
        · first | exact ⟨MsgAt.text (MsgAt.keep HA.out R.out id) (i := 5) (by decide) (by decide), Blk.cell (Blk.keep HX.out R.out id) 0, Blk.cell (Blk.keep HX.out R.out id) 1⟩ | exact ⟨MsgAt.text (show MsgAt _ A m from Blk.off (Blk.keep HA.out R.out id) _ (by have := NA.out; omega)) (i := 5) (by decide) (by decide), Blk.cell (Blk.off (Blk.keep HX.out R.out id) _ (by have := NX.out; omega)) 0, Blk.cell (Blk.off (Blk.keep HX.out R.out id) _ (by have := NX.out; omega)) 1⟩
        clear hK K
        try simp only [List.getElem_toArray, List.getElem_cons_succ, List.getElem_cons_zero, Act.put, List.setIfInBounds_toArray, List.set_cons_zero, List.set_cons_succ]
        refine rgA.rd 8 (fun K hK => ?_)
        go_simp
        (with_reducible refine (C11.out _).mono ?_)
        rintro e w2 ⟨rfl, o⟩
        replace R := Lib.hid (R.out.trans o)
        clear o
        go_wp2_with fail
        refine hK.out _ _ ?_ (fun hHeld => ?_)
        · first | exact ⟨MsgAt.text (MsgAt.keep HA.out R.out id) (i := 5) (by decide) (by decide), Blk.cell (Blk.keep HX.out R.out id) 0, Blk.cell (Blk.keep HX.out R.out id) 1⟩ | exact ⟨MsgAt.text (show MsgAt _ A m from Blk.off (Blk.keep HA.out R.out id) _ (by have := NA.out; omega)) (i := 5) (by decide) (by decide), Blk.cell (Blk.off (Blk.keep HX.out R.out id) _ (by have := NX.out; omega)) 0, Blk.cell (Blk.off (Blk.keep HX.out R.out id) _ (by have := NX.out; omega)) 1⟩
        clear hK K
        try simp only [List.getElem_toArray, List.getElem_cons_succ, List.getElem_cons_zero, Act.put, List.setIfInBounds_toArray, List.set_cons_zero, List.set_cons_succ]
        refine rgA.tk 9 hHeld ?_
        refine rgA.rd 11 (fun K hK => ?_)
        rw [if_pos (by rfl)]
        refine wp_store_row 78 (.tmp 10) (.tmp 74) rfl GN (chainV c2 h2) rfl rfl 78 _ (Only.keep R.out HN.out id) (info78 c2 h2) rfl (one78 c2 h2) ?_
        refine hK.out _ _ ?_ (fun hHeld => ?_)
        · first | exact ⟨MsgAt.text (MsgAt.keep HA.out R.out id) (i := 5) (by decide) (by decide), Blk.cell (Blk.keep HX.out R.out id) 0, Blk.cell (Blk.keep HX.out R.out id) 1⟩ | exact ⟨MsgAt.text (show MsgAt _ A m from Blk.off (Blk.keep HA.out R.out id) _ (by have := NA.out; omega)) (i := 5) (by decide) (by decide), Blk.cell (Blk.off (Blk.keep HX.out R.out id) _ (by have := NX.out; omega)) 0, Blk.cell (Blk.off (Blk.keep HX.out R.out id) _ (by have := NX.out; omega)) 1⟩
        clear hK K
        try simp only [List.getElem_toArray, List.getElem_cons_succ, List.getElem_cons_zero, Act.put, List.setIfInBounds_toArray, List.set_cons_zero, List.set_cons_succ]
        refine wpAnyH_done (by kernel_rfl) ?_ _
        clear hHeld
      all_goals
        go_wp2_with fail
        go_meet
        exact ⟨GN, rfl, setRow_heap _ _ _ _ _ _ (Only.keep R.out HN.out id), NG.out, Only.old (only_row ((O.out.trans R.out).mono fun _ h => h.elim) _ NG.out)⟩
    case rest =>
      clear HX NGA
      obtain ⟨GN, rfl, hb, hge, oc⟩ := hcut
      replace HA := Lib.hid (MsgAt.keep HA.out oc id)
      replace HR1 := Lib.hid (Blk.keep HR1.out oc id)
      replace O := Lib.hid (O.out.trans oc)
      have NGA := Lib.hid (show A + 1 < GN from by have h := hge; have h2 := HB1L.out; omega)
      have HX := Lib.hid hb
      clear oc hb hge
      go_wp2_with fail
      (with_reducible refine (C12.out _).mono ?_)
      rintro e w2 ⟨rfl, o⟩
      replace O := Lib.hid (O.out.trans o)
      replace HR1 := Lib.hid (Blk.keep HR1.out o id)
      replace HA := Lib.hid (MsgAt.keep HA.out o id)
      replace HX := Lib.hid (Blk.keep HX.out o id)
      clear o
      go_upto_region 12 with fail
      obtain ⟨G2, hG⟩ : ∃ G, G = GN := ⟨_, rfl⟩
      rw [← hG] at HX NGA ⊢
      clear hG
      obtain ⟨V, hV⟩ : ∃ V, V = w2 := ⟨_, rfl⟩
      rw [← hV] at HA HR1 O HX ⊢
      clear hV
      have R := Lib.hid ((Only.refl (fun _ => False) V).drew)
      refine wp_region_held_drew (S := (fun w' => w'.cell? ⟨A, 6, none⟩ = some (.string (m.t 6)) ∧ w'.cell? ⟨G2, 0, none⟩ = some (.string c2) ∧ w'.cell? ⟨G2, 1, none⟩ = some (.string h2))) (by kernel_rfl) ?_ (fun hHeld => ?_)
      · exact ⟨MsgAt.text (MsgAt.keep HA.out R.out id) (i := 6) (by decide) (by decide), Blk.cell (Blk.keep HX.out R.out id) 0, Blk.cell (Blk.keep HX.out R.out id) 1⟩
      refine rgA.tk 0 hHeld ?_
      refine rgA.tk 1 hHeld ?_
      refine rgA.tk 2 hHeld ?_
      refine rgA.tk 3 hHeld ?_
      refine rgA.tk 4 hHeld ?_
      refine rgA.tk 6 hHeld ?_
      refine rgA.tk 7 hHeld ?_
      refine rgA.rd 5 (fun K hK => ?_)
      go_simp
      (with_reducible refine (C13.out _).mono ?_)
      rintro e w2 ⟨rfl, o⟩
      replace R := Lib.hid (R.out.trans o)
      clear o
      go_wp2_with fail
      refine hK.out _ _ ?_ (fun hHeld => ?_)
      · exact ⟨MsgAt.text (MsgAt.keep HA.out R.out id) (i := 6) (by decide) (by decide), Blk.cell (Blk.keep HX.out R.out id) 0, Blk.cell (Blk.keep HX.out R.out id) 1⟩
      clear hK K
      try simp only [List.getElem_toArray, List.getElem_cons_succ, List.getElem_cons_zero, Act.put, List.setIfInBounds_toArray, List.set_cons_zero, List.set_cons_succ]
      refine rgA.rd 8 (fun K hK => ?_)
      go_simp
      (with_reducible refine (C14.out _).mono ?_)
      rintro e w2 ⟨rfl, o⟩
      replace R := Lib.hid (R.out.trans o)
      clear o
      go_wp2_with fail
      refine hK.out _ _ ?_ (fun hHeld => ?_)
      · exact ⟨MsgAt.text (MsgAt.keep HA.out R.out id) (i := 6) (by decide) (by decide), Blk.cell (Blk.keep HX.out R.out id) 0, Blk.cell (Blk.keep HX.out R.out id) 1⟩
      clear hK K
      try simp only [List.getElem_toArray, List.getElem_cons_succ, List.getElem_cons_zero, Act.put, List.setIfInBounds_toArray, List.set_cons_zero, List.set_cons_succ]
      refine rgA.tk 9 hHeld ?_
      refine rgA.tk 10 hHeld ?_
      refine rgA.tk 11 hHeld ?_
      refine rgA.tk 12 hHeld ?_
      refine rgA.tk 13 hHeld ?_
      refine wpAnyH_done (by kernel_rfl) ?_ _
      replace O := Lib.hid (O.out.trans R.out)
      replace HA := Lib.hid (MsgAt.keep HA.out R.out id)
      replace HR1 := Lib.hid (Blk.keep HR1.out R.out id)
      replace HX := Lib.hid (Blk.keep HX.out R.out id)
      clear R
      by_cases hz2 : x2 = 0
      case neg =>
        have z2 : ((x2 : Int) != 0) = true := by rw [bne_iff_ne]; omega
        have HV := rhv_no (show hearR r.data.toList m = (8, [], 0, [], []) from by rw [hearR, if_pos HP.out, hear4, if_pos (by rw [← HX1.out]; exact HZ1.out), if_pos (HPF.out.2 HF5.out), if_neg (by rw [← HX2.out]; exact hz2)]) (by decide)
        go_wp2_with (refine wpList_store_row rfl 87 (.tmp 4) (.tmp 92) rfl (A + 1) #[.string ⟨#[]⟩, .int .u64 0, .string ⟨#[]⟩, .string ⟨#[]⟩] rfl rfl 87 _ HR1.out (info87 ⟨#[]⟩ 0 ⟨#[]⟩ ⟨#[]⟩) rfl (one87 ⟨#[]⟩ 0 ⟨#[]⟩ ⟨#[]⟩) ?_)
        exact bodyPost_ret (trB.res2 Try.results71 _ _ (A + 1) 87 #[.string ⟨#[]⟩, .int .u64 0, .string ⟨#[]⟩, .string ⟨#[]⟩] (0, 0) _ rfl (Blk.row HR1.out _) Try.underlying87 rfl (info87 ⟨#[]⟩ 0 ⟨#[]⟩ ⟨#[]⟩)) rfl ⟨by rw [HV]; rfl, Only.old (only_row (O.out.mono fun _ h => h.elim) _ (by rw [HAE.out]; omega))⟩
      have z2 : ((x2 : Int) != 0) = false := by rw [bne_eq_false_iff_eq]; omega
      have HZ2 := Lib.hid hz2
      clear hz2
      go_wp2_with fail
      (with_reducible refine (C15.out _).mono ?_)
      rintro e w2 ⟨o, vv, rfl, ab, nb, cb, a', n', c', rfl, -, -⟩
      replace O := Lib.hid (O.out.trans o)
      rw [HKG.out, HNG.out]
      replace HR1 := Lib.hid (Blk.keep HR1.out o id)
      replace HA := Lib.hid (MsgAt.keep HA.out o id)
      replace HX := Lib.hid (Blk.keep HX.out o id)
      clear o
      go_upto_region 16 with fail
      obtain ⟨GS, hGS⟩ : ∃ G, G = w2.heap.size := ⟨_, rfl⟩
      obtain ⟨V, hV⟩ : ∃ Z, Z = w2.alloc (.cells #[.int .i64 (kk : Nat), .int .u64 (N : Nat), .slice ab nb cb, .slice a' n' c'] 27) := ⟨_, rfl⟩
      have oV : Only (fun _ => False) w2 V := by rw [hV]; exact (Only.refl _ _).alloc _
      have HS := Lib.hid (show Blk V GS 27 #[.int .i64 (kk : Nat), .int .u64 (N : Nat), .slice ab nb cb, .slice a' n' c'] from by rw [hV, hGS]; exact Blk.new w2 27 _)
      rw [← hV, ← hGS]
      have NS1 := Lib.hid (show A + 1 < GS from by rw [hGS]; exact Blk.lt HR1.out)
      replace HA := Lib.hid (MsgAt.keep HA.out oV id)
      replace HR1 := Lib.hid (Blk.keep HR1.out oV id)
      replace HX := Lib.hid (Blk.keep HX.out oV id)
      replace O := Lib.hid (O.out.trans oV)
      clear hV hGS oV
      have s0 : V.cell? ⟨GS, 0, none⟩ = some (.int .i64 (kk : Nat)) := Blk.cell HS.out 0
      by_cases hz3 : kk = 3
      case neg =>
        have z3 : ((kk : Int) != 3) = true := by rw [bne_iff_ne]; omega
        have HV := rhv_no (show hearR r.data.toList m = (3, [], 0, [], []) from by rw [hearR, if_pos HP.out, hear4, if_pos (by rw [← HX1.out]; exact HZ1.out), if_pos (HPF.out.2 HF5.out), if_pos (by rw [← HX2.out]; exact HZ2.out), if_neg (by rw [← HGQ.out, show nd g.data.toList = trJ.ndOf g.data.toList from rfl, HKG.out]; exact hz3)]) (by decide)
        go_wp2_with (refine wpList_store_row rfl 87 (.tmp 4) (.tmp 98) rfl (A + 1) #[.string ⟨#[]⟩, .int .u64 0, .string ⟨#[]⟩, .string ⟨#[]⟩] rfl rfl 87 _ HR1.out (info87 ⟨#[]⟩ 0 ⟨#[]⟩ ⟨#[]⟩) rfl (one87 ⟨#[]⟩ 0 ⟨#[]⟩ ⟨#[]⟩) ?_)
        exact bodyPost_ret (trB.res2 Try.results71 _ _ (A + 1) 87 #[.string ⟨#[]⟩, .int .u64 0, .string ⟨#[]⟩, .string ⟨#[]⟩] (0, 0) _ rfl (Blk.row HR1.out _) Try.underlying87 rfl (info87 ⟨#[]⟩ 0 ⟨#[]⟩ ⟨#[]⟩)) rfl ⟨by rw [HV]; rfl, Only.old (only_row (O.out.mono fun _ h => h.elim) _ (by rw [HAE.out]; omega))⟩
      have z3 : ((kk : Int) != 3) = false := by rw [bne_eq_false_iff_eq]; omega
      have HR := Lib.hid (show hearR r.data.toList m = (0, f.data.toList, N, c3.data.toList, h3.data.toList) from by
        rw [hearR, if_pos HP.out, hear4, if_pos (by rw [← HX1.out]; exact HZ1.out), if_pos (HPF.out.2 HF5.out), if_pos (by rw [← HX2.out]; exact HZ2.out), if_pos (by rw [← HGQ.out, show nd g.data.toList = trJ.ndOf g.data.toList from rfl, HKG.out]; exact hz3), HOK.out.1, HOK.out.2.1, HOK.out.2.2, ← HGQ.out, show nd g.data.toList = trJ.ndOf g.data.toList from rfl, HNG.out])
      clear hz3
      go_upto_region 18 with fail
      clear s0
      have R := Lib.hid ((Only.refl (fun _ => False) V).drew)
      refine wp_region_held_drew (S := (fun w' => w'.cell? ⟨GS, 1, none⟩ = some (.int .u64 (N : Nat)) ∧ w'.cell? ⟨A, 6, none⟩ = some (.string (m.t 6)) ∧ w'.cell? ⟨G2, 0, none⟩ = some (.string c2) ∧ w'.cell? ⟨G2, 1, none⟩ = some (.string h2))) (by kernel_rfl) ?_ (fun hHeld => ?_)
      · exact ⟨Blk.cell (Blk.keep HS.out R.out id) 1, MsgAt.text (MsgAt.keep HA.out R.out id) (i := 6) (by decide) (by decide), Blk.cell (Blk.keep HX.out R.out id) 0, Blk.cell (Blk.keep HX.out R.out id) 1⟩
      refine rgA.tk 0 hHeld ?_
      refine rgA.tk 1 hHeld ?_
      refine rgA.tk 2 hHeld ?_
      refine rgA.tk 3 hHeld ?_
      refine rgA.tk 4 hHeld ?_
      refine rgA.tk 5 hHeld ?_
      refine rgA.tk 7 hHeld ?_
      refine rgA.tk 8 hHeld ?_
      refine rgA.tk 9 hHeld ?_
      refine rgA.tk 10 hHeld ?_
      refine rgA.rd 6 (fun K hK => ?_)
      go_simp
      (with_reducible refine (C16.out _).mono ?_)
      rintro e w2 ⟨rfl, o⟩
      replace R := Lib.hid (R.out.trans o)
      clear o
      go_wp2_with fail
      refine hK.out _ _ ?_ (fun hHeld => ?_)
      · first | exact ⟨Blk.cell (Blk.keep HS.out R.out id) 1, MsgAt.text (MsgAt.keep HA.out R.out id) (i := 6) (by decide) (by decide), Blk.cell (Blk.keep HX.out R.out id) 0, Blk.cell (Blk.keep HX.out R.out id) 1⟩ | exact ⟨Blk.cell (Blk.off (Blk.keep HS.out R.out id) _ (by have := NS1.out; omega)) 1, MsgAt.text (show MsgAt _ A m from Blk.off (Blk.keep HA.out R.out id) _ (by omega)) (i := 6) (by decide) (by decide), Blk.cell (Blk.off (Blk.keep HX.out R.out id) _ (by have := NGA.out; omega)) 0, Blk.cell (Blk.off (Blk.keep HX.out R.out id) _ (by have := NGA.out; omega)) 1⟩
      clear hK K
      try simp only [List.getElem_toArray, List.getElem_cons_succ, List.getElem_cons_zero, Act.put, List.setIfInBounds_toArray, List.set_cons_zero, List.set_cons_succ]
      refine rgA.rd 11 (fun K hK => ?_)
      go_simp
      (with_reducible refine (C17.out _).mono ?_)
      rintro e w2 ⟨rfl, o⟩
      replace R := Lib.hid (R.out.trans o)
      clear o
      go_wp2_with fail
      refine hK.out _ _ ?_ (fun hHeld => ?_)
      · first | exact ⟨Blk.cell (Blk.keep HS.out R.out id) 1, MsgAt.text (MsgAt.keep HA.out R.out id) (i := 6) (by decide) (by decide), Blk.cell (Blk.keep HX.out R.out id) 0, Blk.cell (Blk.keep HX.out R.out id) 1⟩ | exact ⟨Blk.cell (Blk.off (Blk.keep HS.out R.out id) _ (by have := NS1.out; omega)) 1, MsgAt.text (show MsgAt _ A m from Blk.off (Blk.keep HA.out R.out id) _ (by omega)) (i := 6) (by decide) (by decide), Blk.cell (Blk.off (Blk.keep HX.out R.out id) _ (by have := NGA.out; omega)) 0, Blk.cell (Blk.off (Blk.keep HX.out R.out id) _ (by have := NGA.out; omega)) 1⟩
      clear hK K
      try simp only [List.getElem_toArray, List.getElem_cons_succ, List.getElem_cons_zero, Act.put, List.setIfInBounds_toArray, List.set_cons_zero, List.set_cons_succ]
      refine rgA.tk 12 hHeld ?_
      refine rgA.tk 13 hHeld ?_
      refine rgA.rd 14 (fun K hK => ?_)
      rw [if_pos (by rfl)]
      refine wp_store_row 87 (.tmp 4) (.tmp 112) rfl (A + 1) (refV f N c3 h3) rfl rfl 87 _ (Blk.keep HR1.out R.out id) (info87 f N c3 h3) rfl (one87 f N c3 h3) ?_
      refine hK.out _ _ ?_ (fun hHeld => ?_)
      · first | exact ⟨Blk.cell (Blk.keep HS.out R.out id) 1, MsgAt.text (MsgAt.keep HA.out R.out id) (i := 6) (by decide) (by decide), Blk.cell (Blk.keep HX.out R.out id) 0, Blk.cell (Blk.keep HX.out R.out id) 1⟩ | exact ⟨Blk.cell (Blk.off (Blk.keep HS.out R.out id) _ (by have := NS1.out; omega)) 1, MsgAt.text (show MsgAt _ A m from Blk.off (Blk.keep HA.out R.out id) _ (by omega)) (i := 6) (by decide) (by decide), Blk.cell (Blk.off (Blk.keep HX.out R.out id) _ (by have := NGA.out; omega)) 0, Blk.cell (Blk.off (Blk.keep HX.out R.out id) _ (by have := NGA.out; omega)) 1⟩
      clear hK K
      try simp only [List.getElem_toArray, List.getElem_cons_succ, List.getElem_cons_zero, Act.put, List.setIfInBounds_toArray, List.set_cons_zero, List.set_cons_succ]
      refine rgA.tk 15 hHeld ?_
      refine wpAnyH_done (by kernel_rfl) ?_ _
      go_wp2_with fail
      exact bodyPost_ret (trB.res2 Try.results71 _ _ (A + 1) 87 (refV f N c3 h3) (0, 0) _ rfl (Blk.row (Blk.keep HR1.out R.out id) _) Try.underlying87 rfl (info87 _ _ _ _)) rfl ⟨by rw [refHearVal, HR.out, if_pos rfl]; rfl, Only.old (only_row ((O.out.trans R.out).mono fun _ h => h.elim) _ (by rw [HAE.out]; omega))⟩

end Go.Proofs.Ytbjnejnjlidiaaa.noI
