/- Noise: Answer. -/
import Derived.Test.YtbjnejnjlidiaaaNoH
namespace Go.Proofs.Ytbjnejnjlidiaaa.noJ
open Go.RowKit kit numA numB numC numD numE tmA tmB tmC tmD tmE trA trB prR prS prW prX tsA tsB tsF tsI wrA wrB wrC wrD wrE wrF wrG wrH wrI wrJ mkA maA maB maC noA noB noC noD noE tsG noF noG noH
set_option linter.unusedVariables false
set_option linter.unusedSimpArgs false

abbrev keysV (a b : ByteArray) : Array Value := #[.string a, .string b]
theorem info92 (a b : ByteArray) : (Try.prog.info? 92).map (·.size) = some (keysV a b).size := by
  rw [show (keysV a b).size = 2 from rfl]; kernel_rfl
theorem one92 (a b : ByteArray) : (keysV a b).all (·.oneCell') = true := by simp [keysV, Value.oneCell']
def respM (x y : Int) (eph em : ByteArray) : Msg := ⟨2, x, y, 0, fun i => if i = 4 then eph else if i = 7 then em else if i = 11 then ⟨#[48]⟩ else if i = 12 then ⟨#[48]⟩ else ⟨#[]⟩⟩
/-- The last chain, what Empty is sealed by, and with. -/
def ltC (c e u v q : Txt) : Txt := kdfT 1 (chainT c [e, u, v]) q
def ltK (c e u v q : Txt) : Txt := kdfT 3 (chainT c [e, u, v]) q
def ltW (c h e u v q : Txt) : Txt := hashT (sumT h [e]) (kdfT 2 (chainT c [e, u, v]) q)

def ansB (f q p e c h : Txt) : Bool := isT f && isT q && (pubB p && pubB e && (isT c && isT h))
def ansVal (x y : Int) (f q p e c h : Txt) (eph em sd rc : ByteArray) : Value := if ansB f q p e c h = true then .tuple #[.agg (respM x y eph em).row, .agg (keysV sd rc), .int .i64 0] else .tuple #[.agg (zeroM 0).row, .agg (keysV ⟨#[]⟩ ⟨#[]⟩), .int .i64 3]

set_option maxRecDepth 100000 in
set_option maxHeartbeats 8000000 in
theorem answer_any (x y n : Int) (p e c h f q eph em sd rc : ByteArray) (w : World) (heph : eph.data.toList = pubT f.data.toList) (hem : em.data.toList = sealT (ltK c.data.toList eph.data.toList (agr f.data.toList e.data.toList) (agr f.data.toList p.data.toList) q.data.toList) zeroT (ltW c.data.toList h.data.toList eph.data.toList (agr f.data.toList e.data.toList) (agr f.data.toList p.data.toList) q.data.toList)) (hsd : sd.data.toList = kdfT 2 (ltC c.data.toList eph.data.toList (agr f.data.toList e.data.toList) (agr f.data.toList p.data.toList) q.data.toList) zeroT) (hrc : rc.data.toList = kdfT 1 (ltC c.data.toList eph.data.toList (agr f.data.toList e.data.toList) (agr f.data.toList p.data.toList) q.data.toList) zeroT) (hall : ansB f.data.toList q.data.toList p.data.toList e.data.toList c.data.toList h.data.toList = true → [eph, em, sd, rc].all (fun x => isT x.data.toList) = true) (pz : p.size ≤ 10000000) (ez : e.size ≤ 10000000) (cz : c.size ≤ 10000000) (hz : h.size ≤ 10000000) (fz : f.size ≤ 10000000) (qz : q.size ≤ 10000000) : Calls Try.prog 72 #[.agg (heardV y p n e c h), .string f, .string q, .int .u32 x] w (numA.Told w (ansVal x y f.data.toList q.data.toList p.data.toList e.data.toList c.data.toList h.data.toList eph em sd rc)) := by
  obtain ⟨b1, hb1⟩ : ∃ b, b = [f, q].all (fun x => isT x.data.toList) := ⟨_, rfl⟩
  obtain ⟨b2, hb2⟩ : ∃ b, b = [p, e].all (fun x => pubB x.data.toList) := ⟨_, rfl⟩
  obtain ⟨b3, hb3⟩ : ∃ b, b = [c, h].all (fun x => isT x.data.toList) := ⟨_, rfl⟩
  obtain ⟨u, hu⟩ : ∃ u : ByteArray, u.data.toList = agr f.data.toList e.data.toList := ⟨⟨(agr f.data.toList e.data.toList).toArray⟩, rfl⟩
  obtain ⟨v, hv⟩ : ∃ v : ByteArray, v.data.toList = agr f.data.toList p.data.toList := ⟨⟨(agr f.data.toList p.data.toList).toArray⟩, rfl⟩
  obtain ⟨X, hX⟩ : ∃ X : ByteArray, X.data.toList = ltC c.data.toList eph.data.toList u.data.toList v.data.toList q.data.toList := ⟨⟨(ltC c.data.toList eph.data.toList u.data.toList v.data.toList q.data.toList).toArray⟩, rfl⟩
  obtain ⟨K, hK⟩ : ∃ K : ByteArray, K.data.toList = ltK c.data.toList eph.data.toList u.data.toList v.data.toList q.data.toList := ⟨⟨(ltK c.data.toList eph.data.toList u.data.toList v.data.toList q.data.toList).toArray⟩, rfl⟩
  obtain ⟨Z, hZ⟩ : ∃ Z : ByteArray, Z.data.toList = ltW c.data.toList h.data.toList eph.data.toList u.data.toList v.data.toList q.data.toList := ⟨⟨(ltW c.data.toList h.data.toList eph.data.toList u.data.toList v.data.toList q.data.toList).toArray⟩, rfl⟩
  have ephz : eph.size ≤ 100000000 := u_le heph (Nat.le_trans (pub_most _) (by decide))
  have uz : u.size ≤ 100000000 := u_le hu (Nat.le_trans (agr_most _ _) (by decide))
  have vz : v.size ≤ 100000000 := u_le hv (Nat.le_trans (agr_most _ _) (by decide))
  have Xz : X.size ≤ 100000000 := u_le hX (Nat.le_trans (kdf_most _ (by decide) _ _) (by decide))
  have Kz : K.size ≤ 100000000 := u_le hK (Nat.le_trans (kdf_most _ (by decide) _ _) (by decide))
  have Zz : Z.size ≤ 100000000 := u_le hZ (Nat.le_trans (hash_most _ _) (by decide))
  have emz : em.size ≤ 100000000 := u_le hem (Nat.le_trans (seal_most _ _ _) (by decide))
  have sdz : sd.size ≤ 100000000 := u_le hsd (Nat.le_trans (kdf_most _ (by decide) _ _) (by decide))
  have rcz : rc.size ≤ 100000000 := u_le hrc (Nat.le_trans (kdf_most _ (by decide) _ _) (by decide))
  have C1 := Lib.hid (fun W => (show Calls Try.prog 128 #[.slice (some ⟨W.heap.size, 0, none⟩) 2 2] (W.alloc (.cells #[.string f, .string q] 9)) (numA.Told W (.bool b1)) from lst_of (terms_blk [f, q] b1 (hb1.symm) (by simp) (by
    intro x hx
    simp at hx
    rcases hx with rfl | rfl
    · exact Nat.le_trans fz (by decide)
    · exact Nat.le_trans qz (by decide)) (W.alloc (.cells #[.string f, .string q] 9)) W.heap.size (blk_new W _))))
  have C2 := Lib.hid (fun W => (show Calls Try.prog 129 #[.slice (some ⟨W.heap.size, 0, none⟩) 2 2] (W.alloc (.cells #[.string p, .string e] 9)) (numA.Told W (.bool b2)) from lst_of (publics_blk [p, e] b2 (hb2.symm) (by simp) (by
    intro x hx
    simp at hx
    rcases hx with rfl | rfl
    · exact Nat.le_trans pz (by decide)
    · exact Nat.le_trans ez (by decide)) (W.alloc (.cells #[.string p, .string e] 9)) W.heap.size (blk_new W _))))
  have C3 := Lib.hid (fun W => (show Calls Try.prog 128 #[.slice (some ⟨W.heap.size, 0, none⟩) 2 2] (W.alloc (.cells #[.string c, .string h] 9)) (numA.Told W (.bool b3)) from lst_of (terms_blk [c, h] b3 (hb3.symm) (by simp) (by
    intro x hx
    simp at hx
    rcases hx with rfl | rfl
    · exact Nat.le_trans cz (by decide)
    · exact Nat.le_trans hz (by decide)) (W.alloc (.cells #[.string c, .string h] 9)) W.heap.size (blk_new W _))))
  have C4 := Lib.hid (fun W => public_any f eph W heph (Nat.le_trans fz (by decide)))
  have C5 := Lib.hid (fun W => told_str (b := u) hu (prX.agree_any f e W (Nat.le_trans fz (by decide)) (Nat.le_trans ez (by decide))))
  have C6 := Lib.hid (fun W => told_str (b := v) hv (prX.agree_any f p W (Nat.le_trans fz (by decide)) (Nat.le_trans pz (by decide))))
  have C7 := Lib.hid (fun W => last_any c h eph u v q X K Z W (by rw [hX]; rfl) (by rw [hK]; rfl) (by rw [hZ]; rfl) (Nat.le_trans cz (by decide)) (Nat.le_trans hz (by decide)) ephz uz vz (Nat.le_trans qz (by decide)))
  have C8 := Lib.hid (fun W => nseal_any K ⟨#[48]⟩ Z em W (by rw [hem, hK, hZ, hu, hv]; rfl) Kz (by decide) Zz)
  have C9 := Lib.hid (fun W => (show Calls Try.prog 135 #[.int .u64 2, .string X, .string ⟨#[48]⟩] W (numA.Told W (.string sd)) from derive_any 2 X ⟨#[48]⟩ sd W (by rw [hsd, hX, hu, hv]; rfl) (by decide) (Xz) (by decide)))
  have C10 := Lib.hid (fun W => (show Calls Try.prog 135 #[.int .u64 1, .string X, .string ⟨#[48]⟩] W (numA.Told W (.string rc)) from derive_any 1 X ⟨#[48]⟩ rc W (by rw [hrc, hX, hu, hv]; rfl) (by decide) (Xz) (by decide)))
  obtain ⟨b7, hb7⟩ : ∃ b, b = [eph, em, sd, rc].all (fun x => isT x.data.toList) := ⟨_, rfl⟩
  have C11 := Lib.hid (fun W => (show Calls Try.prog 128 #[.slice (some ⟨W.heap.size, 0, none⟩) 4 4] (W.alloc (.cells #[.string eph, .string em, .string sd, .string rc] 9)) (numA.Told W (.bool b7)) from lst_of (terms_blk [eph, em, sd, rc] b7 (hb7.symm) (by simp) (by
    intro x hx
    simp at hx
    rcases hx with rfl | rfl | rfl | rfl
    · exact ephz
    · exact emz
    · exact sdz
    · exact rcz) (W.alloc (.cells #[.string eph, .string em, .string sd, .string rc] 9)) W.heap.size (blk_new W _))))
  have HB := Lib.hid (show ansB f.data.toList q.data.toList p.data.toList e.data.toList c.data.toList h.data.toList = (b1 && (b2 && b3)) from by
    rw [hb1, hb2, hb3]
    simp [ansB])
  have HALL := Lib.hid (show ansB f.data.toList q.data.toList p.data.toList e.data.toList c.data.toList h.data.toList = true → b7 = true from fun q' => by rw [hb7]; exact hall q')
  clear hb1 hb2 hb3 hb7 hall fz qz pz ez cz hz heph hem hsd hrc ephz emz sdz rcz hu uz hv vz hX Xz hK Kz hZ Zz
  obtain ⟨Y, hY⟩ : ∃ Y, Y = (((w.alloc (.cells (heardV y p n e c h) 82)).alloc (.cells #[.int .i64 0, .int .u32 0, .int .u32 0, .int .u64 0, .string ⟨#[]⟩, .string ⟨#[]⟩, .string ⟨#[]⟩, .string ⟨#[]⟩, .string ⟨#[]⟩, .string ⟨#[]⟩, .string ⟨#[]⟩, .string ⟨#[]⟩, .string ⟨#[]⟩] 61)).alloc (.cells #[.string ⟨#[]⟩, .string ⟨#[]⟩] 92)) := ⟨_, rfl⟩
  obtain ⟨A, hA⟩ : ∃ A, A = w.heap.size := ⟨_, rfl⟩
  have O := Lib.hid (show Only (fun _ => False) w Y from by rw [hY]; exact (((Only.refl _ w).alloc _).alloc _).alloc _)
  have HR0 := Lib.hid (show Blk Y (A) 82 (heardV y p n e c h) from by have h := (Blk.keep (Blk.keep (Blk.new w 82 (heardV y p n e c h)) ((Only.refl (fun _ => False) _).alloc (.cells #[.int .i64 0, .int .u32 0, .int .u32 0, .int .u64 0, .string ⟨#[]⟩, .string ⟨#[]⟩, .string ⟨#[]⟩, .string ⟨#[]⟩, .string ⟨#[]⟩, .string ⟨#[]⟩, .string ⟨#[]⟩, .string ⟨#[]⟩, .string ⟨#[]⟩] 61)) id) ((Only.refl (fun _ => False) _).alloc (.cells #[.string ⟨#[]⟩, .string ⟨#[]⟩] 92)) id); rw [hY, hA]; exact h)
  have HR1 := Lib.hid (show Blk Y (A + 1) 61 #[.int .i64 0, .int .u32 0, .int .u32 0, .int .u64 0, .string ⟨#[]⟩, .string ⟨#[]⟩, .string ⟨#[]⟩, .string ⟨#[]⟩, .string ⟨#[]⟩, .string ⟨#[]⟩, .string ⟨#[]⟩, .string ⟨#[]⟩, .string ⟨#[]⟩] from by have h := (Blk.keep (Blk.new (w.alloc (.cells (heardV y p n e c h) 82)) 61 #[.int .i64 0, .int .u32 0, .int .u32 0, .int .u64 0, .string ⟨#[]⟩, .string ⟨#[]⟩, .string ⟨#[]⟩, .string ⟨#[]⟩, .string ⟨#[]⟩, .string ⟨#[]⟩, .string ⟨#[]⟩, .string ⟨#[]⟩, .string ⟨#[]⟩]) ((Only.refl (fun _ => False) _).alloc (.cells #[.string ⟨#[]⟩, .string ⟨#[]⟩] 92)) id); simp only [World.size_alloc] at h; rw [hY, hA]; exact h)
  have HR2 := Lib.hid (show Blk Y (A + 2) 92 #[.string ⟨#[]⟩, .string ⟨#[]⟩] from by have h := (Blk.new ((w.alloc (.cells (heardV y p n e c h) 82)).alloc (.cells #[.int .i64 0, .int .u32 0, .int .u32 0, .int .u64 0, .string ⟨#[]⟩, .string ⟨#[]⟩, .string ⟨#[]⟩, .string ⟨#[]⟩, .string ⟨#[]⟩, .string ⟨#[]⟩, .string ⟨#[]⟩, .string ⟨#[]⟩, .string ⟨#[]⟩] 61)) 92 #[.string ⟨#[]⟩, .string ⟨#[]⟩]); simp only [World.size_alloc] at h; rw [hY, hA]; exact h)
  have HY := Lib.hid hY
  have HAE := Lib.hid hA
  have HYS := Lib.hid (show Y.heap.size = A + 3 from by rw [hY, hA]; simp only [World.size_alloc])
  have HYW := Lib.hid (show Y.heap.size = w.heap.size + 1 + 1 + 1 from by rw [hY]; simp only [World.size_alloc])
  clear hY hA
  go_enter Try.func72, Try.ntmps72
  go_wp2_with fail
  rw [← HY.out, ← HYW.out, ← HAE.out]
  (with_reducible refine (C1.out _).mono ?_)
  rintro e w2 ⟨rfl, o⟩
  replace O := Lib.hid (O.out.trans o)
  replace HR0 := Lib.hid (Blk.keep HR0.out o id)
  replace HR1 := Lib.hid (Blk.keep HR1.out o id)
  replace HR2 := Lib.hid (Blk.keep HR2.out o id)
  clear o
  cases b1
  case false =>
    have HV := show ansVal x y f.data.toList q.data.toList p.data.toList e.data.toList c.data.toList h.data.toList eph em sd rc = .tuple #[.agg (zeroM 0).row, .agg (keysV ⟨#[]⟩ ⟨#[]⟩), .int .i64 3] from by rw [ansVal, HB.out, if_neg (by simp)]
    go_wp2_with (first
      | (refine wpList_store_row rfl 61 (.tmp 8) (.tmp 41) rfl (A + 1) (zeroM 0).row rfl rfl 61 _ HR1.out (info61 (zeroM 0)) (size61 (zeroM 0) (zeroM 0)) (one61 (zeroM 0)) ?_)
      | (refine wpList_store_row rfl 92 (.tmp 9) (.tmp 42) rfl (A + 2) (keysV ⟨#[]⟩ ⟨#[]⟩) rfl rfl 92 _ (Blk.off HR2.out _ (by omega)) (info92 ⟨#[]⟩ ⟨#[]⟩) rfl (one92 ⟨#[]⟩ ⟨#[]⟩) ?_))
    exact bodyPost_ret (res_cct Try.results72 _ _ (A + 1) (A + 2) 61 92 (zeroM 0).row (keysV ⟨#[]⟩ ⟨#[]⟩) (0, 0) (0, 0) _ _ rfl (Blk.off (Blk.row HR1.out _) _ (by omega)) Try.underlying61 rfl (info61 _) rfl (Blk.row (Blk.off HR2.out _ (by omega)) _) Try.underlying92 rfl (info92 _ _)) rfl ⟨by rw [HV]; rfl, Only.old (only_row (only_row (O.out.mono fun _ h => h.elim) _ (by rw [HAE.out]; omega)) _ (by rw [HAE.out]; omega))⟩
  have d1 : w2.cell? ⟨A, 1, none⟩ = some (.string p) := Blk.cell HR0.out 1
  have d3 : w2.cell? ⟨A, 3, none⟩ = some (.string e) := Blk.cell HR0.out 3
  go_wp2_with fail
  (with_reducible refine (C2.out _).mono ?_)
  rintro e w2 ⟨rfl, o⟩
  replace O := Lib.hid (O.out.trans o)
  replace HR0 := Lib.hid (Blk.keep HR0.out o id)
  replace HR1 := Lib.hid (Blk.keep HR1.out o id)
  replace HR2 := Lib.hid (Blk.keep HR2.out o id)
  clear o
  cases b2
  case false =>
    have HV := show ansVal x y f.data.toList q.data.toList p.data.toList e.data.toList c.data.toList h.data.toList eph em sd rc = .tuple #[.agg (zeroM 0).row, .agg (keysV ⟨#[]⟩ ⟨#[]⟩), .int .i64 3] from by rw [ansVal, HB.out, if_neg (by simp)]
    go_wp2_with (first
      | (refine wpList_store_row rfl 61 (.tmp 8) (.tmp 41) rfl (A + 1) (zeroM 0).row rfl rfl 61 _ HR1.out (info61 (zeroM 0)) (size61 (zeroM 0) (zeroM 0)) (one61 (zeroM 0)) ?_)
      | (refine wpList_store_row rfl 92 (.tmp 9) (.tmp 42) rfl (A + 2) (keysV ⟨#[]⟩ ⟨#[]⟩) rfl rfl 92 _ (Blk.off HR2.out _ (by omega)) (info92 ⟨#[]⟩ ⟨#[]⟩) rfl (one92 ⟨#[]⟩ ⟨#[]⟩) ?_))
    exact bodyPost_ret (res_cct Try.results72 _ _ (A + 1) (A + 2) 61 92 (zeroM 0).row (keysV ⟨#[]⟩ ⟨#[]⟩) (0, 0) (0, 0) _ _ rfl (Blk.off (Blk.row HR1.out _) _ (by omega)) Try.underlying61 rfl (info61 _) rfl (Blk.row (Blk.off HR2.out _ (by omega)) _) Try.underlying92 rfl (info92 _ _)) rfl ⟨by rw [HV]; rfl, Only.old (only_row (only_row (O.out.mono fun _ h => h.elim) _ (by rw [HAE.out]; omega)) _ (by rw [HAE.out]; omega))⟩
  clear d1 d3
  have d4 : w2.cell? ⟨A, 4, none⟩ = some (.string c) := Blk.cell HR0.out 4
  have d5 : w2.cell? ⟨A, 5, none⟩ = some (.string h) := Blk.cell HR0.out 5
  go_wp2_with fail
  (with_reducible refine (C3.out _).mono ?_)
  rintro e w2 ⟨rfl, o⟩
  replace O := Lib.hid (O.out.trans o)
  replace HR0 := Lib.hid (Blk.keep HR0.out o id)
  replace HR1 := Lib.hid (Blk.keep HR1.out o id)
  replace HR2 := Lib.hid (Blk.keep HR2.out o id)
  clear o
  cases b3
  case false =>
    have HV := show ansVal x y f.data.toList q.data.toList p.data.toList e.data.toList c.data.toList h.data.toList eph em sd rc = .tuple #[.agg (zeroM 0).row, .agg (keysV ⟨#[]⟩ ⟨#[]⟩), .int .i64 3] from by rw [ansVal, HB.out, if_neg (by simp)]
    go_wp2_with (first
      | (refine wpList_store_row rfl 61 (.tmp 8) (.tmp 41) rfl (A + 1) (zeroM 0).row rfl rfl 61 _ HR1.out (info61 (zeroM 0)) (size61 (zeroM 0) (zeroM 0)) (one61 (zeroM 0)) ?_)
      | (refine wpList_store_row rfl 92 (.tmp 9) (.tmp 42) rfl (A + 2) (keysV ⟨#[]⟩ ⟨#[]⟩) rfl rfl 92 _ (Blk.off HR2.out _ (by omega)) (info92 ⟨#[]⟩ ⟨#[]⟩) rfl (one92 ⟨#[]⟩ ⟨#[]⟩) ?_))
    exact bodyPost_ret (res_cct Try.results72 _ _ (A + 1) (A + 2) 61 92 (zeroM 0).row (keysV ⟨#[]⟩ ⟨#[]⟩) (0, 0) (0, 0) _ _ rfl (Blk.off (Blk.row HR1.out _) _ (by omega)) Try.underlying61 rfl (info61 _) rfl (Blk.row (Blk.off HR2.out _ (by omega)) _) Try.underlying92 rfl (info92 _ _)) rfl ⟨by rw [HV]; rfl, Only.old (only_row (only_row (O.out.mono fun _ h => h.elim) _ (by rw [HAE.out]; omega)) _ (by rw [HAE.out]; omega))⟩
  clear d4 d5
  obtain rfl : true = b7 := (HALL.out (by rw [HB.out]; rfl)).symm
  go_wp2_with fail
  (with_reducible refine (C4.out _).mono ?_)
  rintro e w2 ⟨rfl, o⟩
  replace O := Lib.hid (O.out.trans o)
  replace HR0 := Lib.hid (Blk.keep HR0.out o id)
  replace HR1 := Lib.hid (Blk.keep HR1.out o id)
  replace HR2 := Lib.hid (Blk.keep HR2.out o id)
  clear o
  go_upto_region 4 with fail
  have R := Lib.hid ((Only.refl (fun _ => False) w2).drew)
  obtain ⟨V, hV⟩ : ∃ V, V = w2 := ⟨_, rfl⟩
  rw [← hV] at HR0 HR1 HR2 O R ⊢
  clear hV
  refine wp_region_held_drew (S := (fun w' => w'.cell? ⟨A, 1, none⟩ = some (.string p) ∧ w'.cell? ⟨A, 3, none⟩ = some (.string e) ∧ w'.cell? ⟨A, 4, none⟩ = some (.string c) ∧ w'.cell? ⟨A, 5, none⟩ = some (.string h))) (by kernel_rfl) ?_ (fun hHeld => ?_)
  · exact ⟨Blk.cell (Blk.keep HR0.out R.out id) 1, Blk.cell (Blk.keep HR0.out R.out id) 3, Blk.cell (Blk.keep HR0.out R.out id) 4, Blk.cell (Blk.keep HR0.out R.out id) 5⟩
  refine rgA.tk 0 hHeld ?_
  refine rgA.tk 1 hHeld ?_
  refine rgA.tk 2 hHeld ?_
  refine rgA.tk 3 hHeld ?_
  refine rgA.tk 4 hHeld ?_
  refine rgA.tk 5 hHeld ?_
  refine rgA.tk 6 hHeld ?_
  refine rgA.tk 7 hHeld ?_
  refine rgA.tk 9 hHeld ?_
  refine rgA.tk 10 hHeld ?_
  refine rgA.tk 11 hHeld ?_
  refine rgA.tk 13 hHeld ?_
  refine rgA.rd 8 (fun K hK => ?_)
  go_simp
  (with_reducible refine (C5.out _).mono ?_)
  rintro e w2 ⟨rfl, o⟩
  replace R := Lib.hid (R.out.trans o)
  clear o
  go_wp2_with fail
  refine hK.out _ _ ?_ (fun hHeld => ?_)
  · exact ⟨Blk.cell (Blk.keep HR0.out R.out id) 1, Blk.cell (Blk.keep HR0.out R.out id) 3, Blk.cell (Blk.keep HR0.out R.out id) 4, Blk.cell (Blk.keep HR0.out R.out id) 5⟩
  clear hK K
  try simp only [List.getElem_toArray, List.getElem_cons_succ, List.getElem_cons_zero, Act.put, List.setIfInBounds_toArray, List.set_cons_zero, List.set_cons_succ]
  refine rgA.rd 12 (fun K hK => ?_)
  go_simp
  (with_reducible refine (C6.out _).mono ?_)
  rintro e w2 ⟨rfl, o⟩
  replace R := Lib.hid (R.out.trans o)
  clear o
  go_wp2_with fail
  refine hK.out _ _ ?_ (fun hHeld => ?_)
  · exact ⟨Blk.cell (Blk.keep HR0.out R.out id) 1, Blk.cell (Blk.keep HR0.out R.out id) 3, Blk.cell (Blk.keep HR0.out R.out id) 4, Blk.cell (Blk.keep HR0.out R.out id) 5⟩
  clear hK K
  try simp only [List.getElem_toArray, List.getElem_cons_succ, List.getElem_cons_zero, Act.put, List.setIfInBounds_toArray, List.set_cons_zero, List.set_cons_succ]
  refine rgA.rd 14 (fun K hK => ?_)
  go_simp
  (with_reducible refine (C7.out _).mono ?_)
  rintro e w2 ⟨rfl, o⟩
  replace R := Lib.hid (R.out.trans o)
  clear o
  go_wp2_with fail
  refine hK.out _ _ ?_ (fun hHeld => ?_)
  · exact ⟨Blk.cell (Blk.keep HR0.out R.out id) 1, Blk.cell (Blk.keep HR0.out R.out id) 3, Blk.cell (Blk.keep HR0.out R.out id) 4, Blk.cell (Blk.keep HR0.out R.out id) 5⟩
  clear hK K
  try simp only [List.getElem_toArray, List.getElem_cons_succ, List.getElem_cons_zero, Act.put, List.setIfInBounds_toArray, List.set_cons_zero, List.set_cons_succ]
  refine rgA.tk 15 hHeld ?_
  refine rgA.tk 16 hHeld ?_
  refine rgA.tk 17 hHeld ?_
  refine rgA.tk 18 hHeld ?_
  refine rgA.tk 19 hHeld ?_
  refine rgA.tk 20 hHeld ?_
  refine rgA.tk 21 hHeld ?_
  refine wpAnyH_done (by kernel_rfl) ?_ _
  replace O := Lib.hid (O.out.trans R.out)
  replace HR0 := Lib.hid (Blk.keep HR0.out R.out id)
  replace HR1 := Lib.hid (Blk.keep HR1.out R.out id)
  replace HR2 := Lib.hid (Blk.keep HR2.out R.out id)
  clear R
  go_wp2_with fail
  (with_reducible refine (C8.out _).mono ?_)
  rintro e w2 ⟨rfl, o⟩
  replace O := Lib.hid (O.out.trans o)
  replace HR0 := Lib.hid (Blk.keep HR0.out o id)
  replace HR1 := Lib.hid (Blk.keep HR1.out o id)
  replace HR2 := Lib.hid (Blk.keep HR2.out o id)
  clear o
  go_wp2_with fail
  (with_reducible refine (C9.out _).mono ?_)
  rintro e w2 ⟨rfl, o⟩
  replace O := Lib.hid (O.out.trans o)
  replace HR0 := Lib.hid (Blk.keep HR0.out o id)
  replace HR1 := Lib.hid (Blk.keep HR1.out o id)
  replace HR2 := Lib.hid (Blk.keep HR2.out o id)
  clear o
  go_wp2_with fail
  (with_reducible refine (C10.out _).mono ?_)
  rintro e w2 ⟨rfl, o⟩
  replace O := Lib.hid (O.out.trans o)
  replace HR0 := Lib.hid (Blk.keep HR0.out o id)
  replace HR1 := Lib.hid (Blk.keep HR1.out o id)
  replace HR2 := Lib.hid (Blk.keep HR2.out o id)
  clear o
  go_upto_region 7 with fail
  obtain ⟨GK, hGK⟩ : ∃ G, G = w2.heap.size := ⟨_, rfl⟩
  obtain ⟨V2, hV⟩ : ∃ Z, Z = w2.alloc (.cells #[.string sd, .string rc] 92) := ⟨_, rfl⟩
  have oV : Only (fun _ => False) w2 V2 := by rw [hV]; exact (Only.refl _ _).alloc _
  have HK := Lib.hid (show Blk V2 GK 92 (keysV sd rc) from by rw [hV, hGK]; exact Blk.new w2 92 _)
  have NK := Lib.hid (show A + 2 < GK from by rw [hGK]; exact Blk.lt HR2.out)
  rw [← hV, ← hGK]
  replace HR0 := Lib.hid (Blk.keep HR0.out oV id)
  replace HR1 := Lib.hid (Blk.keep HR1.out oV id)
  replace HR2 := Lib.hid (Blk.keep HR2.out oV id)
  replace O := Lib.hid (O.out.trans oV)
  clear hV hGK oV
  have k0 : V2.cell? ⟨GK, 0, none⟩ = some (.string sd) := Blk.cell HK.out 0
  have k1 : V2.cell? ⟨GK, 1, none⟩ = some (.string rc) := Blk.cell HK.out 1
  go_wp2_with fail
  (with_reducible refine (C11.out _).mono ?_)
  rintro e w2 ⟨rfl, o⟩
  replace O := Lib.hid (O.out.trans o)
  replace HR0 := Lib.hid (Blk.keep HR0.out o id)
  replace HR1 := Lib.hid (Blk.keep HR1.out o id)
  replace HR2 := Lib.hid (Blk.keep HR2.out o id)
  replace HK := Lib.hid (Blk.keep HK.out o id)
  clear o
  clear k0 k1
  have d0 : w2.cell? ⟨A, 0, none⟩ = some (.int .u32 y) := Blk.cell HR0.out 0
  go_upto_region 10 with fail
  obtain ⟨G, hG⟩ : ∃ G, G = w2.heap.size := ⟨_, rfl⟩
  obtain ⟨V3, hV⟩ : ∃ Z, Z = w2.alloc (.cells #[.int .i64 2, .int .u32 x, .int .u32 y, .int .u64 0, .string eph, .string ⟨#[]⟩, .string ⟨#[]⟩, .string em, .string ⟨#[]⟩, .string ⟨#[]⟩, .string ⟨#[]⟩, .string ⟨#[48]⟩, .string ⟨#[48]⟩] 61) := ⟨_, rfl⟩
  have oV : Only (fun _ => False) w2 V3 := by rw [hV]; exact (Only.refl _ _).alloc _
  have HC := Lib.hid (show MsgAt V3 G (respM x y eph em) from by rw [hV, hG]; exact heap_alloc_new w2 _)
  have NC := Lib.hid (show A + 2 < G ∧ GK < G from by rw [hG]; exact ⟨Blk.lt HR2.out, Blk.lt HK.out⟩)
  rw [← hV, ← hG]
  replace HR0 := Lib.hid (Blk.keep HR0.out oV id)
  replace HR1 := Lib.hid (Blk.keep HR1.out oV id)
  replace HR2 := Lib.hid (Blk.keep HR2.out oV id)
  replace HK := Lib.hid (Blk.keep HK.out oV id)
  replace O := Lib.hid (O.out.trans oV)
  clear hV hG oV d0
  have R := Lib.hid ((Only.refl (fun _ => False) V3).drew)
  refine wp_region_held_drew (S := (fun w' => (w'.cell? ⟨G, 0, none⟩ = some (.int .i64 2) ∧ w'.cell? ⟨G, 1, none⟩ = some (.int .u32 x) ∧ w'.cell? ⟨G, 2, none⟩ = some (.int .u32 y) ∧ w'.cell? ⟨G, 3, none⟩ = some (.int .u64 0) ∧ w'.cell? ⟨G, 4, none⟩ = some (.string eph) ∧ w'.cell? ⟨G, 5, none⟩ = some (.string ⟨#[]⟩) ∧ w'.cell? ⟨G, 6, none⟩ = some (.string ⟨#[]⟩) ∧ w'.cell? ⟨G, 7, none⟩ = some (.string em) ∧ w'.cell? ⟨G, 8, none⟩ = some (.string ⟨#[]⟩) ∧ w'.cell? ⟨G, 9, none⟩ = some (.string ⟨#[]⟩) ∧ w'.cell? ⟨G, 10, none⟩ = some (.string ⟨#[]⟩) ∧ w'.cell? ⟨G, 11, none⟩ = some (.string ⟨#[48]⟩) ∧ w'.cell? ⟨G, 12, none⟩ = some (.string ⟨#[48]⟩)) ∧ w'.cell? ⟨GK, 0, none⟩ = some (.string sd) ∧ w'.cell? ⟨GK, 1, none⟩ = some (.string rc))) (by kernel_rfl) ?_ (fun hHeld => ?_)
  · exact ⟨MsgAt.cells (show MsgAt _ G (respM x y eph em) from Blk.keep HC.out R.out id), Blk.cell (Blk.keep HK.out R.out id) 0, Blk.cell (Blk.keep HK.out R.out id) 1⟩
  refine rgA.tk 0 hHeld ?_
  refine rgA.tk 1 hHeld ?_
  refine rgA.rd 2 (fun K hK => ?_)
  rw [if_pos (by rfl)]
  refine wp_store_row 61 (.tmp 8) (.tmp 89) rfl (A + 1) (respM x y eph em).row rfl rfl 61 _ (Blk.keep HR1.out R.out id) (info61 _) (size61 (zeroM 0) _) (one61 _) ?_
  refine hK.out _ _ ?_ (fun hHeld => ?_)
  · first | exact ⟨MsgAt.cells (show MsgAt _ G (respM x y eph em) from Blk.keep HC.out R.out id), Blk.cell (Blk.keep HK.out R.out id) 0, Blk.cell (Blk.keep HK.out R.out id) 1⟩ | exact ⟨MsgAt.cells (show MsgAt _ G (respM x y eph em) from Blk.off (Blk.keep HC.out R.out id) _ (by have := NC.out; have := NK.out; omega)), Blk.cell (Blk.off (Blk.keep HK.out R.out id) _ (by have := NC.out; have := NK.out; omega)) 0, Blk.cell (Blk.off (Blk.keep HK.out R.out id) _ (by have := NC.out; have := NK.out; omega)) 1⟩ | exact ⟨MsgAt.cells (show MsgAt _ G (respM x y eph em) from Blk.off (Blk.off (Blk.keep HC.out R.out id) _ (by have := NC.out; have := NK.out; omega)) _ (by have := NC.out; have := NK.out; omega)), Blk.cell (Blk.off (Blk.off (Blk.keep HK.out R.out id) _ (by have := NC.out; have := NK.out; omega)) _ (by have := NC.out; have := NK.out; omega)) 0, Blk.cell (Blk.off (Blk.off (Blk.keep HK.out R.out id) _ (by have := NC.out; have := NK.out; omega)) _ (by have := NC.out; have := NK.out; omega)) 1⟩
  clear hK K
  try simp only [List.getElem_toArray, List.getElem_cons_succ, List.getElem_cons_zero, Act.put, List.setIfInBounds_toArray, List.set_cons_zero, List.set_cons_succ]
  refine rgA.rd 3 (fun K hK => ?_)
  rw [if_pos (by rfl)]
  refine wp_store_row 92 (.tmp 9) (.tmp 90) rfl (A + 2) (keysV sd rc) rfl rfl 92 _ (Blk.off (Blk.keep HR2.out R.out id) _ (by omega)) (info92 _ _) rfl (one92 _ _) ?_
  refine hK.out _ _ ?_ (fun hHeld => ?_)
  · first | exact ⟨MsgAt.cells (show MsgAt _ G (respM x y eph em) from Blk.keep HC.out R.out id), Blk.cell (Blk.keep HK.out R.out id) 0, Blk.cell (Blk.keep HK.out R.out id) 1⟩ | exact ⟨MsgAt.cells (show MsgAt _ G (respM x y eph em) from Blk.off (Blk.keep HC.out R.out id) _ (by have := NC.out; have := NK.out; omega)), Blk.cell (Blk.off (Blk.keep HK.out R.out id) _ (by have := NC.out; have := NK.out; omega)) 0, Blk.cell (Blk.off (Blk.keep HK.out R.out id) _ (by have := NC.out; have := NK.out; omega)) 1⟩ | exact ⟨MsgAt.cells (show MsgAt _ G (respM x y eph em) from Blk.off (Blk.off (Blk.keep HC.out R.out id) _ (by have := NC.out; have := NK.out; omega)) _ (by have := NC.out; have := NK.out; omega)), Blk.cell (Blk.off (Blk.off (Blk.keep HK.out R.out id) _ (by have := NC.out; have := NK.out; omega)) _ (by have := NC.out; have := NK.out; omega)) 0, Blk.cell (Blk.off (Blk.off (Blk.keep HK.out R.out id) _ (by have := NC.out; have := NK.out; omega)) _ (by have := NC.out; have := NK.out; omega)) 1⟩
  clear hK K
  try simp only [List.getElem_toArray, List.getElem_cons_succ, List.getElem_cons_zero, Act.put, List.setIfInBounds_toArray, List.set_cons_zero, List.set_cons_succ]
  refine rgA.tk 4 hHeld ?_
  refine wpAnyH_done (by kernel_rfl) ?_ _
  go_wp2_with fail
  exact bodyPost_ret (res_cct Try.results72 _ _ (A + 1) (A + 2) 61 92 (respM x y eph em).row (keysV sd rc) (0, 0) (0, 0) _ _ rfl (Blk.off (Blk.row (Blk.keep HR1.out R.out id) _) _ (by omega)) Try.underlying61 rfl (info61 _) rfl (Blk.row (Blk.off (Blk.keep HR2.out R.out id) _ (by omega)) _) Try.underlying92 rfl (info92 _ _)) rfl ⟨by rw [ansVal, HB.out, if_pos (by decide)]; rfl, Only.old (only_row (only_row ((O.out.trans R.out).mono fun _ h => h.elim) _ (by rw [HAE.out]; omega)) _ (by rw [HAE.out]; omega))⟩

end Go.Proofs.Ytbjnejnjlidiaaa.noJ
