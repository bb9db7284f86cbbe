/- Noise: Begin. -/
import Derived.Test.YtbjnejnjlidiaaaNoE
namespace Go.Proofs.Ytbjnejnjlidiaaa.noF
open Go.RowKit kit numA numB numC numD numE tmA tmB tmC tmD tmE trA trB prR prS prW prX tsA tsB tsF tsI wrA wrB wrC wrD wrE wrF wrG wrH wrI wrJ mkA maA maB maC noA noB noC noD noE
set_option linter.unusedVariables false
set_option linter.unusedSimpArgs false

abbrev startV (x : Int) (e c h : ByteArray) : Array Value := #[.int .u32 x, .string e, .string c, .string h]
theorem info74 (x : Int) (e c h : ByteArray) : (Try.prog.info? 74).map (·.size) = some (startV x e c h).size := by
  rw [show (startV x e c h).size = 4 from rfl]; kernel_rfl
theorem info61 (m : Msg) : (Try.prog.info? 61).map (·.size) = some m.row.size := by
  rw [show m.row.size = 13 from rfl]; kernel_rfl
theorem one61 (m : Msg) : m.row.all (·.oneCell') = true := by simp [Msg.row, Value.oneCell']
theorem size61 (m m' : Msg) : m.row.size = m'.row.size := rfl
theorem num_let (N : Nat) (nb : ByteArray) (W : World) (hN : N ≤ most) (hb : nb.data.toList = mkT 3 N [] []) : Calls Try.prog 30 #[.int .i64 3, .int .u64 N, .slice none 0 0, .slice none 0 0] W (numA.Told W (.string nb)) :=
  told_str (by rw [hb]; rfl) (make_any 3 N [] [] (fun _ => False) (fun _ => False) (.slice none 0 0) (.slice none 0 0) W hN (sl_nil _ _) (Nat.zero_le _) (sl_nil _ _) (fun p hp => by cases hp) (Nat.zero_le _))
def initM (x : Int) (eph st se : ByteArray) : Msg := ⟨1, x, 0, 0, fun i => if i = 4 then eph else if i = 5 then st else if i = 6 then se else if i = 11 then ⟨#[48]⟩ else if i = 12 then ⟨#[48]⟩ else ⟨#[]⟩⟩

set_option maxRecDepth 100000 in
set_option maxHeartbeats 1600000 in
theorem begin_1 (s e to : ByteArray) (N : Nat) (x : Int) (w : World) (ht : [s, e].all (fun x => isT x.data.toList) = false) (hp : True) (sz : s.size ≤ 10000000) (ez : e.size ≤ 10000000) (tz : to.size ≤ 10000000) : Calls Try.prog 68 #[.string s, .string e, .string to, .int .u64 N, .int .u32 x] w (numA.Told w (.tuple #[.agg (zeroM 0).row, .agg (startV 0 ⟨#[]⟩ ⟨#[]⟩ ⟨#[]⟩), .int .i64 3])) := by
  have C1 := Lib.hid (fun W => (show Calls Try.prog 128 #[.slice (some ⟨W.heap.size, 0, none⟩) 2 2] (W.alloc (.cells #[.string s, .string e] 9)) (numA.Told W (.bool false)) from lst_of (terms_blk [s, e] false (ht) (by simp) (by
    intro x hx
    simp at hx
    rcases hx with rfl | rfl
    · exact Nat.le_trans sz (by decide)
    · exact Nat.le_trans ez (by decide)) (W.alloc (.cells #[.string s, .string e] 9)) W.heap.size (blk_new W _))))
  clear ht hp sz ez tz
  obtain ⟨Y, hY⟩ : ∃ Y, Y = ((w.alloc (.cells #[.int .i64 0, .int .u32 0, .int .u32 0, .int .u64 0, .string ⟨#[]⟩, .string ⟨#[]⟩, .string ⟨#[]⟩, .string ⟨#[]⟩, .string ⟨#[]⟩, .string ⟨#[]⟩, .string ⟨#[]⟩, .string ⟨#[]⟩, .string ⟨#[]⟩] 61)).alloc (.cells #[.int .u32 0, .string ⟨#[]⟩, .string ⟨#[]⟩, .string ⟨#[]⟩] 74)) := ⟨_, rfl⟩
  obtain ⟨A, hA⟩ : ∃ A, A = w.heap.size := ⟨_, rfl⟩
  have O := Lib.hid (show Only (fun _ => False) w Y from by rw [hY]; exact ((Only.refl _ w).alloc _).alloc _)
  have HR0 := Lib.hid (show Blk Y (A) 61 #[.int .i64 0, .int .u32 0, .int .u32 0, .int .u64 0, .string ⟨#[]⟩, .string ⟨#[]⟩, .string ⟨#[]⟩, .string ⟨#[]⟩, .string ⟨#[]⟩, .string ⟨#[]⟩, .string ⟨#[]⟩, .string ⟨#[]⟩, .string ⟨#[]⟩] from by have h := (Blk.keep (Blk.new w 61 #[.int .i64 0, .int .u32 0, .int .u32 0, .int .u64 0, .string ⟨#[]⟩, .string ⟨#[]⟩, .string ⟨#[]⟩, .string ⟨#[]⟩, .string ⟨#[]⟩, .string ⟨#[]⟩, .string ⟨#[]⟩, .string ⟨#[]⟩, .string ⟨#[]⟩]) ((Only.refl (fun _ => False) _).alloc (.cells #[.int .u32 0, .string ⟨#[]⟩, .string ⟨#[]⟩, .string ⟨#[]⟩] 74)) id); rw [hY, hA]; exact h)
  have HR1 := Lib.hid (show Blk Y (A + 1) 74 #[.int .u32 0, .string ⟨#[]⟩, .string ⟨#[]⟩, .string ⟨#[]⟩] from by have h := (Blk.new (w.alloc (.cells #[.int .i64 0, .int .u32 0, .int .u32 0, .int .u64 0, .string ⟨#[]⟩, .string ⟨#[]⟩, .string ⟨#[]⟩, .string ⟨#[]⟩, .string ⟨#[]⟩, .string ⟨#[]⟩, .string ⟨#[]⟩, .string ⟨#[]⟩, .string ⟨#[]⟩] 61)) 74 #[.int .u32 0, .string ⟨#[]⟩, .string ⟨#[]⟩, .string ⟨#[]⟩]); simp only [World.size_alloc] at h; rw [hY, hA]; exact h)
  have HY := Lib.hid hY
  have HAE := Lib.hid hA
  have HYS := Lib.hid (show Y.heap.size = A + 2 from by rw [hY, hA]; simp only [World.size_alloc])
  have HYW := Lib.hid (show Y.heap.size = w.heap.size + 1 + 1 from by rw [hY]; simp only [World.size_alloc])
  clear hY hA
  go_enter Try.func68, Try.ntmps68
  go_wp2_with fail
  rw [← HY.out, ← HYW.out, ← HAE.out]
  (with_reducible refine (C1.out _).mono ?_)
  rintro e w2 ⟨rfl, o⟩
  replace O := Lib.hid (O.out.trans o)
  replace HR0 := Lib.hid (Blk.keep HR0.out o id)
  replace HR1 := Lib.hid (Blk.keep HR1.out o id)
  clear o
  go_wp2_with (first
    | (refine wpList_store_row rfl 61 (.tmp 10) (.tmp 36) rfl A (zeroM 0).row rfl rfl 61 _ HR0.out (info61 (zeroM 0)) (size61 (zeroM 0) (zeroM 0)) (one61 (zeroM 0)) ?_)
    | (refine wpList_store_row rfl 74 (.tmp 11) (.tmp 37) rfl (A + 1) (startV 0 ⟨#[]⟩ ⟨#[]⟩ ⟨#[]⟩) rfl rfl 74 _ (Blk.off HR1.out _ (by omega)) (info74 0 ⟨#[]⟩ ⟨#[]⟩ ⟨#[]⟩) rfl (by simp [startV, Value.oneCell']) ?_))
  exact bodyPost_ret (res_cct Try.results68 _ _ A (A + 1) 61 74 (zeroM 0).row (startV 0 ⟨#[]⟩ ⟨#[]⟩ ⟨#[]⟩) (0, 0) (0, 0) _ _ rfl (Blk.off (Blk.row HR0.out _) _ (by omega)) Try.underlying61 rfl (info61 _) rfl (Blk.row (Blk.off HR1.out _ (by omega)) _) Try.underlying74 rfl (info74 _ _ _ _)) rfl ⟨rfl, Only.old (only_row (only_row (O.out.mono fun _ h => h.elim) _ (by rw [HAE.out]; exact Nat.le_refl _)) _ (by rw [HAE.out]; omega))⟩

set_option maxRecDepth 100000 in
set_option maxHeartbeats 1600000 in
theorem begin_2 (s e to : ByteArray) (N : Nat) (x : Int) (w : World) (ht : [s, e].all (fun x => isT x.data.toList) = true) (hp : [to].all (fun x => pubB x.data.toList) = false) (sz : s.size ≤ 10000000) (ez : e.size ≤ 10000000) (tz : to.size ≤ 10000000) : Calls Try.prog 68 #[.string s, .string e, .string to, .int .u64 N, .int .u32 x] w (numA.Told w (.tuple #[.agg (zeroM 0).row, .agg (startV 0 ⟨#[]⟩ ⟨#[]⟩ ⟨#[]⟩), .int .i64 3])) := by
  have C1 := Lib.hid (fun W => (show Calls Try.prog 128 #[.slice (some ⟨W.heap.size, 0, none⟩) 2 2] (W.alloc (.cells #[.string s, .string e] 9)) (numA.Told W (.bool true)) from lst_of (terms_blk [s, e] true (ht) (by simp) (by
    intro x hx
    simp at hx
    rcases hx with rfl | rfl
    · exact Nat.le_trans sz (by decide)
    · exact Nat.le_trans ez (by decide)) (W.alloc (.cells #[.string s, .string e] 9)) W.heap.size (blk_new W _))))
  have C2 := Lib.hid (fun W => (show Calls Try.prog 129 #[.slice (some ⟨W.heap.size, 0, none⟩) 1 1] (W.alloc (.cells #[.string to] 9)) (numA.Told W (.bool false)) from lst_of (publics_blk [to] false (hp) (by simp) (by
    intro x hx
    simp at hx
    subst hx; exact Nat.le_trans tz (by decide)) (W.alloc (.cells #[.string to] 9)) W.heap.size (blk_new W _))))
  clear ht hp sz ez tz
  obtain ⟨Y, hY⟩ : ∃ Y, Y = ((w.alloc (.cells #[.int .i64 0, .int .u32 0, .int .u32 0, .int .u64 0, .string ⟨#[]⟩, .string ⟨#[]⟩, .string ⟨#[]⟩, .string ⟨#[]⟩, .string ⟨#[]⟩, .string ⟨#[]⟩, .string ⟨#[]⟩, .string ⟨#[]⟩, .string ⟨#[]⟩] 61)).alloc (.cells #[.int .u32 0, .string ⟨#[]⟩, .string ⟨#[]⟩, .string ⟨#[]⟩] 74)) := ⟨_, rfl⟩
  obtain ⟨A, hA⟩ : ∃ A, A = w.heap.size := ⟨_, rfl⟩
  have O := Lib.hid (show Only (fun _ => False) w Y from by rw [hY]; exact ((Only.refl _ w).alloc _).alloc _)
  have HR0 := Lib.hid (show Blk Y (A) 61 #[.int .i64 0, .int .u32 0, .int .u32 0, .int .u64 0, .string ⟨#[]⟩, .string ⟨#[]⟩, .string ⟨#[]⟩, .string ⟨#[]⟩, .string ⟨#[]⟩, .string ⟨#[]⟩, .string ⟨#[]⟩, .string ⟨#[]⟩, .string ⟨#[]⟩] from by have h := (Blk.keep (Blk.new w 61 #[.int .i64 0, .int .u32 0, .int .u32 0, .int .u64 0, .string ⟨#[]⟩, .string ⟨#[]⟩, .string ⟨#[]⟩, .string ⟨#[]⟩, .string ⟨#[]⟩, .string ⟨#[]⟩, .string ⟨#[]⟩, .string ⟨#[]⟩, .string ⟨#[]⟩]) ((Only.refl (fun _ => False) _).alloc (.cells #[.int .u32 0, .string ⟨#[]⟩, .string ⟨#[]⟩, .string ⟨#[]⟩] 74)) id); rw [hY, hA]; exact h)
  have HR1 := Lib.hid (show Blk Y (A + 1) 74 #[.int .u32 0, .string ⟨#[]⟩, .string ⟨#[]⟩, .string ⟨#[]⟩] from by have h := (Blk.new (w.alloc (.cells #[.int .i64 0, .int .u32 0, .int .u32 0, .int .u64 0, .string ⟨#[]⟩, .string ⟨#[]⟩, .string ⟨#[]⟩, .string ⟨#[]⟩, .string ⟨#[]⟩, .string ⟨#[]⟩, .string ⟨#[]⟩, .string ⟨#[]⟩, .string ⟨#[]⟩] 61)) 74 #[.int .u32 0, .string ⟨#[]⟩, .string ⟨#[]⟩, .string ⟨#[]⟩]); simp only [World.size_alloc] at h; rw [hY, hA]; exact h)
  have HY := Lib.hid hY
  have HAE := Lib.hid hA
  have HYS := Lib.hid (show Y.heap.size = A + 2 from by rw [hY, hA]; simp only [World.size_alloc])
  have HYW := Lib.hid (show Y.heap.size = w.heap.size + 1 + 1 from by rw [hY]; simp only [World.size_alloc])
  clear hY hA
  go_enter Try.func68, Try.ntmps68
  go_wp2_with fail
  rw [← HY.out, ← HYW.out, ← HAE.out]
  (with_reducible refine (C1.out _).mono ?_)
  rintro e w2 ⟨rfl, o⟩
  replace O := Lib.hid (O.out.trans o)
  replace HR0 := Lib.hid (Blk.keep HR0.out o id)
  replace HR1 := Lib.hid (Blk.keep HR1.out o id)
  clear o
  go_wp2_with fail
  (with_reducible refine (C2.out _).mono ?_)
  rintro e w2 ⟨rfl, o⟩
  replace O := Lib.hid (O.out.trans o)
  replace HR0 := Lib.hid (Blk.keep HR0.out o id)
  replace HR1 := Lib.hid (Blk.keep HR1.out o id)
  clear o
  go_wp2_with (first
    | (refine wpList_store_row rfl 61 (.tmp 10) (.tmp 36) rfl A (zeroM 0).row rfl rfl 61 _ HR0.out (info61 (zeroM 0)) (size61 (zeroM 0) (zeroM 0)) (one61 (zeroM 0)) ?_)
    | (refine wpList_store_row rfl 74 (.tmp 11) (.tmp 37) rfl (A + 1) (startV 0 ⟨#[]⟩ ⟨#[]⟩ ⟨#[]⟩) rfl rfl 74 _ (Blk.off HR1.out _ (by omega)) (info74 0 ⟨#[]⟩ ⟨#[]⟩ ⟨#[]⟩) rfl (by simp [startV, Value.oneCell']) ?_))
  exact bodyPost_ret (res_cct Try.results68 _ _ A (A + 1) 61 74 (zeroM 0).row (startV 0 ⟨#[]⟩ ⟨#[]⟩ ⟨#[]⟩) (0, 0) (0, 0) _ _ rfl (Blk.off (Blk.row HR0.out _) _ (by omega)) Try.underlying61 rfl (info61 _) rfl (Blk.row (Blk.off HR1.out _ (by omega)) _) Try.underlying74 rfl (info74 _ _ _ _)) rfl ⟨rfl, Only.old (only_row (only_row (O.out.mono fun _ h => h.elim) _ (by rw [HAE.out]; exact Nat.le_refl _)) _ (by rw [HAE.out]; omega))⟩

structure BegT (s e to : ByteArray) (N : Nat) (eph u c1 h1 k1 p st c2 h2 u2 k2 nb se c3 h3 : ByteArray) : Prop where
  e_eph : eph.data.toList = pubT e.data.toList
  e_u : u.data.toList = agr e.data.toList to.data.toList
  e_c1 : c1.data.toList = kdfT 1 c0T eph.data.toList
  e_h1 : h1.data.toList = hashT (hashT c0T to.data.toList) eph.data.toList
  e_k1 : k1.data.toList = kdfT 2 c1.data.toList u.data.toList
  e_p : p.data.toList = pubT s.data.toList
  e_st : st.data.toList = sealT k1.data.toList p.data.toList h1.data.toList
  e_c2 : c2.data.toList = kdfT 1 c1.data.toList u.data.toList
  e_h2 : h2.data.toList = hashT h1.data.toList st.data.toList
  e_u2 : u2.data.toList = agr s.data.toList to.data.toList
  e_k2 : k2.data.toList = kdfT 2 c2.data.toList u2.data.toList
  e_nb : nb.data.toList = mkT 3 N [] []
  e_se : se.data.toList = sealT k2.data.toList nb.data.toList h2.data.toList
  e_c3 : c3.data.toList = kdfT 1 c2.data.toList u2.data.toList
  e_h3 : h3.data.toList = hashT h2.data.toList se.data.toList

set_option maxRecDepth 100000 in
set_option maxHeartbeats 4000000 in
theorem begin_ok (s e to : ByteArray) (N : Nat) (x : Int) (eph u c1 h1 k1 p st c2 h2 u2 k2 nb se c3 h3 : ByteArray) (w : World) (hN : N ≤ most) (ht : [s, e].all (fun x => isT x.data.toList) = true) (hp : [to].all (fun x => pubB x.data.toList) = true) (hB : BegT s e to N eph u c1 h1 k1 p st c2 h2 u2 k2 nb se c3 h3) (hall : [eph, st, se, c3, h3].all (fun x => isT x.data.toList) = true) (sz : s.size ≤ 10000000) (ez : e.size ≤ 10000000) (tz : to.size ≤ 10000000) : Calls Try.prog 68 #[.string s, .string e, .string to, .int .u64 N, .int .u32 x] w (numA.Told w (.tuple #[.agg (initM x eph st se).row, .agg (startV x e c3 h3), .int .i64 0])) := by
  obtain ⟨eeph, eu, ec1, eh1, ek1, ep, est, ec2, eh2, eu2, ek2, enb, ese, ec3, eh3⟩ := hB
  have ephz : eph.size ≤ 100000000 := u_le eeph (Nat.le_trans (pub_most _) (by decide))
  have uz : u.size ≤ 100000000 := u_le eu (Nat.le_trans (agr_most _ _) (by decide))
  have c1z : c1.size ≤ 100000000 := u_le ec1 (Nat.le_trans (kdf_most _ (by decide) _ _) (by decide))
  have h1z : h1.size ≤ 100000000 := u_le eh1 (Nat.le_trans (hash_most _ _) (by decide))
  have k1z : k1.size ≤ 100000000 := u_le ek1 (Nat.le_trans (kdf_most _ (by decide) _ _) (by decide))
  have pz : p.size ≤ 100000000 := u_le ep (Nat.le_trans (pub_most _) (by decide))
  have stz : st.size ≤ 100000000 := u_le est (Nat.le_trans (seal_most _ _ _) (by decide))
  have c2z : c2.size ≤ 100000000 := u_le ec2 (Nat.le_trans (kdf_most _ (by decide) _ _) (by decide))
  have h2z : h2.size ≤ 100000000 := u_le eh2 (Nat.le_trans (hash_most _ _) (by decide))
  have u2z : u2.size ≤ 100000000 := u_le eu2 (Nat.le_trans (agr_most _ _) (by decide))
  have k2z : k2.size ≤ 100000000 := u_le ek2 (Nat.le_trans (kdf_most _ (by decide) _ _) (by decide))
  have nbz : nb.size ≤ 100000000 := u_le enb (Nat.le_trans (mk_most hN) (by decide))
  have sez : se.size ≤ 100000000 := u_le ese (Nat.le_trans (seal_most _ _ _) (by decide))
  have c3z : c3.size ≤ 100000000 := u_le ec3 (Nat.le_trans (kdf_most _ (by decide) _ _) (by decide))
  have h3z : h3.size ≤ 100000000 := u_le eh3 (Nat.le_trans (hash_most _ _) (by decide))
  obtain ⟨c0, hc0⟩ : ∃ c0 : ByteArray, c0.data.toList = c0T := ⟨⟨(c0T).toArray⟩, rfl⟩
  have c0z : c0.size ≤ 100000000 := u_le hc0 (by decide +kernel)
  have C0 := Lib.hid (fun W => (show Calls Try.prog 128 #[.slice (some ⟨W.heap.size, 0, none⟩) 2 2] (W.alloc (.cells #[.string s, .string e] 9)) (numA.Told W (.bool true)) from lst_of (terms_blk [s, e] true (ht) (by simp) (by
    intro x hx
    simp at hx
    rcases hx with rfl | rfl
    · exact Nat.le_trans sz (by decide)
    · exact Nat.le_trans ez (by decide)) (W.alloc (.cells #[.string s, .string e] 9)) W.heap.size (blk_new W _))))
  have C1 := Lib.hid (fun W => (show Calls Try.prog 129 #[.slice (some ⟨W.heap.size, 0, none⟩) 1 1] (W.alloc (.cells #[.string to] 9)) (numA.Told W (.bool true)) from lst_of (publics_blk [to] true (hp) (by simp) (by
    intro x hx
    simp at hx
    subst hx; exact Nat.le_trans tz (by decide)) (W.alloc (.cells #[.string to] 9)) W.heap.size (blk_new W _))))
  have C2 := Lib.hid (fun W => (show Calls Try.prog 130 #[.slice (some ⟨W.heap.size, 0, none⟩) 1 1] (W.alloc (.cells #[.string ⟨#[120, 55, 51, 54, 101, 54, 57, 54, 51, 54, 98, 54, 53, 55, 52]⟩] 9)) (numA.Told W (.string c0)) from lst_of (sum_blk [(⟨#[120, 55, 51, 54, 101, 54, 57, 54, 51, 54, 98, 54, 53, 55, 52]⟩ : ByteArray)] c0 (W.alloc (.cells #[.string ⟨#[120, 55, 51, 54, 101, 54, 57, 54, 51, 54, 98, 54, 53, 55, 52]⟩] 9)) W.heap.size (by rw [hc0]; rfl) (by simp) (by
    intro x hx
    simp at hx
    subst hx; exact (by decide)) (blk_new W _))))
  have C3 := Lib.hid (fun W => public_any e eph W eeph (Nat.le_trans ez (by decide)))
  have C4 := Lib.hid (fun W => told_str (b := u) eu (prX.agree_any e to W (Nat.le_trans ez (by decide)) (Nat.le_trans tz (by decide))))
  have C5 := Lib.hid (fun W => (show Calls Try.prog 132 #[.string c0, .slice (some ⟨W.heap.size, 0, none⟩) 1 1] (W.alloc (.cells #[.string eph] 9)) (numA.Told W (.string c1)) from lst_of (chained_blk c0 [eph] c1 (by rw [ec1, ← hc0]; rfl) (by simp) (by
    intro x hx
    simp at hx
    subst hx; exact ephz) (c0z) (W.alloc (.cells #[.string eph] 9)) W.heap.size (blk_new W _))))
  have C6 := Lib.hid (fun W => (show Calls Try.prog 133 #[.string c0, .slice (some ⟨W.heap.size, 0, none⟩) 2 2] (W.alloc (.cells #[.string to, .string eph] 9)) (numA.Told W (.string h1)) from lst_of (summed_blk c0 [to, eph] h1 (by rw [eh1, ← hc0]; rfl) (by simp) (by
    intro x hx
    simp at hx
    rcases hx with rfl | rfl
    · exact Nat.le_trans tz (by decide)
    · exact ephz) (c0z) (W.alloc (.cells #[.string to, .string eph] 9)) W.heap.size (blk_new W _))))
  have C7 := Lib.hid (fun W => (show Calls Try.prog 135 #[.int .u64 2, .string c1, .string u] W (numA.Told W (.string k1)) from derive_any 2 c1 u k1 W (ek1) (by decide) (c1z) (uz)))
  have C8 := Lib.hid (fun W => public_any s p W ep (Nat.le_trans sz (by decide)))
  have C9 := Lib.hid (fun W => nseal_any k1 p h1 st W est k1z pz h1z)
  have C10 := Lib.hid (fun W => (show Calls Try.prog 132 #[.string c1, .slice (some ⟨W.heap.size, 0, none⟩) 1 1] (W.alloc (.cells #[.string u] 9)) (numA.Told W (.string c2)) from lst_of (chained_blk c1 [u] c2 (by rw [ec2]; rfl) (by simp) (by
    intro x hx
    simp at hx
    subst hx; exact uz) (c1z) (W.alloc (.cells #[.string u] 9)) W.heap.size (blk_new W _))))
  have C11 := Lib.hid (fun W => (show Calls Try.prog 133 #[.string h1, .slice (some ⟨W.heap.size, 0, none⟩) 1 1] (W.alloc (.cells #[.string st] 9)) (numA.Told W (.string h2)) from lst_of (summed_blk h1 [st] h2 (by rw [eh2]; rfl) (by simp) (by
    intro x hx
    simp at hx
    subst hx; exact stz) (h1z) (W.alloc (.cells #[.string st] 9)) W.heap.size (blk_new W _))))
  have C12 := Lib.hid (fun W => told_str (b := u2) eu2 (prX.agree_any s to W (Nat.le_trans sz (by decide)) (Nat.le_trans tz (by decide))))
  have C13 := Lib.hid (fun W => (show Calls Try.prog 135 #[.int .u64 2, .string c2, .string u2] W (numA.Told W (.string k2)) from derive_any 2 c2 u2 k2 W (ek2) (by decide) (c2z) (u2z)))
  have C14 := Lib.hid (fun W => num_let N nb W hN enb)
  have C15 := Lib.hid (fun W => nseal_any k2 nb h2 se W ese k2z nbz h2z)
  have C16 := Lib.hid (fun W => (show Calls Try.prog 132 #[.string c2, .slice (some ⟨W.heap.size, 0, none⟩) 1 1] (W.alloc (.cells #[.string u2] 9)) (numA.Told W (.string c3)) from lst_of (chained_blk c2 [u2] c3 (by rw [ec3]; rfl) (by simp) (by
    intro x hx
    simp at hx
    subst hx; exact u2z) (c2z) (W.alloc (.cells #[.string u2] 9)) W.heap.size (blk_new W _))))
  have C17 := Lib.hid (fun W => (show Calls Try.prog 133 #[.string h2, .slice (some ⟨W.heap.size, 0, none⟩) 1 1] (W.alloc (.cells #[.string se] 9)) (numA.Told W (.string h3)) from lst_of (summed_blk h2 [se] h3 (by rw [eh3]; rfl) (by simp) (by
    intro x hx
    simp at hx
    subst hx; exact sez) (h2z) (W.alloc (.cells #[.string se] 9)) W.heap.size (blk_new W _))))
  have C18 := Lib.hid (fun W => (show Calls Try.prog 128 #[.slice (some ⟨W.heap.size, 0, none⟩) 5 5] (W.alloc (.cells #[.string eph, .string st, .string se, .string c3, .string h3] 9)) (numA.Told W (.bool true)) from lst_of (terms_blk [eph, st, se, c3, h3] true (hall) (by simp) (by
    intro x hx
    simp at hx
    rcases hx with rfl | rfl | rfl | rfl | rfl
    · exact ephz
    · exact stz
    · exact sez
    · exact c3z
    · exact h3z) (W.alloc (.cells #[.string eph, .string st, .string se, .string c3, .string h3] 9)) W.heap.size (blk_new W _))))
  clear ht hp hall sz ez tz hN hc0 c0z eeph ephz eu uz ec1 c1z eh1 h1z ek1 k1z ep pz est stz ec2 c2z eh2 h2z eu2 u2z ek2 k2z enb nbz ese sez ec3 c3z eh3 h3z
  obtain ⟨Y, hY⟩ : ∃ Y, Y = ((w.alloc (.cells #[.int .i64 0, .int .u32 0, .int .u32 0, .int .u64 0, .string ⟨#[]⟩, .string ⟨#[]⟩, .string ⟨#[]⟩, .string ⟨#[]⟩, .string ⟨#[]⟩, .string ⟨#[]⟩, .string ⟨#[]⟩, .string ⟨#[]⟩, .string ⟨#[]⟩] 61)).alloc (.cells #[.int .u32 0, .string ⟨#[]⟩, .string ⟨#[]⟩, .string ⟨#[]⟩] 74)) := ⟨_, rfl⟩
  obtain ⟨A, hA⟩ : ∃ A, A = w.heap.size := ⟨_, rfl⟩
  have O := Lib.hid (show Only (fun _ => False) w Y from by rw [hY]; exact ((Only.refl _ w).alloc _).alloc _)
  have HR0 := Lib.hid (show Blk Y (A) 61 #[.int .i64 0, .int .u32 0, .int .u32 0, .int .u64 0, .string ⟨#[]⟩, .string ⟨#[]⟩, .string ⟨#[]⟩, .string ⟨#[]⟩, .string ⟨#[]⟩, .string ⟨#[]⟩, .string ⟨#[]⟩, .string ⟨#[]⟩, .string ⟨#[]⟩] from by have h := (Blk.keep (Blk.new w 61 #[.int .i64 0, .int .u32 0, .int .u32 0, .int .u64 0, .string ⟨#[]⟩, .string ⟨#[]⟩, .string ⟨#[]⟩, .string ⟨#[]⟩, .string ⟨#[]⟩, .string ⟨#[]⟩, .string ⟨#[]⟩, .string ⟨#[]⟩, .string ⟨#[]⟩]) ((Only.refl (fun _ => False) _).alloc (.cells #[.int .u32 0, .string ⟨#[]⟩, .string ⟨#[]⟩, .string ⟨#[]⟩] 74)) id); rw [hY, hA]; exact h)
  have HR1 := Lib.hid (show Blk Y (A + 1) 74 #[.int .u32 0, .string ⟨#[]⟩, .string ⟨#[]⟩, .string ⟨#[]⟩] from by have h := (Blk.new (w.alloc (.cells #[.int .i64 0, .int .u32 0, .int .u32 0, .int .u64 0, .string ⟨#[]⟩, .string ⟨#[]⟩, .string ⟨#[]⟩, .string ⟨#[]⟩, .string ⟨#[]⟩, .string ⟨#[]⟩, .string ⟨#[]⟩, .string ⟨#[]⟩, .string ⟨#[]⟩] 61)) 74 #[.int .u32 0, .string ⟨#[]⟩, .string ⟨#[]⟩, .string ⟨#[]⟩]); simp only [World.size_alloc] at h; rw [hY, hA]; exact h)
  have HY := Lib.hid hY
  have HAE := Lib.hid hA
  have HYS := Lib.hid (show Y.heap.size = A + 2 from by rw [hY, hA]; simp only [World.size_alloc])
  have HYW := Lib.hid (show Y.heap.size = w.heap.size + 1 + 1 from by rw [hY]; simp only [World.size_alloc])
  clear hY hA
  go_enter Try.func68, Try.ntmps68
  go_wp2_with fail
  rw [← HY.out, ← HYW.out, ← HAE.out]
  (with_reducible refine (C0.out _).mono ?_)
  rintro e w2 ⟨rfl, o⟩
  replace O := Lib.hid (O.out.trans o)
  replace HR0 := Lib.hid (Blk.keep HR0.out o id)
  replace HR1 := Lib.hid (Blk.keep HR1.out o id)
  clear o
  go_wp2_with fail
  (with_reducible refine (C1.out _).mono ?_)
  rintro e w2 ⟨rfl, o⟩
  replace O := Lib.hid (O.out.trans o)
  replace HR0 := Lib.hid (Blk.keep HR0.out o id)
  replace HR1 := Lib.hid (Blk.keep HR1.out o id)
  clear o
  go_wp2_with fail
  (with_reducible refine (C2.out _).mono ?_)
  rintro e w2 ⟨rfl, o⟩
  replace O := Lib.hid (O.out.trans o)
  replace HR0 := Lib.hid (Blk.keep HR0.out o id)
  replace HR1 := Lib.hid (Blk.keep HR1.out o id)
  clear o
  go_wp2_with fail
  (with_reducible refine (C3.out _).mono ?_)
  rintro e w2 ⟨rfl, o⟩
  replace O := Lib.hid (O.out.trans o)
  replace HR0 := Lib.hid (Blk.keep HR0.out o id)
  replace HR1 := Lib.hid (Blk.keep HR1.out o id)
  clear o
  go_wp2_with fail
  (with_reducible refine (C4.out _).mono ?_)
  rintro e w2 ⟨rfl, o⟩
  replace O := Lib.hid (O.out.trans o)
  replace HR0 := Lib.hid (Blk.keep HR0.out o id)
  replace HR1 := Lib.hid (Blk.keep HR1.out o id)
  clear o
  go_wp2_with fail
  (with_reducible refine (C5.out _).mono ?_)
  rintro e w2 ⟨rfl, o⟩
  replace O := Lib.hid (O.out.trans o)
  replace HR0 := Lib.hid (Blk.keep HR0.out o id)
  replace HR1 := Lib.hid (Blk.keep HR1.out o id)
  clear o
  go_wp2_with fail
  (with_reducible refine (C6.out _).mono ?_)
  rintro e w2 ⟨rfl, o⟩
  replace O := Lib.hid (O.out.trans o)
  replace HR0 := Lib.hid (Blk.keep HR0.out o id)
  replace HR1 := Lib.hid (Blk.keep HR1.out o id)
  clear o
  go_wp2_with fail
  (with_reducible refine (C7.out _).mono ?_)
  rintro e w2 ⟨rfl, o⟩
  replace O := Lib.hid (O.out.trans o)
  replace HR0 := Lib.hid (Blk.keep HR0.out o id)
  replace HR1 := Lib.hid (Blk.keep HR1.out o id)
  clear o
  go_wp2_with fail
  (with_reducible refine (C8.out _).mono ?_)
  rintro e w2 ⟨rfl, o⟩
  replace O := Lib.hid (O.out.trans o)
  replace HR0 := Lib.hid (Blk.keep HR0.out o id)
  replace HR1 := Lib.hid (Blk.keep HR1.out o id)
  clear o
  go_wp2_with fail
  (with_reducible refine (C9.out _).mono ?_)
  rintro e w2 ⟨rfl, o⟩
  replace O := Lib.hid (O.out.trans o)
  replace HR0 := Lib.hid (Blk.keep HR0.out o id)
  replace HR1 := Lib.hid (Blk.keep HR1.out o id)
  clear o
  go_wp2_with fail
  (with_reducible refine (C10.out _).mono ?_)
  rintro e w2 ⟨rfl, o⟩
  replace O := Lib.hid (O.out.trans o)
  replace HR0 := Lib.hid (Blk.keep HR0.out o id)
  replace HR1 := Lib.hid (Blk.keep HR1.out o id)
  clear o
  go_wp2_with fail
  (with_reducible refine (C11.out _).mono ?_)
  rintro e w2 ⟨rfl, o⟩
  replace O := Lib.hid (O.out.trans o)
  replace HR0 := Lib.hid (Blk.keep HR0.out o id)
  replace HR1 := Lib.hid (Blk.keep HR1.out o id)
  clear o
  go_wp2_with fail
  (with_reducible refine (C12.out _).mono ?_)
  rintro e w2 ⟨rfl, o⟩
  replace O := Lib.hid (O.out.trans o)
  replace HR0 := Lib.hid (Blk.keep HR0.out o id)
  replace HR1 := Lib.hid (Blk.keep HR1.out o id)
  clear o
  go_wp2_with fail
  (with_reducible refine (C13.out _).mono ?_)
  rintro e w2 ⟨rfl, o⟩
  replace O := Lib.hid (O.out.trans o)
  replace HR0 := Lib.hid (Blk.keep HR0.out o id)
  replace HR1 := Lib.hid (Blk.keep HR1.out o id)
  clear o
  go_wp2_with fail
  (with_reducible refine (C14.out _).mono ?_)
  rintro e w2 ⟨rfl, o⟩
  replace O := Lib.hid (O.out.trans o)
  replace HR0 := Lib.hid (Blk.keep HR0.out o id)
  replace HR1 := Lib.hid (Blk.keep HR1.out o id)
  clear o
  go_wp2_with fail
  (with_reducible refine (C15.out _).mono ?_)
  rintro e w2 ⟨rfl, o⟩
  replace O := Lib.hid (O.out.trans o)
  replace HR0 := Lib.hid (Blk.keep HR0.out o id)
  replace HR1 := Lib.hid (Blk.keep HR1.out o id)
  clear o
  go_wp2_with fail
  (with_reducible refine (C16.out _).mono ?_)
  rintro e w2 ⟨rfl, o⟩
  replace O := Lib.hid (O.out.trans o)
  replace HR0 := Lib.hid (Blk.keep HR0.out o id)
  replace HR1 := Lib.hid (Blk.keep HR1.out o id)
  clear o
  go_wp2_with fail
  (with_reducible refine (C17.out _).mono ?_)
  rintro e w2 ⟨rfl, o⟩
  replace O := Lib.hid (O.out.trans o)
  replace HR0 := Lib.hid (Blk.keep HR0.out o id)
  replace HR1 := Lib.hid (Blk.keep HR1.out o id)
  clear o
  go_wp2_with fail
  (with_reducible refine (C18.out _).mono ?_)
  rintro e w2 ⟨rfl, o⟩
  replace O := Lib.hid (O.out.trans o)
  replace HR0 := Lib.hid (Blk.keep HR0.out o id)
  replace HR1 := Lib.hid (Blk.keep HR1.out o id)
  clear o
  go_upto_region 14 with fail
  have HC := Lib.hid (show MsgAt (w2.alloc (.cells #[.int .i64 1, .int .u32 x, .int .u32 0, .int .u64 0, .string eph, .string st, .string se, .string ⟨#[]⟩, .string ⟨#[]⟩, .string ⟨#[]⟩, .string ⟨#[]⟩, .string ⟨#[48]⟩, .string ⟨#[48]⟩] 61)) w2.heap.size (initM x eph st se) from heap_alloc_new w2 _)
  obtain ⟨G, hG⟩ : ∃ G, G = w2.heap.size := ⟨_, rfl⟩
  obtain ⟨Z, hZ⟩ : ∃ Z, Z = w2.alloc (.cells #[.int .i64 1, .int .u32 x, .int .u32 0, .int .u64 0, .string eph, .string st, .string se, .string ⟨#[]⟩, .string ⟨#[]⟩, .string ⟨#[]⟩, .string ⟨#[]⟩, .string ⟨#[48]⟩, .string ⟨#[48]⟩] 61) := ⟨_, rfl⟩
  have oZ : Only (fun _ => False) w2 Z := by rw [hZ]; exact (Only.refl _ _).alloc _
  rw [← hZ, ← hG] at HC
  rw [← hZ, ← hG]
  replace HR0 := Lib.hid (Blk.keep HR0.out oZ id)
  replace HR1 := Lib.hid (Blk.keep HR1.out oZ id)
  replace O := Lib.hid (O.out.trans oZ)
  clear hZ hG oZ
  go_wp2_with (first
    | (refine wpList_load_row rfl 61 (.tmp 24) rfl G rfl 61 (initM x eph st se).row (0, 0) _ HC.out Try.underlying61 rfl (info61 _) ?_)
    | (refine wpList_store_row rfl 61 (.tmp 10) (.tmp 102) rfl A (initM x eph st se).row rfl rfl 61 _ HR0.out (info61 _) (size61 (zeroM 0) _) (one61 _) ?_)
    | (refine wpList_store_row rfl 74 (.tmp 11) (.tmp 107) rfl (A + 1) (startV x e c3 h3) rfl rfl 74 _ (Blk.off HR1.out _ (by omega)) (info74 x e c3 h3) rfl (by simp [startV, Value.oneCell']) ?_))
  exact bodyPost_ret (res_cct Try.results68 _ _ A (A + 1) 61 74 (initM x eph st se).row (startV x e c3 h3) (0, 0) (0, 0) _ _ rfl (Blk.off (Blk.row HR0.out _) _ (by omega)) Try.underlying61 rfl (info61 _) rfl (Blk.row (Blk.off HR1.out _ (by omega)) _) Try.underlying74 rfl (info74 _ _ _ _)) rfl ⟨rfl, Only.old (only_row (only_row (O.out.mono fun _ h => h.elim) _ (by rw [HAE.out]; exact Nat.le_refl _)) _ (by rw [HAE.out]; omega))⟩

end Go.Proofs.Ytbjnejnjlidiaaa.noF
