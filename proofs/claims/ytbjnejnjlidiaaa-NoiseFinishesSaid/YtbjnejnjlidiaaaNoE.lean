/- Noise: last, Last. -/
import Derived.Test.YtbjnejnjlidiaaaNoD
namespace Go.Proofs.Ytbjnejnjlidiaaa.noE
open Go.RowKit kit numA numB numC numD numE tmA tmB tmC tmD tmE trA trB prR prS prW prX tsA tsB tsF tsI wrA wrB wrC wrD wrE wrF wrG wrH wrI wrJ mkA maA maB maC noA noB noC noD
set_option linter.unusedVariables false
set_option linter.unusedSimpArgs false

set_option maxRecDepth 100000 in
set_option maxHeartbeats 1600000 in
theorem last_any (c h e u v q X K Z : ByteArray) (w : World) (hX : X.data.toList = kdfT 1 (chainT c.data.toList [e.data.toList, u.data.toList, v.data.toList]) q.data.toList) (hK : K.data.toList = kdfT 3 (chainT c.data.toList [e.data.toList, u.data.toList, v.data.toList]) q.data.toList) (hZ : Z.data.toList = hashT (sumT h.data.toList [e.data.toList]) (kdfT 2 (chainT c.data.toList [e.data.toList, u.data.toList, v.data.toList]) q.data.toList)) (cz : c.size ≤ 100000000) (hz : h.size ≤ 100000000) (ez : e.size ≤ 100000000) (uz : u.size ≤ 100000000) (vz : v.size ≤ 100000000) (qz : q.size ≤ 100000000) : Calls Try.prog 141 #[.string c, .string h, .string e, .string u, .string v, .string q] w (numA.Told w (.tuple #[.string X, .string K, .string Z])) := by
  obtain ⟨d, hd⟩ : ∃ d : ByteArray, d.data.toList = chainT c.data.toList [e.data.toList, u.data.toList, v.data.toList] := ⟨⟨(chainT c.data.toList [e.data.toList, u.data.toList, v.data.toList]).toArray⟩, rfl⟩
  obtain ⟨t, ht⟩ : ∃ t : ByteArray, t.data.toList = kdfT 2 (chainT c.data.toList [e.data.toList, u.data.toList, v.data.toList]) q.data.toList := ⟨⟨(kdfT 2 (chainT c.data.toList [e.data.toList, u.data.toList, v.data.toList]) q.data.toList).toArray⟩, rfl⟩
  obtain ⟨s1, hs1⟩ : ∃ s1 : ByteArray, s1.data.toList = sumT h.data.toList [e.data.toList] := ⟨⟨(sumT h.data.toList [e.data.toList]).toArray⟩, rfl⟩
  have dz : d.size ≤ 100000000 := by rw [sz_of hd]; exact chain_most _ _ (by rw [tl_size]; exact cz)
  have tz : t.size ≤ 100000000 := u_le ht (Nat.le_trans (kdf_most _ (by decide) _ _) (by decide))
  have sz1 : s1.size ≤ 100000000 := by rw [sz_of hs1]; exact sum_most _ _ (by rw [tl_size]; exact hz)
  have C1 := Lib.hid (fun W => (show Calls Try.prog 132 #[.string c, .slice (some ⟨W.heap.size, 0, none⟩) 3 3] (W.alloc (.cells #[.string e, .string u, .string v] 9)) (numA.Told W (.string d)) from lst_of (chained_blk c [e, u, v] d (by rw [hd]; rfl) (by simp) (by
    intro x hx
    simp at hx
    rcases hx with rfl | rfl | rfl
    · exact ez
    · exact uz
    · exact vz) (cz) (W.alloc (.cells #[.string e, .string u, .string v] 9)) W.heap.size (blk_new W _))))
  have C2 := Lib.hid (fun W => (show Calls Try.prog 135 #[.int .u64 2, .string d, .string q] W (numA.Told W (.string t)) from derive_any 2 d q t W (by rw [ht, hd]) (by decide) (dz) (qz)))
  have C3 := Lib.hid (fun W => (show Calls Try.prog 132 #[.string d, .slice (some ⟨W.heap.size, 0, none⟩) 1 1] (W.alloc (.cells #[.string q] 9)) (numA.Told W (.string X)) from lst_of (chained_blk d [q] X (by rw [hX, hd]; rfl) (by simp) (by
    intro x hx
    simp at hx
    subst hx; exact qz) (dz) (W.alloc (.cells #[.string q] 9)) W.heap.size (blk_new W _))))
  have C4 := Lib.hid (fun W => (show Calls Try.prog 135 #[.int .u64 3, .string d, .string q] W (numA.Told W (.string K)) from derive_any 3 d q K W (by rw [hK, hd]) (by decide) (dz) (qz)))
  have C5 := Lib.hid (fun W => (show Calls Try.prog 133 #[.string h, .slice (some ⟨W.heap.size, 0, none⟩) 1 1] (W.alloc (.cells #[.string e] 9)) (numA.Told W (.string s1)) from lst_of (summed_blk h [e] s1 (by rw [hs1]; rfl) (by simp) (by
    intro x hx
    simp at hx
    subst hx; exact ez) (hz) (W.alloc (.cells #[.string e] 9)) W.heap.size (blk_new W _))))
  have C6 := Lib.hid (fun W => (show Calls Try.prog 130 #[.slice (some ⟨W.heap.size, 0, none⟩) 2 2] (W.alloc (.cells #[.string s1, .string t] 9)) (numA.Told W (.string Z)) from lst_of (sum_blk [s1, t] Z (W.alloc (.cells #[.string s1, .string t] 9)) W.heap.size (by rw [hZ, ← hs1, ← ht]; rfl) (by simp) (by
    intro x hx
    simp at hx
    rcases hx with rfl | rfl
    · exact sz1
    · exact tz) (blk_new W _))))
  have O := Lib.hid (Only.refl (fun _ => False) w)
  clear hX hK hZ hd ht hs1 dz tz sz1 cz hz ez uz vz qz
  go_enter Try.func141, Try.ntmps141
  go_wp2_with fail
  (with_reducible refine (C1.out _).mono ?_)
  rintro e w2 ⟨rfl, o⟩
  replace O := Lib.hid (O.out.trans o)
  clear o
  go_wp2_with fail
  (with_reducible refine (C2.out _).mono ?_)
  rintro e w2 ⟨rfl, o⟩
  replace O := Lib.hid (O.out.trans o)
  clear o
  go_wp2_with fail
  (with_reducible refine (C3.out _).mono ?_)
  rintro e w2 ⟨rfl, o⟩
  replace O := Lib.hid (O.out.trans o)
  clear o
  go_wp2_with fail
  (with_reducible refine (C4.out _).mono ?_)
  rintro e w2 ⟨rfl, o⟩
  replace O := Lib.hid (O.out.trans o)
  clear o
  go_wp2_with fail
  (with_reducible refine (C5.out _).mono ?_)
  rintro e w2 ⟨rfl, o⟩
  replace O := Lib.hid (O.out.trans o)
  clear o
  go_wp2_with fail
  (with_reducible refine (C6.out _).mono ?_)
  rintro e w2 ⟨rfl, o⟩
  replace O := Lib.hid (O.out.trans o)
  clear o
  go_wp2_with fail
  go_ret3
  exact ⟨rfl, O.out⟩

set_option maxRecDepth 100000 in
set_option maxHeartbeats 1600000 in
theorem reflast_any (C H e u v q E T K : ByteArray) (w : World) (hE : E.data.toList = sealT (kdfT 3 (chainT C.data.toList [e.data.toList, u.data.toList, v.data.toList]) q.data.toList) zeroT (hashT (hashT H.data.toList e.data.toList) (kdfT 2 (chainT C.data.toList [e.data.toList, u.data.toList, v.data.toList]) q.data.toList))) (hT : T.data.toList = kdfT 1 (kdfT 1 (chainT C.data.toList [e.data.toList, u.data.toList, v.data.toList]) q.data.toList) zeroT) (hK : K.data.toList = kdfT 2 (kdfT 1 (chainT C.data.toList [e.data.toList, u.data.toList, v.data.toList]) q.data.toList) zeroT) (cz : C.size ≤ 10000000) (hz : H.size ≤ 10000000) (ez : e.size ≤ 10000000) (uz : u.size ≤ 10000000) (vz : v.size ≤ 10000000) (qz : q.size ≤ 10000000) : Calls Try.prog 73 #[.agg (chainV C H), .string e, .string u, .string v, .string q] w (numA.Told w (.tuple #[.string E, .string T, .string K])) := by
  obtain ⟨a1, ha1⟩ : ∃ a1 : ByteArray, a1.data.toList = kdfT 1 C.data.toList e.data.toList := ⟨⟨(kdfT 1 C.data.toList e.data.toList).toArray⟩, rfl⟩
  obtain ⟨a2, ha2⟩ : ∃ a2 : ByteArray, a2.data.toList = kdfT 1 a1.data.toList u.data.toList := ⟨⟨(kdfT 1 a1.data.toList u.data.toList).toArray⟩, rfl⟩
  obtain ⟨d, hd⟩ : ∃ d : ByteArray, d.data.toList = kdfT 1 a2.data.toList v.data.toList := ⟨⟨(kdfT 1 a2.data.toList v.data.toList).toArray⟩, rfl⟩
  obtain ⟨b1, hb1⟩ : ∃ b1 : ByteArray, b1.data.toList = hashT H.data.toList e.data.toList := ⟨⟨(hashT H.data.toList e.data.toList).toArray⟩, rfl⟩
  obtain ⟨t, ht⟩ : ∃ t : ByteArray, t.data.toList = kdfT 2 d.data.toList q.data.toList := ⟨⟨(kdfT 2 d.data.toList q.data.toList).toArray⟩, rfl⟩
  obtain ⟨g, hg⟩ : ∃ g : ByteArray, g.data.toList = hashT b1.data.toList t.data.toList := ⟨⟨(hashT b1.data.toList t.data.toList).toArray⟩, rfl⟩
  obtain ⟨k, hk⟩ : ∃ k : ByteArray, k.data.toList = kdfT 3 d.data.toList q.data.toList := ⟨⟨(kdfT 3 d.data.toList q.data.toList).toArray⟩, rfl⟩
  obtain ⟨l, hl⟩ : ∃ l : ByteArray, l.data.toList = kdfT 1 d.data.toList q.data.toList := ⟨⟨(kdfT 1 d.data.toList q.data.toList).toArray⟩, rfl⟩
  have a1z : a1.size ≤ 10000000 := u_le ha1 (Nat.le_trans (kdf_most _ (by decide) _ _) (by decide))
  have a2z : a2.size ≤ 10000000 := u_le ha2 (Nat.le_trans (kdf_most _ (by decide) _ _) (by decide))
  have dz : d.size ≤ 10000000 := u_le hd (Nat.le_trans (kdf_most _ (by decide) _ _) (by decide))
  have tz : t.size ≤ 10000000 := u_le ht (Nat.le_trans (kdf_most _ (by decide) _ _) (by decide))
  have kz : k.size ≤ 10000000 := u_le hk (Nat.le_trans (kdf_most _ (by decide) _ _) (by decide))
  have lz : l.size ≤ 10000000 := u_le hl (Nat.le_trans (kdf_most _ (by decide) _ _) (by decide))
  have b1z : b1.size ≤ 10000000 := u_le hb1 (Nat.le_trans (hash_most _ _) (by decide))
  have gz : g.size ≤ 10000000 := u_le hg (Nat.le_trans (hash_most _ _) (by decide))
  have hd0 : d.data.toList = chainT C.data.toList [e.data.toList, u.data.toList, v.data.toList] := by rw [hd, ha2, ha1]; rfl
  have C1 := Lib.hid (fun W => (show Calls Try.prog 139 #[.int .u64 1, .string C, .string e] W (numA.Told W (.string a1)) from kdf_any 1 C e a1 W (ha1) (by decide) (cz) (ez)))
  have C2 := Lib.hid (fun W => (show Calls Try.prog 139 #[.int .u64 1, .string a1, .string u] W (numA.Told W (.string a2)) from kdf_any 1 a1 u a2 W (ha2) (by decide) (a1z) (uz)))
  have C3 := Lib.hid (fun W => (show Calls Try.prog 139 #[.int .u64 1, .string a2, .string v] W (numA.Told W (.string d)) from kdf_any 1 a2 v d W (hd) (by decide) (a2z) (vz)))
  have C4 := Lib.hid (fun W => hash_any H e b1 W hb1 hz ez)
  have C5 := Lib.hid (fun W => (show Calls Try.prog 139 #[.int .u64 2, .string d, .string q] W (numA.Told W (.string t)) from kdf_any 2 d q t W (ht) (by decide) (dz) (qz)))
  have C6 := Lib.hid (fun W => hash_any b1 t g W hg b1z tz)
  have C7 := Lib.hid (fun W => (show Calls Try.prog 139 #[.int .u64 3, .string d, .string q] W (numA.Told W (.string k)) from kdf_any 3 d q k W (hk) (by decide) (dz) (qz)))
  have C8 := Lib.hid (fun W => (show Calls Try.prog 38 #[.int .u64 0, .string k, .string ⟨#[48]⟩, .string g] W (numA.Told W (.string E)) from told_str (by rw [hE, hk, hg, hb1, ht, hd0]; rfl) (seal_any 0 k ⟨#[48]⟩ g W (by decide) kz (by decide) gz)))
  have C9 := Lib.hid (fun W => (show Calls Try.prog 139 #[.int .u64 1, .string d, .string q] W (numA.Told W (.string l)) from kdf_any 1 d q l W (hl) (by decide) (dz) (qz)))
  have C10 := Lib.hid (fun W => (show Calls Try.prog 139 #[.int .u64 1, .string l, .string ⟨#[48]⟩] W (numA.Told W (.string T)) from kdf_any 1 l ⟨#[48]⟩ T W (by rw [hT, hl, hd0]; rfl) (by decide) (lz) (by decide)))
  have C11 := Lib.hid (fun W => (show Calls Try.prog 139 #[.int .u64 2, .string l, .string ⟨#[48]⟩] W (numA.Told W (.string K)) from kdf_any 2 l ⟨#[48]⟩ K W (by rw [hK, hl, hd0]; rfl) (by decide) (lz) (by decide)))
  clear hE hT hK ha1 a1z ha2 a2z hd dz hb1 b1z ht tz hg gz hk kz hl lz hd0 cz hz ez uz vz qz
  obtain ⟨Y, hY⟩ : ∃ Y, Y = (w.alloc (.cells (chainV C H) 78)) := ⟨_, rfl⟩
  obtain ⟨A, hA⟩ : ∃ A, A = w.heap.size := ⟨_, rfl⟩
  have O := Lib.hid (show Only (fun _ => False) w Y from by rw [hY]; exact (Only.refl _ w).alloc _)
  have HR0 := Lib.hid (show Blk Y (A) 78 (chainV C H) from by have h := (Blk.new w 78 (chainV C H)); rw [hY, hA]; exact h)
  have HY := Lib.hid hY
  have HAE := Lib.hid hA
  have HYS := Lib.hid (show Y.heap.size = A + 1 from by rw [hY, hA]; simp only [World.size_alloc])
  have HYW := Lib.hid (show Y.heap.size = w.heap.size + 1 from by rw [hY]; simp only [World.size_alloc])
  clear hY hA
  go_enter Try.func73, Try.ntmps73
  go_wp2_with fail
  rw [← HY.out, ← HAE.out]
  (with_reducible refine (C1.out _).mono ?_)
  rintro e w2 ⟨rfl, o⟩
  replace O := Lib.hid (O.out.trans o)
  replace HR0 := Lib.hid (Blk.keep HR0.out o id)
  clear o
  go_wp2_with fail
  (with_reducible refine (C2.out _).mono ?_)
  rintro e w2 ⟨rfl, o⟩
  replace O := Lib.hid (O.out.trans o)
  replace HR0 := Lib.hid (Blk.keep HR0.out o id)
  clear o
  go_wp2_with fail
  (with_reducible refine (C3.out _).mono ?_)
  rintro e w2 ⟨rfl, o⟩
  replace O := Lib.hid (O.out.trans o)
  replace HR0 := Lib.hid (Blk.keep HR0.out o id)
  clear o
  have d1 : w2.cell? ⟨A, 1, none⟩ = some (.string H) := Blk.cell HR0.out 1
  go_wp2_with fail
  (with_reducible refine (C4.out _).mono ?_)
  rintro e w2 ⟨rfl, o⟩
  replace O := Lib.hid (O.out.trans o)
  clear o
  clear d1
  go_wp2_with fail
  (with_reducible refine (C5.out _).mono ?_)
  rintro e w2 ⟨rfl, o⟩
  replace O := Lib.hid (O.out.trans o)
  clear o
  go_wp2_with fail
  (with_reducible refine (C6.out _).mono ?_)
  rintro e w2 ⟨rfl, o⟩
  replace O := Lib.hid (O.out.trans o)
  clear o
  go_wp2_with fail
  (with_reducible refine (C7.out _).mono ?_)
  rintro e w2 ⟨rfl, o⟩
  replace O := Lib.hid (O.out.trans o)
  clear o
  go_wp2_with fail
  (with_reducible refine (C8.out _).mono ?_)
  rintro e w2 ⟨rfl, o⟩
  replace O := Lib.hid (O.out.trans o)
  clear o
  go_wp2_with fail
  (with_reducible refine (C9.out _).mono ?_)
  rintro e w2 ⟨rfl, o⟩
  replace O := Lib.hid (O.out.trans o)
  clear o
  go_wp2_with fail
  (with_reducible refine (C10.out _).mono ?_)
  rintro e w2 ⟨rfl, o⟩
  replace O := Lib.hid (O.out.trans o)
  clear o
  go_wp2_with fail
  (with_reducible refine (C11.out _).mono ?_)
  rintro e w2 ⟨rfl, o⟩
  replace O := Lib.hid (O.out.trans o)
  clear o
  go_wp2_with fail
  go_ret3
  exact ⟨rfl, O.out⟩

end Go.Proofs.Ytbjnejnjlidiaaa.noE
