/- Noise: Hear. -/
import Derived.Test.YtbjnejnjlidiaaaNoG
namespace Go.Proofs.Ytbjnejnjlidiaaa.noH
open Go.RowKit kit numA numB numC numD numE tmA tmB tmC tmD tmE trA trB prR prS prW prX tsA tsB tsF tsI wrA wrB wrC wrD wrE wrF wrG wrH wrI wrJ mkA maA maB maC noA noB noC noD noE tsG noF
set_option linter.unusedVariables false
set_option linter.unusedSimpArgs false

def hc1T (eph : Txt) : Txt := kdfT 1 c0T eph
def hh1T (r eph : Txt) : Txt := hashT (hashT c0T (pubT r)) eph
def hk1T (r eph : Txt) : Txt := kdfT 2 (hc1T eph) (agr r eph)
def hfrom (r eph st : Txt) : Txt := (opn st (hk1T r eph) 0 (hh1T r eph)).1
def hc2T (r eph : Txt) : Txt := kdfT 1 (hc1T eph) (agr r eph)
def hh2T (r eph st : Txt) : Txt := hashT (hh1T r eph) st
def hvT (r eph st : Txt) : Txt := agr r (hfrom r eph st)
def hk2T (r eph st : Txt) : Txt := kdfT 2 (hc2T r eph) (hvT r eph st)
def hst (r eph st sp : Txt) : Txt := (opn sp (hk2T r eph st) 0 (hh2T r eph st)).1
def hc3T (r eph st : Txt) : Txt := kdfT 1 (hc2T r eph) (hvT r eph st)
def hh3T (r eph st sp : Txt) : Txt := hashT (hh2T r eph st) sp
def hear4 (r eph st sp : Txt) : Nat × Txt × Nat × Txt × Txt :=
  if (opn st (hk1T r eph) 0 (hh1T r eph)).2 = 0 then
    if pubB (hfrom r eph st) = true then
      if (opn sp (hk2T r eph st) 0 (hh2T r eph st)).2 = 0 then
        if (nd (hst r eph st sp)).k = 3 then (0, hfrom r eph st, (nd (hst r eph st sp)).n, hc3T r eph st, hh3T r eph st sp) else (3, [], 0, [], [])
      else (8, [], 0, [], [])
    else (3, [], 0, [], [])
  else (8, [], 0, [], [])
/-- What a hearer makes of a message: the code, the public key, the stamp, the chain, the sum. -/
def hearR (r : Txt) (m : Msg) : Nat × Txt × Nat × Txt × Txt :=
  if isT r = true ∧ (m.k == 1 && rightM m) = true ∧ pubB (m.t 4).data.toList = true then hear4 r (m.t 4).data.toList (m.t 5).data.toList (m.t 6).data.toList else (3, [], 0, [], [])
abbrev heardV (x : Int) (p : ByteArray) (n : Int) (e c h : ByteArray) : Array Value := #[.int .u32 x, .string p, .int .u64 n, .string e, .string c, .string h]
def hearVal (r : Txt) (m : Msg) : Value :=
  if (hearR r m).1 = 0 then .tuple #[.agg (heardV m.s ⟨(hearR r m).2.1.toArray⟩ ((hearR r m).2.2.1 : Nat) (m.t 4) ⟨(hearR r m).2.2.2.1.toArray⟩ ⟨(hearR r m).2.2.2.2.toArray⟩), .int .i64 0] else .tuple #[.agg #[.int .u32 0, .string ⟨#[]⟩, .int .u64 0, .string ⟨#[]⟩, .string ⟨#[]⟩, .string ⟨#[]⟩], .int .i64 ((hearR r m).1 : Nat)]
theorem hv_no {r : Txt} {m : Msg} {k : Nat} (h : hearR r m = (k, [], 0, [], [])) (hk : k ≠ 0) : hearVal r m = .tuple #[.agg #[.int .u32 0, .string ⟨#[]⟩, .int .u64 0, .string ⟨#[]⟩, .string ⟨#[]⟩, .string ⟨#[]⟩], .int .i64 (k : Nat)] := by
  unfold hearVal
  rw [h, if_neg hk]
theorem info82 (x : Int) (p : ByteArray) (n : Int) (e c h : ByteArray) : (Try.prog.info? 82).map (·.size) = some (heardV x p n e c h).size := by
  rw [show (heardV x p n e c h).size = 6 from rfl]; kernel_rfl
theorem one82 (x : Int) (p : ByteArray) (n : Int) (e c h : ByteArray) : (heardV x p n e c h).all (·.oneCell') = true := by simp [heardV, Value.oneCell']
def CutS (V : World) (c h : ByteArray) (a b : Value) (wx : World) : Prop := a = .string c ∧ b = .string h ∧ Only (fun _ => False) V wx
theorem new_blk (W : World) (t : TypeId) (c : Array Value) : ∃ G W', G = W.heap.size ∧ W' = W.alloc (.cells c t) ∧ Blk W' G t c ∧ Only (fun _ => False) W W' := ⟨_, _, rfl, rfl, Blk.new W t c, (Only.refl _ W).alloc _⟩
theorem open_let (s key : ByteArray) (n : Nat) (v b : ByteArray) (c : Nat) (w : World) (hm : s.size ≤ 100000000) (hb : b.data.toList = (opn s.data.toList key.data.toList n v.data.toList).1) (hc : c = (opn s.data.toList key.data.toList n v.data.toList).2) : Calls Try.prog 33 #[.string s, .string key, .int .u64 n, .string v] w (numA.Told w (.tuple #[.string b, .int .i64 (c : Nat)])) := by
  have h := prX.open_any s key n v w hm
  rw [← hb, ← hc] at h
  have e : (⟨b.data.toList.toArray⟩ : ByteArray) = b := by simp
  rw [e] at h
  exact h

theorem opn_le (t k : Txt) (n : Nat) (v : Txt) : (opn t k n v).1.length ≤ t.length := by
  unfold opn
  split
  · split
    · by_cases h : (nd t).ps.getD 1 [] ∈ (nd t).ps
      · have := (nd_parts h).2
        show ((nd t).ps.getD 1 []).length ≤ _
        omega
      · have e : (nd t).ps.getD 1 [] = [] := by
          rw [List.getD_eq_getElem?_getD]
          by_cases hl : 1 < (nd t).ps.length
          · exfalso
            apply h
            rw [List.getD_eq_getElem?_getD, List.getElem?_eq_getElem hl]
            exact List.getElem_mem _
          · rw [List.getElem?_eq_none (by omega)]
            rfl
        show ((nd t).ps.getD 1 []).length ≤ _
        rw [e]
        exact Nat.zero_le _
    · exact Nat.zero_le _
  · exact Nat.zero_le _

set_option maxRecDepth 100000 in
set_option maxHeartbeats 8000000 in
theorem hear_any (r : ByteArray) (m : Msg) (w : World) (hall : (hearR r.data.toList m).1 = 0 → isT (hearR r.data.toList m).2.2.2.1 = true ∧ isT (hearR r.data.toList m).2.2.2.2 = true) (ht : ∀ i, (m.t i).size ≤ 10000000) (rz : r.size ≤ 10000000) : Calls Try.prog 70 #[.string r, mval m] w (numA.Told w (hearVal r.data.toList m)) := by
  obtain ⟨b1, hb1⟩ : ∃ b, b = isT r.data.toList := ⟨_, rfl⟩
  obtain ⟨b2, hb2⟩ : ∃ b, b = (m.k == 1 && rightM m) := ⟨_, rfl⟩
  obtain ⟨b3, hb3⟩ : ∃ b, b = pubB (m.t 4).data.toList := ⟨_, rfl⟩
  obtain ⟨c0, hc0⟩ : ∃ c0 : ByteArray, c0.data.toList = c0T := ⟨⟨(c0T).toArray⟩, rfl⟩
  obtain ⟨pr, hpr⟩ : ∃ pr : ByteArray, pr.data.toList = pubT r.data.toList := ⟨⟨(pubT r.data.toList).toArray⟩, rfl⟩
  obtain ⟨u, hu⟩ : ∃ u : ByteArray, u.data.toList = agr r.data.toList (m.t 4).data.toList := ⟨⟨(agr r.data.toList (m.t 4).data.toList).toArray⟩, rfl⟩
  obtain ⟨c1, hc1⟩ : ∃ c1 : ByteArray, c1.data.toList = hc1T (m.t 4).data.toList := ⟨⟨(hc1T (m.t 4).data.toList).toArray⟩, rfl⟩
  obtain ⟨h1, hh1⟩ : ∃ h1 : ByteArray, h1.data.toList = hh1T r.data.toList (m.t 4).data.toList := ⟨⟨(hh1T r.data.toList (m.t 4).data.toList).toArray⟩, rfl⟩
  obtain ⟨k1, hk1⟩ : ∃ k1 : ByteArray, k1.data.toList = hk1T r.data.toList (m.t 4).data.toList := ⟨⟨(hk1T r.data.toList (m.t 4).data.toList).toArray⟩, rfl⟩
  obtain ⟨f, hf⟩ : ∃ f : ByteArray, f.data.toList = hfrom r.data.toList (m.t 4).data.toList (m.t 5).data.toList := ⟨⟨(hfrom r.data.toList (m.t 4).data.toList (m.t 5).data.toList).toArray⟩, rfl⟩
  obtain ⟨x1, hx1⟩ : ∃ x, x = (opn (m.t 5).data.toList (hk1T r.data.toList (m.t 4).data.toList) 0 (hh1T r.data.toList (m.t 4).data.toList)).2 := ⟨_, rfl⟩
  obtain ⟨b5, hb5⟩ : ∃ b, b = pubB (hfrom r.data.toList (m.t 4).data.toList (m.t 5).data.toList) := ⟨_, rfl⟩
  obtain ⟨c2, hc2⟩ : ∃ c2 : ByteArray, c2.data.toList = hc2T r.data.toList (m.t 4).data.toList := ⟨⟨(hc2T r.data.toList (m.t 4).data.toList).toArray⟩, rfl⟩
  obtain ⟨h2, hh2⟩ : ∃ h2 : ByteArray, h2.data.toList = hh2T r.data.toList (m.t 4).data.toList (m.t 5).data.toList := ⟨⟨(hh2T r.data.toList (m.t 4).data.toList (m.t 5).data.toList).toArray⟩, rfl⟩
  obtain ⟨v, hv⟩ : ∃ v : ByteArray, v.data.toList = hvT r.data.toList (m.t 4).data.toList (m.t 5).data.toList := ⟨⟨(hvT r.data.toList (m.t 4).data.toList (m.t 5).data.toList).toArray⟩, rfl⟩
  obtain ⟨k2, hk2⟩ : ∃ k2 : ByteArray, k2.data.toList = hk2T r.data.toList (m.t 4).data.toList (m.t 5).data.toList := ⟨⟨(hk2T r.data.toList (m.t 4).data.toList (m.t 5).data.toList).toArray⟩, rfl⟩
  obtain ⟨g, hg⟩ : ∃ g : ByteArray, g.data.toList = hst r.data.toList (m.t 4).data.toList (m.t 5).data.toList (m.t 6).data.toList := ⟨⟨(hst r.data.toList (m.t 4).data.toList (m.t 5).data.toList (m.t 6).data.toList).toArray⟩, rfl⟩
  obtain ⟨x2, hx2⟩ : ∃ x, x = (opn (m.t 6).data.toList (hk2T r.data.toList (m.t 4).data.toList (m.t 5).data.toList) 0 (hh2T r.data.toList (m.t 4).data.toList (m.t 5).data.toList)).2 := ⟨_, rfl⟩
  obtain ⟨N, hN⟩ : ∃ N, N = (trJ.ndOf g.data.toList).n := ⟨_, rfl⟩
  obtain ⟨kk, hkk⟩ : ∃ k, k = (trJ.ndOf g.data.toList).k := ⟨_, rfl⟩
  obtain ⟨c3, hc3⟩ : ∃ c3 : ByteArray, c3.data.toList = hc3T r.data.toList (m.t 4).data.toList (m.t 5).data.toList := ⟨⟨(hc3T r.data.toList (m.t 4).data.toList (m.t 5).data.toList).toArray⟩, rfl⟩
  obtain ⟨h3, hh3⟩ : ∃ h3 : ByteArray, h3.data.toList = hh3T r.data.toList (m.t 4).data.toList (m.t 5).data.toList (m.t 6).data.toList := ⟨⟨(hh3T r.data.toList (m.t 4).data.toList (m.t 5).data.toList (m.t 6).data.toList).toArray⟩, rfl⟩
  have c0z : c0.size ≤ 100000000 := u_le hc0 (by decide +kernel)
  have prz : pr.size ≤ 100000000 := u_le hpr (Nat.le_trans (pub_most _) (by decide))
  have uz : u.size ≤ 100000000 := u_le hu (Nat.le_trans (agr_most _ _) (by decide))
  have vz : v.size ≤ 100000000 := u_le hv (Nat.le_trans (agr_most _ _) (by decide))
  have c1z : c1.size ≤ 100000000 := u_le hc1 (Nat.le_trans (kdf_most _ (by decide) _ _) (by decide))
  have k1z : k1.size ≤ 100000000 := u_le hk1 (Nat.le_trans (kdf_most _ (by decide) _ _) (by decide))
  have c2z : c2.size ≤ 100000000 := u_le hc2 (Nat.le_trans (kdf_most _ (by decide) _ _) (by decide))
  have k2z : k2.size ≤ 100000000 := u_le hk2 (Nat.le_trans (kdf_most _ (by decide) _ _) (by decide))
  have c3z : c3.size ≤ 100000000 := u_le hc3 (Nat.le_trans (kdf_most _ (by decide) _ _) (by decide))
  have h1z : h1.size ≤ 100000000 := u_le hh1 (Nat.le_trans (hash_most _ _) (by decide))
  have h2z : h2.size ≤ 100000000 := u_le hh2 (Nat.le_trans (hash_most _ _) (by decide))
  have h3z : h3.size ≤ 100000000 := u_le hh3 (Nat.le_trans (hash_most _ _) (by decide))
  have fz : f.size ≤ 100000000 := u_le hf (Nat.le_trans (opn_le _ _ _ _) (by rw [tl_size]; exact Nat.le_trans (ht 5) (by decide)))
  have gz : g.size ≤ 100000000 := u_le hg (Nat.le_trans (opn_le _ _ _ _) (by rw [tl_size]; exact Nat.le_trans (ht 6) (by decide)))
  have C1 := Lib.hid (fun W => (show Calls Try.prog 128 #[.slice (some ⟨W.heap.size, 0, none⟩) 1 1] (W.alloc (.cells #[.string r] 9)) (numA.Told W (.bool b1)) from lst_of (terms_blk [r] b1 (by rw [hb1]; simp) (by simp) (by
    intro x hx
    simp at hx
    subst hx; exact Nat.le_trans rz (by decide)) (W.alloc (.cells #[.string r] 9)) W.heap.size (blk_new W _))))
  have C2 := Lib.hid (fun W => (show Calls Try.prog 138 #[.agg #[.int .i64 m.k, .int .u32 m.s, .int .u32 m.r, .int .u64 m.c, .string (m.t 4), .string (m.t 5), .string (m.t 6), .string (m.t 7), .string (m.t 8), .string (m.t 9), .string (m.t 10), .string (m.t 11), .string (m.t 12)], .int .i64 1] W (numA.Told W (.bool b2)) from is_any m 1 b2 W hb2.symm (fun i => Nat.le_trans (ht i) (by decide))))
  have C3 := Lib.hid (fun W => (show Calls Try.prog 129 #[.slice (some ⟨W.heap.size, 0, none⟩) 1 1] (W.alloc (.cells #[.string (m.t 4)] 9)) (numA.Told W (.bool b3)) from lst_of (publics_blk [(m.t 4)] b3 (by rw [hb3]; simp) (by simp) (by
    intro x hx
    simp at hx
    subst hx; exact Nat.le_trans (ht 4) (by decide)) (W.alloc (.cells #[.string (m.t 4)] 9)) W.heap.size (blk_new W _))))
  have C4 := Lib.hid (fun W => (show Calls Try.prog 130 #[.slice (some ⟨W.heap.size, 0, none⟩) 1 1] (W.alloc (.cells #[.string ⟨#[120, 55, 51, 54, 101, 54, 57, 54, 51, 54, 98, 54, 53, 55, 52]⟩] 9)) (numA.Told W (.string c0)) from lst_of (sum_blk [(⟨#[120, 55, 51, 54, 101, 54, 57, 54, 51, 54, 98, 54, 53, 55, 52]⟩ : ByteArray)] c0 (W.alloc (.cells #[.string ⟨#[120, 55, 51, 54, 101, 54, 57, 54, 51, 54, 98, 54, 53, 55, 52]⟩] 9)) W.heap.size (by rw [hc0]; rfl) (by simp) (by
    intro x hx
    simp at hx
    subst hx; exact (by decide)) (blk_new W _))))
  have C5 := Lib.hid (fun W => told_str (b := u) hu (prX.agree_any r (m.t 4) W (Nat.le_trans rz (by decide)) (Nat.le_trans (ht 4) (by decide))))
  have C6 := Lib.hid (fun W G h => (show Calls Try.prog 132 #[.string c0, .slice (some ⟨G, 0, none⟩) 1 1] W (numA.Told W (.string c1)) from chained_blk c0 [(m.t 4)] c1 (by rw [hc1, hc0]; rfl) (by simp) (by
    intro x hx
    simp at hx
    subst hx; exact Nat.le_trans (ht 4) (by decide)) (c0z) W G h))
  have C7 := Lib.hid (fun W => public_any r pr W hpr (Nat.le_trans rz (by decide)))
  have C8 := Lib.hid (fun W G h => (show Calls Try.prog 133 #[.string c0, .slice (some ⟨G, 0, none⟩) 2 2] W (numA.Told W (.string h1)) from summed_blk c0 [pr, (m.t 4)] h1 (by rw [hh1, hc0]; simp only [List.map_cons, List.map_nil]; rw [hpr]; rfl) (by simp) (by
    intro x hx
    simp at hx
    rcases hx with rfl | rfl
    · exact prz
    · exact Nat.le_trans (ht 4) (by decide)) (c0z) W G h))
  have C9 := Lib.hid (fun W => (show Calls Try.prog 135 #[.int .u64 2, .string c1, .string u] W (numA.Told W (.string k1)) from derive_any 2 c1 u k1 W (by rw [hk1, hc1, hu]; rfl) (by decide) (c1z) (uz)))
  have C10 := Lib.hid (fun W => (show Calls Try.prog 33 #[.string (m.t 5), .string k1, .int .u64 0, .string h1] W (numA.Told W (.tuple #[.string f, .int .i64 (x1 : Nat)])) from open_let (m.t 5) k1 0 h1 f x1 W (Nat.le_trans (ht 5) (by decide)) (by rw [hf, hk1, hh1]; rfl) (by rw [hx1, hk1, hh1])))
  have C11 := Lib.hid (fun W => (show Calls Try.prog 129 #[.slice (some ⟨W.heap.size, 0, none⟩) 1 1] (W.alloc (.cells #[.string f] 9)) (numA.Told W (.bool b5)) from lst_of (publics_blk [f] b5 (by rw [hb5, ← hf]; simp) (by simp) (by
    intro x hx
    simp at hx
    subst hx; exact fz) (W.alloc (.cells #[.string f] 9)) W.heap.size (blk_new W _))))
  have C12 := Lib.hid (fun W G h => (show Calls Try.prog 132 #[.string c1, .slice (some ⟨G, 0, none⟩) 1 1] W (numA.Told W (.string c2)) from chained_blk c1 [u] c2 (by rw [hc2, hc1]; simp only [List.map_cons, List.map_nil]; rw [hu]; rfl) (by simp) (by
    intro x hx
    simp at hx
    subst hx; exact uz) (c1z) W G h))
  have C13 := Lib.hid (fun W G h => (show Calls Try.prog 133 #[.string h1, .slice (some ⟨G, 0, none⟩) 1 1] W (numA.Told W (.string h2)) from summed_blk h1 [(m.t 5)] h2 (by rw [hh2, hh1]; rfl) (by simp) (by
    intro x hx
    simp at hx
    subst hx; exact Nat.le_trans (ht 5) (by decide)) (h1z) W G h))
  have C14 := Lib.hid (fun W => told_str (b := v) (by rw [hv, hf]; rfl) (prX.agree_any r f W (Nat.le_trans rz (by decide)) fz))
  have C15 := Lib.hid (fun W => (show Calls Try.prog 135 #[.int .u64 2, .string c2, .string v] W (numA.Told W (.string k2)) from derive_any 2 c2 v k2 W (by rw [hk2, hc2, hv]; rfl) (by decide) (c2z) (vz)))
  have C16 := Lib.hid (fun W => (show Calls Try.prog 33 #[.string (m.t 6), .string k2, .int .u64 0, .string h2] W (numA.Told W (.tuple #[.string g, .int .i64 (x2 : Nat)])) from open_let (m.t 6) k2 0 h2 g x2 W (Nat.le_trans (ht 6) (by decide)) (by rw [hg, hk2, hh2]; rfl) (by rw [hx2, hk2, hh2])))
  have C17 := Lib.hid (fun W => prR.value_any g W gz)
  rw [← hN] at C17
  obtain ⟨vb, hvb⟩ : ∃ b, b = prR.hasN (trJ.ndOf g.data.toList).k := ⟨_, rfl⟩
  rw [← hvb] at C17
  have C18 := Lib.hid (fun W => prR.kind_any g W gz)
  rw [← hkk] at C18
  have C19 := Lib.hid (fun W G h => (show Calls Try.prog 132 #[.string c2, .slice (some ⟨G, 0, none⟩) 1 1] W (numA.Told W (.string c3)) from chained_blk c2 [v] c3 (by rw [hc3, hc2]; simp only [List.map_cons, List.map_nil]; rw [hv]; rfl) (by simp) (by
    intro x hx
    simp at hx
    subst hx; exact vz) (c2z) W G h))
  have C20 := Lib.hid (fun W G h => (show Calls Try.prog 133 #[.string h2, .slice (some ⟨G, 0, none⟩) 1 1] W (numA.Told W (.string h3)) from summed_blk h2 [(m.t 6)] h3 (by rw [hh3, hh2]; rfl) (by simp) (by
    intro x hx
    simp at hx
    subst hx; exact Nat.le_trans (ht 6) (by decide)) (h2z) W G h))
  obtain ⟨b7, hb7⟩ : ∃ b, b = [c3, h3].all (fun x => isT x.data.toList) := ⟨_, rfl⟩
  have C21 := Lib.hid (fun W => (show Calls Try.prog 128 #[.slice (some ⟨W.heap.size, 0, none⟩) 2 2] (W.alloc (.cells #[.string c3, .string h3] 9)) (numA.Told W (.bool b7)) from lst_of (terms_blk [c3, h3] b7 (hb7.symm) (by simp) (by
    intro x hx
    simp at hx
    rcases hx with rfl | rfl
    · exact c3z
    · exact h3z) (W.alloc (.cells #[.string c3, .string h3] 9)) W.heap.size (blk_new W _))))
  have HB1 := Lib.hid hb1
  have HB2 := Lib.hid hb2
  have HB3 := Lib.hid hb3
  have HB5 := Lib.hid hb5
  have HX1 := Lib.hid hx1
  have HX2 := Lib.hid hx2
  have HKK := Lib.hid (show kk = (nd (hst r.data.toList (m.t 4).data.toList (m.t 5).data.toList (m.t 6).data.toList)).k from by rw [hkk, hg]; rfl)
  have HB7 := Lib.hid hb7
  have HALL := Lib.hid hall
  have HOK := Lib.hid (show f.data.toList = hfrom r.data.toList (m.t 4).data.toList (m.t 5).data.toList ∧ N = (nd (hst r.data.toList (m.t 4).data.toList (m.t 5).data.toList (m.t 6).data.toList)).n ∧ c3.data.toList = hc3T r.data.toList (m.t 4).data.toList (m.t 5).data.toList ∧ h3.data.toList = hh3T r.data.toList (m.t 4).data.toList (m.t 5).data.toList (m.t 6).data.toList from ⟨hf, by rw [hN, hg]; rfl, hc3, hh3⟩)
  clear hb1 hb2 hb3 hb5 hx1 hx2 hkk hb7 hall ht rz hc0 c0z hN hvb hpr prz hu uz hc1 c1z hh1 h1z hk1 k1z hf fz hc2 c2z hh2 h2z hv vz hk2 k2z hg gz hc3 c3z hh3 h3z
  unfold mval
  obtain ⟨Y, hY⟩ : ∃ Y, Y = ((w.alloc (.cells #[.int .i64 m.k, .int .u32 m.s, .int .u32 m.r, .int .u64 m.c, .string (m.t 4), .string (m.t 5), .string (m.t 6), .string (m.t 7), .string (m.t 8), .string (m.t 9), .string (m.t 10), .string (m.t 11), .string (m.t 12)] 61)).alloc (.cells #[.int .u32 0, .string ⟨#[]⟩, .int .u64 0, .string ⟨#[]⟩, .string ⟨#[]⟩, .string ⟨#[]⟩] 82)) := ⟨_, rfl⟩
  obtain ⟨A, hA⟩ : ∃ A, A = w.heap.size := ⟨_, rfl⟩
  have O := Lib.hid (show Only (fun _ => False) w Y from by rw [hY]; exact ((Only.refl _ w).alloc _).alloc _)
  have HR0 := Lib.hid (show Blk Y (A) 61 #[.int .i64 m.k, .int .u32 m.s, .int .u32 m.r, .int .u64 m.c, .string (m.t 4), .string (m.t 5), .string (m.t 6), .string (m.t 7), .string (m.t 8), .string (m.t 9), .string (m.t 10), .string (m.t 11), .string (m.t 12)] from by have h := (Blk.keep (Blk.new w 61 #[.int .i64 m.k, .int .u32 m.s, .int .u32 m.r, .int .u64 m.c, .string (m.t 4), .string (m.t 5), .string (m.t 6), .string (m.t 7), .string (m.t 8), .string (m.t 9), .string (m.t 10), .string (m.t 11), .string (m.t 12)]) ((Only.refl (fun _ => False) _).alloc (.cells #[.int .u32 0, .string ⟨#[]⟩, .int .u64 0, .string ⟨#[]⟩, .string ⟨#[]⟩, .string ⟨#[]⟩] 82)) id); rw [hY, hA]; exact h)
  have HR1 := Lib.hid (show Blk Y (A + 1) 82 #[.int .u32 0, .string ⟨#[]⟩, .int .u64 0, .string ⟨#[]⟩, .string ⟨#[]⟩, .string ⟨#[]⟩] from by have h := (Blk.new (w.alloc (.cells #[.int .i64 m.k, .int .u32 m.s, .int .u32 m.r, .int .u64 m.c, .string (m.t 4), .string (m.t 5), .string (m.t 6), .string (m.t 7), .string (m.t 8), .string (m.t 9), .string (m.t 10), .string (m.t 11), .string (m.t 12)] 61)) 82 #[.int .u32 0, .string ⟨#[]⟩, .int .u64 0, .string ⟨#[]⟩, .string ⟨#[]⟩, .string ⟨#[]⟩]); simp only [World.size_alloc] at h; rw [hY, hA]; exact h)
  have HY := Lib.hid hY
  have HAE := Lib.hid hA
  have HYS := Lib.hid (show Y.heap.size = A + 2 from by rw [hY, hA]; simp only [World.size_alloc])
  have HYW := Lib.hid (show Y.heap.size = w.heap.size + 1 + 1 from by rw [hY]; simp only [World.size_alloc])
  clear hY hA
  have HA := Lib.hid (show MsgAt Y A m from HR0.out)
  go_enter Try.func70, Try.ntmps70
  go_wp2_with fail
  rw [← HY.out, ← HYW.out, ← HAE.out]
  (with_reducible refine (C1.out _).mono ?_)
  rintro e w2 ⟨rfl, o⟩
  replace O := Lib.hid (O.out.trans o)
  replace HR1 := Lib.hid (Blk.keep HR1.out o id)
  replace HA := Lib.hid (MsgAt.keep HA.out o id)
  clear o
  cases b1
  case false =>
    have HV := hv_no (show hearR r.data.toList m = (3, [], 0, [], []) from by rw [hearR, if_neg (fun q => by have := q.1; rw [← HB1.out] at this; cases this)]) (by decide)
    go_wp2_with (refine wpList_store_row rfl 82 (.tmp 4) (.tmp 35) rfl (A + 1) #[.int .u32 0, .string ⟨#[]⟩, .int .u64 0, .string ⟨#[]⟩, .string ⟨#[]⟩, .string ⟨#[]⟩] rfl rfl 82 _ HR1.out (info82 0 ⟨#[]⟩ 0 ⟨#[]⟩ ⟨#[]⟩ ⟨#[]⟩) rfl (one82 0 ⟨#[]⟩ 0 ⟨#[]⟩ ⟨#[]⟩ ⟨#[]⟩) ?_)
    exact bodyPost_ret (trB.res2 Try.results70 _ _ (A + 1) 82 #[.int .u32 0, .string ⟨#[]⟩, .int .u64 0, .string ⟨#[]⟩, .string ⟨#[]⟩, .string ⟨#[]⟩] (0, 0) _ rfl (Blk.row HR1.out _) Try.underlying82 rfl (info82 0 ⟨#[]⟩ 0 ⟨#[]⟩ ⟨#[]⟩ ⟨#[]⟩)) rfl ⟨by rw [HV]; rfl, Only.old (only_row (O.out.mono fun _ h => h.elim) _ (by rw [HAE.out]; omega))⟩
  obtain ⟨d0, d1, d2, d3, d4, d5, d6, d7, d8, d9, d10, d11, d12⟩ := MsgAt.cells HA.out
  go_wp2_with fail
  (with_reducible refine (C2.out _).mono ?_)
  rintro e w2 ⟨rfl, o⟩
  replace O := Lib.hid (O.out.trans o)
  replace HR1 := Lib.hid (Blk.keep HR1.out o id)
  replace HA := Lib.hid (MsgAt.keep HA.out o id)
  clear o
  cases b2
  case false =>
    have HV := hv_no (show hearR r.data.toList m = (3, [], 0, [], []) from by rw [hearR, if_neg (fun q => by have := q.2.1; rw [← HB2.out] at this; cases this)]) (by decide)
    go_wp2_with (refine wpList_store_row rfl 82 (.tmp 4) (.tmp 35) rfl (A + 1) #[.int .u32 0, .string ⟨#[]⟩, .int .u64 0, .string ⟨#[]⟩, .string ⟨#[]⟩, .string ⟨#[]⟩] rfl rfl 82 _ HR1.out (info82 0 ⟨#[]⟩ 0 ⟨#[]⟩ ⟨#[]⟩ ⟨#[]⟩) rfl (one82 0 ⟨#[]⟩ 0 ⟨#[]⟩ ⟨#[]⟩ ⟨#[]⟩) ?_)
    exact bodyPost_ret (trB.res2 Try.results70 _ _ (A + 1) 82 #[.int .u32 0, .string ⟨#[]⟩, .int .u64 0, .string ⟨#[]⟩, .string ⟨#[]⟩, .string ⟨#[]⟩] (0, 0) _ rfl (Blk.row HR1.out _) Try.underlying82 rfl (info82 0 ⟨#[]⟩ 0 ⟨#[]⟩ ⟨#[]⟩ ⟨#[]⟩)) rfl ⟨by rw [HV]; rfl, Only.old (only_row (O.out.mono fun _ h => h.elim) _ (by rw [HAE.out]; omega))⟩
  clear d0 d1 d2 d3 d4 d5 d6 d7 d8 d9 d10 d11 d12
  have d4 := MsgAt.text HA.out (i := 4) (by decide) (by decide)
  go_wp2_with fail
  (with_reducible refine (C3.out _).mono ?_)
  rintro e w2 ⟨rfl, o⟩
  replace O := Lib.hid (O.out.trans o)
  replace HR1 := Lib.hid (Blk.keep HR1.out o id)
  replace HA := Lib.hid (MsgAt.keep HA.out o id)
  clear o
  cases b3
  case false =>
    have HV := hv_no (show hearR r.data.toList m = (3, [], 0, [], []) from by rw [hearR, if_neg (fun q => by have := q.2.2; rw [← HB3.out] at this; cases this)]) (by decide)
    go_wp2_with (refine wpList_store_row rfl 82 (.tmp 4) (.tmp 35) rfl (A + 1) #[.int .u32 0, .string ⟨#[]⟩, .int .u64 0, .string ⟨#[]⟩, .string ⟨#[]⟩, .string ⟨#[]⟩] rfl rfl 82 _ HR1.out (info82 0 ⟨#[]⟩ 0 ⟨#[]⟩ ⟨#[]⟩ ⟨#[]⟩) rfl (one82 0 ⟨#[]⟩ 0 ⟨#[]⟩ ⟨#[]⟩ ⟨#[]⟩) ?_)
    exact bodyPost_ret (trB.res2 Try.results70 _ _ (A + 1) 82 #[.int .u32 0, .string ⟨#[]⟩, .int .u64 0, .string ⟨#[]⟩, .string ⟨#[]⟩, .string ⟨#[]⟩] (0, 0) _ rfl (Blk.row HR1.out _) Try.underlying82 rfl (info82 0 ⟨#[]⟩ 0 ⟨#[]⟩ ⟨#[]⟩ ⟨#[]⟩)) rfl ⟨by rw [HV]; rfl, Only.old (only_row (O.out.mono fun _ h => h.elim) _ (by rw [HAE.out]; omega))⟩
  clear d4
  go_wp2_with fail
  (with_reducible refine (C4.out _).mono ?_)
  rintro e w2 ⟨rfl, o⟩
  replace O := Lib.hid (O.out.trans o)
  replace HR1 := Lib.hid (Blk.keep HR1.out o id)
  replace HA := Lib.hid (MsgAt.keep HA.out o id)
  clear o
  have d4 := MsgAt.text HA.out (i := 4) (by decide) (by decide)
  go_wp2_with fail
  (with_reducible refine (C5.out _).mono ?_)
  rintro e w2 ⟨rfl, o⟩
  replace O := Lib.hid (O.out.trans o)
  replace HR1 := Lib.hid (Blk.keep HR1.out o id)
  replace HA := Lib.hid (MsgAt.keep HA.out o id)
  clear o
  clear d4
  go_upto_region 5 with fail
  obtain ⟨V, hV⟩ : ∃ V, V = w2 := ⟨_, rfl⟩
  rw [← hV] at HA HR1 O ⊢
  clear hV
  have R := Lib.hid ((Only.refl (fun _ => False) V).drew)
  refine wp_region_held_drew (S := (fun w' => w'.cell? ⟨A, 4, none⟩ = some (.string (m.t 4)))) (by kernel_rfl) ?_ (fun hHeld => ?_)
  · exact MsgAt.text (MsgAt.keep HA.out R.out id) (i := 4) (by decide) (by decide)
  refine rgA.tk 0 hHeld ?_
  refine rgA.tk 1 hHeld ?_
  refine rgA.tk 2 hHeld ?_
  refine rgA.tk 5 hHeld ?_
  refine rgA.tk 6 hHeld ?_
  refine rgA.tk 8 hHeld ?_
  refine rgA.tk 9 hHeld ?_
  refine rgA.rd 3 (fun K hK => ?_)
  go_simp
  obtain ⟨B1, hB1⟩ : ∃ g, g = V.heap.size := ⟨_, rfl⟩
  obtain ⟨w9, hw9⟩ : ∃ z, z = (V.alloc (.cells #[.string (m.t 4)] 9)).drew := ⟨_, rfl⟩
  rw [← hw9, ← hB1]
  have HS1 := Lib.hid (show w9.heap[B1]? = some (.cells #[.string (m.t 4)] 9 (0, 0)) from by rw [hw9, hB1]; exact heap_alloc_new V _)
  have oN : Only (fun _ => False) V.drew w9 := by rw [hw9]; exact (Only.refl _ V.drew).alloc _
  replace HA := Lib.hid (MsgAt.keep HA.out (R.out.trans oN) id)
  replace HR1 := Lib.hid (Only.keep (R.out.trans oN) HR1.out id)
  replace O := Lib.hid (O.out.trans (R.out.trans oN))
  have R := Lib.hid (Only.refl (fun _ => False) w9)
  clear oN hw9 hB1
  obtain ⟨w2, hw2⟩ : ∃ z, z = w9 := ⟨_, rfl⟩
  rw [← hw2] at R O HA HR1 HS1 ⊢
  clear hw2
  refine hK.out _ _ ?_ (fun hHeld => ?_)
  · exact MsgAt.text (MsgAt.keep HA.out R.out id) (i := 4) (by decide) (by decide)
  clear hK K
  try simp only [List.getElem_toArray, List.getElem_cons_succ, List.getElem_cons_zero, Act.put, List.setIfInBounds_toArray, List.set_cons_zero, List.set_cons_succ]
  refine rgA.rd 4 (fun K hK => ?_)
  go_simp
  (with_reducible refine (C6.out _ _ ?_).mono ?_)
  · exact Only.keep R.out HS1.out id
  rintro e w2 ⟨rfl, o⟩
  replace R := Lib.hid (R.out.trans o)
  clear o
  go_wp2_with fail
  refine hK.out _ _ ?_ (fun hHeld => ?_)
  · exact MsgAt.text (MsgAt.keep HA.out R.out id) (i := 4) (by decide) (by decide)
  clear hK K
  try simp only [List.getElem_toArray, List.getElem_cons_succ, List.getElem_cons_zero, Act.put, List.setIfInBounds_toArray, List.set_cons_zero, List.set_cons_succ]
  refine rgA.rd 7 (fun K hK => ?_)
  go_simp
  (with_reducible refine (C7.out _).mono ?_)
  rintro e w2 ⟨rfl, o⟩
  replace R := Lib.hid (R.out.trans o)
  clear o
  go_wp2_with fail
  refine hK.out _ _ ?_ (fun hHeld => ?_)
  · exact MsgAt.text (MsgAt.keep HA.out R.out id) (i := 4) (by decide) (by decide)
  clear hK K
  try simp only [List.getElem_toArray, List.getElem_cons_succ, List.getElem_cons_zero, Act.put, List.setIfInBounds_toArray, List.set_cons_zero, List.set_cons_succ]
  refine rgA.rd 10 (fun K hK => ?_)
  go_simp
  obtain ⟨B2, hB2⟩ : ∃ g, g = w2.heap.size := ⟨_, rfl⟩
  obtain ⟨w9, hw9⟩ : ∃ z, z = w2.alloc (.cells #[.string pr, .string (m.t 4)] 9) := ⟨_, rfl⟩
  rw [← hw9, ← hB2]
  have HS2 := Lib.hid (show w9.heap[B2]? = some (.cells #[.string pr, .string (m.t 4)] 9 (0, 0)) from by rw [hw9, hB2]; exact heap_alloc_new w2 _)
  have oN : Only (fun _ => False) w2 w9 := by rw [hw9]; exact (Only.refl _ w2).alloc _
  replace HA := Lib.hid (MsgAt.keep HA.out (R.out.trans oN) id)
  replace HR1 := Lib.hid (Only.keep (R.out.trans oN) HR1.out id)
  replace HS1 := Lib.hid (Only.keep (R.out.trans oN) HS1.out id)
  replace O := Lib.hid (O.out.trans (R.out.trans oN))
  have R := Lib.hid (Only.refl (fun _ => False) w9)
  clear oN hw9 hB2
  obtain ⟨w2, hw2⟩ : ∃ z, z = w9 := ⟨_, rfl⟩
  rw [← hw2] at R O HA HR1 HS1 HS2 ⊢
  clear hw2
  refine hK.out _ _ ?_ (fun hHeld => ?_)
  · exact MsgAt.text (MsgAt.keep HA.out R.out id) (i := 4) (by decide) (by decide)
  clear hK K
  try simp only [List.getElem_toArray, List.getElem_cons_succ, List.getElem_cons_zero, Act.put, List.setIfInBounds_toArray, List.set_cons_zero, List.set_cons_succ]
  refine rgA.rd 11 (fun K hK => ?_)
  go_simp
  (with_reducible refine (C8.out _ _ ?_).mono ?_)
  · exact Only.keep R.out HS2.out id
  rintro e w2 ⟨rfl, o⟩
  replace R := Lib.hid (R.out.trans o)
  clear o
  go_wp2_with fail
  refine hK.out _ _ ?_ (fun hHeld => ?_)
  · exact MsgAt.text (MsgAt.keep HA.out R.out id) (i := 4) (by decide) (by decide)
  clear hK K
  try simp only [List.getElem_toArray, List.getElem_cons_succ, List.getElem_cons_zero, Act.put, List.setIfInBounds_toArray, List.set_cons_zero, List.set_cons_succ]
  refine rgA.tk 12 hHeld ?_
  refine rgA.tk 13 hHeld ?_
  refine wpAnyH_done (by kernel_rfl) ?_ _
  clear hHeld
  replace O := Lib.hid (O.out.trans R.out)
  replace HA := Lib.hid (MsgAt.keep HA.out R.out id)
  replace HR1 := Lib.hid (Blk.keep HR1.out R.out id)
  clear R
  clear HS1 HS2
  go_upto_region 6 with fail
  obtain ⟨V, hV⟩ : ∃ V, V = w2 := ⟨_, rfl⟩
  rw [← hV] at HA HR1 O ⊢
  clear hV
  have R := Lib.hid ((Only.refl (fun _ => False) V).drew)
  refine wp_region_held_drew (S := (fun w' => w'.cell? ⟨A, 5, none⟩ = some (.string (m.t 5)))) (by kernel_rfl) ?_ (fun hHeld => ?_)
  · exact MsgAt.text (MsgAt.keep HA.out R.out id) (i := 5) (by decide) (by decide)
  refine rgA.tk 0 hHeld ?_
  refine rgA.tk 1 hHeld ?_
  refine rgA.tk 2 hHeld ?_
  refine rgA.tk 3 hHeld ?_
  refine rgA.tk 5 hHeld ?_
  refine rgA.rd 4 (fun K hK => ?_)
  go_simp
  (with_reducible refine (C9.out _).mono ?_)
  rintro e w2 ⟨rfl, o⟩
  replace R := Lib.hid (R.out.trans o)
  clear o
  go_wp2_with fail
  refine hK.out _ _ ?_ (fun hHeld => ?_)
  · exact MsgAt.text (MsgAt.keep HA.out R.out id) (i := 5) (by decide) (by decide)
  clear hK K
  try simp only [List.getElem_toArray, List.getElem_cons_succ, List.getElem_cons_zero, Act.put, List.setIfInBounds_toArray, List.set_cons_zero, List.set_cons_succ]
  refine rgA.rd 6 (fun K hK => ?_)
  go_simp
  (with_reducible refine (C10.out _).mono ?_)
  rintro e w2 ⟨rfl, o⟩
  replace R := Lib.hid (R.out.trans o)
  clear o
  go_wp2_with fail
  refine hK.out _ _ ?_ (fun hHeld => ?_)
  · exact MsgAt.text (MsgAt.keep HA.out R.out id) (i := 5) (by decide) (by decide)
  clear hK K
  try simp only [List.getElem_toArray, List.getElem_cons_succ, List.getElem_cons_zero, Act.put, List.setIfInBounds_toArray, List.set_cons_zero, List.set_cons_succ]
  refine rgA.tk 7 hHeld ?_
  refine rgA.tk 8 hHeld ?_
  refine rgA.tk 9 hHeld ?_
  refine rgA.tk 10 hHeld ?_
  refine rgA.tk 11 hHeld ?_
  refine wpAnyH_done (by kernel_rfl) ?_ _
  replace O := Lib.hid (O.out.trans R.out)
  replace HA := Lib.hid (MsgAt.keep HA.out R.out id)
  replace HR1 := Lib.hid (Blk.keep HR1.out R.out id)
  clear R
  by_cases hz1 : x1 = 0
  case neg =>
    have z1 : ((x1 : Int) != 0) = true := by rw [bne_iff_ne]; omega
    have HV := hv_no (show hearR r.data.toList m = (8, [], 0, [], []) from by rw [hearR, if_pos ⟨HB1.out.symm, HB2.out.symm, HB3.out.symm⟩, hear4, if_neg (by rw [← HX1.out]; exact hz1)]) (by decide)
    go_wp2_with (refine wpList_store_row rfl 82 (.tmp 4) (.tmp 66) rfl (A + 1) #[.int .u32 0, .string ⟨#[]⟩, .int .u64 0, .string ⟨#[]⟩, .string ⟨#[]⟩, .string ⟨#[]⟩] rfl rfl 82 _ HR1.out (info82 0 ⟨#[]⟩ 0 ⟨#[]⟩ ⟨#[]⟩ ⟨#[]⟩) rfl (one82 0 ⟨#[]⟩ 0 ⟨#[]⟩ ⟨#[]⟩ ⟨#[]⟩) ?_)
    exact bodyPost_ret (trB.res2 Try.results70 _ _ (A + 1) 82 #[.int .u32 0, .string ⟨#[]⟩, .int .u64 0, .string ⟨#[]⟩, .string ⟨#[]⟩, .string ⟨#[]⟩] (0, 0) _ rfl (Blk.row HR1.out _) Try.underlying82 rfl (info82 0 ⟨#[]⟩ 0 ⟨#[]⟩ ⟨#[]⟩ ⟨#[]⟩)) rfl ⟨by rw [HV]; rfl, Only.old (only_row (O.out.mono fun _ h => h.elim) _ (by rw [HAE.out]; omega))⟩
  have z1 : ((x1 : Int) != 0) = false := by rw [bne_eq_false_iff_eq]; omega
  have HZ1 := Lib.hid hz1
  clear hz1
  go_wp2_with fail
  (with_reducible refine (C11.out _).mono ?_)
  rintro e w2 ⟨rfl, o⟩
  replace O := Lib.hid (O.out.trans o)
  replace HR1 := Lib.hid (Blk.keep HR1.out o id)
  replace HA := Lib.hid (MsgAt.keep HA.out o id)
  clear o
  cases b5
  case false =>
    have HV := hv_no (show hearR r.data.toList m = (3, [], 0, [], []) from by rw [hearR, if_pos ⟨HB1.out.symm, HB2.out.symm, HB3.out.symm⟩, hear4, if_pos (by rw [← HX1.out]; exact HZ1.out), if_neg (by rw [← HB5.out]; decide)]) (by decide)
    go_wp2_with (refine wpList_store_row rfl 82 (.tmp 4) (.tmp 71) rfl (A + 1) #[.int .u32 0, .string ⟨#[]⟩, .int .u64 0, .string ⟨#[]⟩, .string ⟨#[]⟩, .string ⟨#[]⟩] rfl rfl 82 _ HR1.out (info82 0 ⟨#[]⟩ 0 ⟨#[]⟩ ⟨#[]⟩ ⟨#[]⟩) rfl (one82 0 ⟨#[]⟩ 0 ⟨#[]⟩ ⟨#[]⟩ ⟨#[]⟩) ?_)
    exact bodyPost_ret (trB.res2 Try.results70 _ _ (A + 1) 82 #[.int .u32 0, .string ⟨#[]⟩, .int .u64 0, .string ⟨#[]⟩, .string ⟨#[]⟩, .string ⟨#[]⟩] (0, 0) _ rfl (Blk.row HR1.out _) Try.underlying82 rfl (info82 0 ⟨#[]⟩ 0 ⟨#[]⟩ ⟨#[]⟩ ⟨#[]⟩)) rfl ⟨by rw [HV]; rfl, Only.old (only_row (O.out.mono fun _ h => h.elim) _ (by rw [HAE.out]; omega))⟩
  go_upto_region 11 with fail
  obtain ⟨V, hV⟩ : ∃ V, V = w2 := ⟨_, rfl⟩
  rw [← hV] at HA HR1 O ⊢
  clear hV
  go_cut [12, 13] (fun a b wx => CutS V c2 h2 a b wx)
  case first =>
    have O := Lib.hid (Only.refl (fun _ => False) V)
    have R := Lib.hid ((Only.refl (fun _ => False) V).drew)
    refine wp_region_held_drew (S := (fun w' => w'.cell? ⟨A, 5, none⟩ = some (.string (m.t 5)))) (by kernel_rfl) ?_ (fun hHeld => ?_)
    · exact MsgAt.text (MsgAt.keep HA.out R.out id) (i := 5) (by decide) (by decide)
    refine rgA.tk 0 hHeld ?_
    refine rgA.tk 1 hHeld ?_
    refine rgA.tk 4 hHeld ?_
    refine rgA.tk 5 hHeld ?_
    refine rgA.tk 6 hHeld ?_
    refine wpAnyH_ready (rs := [2, 7]) (by kernel_rfl) (by simp) ?_
    refine AllReadyH.cons rfl (fun K hK => ?br1) (AllReadyH.cons rfl (fun K hK => ?br2) (AllReadyH.nil))
    case' br1 =>
      go_simp
      obtain ⟨B1, hB1⟩ : ∃ g, g = V.heap.size := ⟨_, rfl⟩
      obtain ⟨w9, hw9⟩ : ∃ z, z = (V.alloc (.cells #[.string u] 9)).drew := ⟨_, rfl⟩
      rw [← hw9, ← hB1]
      have HS1 := Lib.hid (show w9.heap[B1]? = some (.cells #[.string u] 9 (0, 0)) from by rw [hw9, hB1]; exact heap_alloc_new V _)
      have oN : Only (fun _ => False) V.drew w9 := by rw [hw9]; exact (Only.refl _ V.drew).alloc _
      replace HA := Lib.hid (MsgAt.keep HA.out (R.out.trans oN) id)
      replace O := Lib.hid (O.out.trans (R.out.trans oN))
      have R := Lib.hid (Only.refl (fun _ => False) w9)
      clear oN hw9 hB1
      obtain ⟨w2, hw2⟩ : ∃ z, z = w9 := ⟨_, rfl⟩
      rw [← hw2] at R O HA HS1 ⊢
      clear hw2
      refine hK.out _ _ ?_ (fun hHeld => ?_)
      · exact MsgAt.text (MsgAt.keep HA.out R.out id) (i := 5) (by decide) (by decide)
      clear hK K
      try simp only [List.getElem_toArray, List.getElem_cons_succ, List.getElem_cons_zero, Act.put, List.setIfInBounds_toArray, List.set_cons_zero, List.set_cons_succ]
      refine wpAnyH_ready (rs := [3, 7]) (by kernel_rfl) (by simp) ?_
      refine AllReadyH.cons rfl (fun K hK => ?br3) (AllReadyH.cons rfl (fun K hK => ?br4) (AllReadyH.nil))
      case' br3 =>
        go_simp
        (with_reducible refine (C12.out _ _ ?_).mono ?_)
        · exact Only.keep R.out HS1.out id
        rintro e w2 ⟨rfl, o⟩
        replace R := Lib.hid (R.out.trans o)
        clear o
        go_wp2_with fail
        refine hK.out _ _ ?_ (fun hHeld => ?_)
        · exact MsgAt.text (MsgAt.keep HA.out R.out id) (i := 5) (by decide) (by decide)
        clear hK K
        try simp only [List.getElem_toArray, List.getElem_cons_succ, List.getElem_cons_zero, Act.put, List.setIfInBounds_toArray, List.set_cons_zero, List.set_cons_succ]
        refine rgA.rd 7 (fun K hK => ?_)
        go_simp
        obtain ⟨B2, hB2⟩ : ∃ g, g = w2.heap.size := ⟨_, rfl⟩
        obtain ⟨w9, hw9⟩ : ∃ z, z = w2.alloc (.cells #[.string (m.t 5)] 9) := ⟨_, rfl⟩
        rw [← hw9, ← hB2]
        have HS2 := Lib.hid (show w9.heap[B2]? = some (.cells #[.string (m.t 5)] 9 (0, 0)) from by rw [hw9, hB2]; exact heap_alloc_new w2 _)
        have oN : Only (fun _ => False) w2 w9 := by rw [hw9]; exact (Only.refl _ w2).alloc _
        replace HA := Lib.hid (MsgAt.keep HA.out (R.out.trans oN) id)
        replace HS1 := Lib.hid (Only.keep (R.out.trans oN) HS1.out id)
        replace O := Lib.hid (O.out.trans (R.out.trans oN))
        have R := Lib.hid (Only.refl (fun _ => False) w9)
        clear oN hw9 hB2
        obtain ⟨w2, hw2⟩ : ∃ z, z = w9 := ⟨_, rfl⟩
        rw [← hw2] at R O HA HS1 HS2 ⊢
        clear hw2
        refine hK.out _ _ ?_ (fun hHeld => ?_)
        · exact MsgAt.text (MsgAt.keep HA.out R.out id) (i := 5) (by decide) (by decide)
        clear hK K
        try simp only [List.getElem_toArray, List.getElem_cons_succ, List.getElem_cons_zero, Act.put, List.setIfInBounds_toArray, List.set_cons_zero, List.set_cons_succ]
        refine rgA.rd 8 (fun K hK => ?_)
        go_simp
        (with_reducible refine (C13.out _ _ ?_).mono ?_)
        · exact Only.keep R.out HS2.out id
        rintro e w2 ⟨rfl, o⟩
        replace R := Lib.hid (R.out.trans o)
        clear o
        go_wp2_with fail
        refine hK.out _ _ ?_ (fun hHeld => ?_)
        · exact MsgAt.text (MsgAt.keep HA.out R.out id) (i := 5) (by decide) (by decide)
        clear hK K
        try simp only [List.getElem_toArray, List.getElem_cons_succ, List.getElem_cons_zero, Act.put, List.setIfInBounds_toArray, List.set_cons_zero, List.set_cons_succ]
        refine rgA.tk 9 hHeld ?_
        refine rgA.tk 10 hHeld ?_
        refine wpAnyH_done (by kernel_rfl) ?_ _
        clear hHeld
      case' br4 =>
        go_simp
        obtain ⟨B2, hB2⟩ : ∃ g, g = w2.heap.size := ⟨_, rfl⟩
        obtain ⟨w9, hw9⟩ : ∃ z, z = w2.alloc (.cells #[.string (m.t 5)] 9) := ⟨_, rfl⟩
        rw [← hw9, ← hB2]
        have HS2 := Lib.hid (show w9.heap[B2]? = some (.cells #[.string (m.t 5)] 9 (0, 0)) from by rw [hw9, hB2]; exact heap_alloc_new w2 _)
        have oN : Only (fun _ => False) w2 w9 := by rw [hw9]; exact (Only.refl _ w2).alloc _
        replace HA := Lib.hid (MsgAt.keep HA.out (R.out.trans oN) id)
        replace HS1 := Lib.hid (Only.keep (R.out.trans oN) HS1.out id)
        replace O := Lib.hid (O.out.trans (R.out.trans oN))
        have R := Lib.hid (Only.refl (fun _ => False) w9)
        clear oN hw9 hB2
        obtain ⟨w2, hw2⟩ : ∃ z, z = w9 := ⟨_, rfl⟩
        rw [← hw2] at R O HA HS1 HS2 ⊢
        clear hw2
        refine hK.out _ _ ?_ (fun hHeld => ?_)
        · exact MsgAt.text (MsgAt.keep HA.out R.out id) (i := 5) (by decide) (by decide)
        clear hK K
        try simp only [List.getElem_toArray, List.getElem_cons_succ, List.getElem_cons_zero, Act.put, List.setIfInBounds_toArray, List.set_cons_zero, List.set_cons_succ]
        refine rgA.rd 3 (fun K hK => ?_)
        go_simp
        (with_reducible refine (C12.out _ _ ?_).mono ?_)
        · exact Only.keep R.out HS1.out id
        rintro e w2 ⟨rfl, o⟩
        replace R := Lib.hid (R.out.trans o)
        clear o
        go_wp2_with fail
        refine hK.out _ _ ?_ (fun hHeld => ?_)
        · exact MsgAt.text (MsgAt.keep HA.out R.out id) (i := 5) (by decide) (by decide)
        clear hK K
        try simp only [List.getElem_toArray, List.getElem_cons_succ, List.getElem_cons_zero, Act.put, List.setIfInBounds_toArray, List.set_cons_zero, List.set_cons_succ]
        refine rgA.rd 8 (fun K hK => ?_)
        go_simp
        (with_reducible refine (C13.out _ _ ?_).mono ?_)
        · exact Only.keep R.out HS2.out id
        rintro e w2 ⟨rfl, o⟩
        replace R := Lib.hid (R.out.trans o)
        clear o
        go_wp2_with fail
        refine hK.out _ _ ?_ (fun hHeld => ?_)
        · exact MsgAt.text (MsgAt.keep HA.out R.out id) (i := 5) (by decide) (by decide)
        clear hK K
        try simp only [List.getElem_toArray, List.getElem_cons_succ, List.getElem_cons_zero, Act.put, List.setIfInBounds_toArray, List.set_cons_zero, List.set_cons_succ]
        refine rgA.tk 9 hHeld ?_
        refine rgA.tk 10 hHeld ?_
        refine wpAnyH_done (by kernel_rfl) ?_ _
        clear hHeld
    case' br2 =>
      go_simp
      obtain ⟨B2, hB2⟩ : ∃ g, g = V.heap.size := ⟨_, rfl⟩
      obtain ⟨w9, hw9⟩ : ∃ z, z = (V.alloc (.cells #[.string (m.t 5)] 9)).drew := ⟨_, rfl⟩
      rw [← hw9, ← hB2]
      have HS2 := Lib.hid (show w9.heap[B2]? = some (.cells #[.string (m.t 5)] 9 (0, 0)) from by rw [hw9, hB2]; exact heap_alloc_new V _)
      have oN : Only (fun _ => False) V.drew w9 := by rw [hw9]; exact (Only.refl _ V.drew).alloc _
      replace HA := Lib.hid (MsgAt.keep HA.out (R.out.trans oN) id)
      replace O := Lib.hid (O.out.trans (R.out.trans oN))
      have R := Lib.hid (Only.refl (fun _ => False) w9)
      clear oN hw9 hB2
      obtain ⟨w2, hw2⟩ : ∃ z, z = w9 := ⟨_, rfl⟩
      rw [← hw2] at R O HA HS2 ⊢
      clear hw2
      refine hK.out _ _ ?_ (fun hHeld => ?_)
      · exact MsgAt.text (MsgAt.keep HA.out R.out id) (i := 5) (by decide) (by decide)
      clear hK K
      try simp only [List.getElem_toArray, List.getElem_cons_succ, List.getElem_cons_zero, Act.put, List.setIfInBounds_toArray, List.set_cons_zero, List.set_cons_succ]
      refine rgA.rd 2 (fun K hK => ?_)
      go_simp
      obtain ⟨B1, hB1⟩ : ∃ g, g = w2.heap.size := ⟨_, rfl⟩
      obtain ⟨w9, hw9⟩ : ∃ z, z = w2.alloc (.cells #[.string u] 9) := ⟨_, rfl⟩
      rw [← hw9, ← hB1]
      have HS1 := Lib.hid (show w9.heap[B1]? = some (.cells #[.string u] 9 (0, 0)) from by rw [hw9, hB1]; exact heap_alloc_new w2 _)
      have oN : Only (fun _ => False) w2 w9 := by rw [hw9]; exact (Only.refl _ w2).alloc _
      replace HA := Lib.hid (MsgAt.keep HA.out (R.out.trans oN) id)
      replace HS2 := Lib.hid (Only.keep (R.out.trans oN) HS2.out id)
      replace O := Lib.hid (O.out.trans (R.out.trans oN))
      have R := Lib.hid (Only.refl (fun _ => False) w9)
      clear oN hw9 hB1
      obtain ⟨w2, hw2⟩ : ∃ z, z = w9 := ⟨_, rfl⟩
      rw [← hw2] at R O HA HS2 HS1 ⊢
      clear hw2
      refine hK.out _ _ ?_ (fun hHeld => ?_)
      · exact MsgAt.text (MsgAt.keep HA.out R.out id) (i := 5) (by decide) (by decide)
      clear hK K
      try simp only [List.getElem_toArray, List.getElem_cons_succ, List.getElem_cons_zero, Act.put, List.setIfInBounds_toArray, List.set_cons_zero, List.set_cons_succ]
      refine rgA.rd 3 (fun K hK => ?_)
      go_simp
      (with_reducible refine (C12.out _ _ ?_).mono ?_)
      · exact Only.keep R.out HS1.out id
      rintro e w2 ⟨rfl, o⟩
      replace R := Lib.hid (R.out.trans o)
      clear o
      go_wp2_with fail
      refine hK.out _ _ ?_ (fun hHeld => ?_)
      · exact MsgAt.text (MsgAt.keep HA.out R.out id) (i := 5) (by decide) (by decide)
      clear hK K
      try simp only [List.getElem_toArray, List.getElem_cons_succ, List.getElem_cons_zero, Act.put, List.setIfInBounds_toArray, List.set_cons_zero, List.set_cons_succ]
      refine rgA.rd 8 (fun K hK => ?_)
      go_simp
      (with_reducible refine (C13.out _ _ ?_).mono ?_)
      · exact Only.keep R.out HS2.out id
      rintro e w2 ⟨rfl, o⟩
      replace R := Lib.hid (R.out.trans o)
      clear o
      go_wp2_with fail
      refine hK.out _ _ ?_ (fun hHeld => ?_)
      · exact MsgAt.text (MsgAt.keep HA.out R.out id) (i := 5) (by decide) (by decide)
      clear hK K
      try simp only [List.getElem_toArray, List.getElem_cons_succ, List.getElem_cons_zero, Act.put, List.setIfInBounds_toArray, List.set_cons_zero, List.set_cons_succ]
      refine rgA.tk 9 hHeld ?_
      refine rgA.tk 10 hHeld ?_
      refine wpAnyH_done (by kernel_rfl) ?_ _
      clear hHeld
    all_goals
      go_wp2_with fail
      go_meet
      exact ⟨rfl, rfl, O.out.trans R.out⟩
  case rest =>
    obtain ⟨rfl, rfl, oc⟩ := hcut
    replace HA := Lib.hid (MsgAt.keep HA.out oc id)
    replace HR1 := Lib.hid (Blk.keep HR1.out oc id)
    replace O := Lib.hid (O.out.trans oc)
    clear oc
    go_wp2_with fail
    (with_reducible refine (C14.out _).mono ?_)
    rintro e w2 ⟨rfl, o⟩
    replace O := Lib.hid (O.out.trans o)
    replace HR1 := Lib.hid (Blk.keep HR1.out o id)
    replace HA := Lib.hid (MsgAt.keep HA.out o id)
    clear o
    go_upto_region 13 with fail
    obtain ⟨V, hV⟩ : ∃ V, V = w2 := ⟨_, rfl⟩
    rw [← hV] at HA HR1 O ⊢
    clear hV
    have R := Lib.hid ((Only.refl (fun _ => False) V).drew)
    refine wp_region_held_drew (S := (fun w' => w'.cell? ⟨A, 6, none⟩ = some (.string (m.t 6)))) (by kernel_rfl) ?_ (fun hHeld => ?_)
    · exact MsgAt.text (MsgAt.keep HA.out R.out id) (i := 6) (by decide) (by decide)
    refine rgA.tk 0 hHeld ?_
    refine rgA.tk 1 hHeld ?_
    refine rgA.tk 2 hHeld ?_
    refine rgA.tk 3 hHeld ?_
    refine rgA.tk 5 hHeld ?_
    refine rgA.rd 4 (fun K hK => ?_)
    go_simp
    (with_reducible refine (C15.out _).mono ?_)
    rintro e w2 ⟨rfl, o⟩
    replace R := Lib.hid (R.out.trans o)
    clear o
    go_wp2_with fail
    refine hK.out _ _ ?_ (fun hHeld => ?_)
    · exact MsgAt.text (MsgAt.keep HA.out R.out id) (i := 6) (by decide) (by decide)
    clear hK K
    try simp only [List.getElem_toArray, List.getElem_cons_succ, List.getElem_cons_zero, Act.put, List.setIfInBounds_toArray, List.set_cons_zero, List.set_cons_succ]
    refine rgA.rd 6 (fun K hK => ?_)
    go_simp
    (with_reducible refine (C16.out _).mono ?_)
    rintro e w2 ⟨rfl, o⟩
    replace R := Lib.hid (R.out.trans o)
    clear o
    go_wp2_with fail
    refine hK.out _ _ ?_ (fun hHeld => ?_)
    · exact MsgAt.text (MsgAt.keep HA.out R.out id) (i := 6) (by decide) (by decide)
    clear hK K
    try simp only [List.getElem_toArray, List.getElem_cons_succ, List.getElem_cons_zero, Act.put, List.setIfInBounds_toArray, List.set_cons_zero, List.set_cons_succ]
    refine rgA.tk 7 hHeld ?_
    refine rgA.tk 8 hHeld ?_
    refine rgA.tk 9 hHeld ?_
    refine rgA.tk 10 hHeld ?_
    refine rgA.tk 11 hHeld ?_
    refine wpAnyH_done (by kernel_rfl) ?_ _
    replace O := Lib.hid (O.out.trans R.out)
    replace HA := Lib.hid (MsgAt.keep HA.out R.out id)
    replace HR1 := Lib.hid (Blk.keep HR1.out R.out id)
    clear R
    by_cases hz2 : x2 = 0
    case neg =>
      have z2 : ((x2 : Int) != 0) = true := by rw [bne_iff_ne]; omega
      have HV := hv_no (show hearR r.data.toList m = (8, [], 0, [], []) from by rw [hearR, if_pos ⟨HB1.out.symm, HB2.out.symm, HB3.out.symm⟩, hear4, if_pos (by rw [← HX1.out]; exact HZ1.out), if_pos HB5.out.symm, if_neg (by rw [← HX2.out]; exact hz2)]) (by decide)
      go_wp2_with (refine wpList_store_row rfl 82 (.tmp 4) (.tmp 96) rfl (A + 1) #[.int .u32 0, .string ⟨#[]⟩, .int .u64 0, .string ⟨#[]⟩, .string ⟨#[]⟩, .string ⟨#[]⟩] rfl rfl 82 _ HR1.out (info82 0 ⟨#[]⟩ 0 ⟨#[]⟩ ⟨#[]⟩ ⟨#[]⟩) rfl (one82 0 ⟨#[]⟩ 0 ⟨#[]⟩ ⟨#[]⟩ ⟨#[]⟩) ?_)
      exact bodyPost_ret (trB.res2 Try.results70 _ _ (A + 1) 82 #[.int .u32 0, .string ⟨#[]⟩, .int .u64 0, .string ⟨#[]⟩, .string ⟨#[]⟩, .string ⟨#[]⟩] (0, 0) _ rfl (Blk.row HR1.out _) Try.underlying82 rfl (info82 0 ⟨#[]⟩ 0 ⟨#[]⟩ ⟨#[]⟩ ⟨#[]⟩)) rfl ⟨by rw [HV]; rfl, Only.old (only_row (O.out.mono fun _ h => h.elim) _ (by rw [HAE.out]; omega))⟩
    have z2 : ((x2 : Int) != 0) = false := by rw [bne_eq_false_iff_eq]; omega
    have HZ2 := Lib.hid hz2
    clear hz2
    go_wp2_with fail
    (with_reducible refine (C17.out _).mono ?_)
    rintro e w2 ⟨rfl, o⟩
    replace O := Lib.hid (O.out.trans o)
    replace HR1 := Lib.hid (Blk.keep HR1.out o id)
    replace HA := Lib.hid (MsgAt.keep HA.out o id)
    clear o
    go_wp2_with fail
    (with_reducible refine (C18.out _).mono ?_)
    rintro e w2 ⟨rfl, o⟩
    replace O := Lib.hid (O.out.trans o)
    replace HR1 := Lib.hid (Blk.keep HR1.out o id)
    replace HA := Lib.hid (MsgAt.keep HA.out o id)
    clear o
    by_cases hz3 : kk = 3
    case neg =>
      have z3 : ((kk : Int) != 3) = true := by rw [bne_iff_ne]; omega
      have HV := hv_no (show hearR r.data.toList m = (3, [], 0, [], []) from by rw [hearR, if_pos ⟨HB1.out.symm, HB2.out.symm, HB3.out.symm⟩, hear4, if_pos (by rw [← HX1.out]; exact HZ1.out), if_pos HB5.out.symm, if_pos (by rw [← HX2.out]; exact HZ2.out), if_neg (by rw [← HKK.out]; exact hz3)]) (by decide)
      go_wp2_with (refine wpList_store_row rfl 82 (.tmp 4) (.tmp 105) rfl (A + 1) #[.int .u32 0, .string ⟨#[]⟩, .int .u64 0, .string ⟨#[]⟩, .string ⟨#[]⟩, .string ⟨#[]⟩] rfl rfl 82 _ HR1.out (info82 0 ⟨#[]⟩ 0 ⟨#[]⟩ ⟨#[]⟩ ⟨#[]⟩) rfl (one82 0 ⟨#[]⟩ 0 ⟨#[]⟩ ⟨#[]⟩ ⟨#[]⟩) ?_)
      exact bodyPost_ret (trB.res2 Try.results70 _ _ (A + 1) 82 #[.int .u32 0, .string ⟨#[]⟩, .int .u64 0, .string ⟨#[]⟩, .string ⟨#[]⟩, .string ⟨#[]⟩] (0, 0) _ rfl (Blk.row HR1.out _) Try.underlying82 rfl (info82 0 ⟨#[]⟩ 0 ⟨#[]⟩ ⟨#[]⟩ ⟨#[]⟩)) rfl ⟨by rw [HV]; rfl, Only.old (only_row (O.out.mono fun _ h => h.elim) _ (by rw [HAE.out]; omega))⟩
    have z3 : ((kk : Int) != 3) = false := by rw [bne_eq_false_iff_eq]; omega
    have HR := Lib.hid (show hearR r.data.toList m = (0, f.data.toList, N, c3.data.toList, h3.data.toList) from by
      rw [hearR, if_pos ⟨HB1.out.symm, HB2.out.symm, HB3.out.symm⟩, hear4, if_pos (by rw [← HX1.out]; exact HZ1.out), if_pos HB5.out.symm, if_pos (by rw [← HX2.out]; exact HZ2.out), if_pos (by rw [← HKK.out]; exact hz3), HOK.out.1, ← HOK.out.2.1, HOK.out.2.2.1, HOK.out.2.2.2])
    clear hz3
    obtain rfl : true = b7 := by
      have h := HALL.out (by rw [HR.out])
      rw [HR.out] at h
      rw [HB7.out]
      simp [h.1, h.2]
    go_upto_region 19 with fail
    obtain ⟨V, hV⟩ : ∃ V, V = w2 := ⟨_, rfl⟩
    rw [← hV] at HA HR1 O ⊢
    clear hV
    go_cut [17, 18] (fun a b wx => CutS V c3 h3 a b wx)
    case first =>
      have O := Lib.hid (Only.refl (fun _ => False) V)
      have R := Lib.hid ((Only.refl (fun _ => False) V).drew)
      refine wp_region_held_drew (S := (fun w' => w'.cell? ⟨A, 6, none⟩ = some (.string (m.t 6)))) (by kernel_rfl) ?_ (fun hHeld => ?_)
      · exact MsgAt.text (MsgAt.keep HA.out R.out id) (i := 6) (by decide) (by decide)
      refine rgA.tk 0 hHeld ?_
      refine rgA.tk 1 hHeld ?_
      refine rgA.tk 4 hHeld ?_
      refine rgA.tk 5 hHeld ?_
      refine rgA.tk 6 hHeld ?_
      refine wpAnyH_ready (rs := [2, 7]) (by kernel_rfl) (by simp) ?_
      refine AllReadyH.cons rfl (fun K hK => ?br5) (AllReadyH.cons rfl (fun K hK => ?br6) (AllReadyH.nil))
      case' br5 =>
        go_simp
        obtain ⟨B1, hB1⟩ : ∃ g, g = V.heap.size := ⟨_, rfl⟩
        obtain ⟨w9, hw9⟩ : ∃ z, z = (V.alloc (.cells #[.string v] 9)).drew := ⟨_, rfl⟩
        rw [← hw9, ← hB1]
        have HS1 := Lib.hid (show w9.heap[B1]? = some (.cells #[.string v] 9 (0, 0)) from by rw [hw9, hB1]; exact heap_alloc_new V _)
        have oN : Only (fun _ => False) V.drew w9 := by rw [hw9]; exact (Only.refl _ V.drew).alloc _
        replace HA := Lib.hid (MsgAt.keep HA.out (R.out.trans oN) id)
        replace O := Lib.hid (O.out.trans (R.out.trans oN))
        have R := Lib.hid (Only.refl (fun _ => False) w9)
        clear oN hw9 hB1
        obtain ⟨w2, hw2⟩ : ∃ z, z = w9 := ⟨_, rfl⟩
        rw [← hw2] at R O HA HS1 ⊢
        clear hw2
        refine hK.out _ _ ?_ (fun hHeld => ?_)
        · exact MsgAt.text (MsgAt.keep HA.out R.out id) (i := 6) (by decide) (by decide)
        clear hK K
        try simp only [List.getElem_toArray, List.getElem_cons_succ, List.getElem_cons_zero, Act.put, List.setIfInBounds_toArray, List.set_cons_zero, List.set_cons_succ]
        refine wpAnyH_ready (rs := [3, 7]) (by kernel_rfl) (by simp) ?_
        refine AllReadyH.cons rfl (fun K hK => ?br7) (AllReadyH.cons rfl (fun K hK => ?br8) (AllReadyH.nil))
        case' br7 =>
          go_simp
          (with_reducible refine (C19.out _ _ ?_).mono ?_)
          · exact Only.keep R.out HS1.out id
          rintro e w2 ⟨rfl, o⟩
          replace R := Lib.hid (R.out.trans o)
          clear o
          go_wp2_with fail
          refine hK.out _ _ ?_ (fun hHeld => ?_)
          · exact MsgAt.text (MsgAt.keep HA.out R.out id) (i := 6) (by decide) (by decide)
          clear hK K
          try simp only [List.getElem_toArray, List.getElem_cons_succ, List.getElem_cons_zero, Act.put, List.setIfInBounds_toArray, List.set_cons_zero, List.set_cons_succ]
          refine rgA.rd 7 (fun K hK => ?_)
          go_simp
          obtain ⟨B2, hB2⟩ : ∃ g, g = w2.heap.size := ⟨_, rfl⟩
          obtain ⟨w9, hw9⟩ : ∃ z, z = w2.alloc (.cells #[.string (m.t 6)] 9) := ⟨_, rfl⟩
          rw [← hw9, ← hB2]
          have HS2 := Lib.hid (show w9.heap[B2]? = some (.cells #[.string (m.t 6)] 9 (0, 0)) from by rw [hw9, hB2]; exact heap_alloc_new w2 _)
          have oN : Only (fun _ => False) w2 w9 := by rw [hw9]; exact (Only.refl _ w2).alloc _
          replace HA := Lib.hid (MsgAt.keep HA.out (R.out.trans oN) id)
          replace HS1 := Lib.hid (Only.keep (R.out.trans oN) HS1.out id)
          replace O := Lib.hid (O.out.trans (R.out.trans oN))
          have R := Lib.hid (Only.refl (fun _ => False) w9)
          clear oN hw9 hB2
          obtain ⟨w2, hw2⟩ : ∃ z, z = w9 := ⟨_, rfl⟩
          rw [← hw2] at R O HA HS1 HS2 ⊢
          clear hw2
          refine hK.out _ _ ?_ (fun hHeld => ?_)
          · exact MsgAt.text (MsgAt.keep HA.out R.out id) (i := 6) (by decide) (by decide)
          clear hK K
          try simp only [List.getElem_toArray, List.getElem_cons_succ, List.getElem_cons_zero, Act.put, List.setIfInBounds_toArray, List.set_cons_zero, List.set_cons_succ]
          refine rgA.rd 8 (fun K hK => ?_)
          go_simp
          (with_reducible refine (C20.out _ _ ?_).mono ?_)
          · exact Only.keep R.out HS2.out id
          rintro e w2 ⟨rfl, o⟩
          replace R := Lib.hid (R.out.trans o)
          clear o
          go_wp2_with fail
          refine hK.out _ _ ?_ (fun hHeld => ?_)
          · exact MsgAt.text (MsgAt.keep HA.out R.out id) (i := 6) (by decide) (by decide)
          clear hK K
          try simp only [List.getElem_toArray, List.getElem_cons_succ, List.getElem_cons_zero, Act.put, List.setIfInBounds_toArray, List.set_cons_zero, List.set_cons_succ]
          refine rgA.tk 9 hHeld ?_
          refine rgA.tk 10 hHeld ?_
          refine wpAnyH_done (by kernel_rfl) ?_ _
          clear hHeld
        case' br8 =>
          go_simp
          obtain ⟨B2, hB2⟩ : ∃ g, g = w2.heap.size := ⟨_, rfl⟩
          obtain ⟨w9, hw9⟩ : ∃ z, z = w2.alloc (.cells #[.string (m.t 6)] 9) := ⟨_, rfl⟩
          rw [← hw9, ← hB2]
          have HS2 := Lib.hid (show w9.heap[B2]? = some (.cells #[.string (m.t 6)] 9 (0, 0)) from by rw [hw9, hB2]; exact heap_alloc_new w2 _)
          have oN : Only (fun _ => False) w2 w9 := by rw [hw9]; exact (Only.refl _ w2).alloc _
          replace HA := Lib.hid (MsgAt.keep HA.out (R.out.trans oN) id)
          replace HS1 := Lib.hid (Only.keep (R.out.trans oN) HS1.out id)
          replace O := Lib.hid (O.out.trans (R.out.trans oN))
          have R := Lib.hid (Only.refl (fun _ => False) w9)
          clear oN hw9 hB2
          obtain ⟨w2, hw2⟩ : ∃ z, z = w9 := ⟨_, rfl⟩
          rw [← hw2] at R O HA HS1 HS2 ⊢
          clear hw2
          refine hK.out _ _ ?_ (fun hHeld => ?_)
          · exact MsgAt.text (MsgAt.keep HA.out R.out id) (i := 6) (by decide) (by decide)
          clear hK K
          try simp only [List.getElem_toArray, List.getElem_cons_succ, List.getElem_cons_zero, Act.put, List.setIfInBounds_toArray, List.set_cons_zero, List.set_cons_succ]
          refine rgA.rd 3 (fun K hK => ?_)
          go_simp
          (with_reducible refine (C19.out _ _ ?_).mono ?_)
          · exact Only.keep R.out HS1.out id
          rintro e w2 ⟨rfl, o⟩
          replace R := Lib.hid (R.out.trans o)
          clear o
          go_wp2_with fail
          refine hK.out _ _ ?_ (fun hHeld => ?_)
          · exact MsgAt.text (MsgAt.keep HA.out R.out id) (i := 6) (by decide) (by decide)
          clear hK K
          try simp only [List.getElem_toArray, List.getElem_cons_succ, List.getElem_cons_zero, Act.put, List.setIfInBounds_toArray, List.set_cons_zero, List.set_cons_succ]
          refine rgA.rd 8 (fun K hK => ?_)
          go_simp
          (with_reducible refine (C20.out _ _ ?_).mono ?_)
          · exact Only.keep R.out HS2.out id
          rintro e w2 ⟨rfl, o⟩
          replace R := Lib.hid (R.out.trans o)
          clear o
          go_wp2_with fail
          refine hK.out _ _ ?_ (fun hHeld => ?_)
          · exact MsgAt.text (MsgAt.keep HA.out R.out id) (i := 6) (by decide) (by decide)
          clear hK K
          try simp only [List.getElem_toArray, List.getElem_cons_succ, List.getElem_cons_zero, Act.put, List.setIfInBounds_toArray, List.set_cons_zero, List.set_cons_succ]
          refine rgA.tk 9 hHeld ?_
          refine rgA.tk 10 hHeld ?_
          refine wpAnyH_done (by kernel_rfl) ?_ _
          clear hHeld
      case' br6 =>
        go_simp
        obtain ⟨B2, hB2⟩ : ∃ g, g = V.heap.size := ⟨_, rfl⟩
        obtain ⟨w9, hw9⟩ : ∃ z, z = (V.alloc (.cells #[.string (m.t 6)] 9)).drew := ⟨_, rfl⟩
        rw [← hw9, ← hB2]
        have HS2 := Lib.hid (show w9.heap[B2]? = some (.cells #[.string (m.t 6)] 9 (0, 0)) from by rw [hw9, hB2]; exact heap_alloc_new V _)
        have oN : Only (fun _ => False) V.drew w9 := by rw [hw9]; exact (Only.refl _ V.drew).alloc _
        replace HA := Lib.hid (MsgAt.keep HA.out (R.out.trans oN) id)
        replace O := Lib.hid (O.out.trans (R.out.trans oN))
        have R := Lib.hid (Only.refl (fun _ => False) w9)
        clear oN hw9 hB2
        obtain ⟨w2, hw2⟩ : ∃ z, z = w9 := ⟨_, rfl⟩
        rw [← hw2] at R O HA HS2 ⊢
        clear hw2
        refine hK.out _ _ ?_ (fun hHeld => ?_)
        · exact MsgAt.text (MsgAt.keep HA.out R.out id) (i := 6) (by decide) (by decide)
        clear hK K
        try simp only [List.getElem_toArray, List.getElem_cons_succ, List.getElem_cons_zero, Act.put, List.setIfInBounds_toArray, List.set_cons_zero, List.set_cons_succ]
        refine rgA.rd 2 (fun K hK => ?_)
        go_simp
        obtain ⟨B1, hB1⟩ : ∃ g, g = w2.heap.size := ⟨_, rfl⟩
        obtain ⟨w9, hw9⟩ : ∃ z, z = w2.alloc (.cells #[.string v] 9) := ⟨_, rfl⟩
        rw [← hw9, ← hB1]
        have HS1 := Lib.hid (show w9.heap[B1]? = some (.cells #[.string v] 9 (0, 0)) from by rw [hw9, hB1]; exact heap_alloc_new w2 _)
        have oN : Only (fun _ => False) w2 w9 := by rw [hw9]; exact (Only.refl _ w2).alloc _
        replace HA := Lib.hid (MsgAt.keep HA.out (R.out.trans oN) id)
        replace HS2 := Lib.hid (Only.keep (R.out.trans oN) HS2.out id)
        replace O := Lib.hid (O.out.trans (R.out.trans oN))
        have R := Lib.hid (Only.refl (fun _ => False) w9)
        clear oN hw9 hB1
        obtain ⟨w2, hw2⟩ : ∃ z, z = w9 := ⟨_, rfl⟩
        rw [← hw2] at R O HA HS2 HS1 ⊢
        clear hw2
        refine hK.out _ _ ?_ (fun hHeld => ?_)
        · exact MsgAt.text (MsgAt.keep HA.out R.out id) (i := 6) (by decide) (by decide)
        clear hK K
        try simp only [List.getElem_toArray, List.getElem_cons_succ, List.getElem_cons_zero, Act.put, List.setIfInBounds_toArray, List.set_cons_zero, List.set_cons_succ]
        refine rgA.rd 3 (fun K hK => ?_)
        go_simp
        (with_reducible refine (C19.out _ _ ?_).mono ?_)
        · exact Only.keep R.out HS1.out id
        rintro e w2 ⟨rfl, o⟩
        replace R := Lib.hid (R.out.trans o)
        clear o
        go_wp2_with fail
        refine hK.out _ _ ?_ (fun hHeld => ?_)
        · exact MsgAt.text (MsgAt.keep HA.out R.out id) (i := 6) (by decide) (by decide)
        clear hK K
        try simp only [List.getElem_toArray, List.getElem_cons_succ, List.getElem_cons_zero, Act.put, List.setIfInBounds_toArray, List.set_cons_zero, List.set_cons_succ]
        refine rgA.rd 8 (fun K hK => ?_)
        go_simp
        (with_reducible refine (C20.out _ _ ?_).mono ?_)
        · exact Only.keep R.out HS2.out id
        rintro e w2 ⟨rfl, o⟩
        replace R := Lib.hid (R.out.trans o)
        clear o
        go_wp2_with fail
        refine hK.out _ _ ?_ (fun hHeld => ?_)
        · exact MsgAt.text (MsgAt.keep HA.out R.out id) (i := 6) (by decide) (by decide)
        clear hK K
        try simp only [List.getElem_toArray, List.getElem_cons_succ, List.getElem_cons_zero, Act.put, List.setIfInBounds_toArray, List.set_cons_zero, List.set_cons_succ]
        refine rgA.tk 9 hHeld ?_
        refine rgA.tk 10 hHeld ?_
        refine wpAnyH_done (by kernel_rfl) ?_ _
        clear hHeld
      all_goals
        go_wp2_with fail
        go_meet
        exact ⟨rfl, rfl, O.out.trans R.out⟩
    case rest =>
      obtain ⟨rfl, rfl, oc⟩ := hcut
      replace HA := Lib.hid (MsgAt.keep HA.out oc id)
      replace HR1 := Lib.hid (Blk.keep HR1.out oc id)
      replace O := Lib.hid (O.out.trans oc)
      clear oc
      go_wp2_with fail
      (with_reducible refine (C21.out _).mono ?_)
      rintro e w2 ⟨rfl, o⟩
      replace O := Lib.hid (O.out.trans o)
      replace HR1 := Lib.hid (Blk.keep HR1.out o id)
      replace HA := Lib.hid (MsgAt.keep HA.out o id)
      clear o
      have d1 : w2.cell? ⟨A, 1, none⟩ = some (.int .u32 m.s) := HA.out.nums.2.1
      have d4 := MsgAt.text HA.out (i := 4) (by decide) (by decide)
      go_wp2_with (refine wpList_store_row rfl 82 (.tmp 4) (.tmp 129) rfl (A + 1) (heardV m.s f N (m.t 4) c3 h3) rfl rfl 82 _ HR1.out (info82 _ _ _ _ _ _) rfl (one82 _ _ _ _ _ _) ?_)
      exact bodyPost_ret (trB.res2 Try.results70 _ _ (A + 1) 82 (heardV m.s f N (m.t 4) c3 h3) (0, 0) _ rfl (Blk.row HR1.out _) Try.underlying82 rfl (info82 _ _ _ _ _ _)) rfl ⟨by rw [hearVal, HR.out, if_pos rfl]; rfl, Only.old (only_row (O.out.mono fun _ h => h.elim) _ (by rw [HAE.out]; omega))⟩

end Go.Proofs.Ytbjnejnjlidiaaa.noH
