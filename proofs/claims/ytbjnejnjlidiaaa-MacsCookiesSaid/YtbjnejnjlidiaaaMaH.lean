/- Macs: the law on cookies. -/
import Derived.Test.YtbjnejnjlidiaaaMaG
namespace Go.Proofs.Ytbjnejnjlidiaaa.maH
open Go.RowKit Go.Proofs.Ytbjnejnjlidiaaa.kit Go.Proofs.Ytbjnejnjlidiaaa.numA Go.Proofs.Ytbjnejnjlidiaaa.numB Go.Proofs.Ytbjnejnjlidiaaa.numC Go.Proofs.Ytbjnejnjlidiaaa.numD Go.Proofs.Ytbjnejnjlidiaaa.numE Go.Proofs.Ytbjnejnjlidiaaa.tmA Go.Proofs.Ytbjnejnjlidiaaa.tmB Go.Proofs.Ytbjnejnjlidiaaa.tmC Go.Proofs.Ytbjnejnjlidiaaa.tmD Go.Proofs.Ytbjnejnjlidiaaa.tmE Go.Proofs.Ytbjnejnjlidiaaa.trA Go.Proofs.Ytbjnejnjlidiaaa.trB Go.Proofs.Ytbjnejnjlidiaaa.prR Go.Proofs.Ytbjnejnjlidiaaa.prS Go.Proofs.Ytbjnejnjlidiaaa.prW Go.Proofs.Ytbjnejnjlidiaaa.prX Go.Proofs.Ytbjnejnjlidiaaa.tsA Go.Proofs.Ytbjnejnjlidiaaa.tsB Go.Proofs.Ytbjnejnjlidiaaa.tsF Go.Proofs.Ytbjnejnjlidiaaa.tsI Go.Proofs.Ytbjnejnjlidiaaa.wrA Go.Proofs.Ytbjnejnjlidiaaa.wrB Go.Proofs.Ytbjnejnjlidiaaa.wrC Go.Proofs.Ytbjnejnjlidiaaa.wrD Go.Proofs.Ytbjnejnjlidiaaa.wrE Go.Proofs.Ytbjnejnjlidiaaa.wrF Go.Proofs.Ytbjnejnjlidiaaa.wrG Go.Proofs.Ytbjnejnjlidiaaa.wrH Go.Proofs.Ytbjnejnjlidiaaa.wrI Go.Proofs.Ytbjnejnjlidiaaa.wrJ Go.Proofs.Ytbjnejnjlidiaaa.wrK Go.Proofs.Ytbjnejnjlidiaaa.wrL Go.Proofs.Ytbjnejnjlidiaaa.mkA Go.Proofs.Ytbjnejnjlidiaaa.maA Go.Proofs.Ytbjnejnjlidiaaa.maB Go.Proofs.Ytbjnejnjlidiaaa.maC Go.Proofs.Ytbjnejnjlidiaaa.maD Go.Proofs.Ytbjnejnjlidiaaa.maE Go.Proofs.Ytbjnejnjlidiaaa.maF Go.Proofs.Ytbjnejnjlidiaaa.maG
set_option linter.unusedVariables false
set_option linter.unusedSimpArgs false

theorem size_le_of_any {ps : List Txt} {m : Msg} (h : bigB m ps = false) : (∀ p ∈ ps, p.length ≤ 200) ∧ bytesM m ≤ 3000 := by
  unfold bigB at h
  rw [Bool.or_eq_false_iff, List.any_eq_false] at h
  refine ⟨fun p hp => ?_, ?_⟩
  · have := h.1 p hp
    simp at this
    exact this
  · have := of_decide_eq_false h.2
    omega
theorem numT_inj {a b : Int} (h0 : 0 ≤ a) (h1 : a ≤ 9223372036854775807) (k0 : 0 ≤ b) (k1 : b ≤ 9223372036854775807) (h : numT a = numT b) : a = b := by
  have := num_inj (n := a.toNat) (m := b.toNat) (by unfold most; omega) (by unfold most; omega) h
  omega
theorem zero_sz : ∀ i, ((zeroM 0).t i).size ≤ 140737488355328 := fun _ => Nat.zero_le _
theorem big0 (s q : ByteArray) (r : Bool) (W : World) (hb : bigB (zeroM 0) ([s, q].map (·.data.toList)) = r) : Calls Try.prog 77 #[.agg #[.int .i64 0, .int .u32 0, .int .u32 0, .int .u64 0, .string ⟨#[]⟩, .string ⟨#[]⟩, .string ⟨#[]⟩, .string ⟨#[]⟩, .string ⟨#[]⟩, .string ⟨#[]⟩, .string ⟨#[]⟩, .string ⟨#[]⟩, .string ⟨#[]⟩], .slice (some ⟨W.heap.size, 0, none⟩) 2 2] (W.alloc (.cells #[.string s, .string q] 9)) (numA.Told W (.bool r)) :=
  big_lst (zeroM 0) [s, q] r W (by simp) hb zero_sz W.heap.size rfl
theorem ba_ext {a b : ByteArray} (h : a.data.toList = b.data.toList) : a = b := by
  have e : a = ⟨a.data.toList.toArray⟩ := by simp
  have f : b = ⟨b.data.toList.toArray⟩ := by simp
  rw [e, f, h]

set_option maxRecDepth 100000 in
theorem ck_big (s q : ByteArray) (n k : Int) (w : World) (hb : bigB (zeroM 0) ([s, q].map (·.data.toList)) = true) : Calls Try.prog 19 #[.string s, .string q, .int .i64 n, .int .i64 k] w (numA.Told w (.bool true)) := by
  have AW := Lib.hid (fun W => awake_any W)
  have O := Lib.hid (Only.refl (fun _ => False) w)
  have BG := Lib.hid (fun W => big0 s q true W hb)
  clear hb
  go_enter Try.func19, Try.ntmps19
  go_wp2_with fail
  (with_reducible refine (AW.out _).mono ?_)
  rintro e w2 ⟨rfl, o⟩
  replace O := Lib.hid (O.out.trans o)
  clear o
  go_wp2_with fail
  (with_reducible refine (BG.out _).mono ?_)
  rintro e w2 ⟨rfl, o⟩
  replace O := Lib.hid (O.out.trans o)
  clear o
  go_wp2_with fail
  go_ret
  exact ⟨rfl, O.out⟩

set_option maxRecDepth 100000 in
theorem ck_no_neg (s q : ByteArray) (n k : Int) (w : World) (hb : bigB (zeroM 0) ([s, q].map (·.data.toList)) = false) (ht : isT s.data.toList = false) (hn : n < 0) : Calls Try.prog 19 #[.string s, .string q, .int .i64 n, .int .i64 k] w (numA.Told w (.bool true)) := by
  have AW := Lib.hid (fun W => awake_any W)
  have O := Lib.hid (Only.refl (fun _ => False) w)
  have BG := Lib.hid (fun W => big0 s q false W hb)
  obtain ⟨hsz, -⟩ := size_le_of_any hb
  have s1 : s.size ≤ 200 := by have := hsz s.data.toList (by simp); rwa [tl_size] at this
  have s2 : q.size ≤ 200 := by have := hsz q.data.toList (by simp); rwa [tl_size] at this
  clear hsz
  have IS := Lib.hid (fun W => (show Calls Try.prog 39 #[.string s] W (numA.Told W (.bool false)) from by have h := trJ.is_any s W (by omega); rw [show trJ.isT s.data.toList = false from ht] at h; exact h))
  have CK := Lib.hid (fun W => cookie_neg s n W hn)
  clear hb ht s1 s2 hn
  go_enter Try.func19, Try.ntmps19
  go_wp2_with fail
  (with_reducible refine (AW.out _).mono ?_)
  rintro e w2 ⟨rfl, o⟩
  replace O := Lib.hid (O.out.trans o)
  clear o
  go_wp2_with fail
  (with_reducible refine (BG.out _).mono ?_)
  rintro e w2 ⟨rfl, o⟩
  replace O := Lib.hid (O.out.trans o)
  clear o
  go_wp2_with fail
  (with_reducible refine (CK.out _).mono ?_)
  rintro e w2 ⟨rfl, o⟩
  replace O := Lib.hid (O.out.trans o)
  clear o
  go_wp2_with fail
  (with_reducible refine (IS.out _).mono ?_)
  rintro e w2 ⟨rfl, o⟩
  replace O := Lib.hid (O.out.trans o)
  clear o
  go_wp2_with fail
  go_ret
  exact ⟨rfl, O.out⟩

set_option maxRecDepth 100000 in
theorem ck_no_pos (s q : ByteArray) (n k : Int) (w : World) (hb : bigB (zeroM 0) ([s, q].map (·.data.toList)) = false) (ht : isT s.data.toList = false) (hn : 0 ≤ n) (hn1 : n ≤ 9223372036854775807) (hk1 : k ≤ 9223372036854775807) : Calls Try.prog 19 #[.string s, .string q, .int .i64 n, .int .i64 k] w (numA.Told w (.bool true)) := by
  have AW := Lib.hid (fun W => awake_any W)
  have O := Lib.hid (Only.refl (fun _ => False) w)
  have BG := Lib.hid (fun W => big0 s q false W hb)
  obtain ⟨hsz, -⟩ := size_le_of_any hb
  have s1 : s.size ≤ 200 := by have := hsz s.data.toList (by simp); rwa [tl_size] at this
  have s2 : q.size ≤ 200 := by have := hsz q.data.toList (by simp); rwa [tl_size] at this
  clear hsz
  have IS := Lib.hid (fun W => (show Calls Try.prog 39 #[.string s] W (numA.Told W (.bool false)) from by have h := trJ.is_any s W (by omega); rw [show trJ.isT s.data.toList = false from ht] at h; exact h))
  have he : ([] : Txt) = macT s.data.toList (numT n) := by
    by_cases h : macT s.data.toList (numT n) = []
    · exact h.symm
    · have := (mk_parts (by decide) (by decide) h) s.data.toList (by simp)
      rw [ht] at this
      cases this
  have CK := Lib.hid (fun W => cookie_any s ⟨#[]⟩ n W hn hn1 he (by omega))
  clear hb ht s1 s2 hn hn1 hk1 he
  go_enter Try.func19, Try.ntmps19
  go_wp2_with fail
  (with_reducible refine (AW.out _).mono ?_)
  rintro e w2 ⟨rfl, o⟩
  replace O := Lib.hid (O.out.trans o)
  clear o
  go_wp2_with fail
  (with_reducible refine (BG.out _).mono ?_)
  rintro e w2 ⟨rfl, o⟩
  replace O := Lib.hid (O.out.trans o)
  clear o
  go_wp2_with fail
  (with_reducible refine (CK.out _).mono ?_)
  rintro e w2 ⟨rfl, o⟩
  replace O := Lib.hid (O.out.trans o)
  clear o
  go_wp2_with fail
  (with_reducible refine (IS.out _).mono ?_)
  rintro e w2 ⟨rfl, o⟩
  replace O := Lib.hid (O.out.trans o)
  clear o
  go_wp2_with fail
  go_ret
  exact ⟨rfl, O.out⟩

set_option maxRecDepth 100000 in
theorem ck_neg (s q : ByteArray) (n k : Int) (w : World) (hb : bigB (zeroM 0) ([s, q].map (·.data.toList)) = false) (ht : isT s.data.toList = true) (hn : n < 0) : Calls Try.prog 19 #[.string s, .string q, .int .i64 n, .int .i64 k] w (numA.Told w (.bool true)) := by
  have AW := Lib.hid (fun W => awake_any W)
  have O := Lib.hid (Only.refl (fun _ => False) w)
  have BG := Lib.hid (fun W => big0 s q false W hb)
  obtain ⟨hsz, -⟩ := size_le_of_any hb
  have s1 : s.size ≤ 200 := by have := hsz s.data.toList (by simp); rwa [tl_size] at this
  have s2 : q.size ≤ 200 := by have := hsz q.data.toList (by simp); rwa [tl_size] at this
  clear hsz
  have IS := Lib.hid (fun W => (show Calls Try.prog 39 #[.string s] W (numA.Told W (.bool true)) from by have h := trJ.is_any s W (by omega); rw [show trJ.isT s.data.toList = true from ht] at h; exact h))
  have CK := Lib.hid (fun W => cookie_neg s n W hn)
  have n0 : (n < 0) = True := eq_true hn
  clear hb ht s1 s2 hn
  go_enter Try.func19, Try.ntmps19
  go_wp2_with fail
  (with_reducible refine (AW.out _).mono ?_)
  rintro e w2 ⟨rfl, o⟩
  replace O := Lib.hid (O.out.trans o)
  clear o
  go_wp2_with fail
  (with_reducible refine (BG.out _).mono ?_)
  rintro e w2 ⟨rfl, o⟩
  replace O := Lib.hid (O.out.trans o)
  clear o
  go_wp2_with fail
  (with_reducible refine (CK.out _).mono ?_)
  rintro e w2 ⟨rfl, o⟩
  replace O := Lib.hid (O.out.trans o)
  clear o
  go_wp2_with fail
  (with_reducible refine (IS.out _).mono ?_)
  rintro e w2 ⟨rfl, o⟩
  replace O := Lib.hid (O.out.trans o)
  clear o
  go_wp2_with fail
  go_ret
  exact ⟨rfl, O.out⟩

set_option maxRecDepth 100000 in
theorem ck_neg_t (s q : ByteArray) (n k : Int) (w : World) (hb : bigB (zeroM 0) ([s, q].map (·.data.toList)) = false) (ht : isT s.data.toList = true) (hn : 0 ≤ n) (hn1 : n ≤ 9223372036854775807) (hk1 : k ≤ 9223372036854775807) (hk : k < 0) (hq : q = s) : Calls Try.prog 19 #[.string s, .string q, .int .i64 n, .int .i64 k] w (numA.Told w (.bool true)) := by
  have AW := Lib.hid (fun W => awake_any W)
  have O := Lib.hid (Only.refl (fun _ => False) w)
  have BG := Lib.hid (fun W => big0 s q false W hb)
  obtain ⟨hsz, -⟩ := size_le_of_any hb
  have s1 : s.size ≤ 200 := by have := hsz s.data.toList (by simp); rwa [tl_size] at this
  have s2 : q.size ≤ 200 := by have := hsz q.data.toList (by simp); rwa [tl_size] at this
  clear hsz
  have IS := Lib.hid (fun W => (show Calls Try.prog 39 #[.string s] W (numA.Told W (.bool true)) from by have h := trJ.is_any s W (by omega); rw [show trJ.isT s.data.toList = true from ht] at h; exact h))
  obtain ⟨c, hc⟩ : ∃ c : ByteArray, c.data.toList = macT s.data.toList (numT n) := ⟨⟨(macT s.data.toList (numT n)).toArray⟩, rfl⟩
  have nn := numT_ok (n := n) hn (by unfold most; omega)
  have cne : c.data.toList ≠ [] := by rw [hc]; exact (mac2 ht nn.1 (by rw [tl_size]; omega)).2.2
  have csz : c.data.toList ≠ [] := cne
  have n0 : (n < 0) = False := eq_false (by omega)
  have CK := Lib.hid (fun W => cookie_any s c n W hn hn1 hc (by omega))
  have RK := Lib.hid (fun W => refcookie_any s c n W hn hn1 hc (by omega))
  have c1 := beq_t (rfl : c = c)
  have c2 := eq_t (rfl : c = c)
  have C2 := Lib.hid (fun W => cookie_neg q k W hk)
  obtain ⟨e1, e2, e3, e4⟩ := ne_facts cne
  have q1 := beq_t hq
  have q2 := eq_t hq
  have k1 : (k == n) = false := by rw [beq_eq_false_iff_ne]; omega
  clear hb ht s1 s2 hn hn1 hk1 hk hc nn cne csz hq
  go_enter Try.func19, Try.ntmps19
  go_wp2_with fail
  (with_reducible refine (AW.out _).mono ?_)
  rintro e w2 ⟨rfl, o⟩
  replace O := Lib.hid (O.out.trans o)
  clear o
  go_wp2_with fail
  (with_reducible refine (BG.out _).mono ?_)
  rintro e w2 ⟨rfl, o⟩
  replace O := Lib.hid (O.out.trans o)
  clear o
  go_wp2_with fail
  (with_reducible refine (CK.out _).mono ?_)
  rintro e w2 ⟨rfl, o⟩
  replace O := Lib.hid (O.out.trans o)
  clear o
  go_wp2_with fail
  (with_reducible refine (IS.out _).mono ?_)
  rintro e w2 ⟨rfl, o⟩
  replace O := Lib.hid (O.out.trans o)
  clear o
  go_wp2_with fail
  (with_reducible refine (C2.out _).mono ?_)
  rintro e w2 ⟨rfl, o⟩
  replace O := Lib.hid (O.out.trans o)
  clear o
  go_wp2_with fail
  (with_reducible refine (RK.out _).mono ?_)
  rintro e w2 ⟨rfl, o⟩
  replace O := Lib.hid (O.out.trans o)
  clear o
  go_wp2_with fail
  go_ret
  exact ⟨rfl, O.out⟩

set_option maxRecDepth 100000 in
theorem ck_neg_f (s q : ByteArray) (n k : Int) (w : World) (hb : bigB (zeroM 0) ([s, q].map (·.data.toList)) = false) (ht : isT s.data.toList = true) (hn : 0 ≤ n) (hn1 : n ≤ 9223372036854775807) (hk1 : k ≤ 9223372036854775807) (hk : k < 0) (hq : ¬ q = s) : Calls Try.prog 19 #[.string s, .string q, .int .i64 n, .int .i64 k] w (numA.Told w (.bool true)) := by
  have AW := Lib.hid (fun W => awake_any W)
  have O := Lib.hid (Only.refl (fun _ => False) w)
  have BG := Lib.hid (fun W => big0 s q false W hb)
  obtain ⟨hsz, -⟩ := size_le_of_any hb
  have s1 : s.size ≤ 200 := by have := hsz s.data.toList (by simp); rwa [tl_size] at this
  have s2 : q.size ≤ 200 := by have := hsz q.data.toList (by simp); rwa [tl_size] at this
  clear hsz
  have IS := Lib.hid (fun W => (show Calls Try.prog 39 #[.string s] W (numA.Told W (.bool true)) from by have h := trJ.is_any s W (by omega); rw [show trJ.isT s.data.toList = true from ht] at h; exact h))
  obtain ⟨c, hc⟩ : ∃ c : ByteArray, c.data.toList = macT s.data.toList (numT n) := ⟨⟨(macT s.data.toList (numT n)).toArray⟩, rfl⟩
  have nn := numT_ok (n := n) hn (by unfold most; omega)
  have cne : c.data.toList ≠ [] := by rw [hc]; exact (mac2 ht nn.1 (by rw [tl_size]; omega)).2.2
  have csz : c.data.toList ≠ [] := cne
  have n0 : (n < 0) = False := eq_false (by omega)
  have CK := Lib.hid (fun W => cookie_any s c n W hn hn1 hc (by omega))
  have RK := Lib.hid (fun W => refcookie_any s c n W hn hn1 hc (by omega))
  have c1 := beq_t (rfl : c = c)
  have c2 := eq_t (rfl : c = c)
  have C2 := Lib.hid (fun W => cookie_neg q k W hk)
  obtain ⟨e1, e2, e3, e4⟩ := ne_facts cne
  have q1 := beq_f hq
  have q2 := eq_f hq
  have k1 : (k == n) = false := by rw [beq_eq_false_iff_ne]; omega
  clear hb ht s1 s2 hn hn1 hk1 hk hc nn cne csz hq
  go_enter Try.func19, Try.ntmps19
  go_wp2_with fail
  (with_reducible refine (AW.out _).mono ?_)
  rintro e w2 ⟨rfl, o⟩
  replace O := Lib.hid (O.out.trans o)
  clear o
  go_wp2_with fail
  (with_reducible refine (BG.out _).mono ?_)
  rintro e w2 ⟨rfl, o⟩
  replace O := Lib.hid (O.out.trans o)
  clear o
  go_wp2_with fail
  (with_reducible refine (CK.out _).mono ?_)
  rintro e w2 ⟨rfl, o⟩
  replace O := Lib.hid (O.out.trans o)
  clear o
  go_wp2_with fail
  (with_reducible refine (IS.out _).mono ?_)
  rintro e w2 ⟨rfl, o⟩
  replace O := Lib.hid (O.out.trans o)
  clear o
  go_wp2_with fail
  (with_reducible refine (C2.out _).mono ?_)
  rintro e w2 ⟨rfl, o⟩
  replace O := Lib.hid (O.out.trans o)
  clear o
  go_wp2_with fail
  (with_reducible refine (RK.out _).mono ?_)
  rintro e w2 ⟨rfl, o⟩
  replace O := Lib.hid (O.out.trans o)
  clear o
  go_wp2_with fail
  go_ret
  exact ⟨rfl, O.out⟩

set_option maxRecDepth 100000 in
theorem ck_same (s q : ByteArray) (n k : Int) (w : World) (hb : bigB (zeroM 0) ([s, q].map (·.data.toList)) = false) (ht : isT s.data.toList = true) (hn : 0 ≤ n) (hn1 : n ≤ 9223372036854775807) (hk1 : k ≤ 9223372036854775807) (hk : 0 ≤ k) (hq : q = s) (hkn : k = n) : Calls Try.prog 19 #[.string s, .string q, .int .i64 n, .int .i64 k] w (numA.Told w (.bool true)) := by
  have AW := Lib.hid (fun W => awake_any W)
  have O := Lib.hid (Only.refl (fun _ => False) w)
  have BG := Lib.hid (fun W => big0 s q false W hb)
  obtain ⟨hsz, -⟩ := size_le_of_any hb
  have s1 : s.size ≤ 200 := by have := hsz s.data.toList (by simp); rwa [tl_size] at this
  have s2 : q.size ≤ 200 := by have := hsz q.data.toList (by simp); rwa [tl_size] at this
  clear hsz
  have IS := Lib.hid (fun W => (show Calls Try.prog 39 #[.string s] W (numA.Told W (.bool true)) from by have h := trJ.is_any s W (by omega); rw [show trJ.isT s.data.toList = true from ht] at h; exact h))
  obtain ⟨c, hc⟩ : ∃ c : ByteArray, c.data.toList = macT s.data.toList (numT n) := ⟨⟨(macT s.data.toList (numT n)).toArray⟩, rfl⟩
  have nn := numT_ok (n := n) hn (by unfold most; omega)
  have cne : c.data.toList ≠ [] := by rw [hc]; exact (mac2 ht nn.1 (by rw [tl_size]; omega)).2.2
  have csz : c.data.toList ≠ [] := cne
  have n0 : (n < 0) = False := eq_false (by omega)
  have CK := Lib.hid (fun W => cookie_any s c n W hn hn1 hc (by omega))
  have RK := Lib.hid (fun W => refcookie_any s c n W hn hn1 hc (by omega))
  have c1 := beq_t (rfl : c = c)
  have c2 := eq_t (rfl : c = c)
  obtain ⟨d, hd⟩ : ∃ d : ByteArray, d.data.toList = macT q.data.toList (numT k) := ⟨⟨(macT q.data.toList (numT k)).toArray⟩, rfl⟩
  have C2 := Lib.hid (fun W => cookie_any q d k W hk hk1 hd (by omega))
  have e0 : c = d := by apply ba_ext; rw [hc, hd, hq, hkn]
  have q1 := beq_t hq
  have q2 := eq_t hq
  have k1 : (k == n) = true := by rw [beq_iff_eq]; exact hkn
  have d1 := beq_t e0
  have d2 := eq_t e0
  clear e0 hkn
  clear hd
  clear hb ht s1 s2 hn hn1 hk1 hk hc nn cne csz hq
  go_enter Try.func19, Try.ntmps19
  go_wp2_with fail
  (with_reducible refine (AW.out _).mono ?_)
  rintro e w2 ⟨rfl, o⟩
  replace O := Lib.hid (O.out.trans o)
  clear o
  go_wp2_with fail
  (with_reducible refine (BG.out _).mono ?_)
  rintro e w2 ⟨rfl, o⟩
  replace O := Lib.hid (O.out.trans o)
  clear o
  go_wp2_with fail
  (with_reducible refine (CK.out _).mono ?_)
  rintro e w2 ⟨rfl, o⟩
  replace O := Lib.hid (O.out.trans o)
  clear o
  go_wp2_with fail
  (with_reducible refine (IS.out _).mono ?_)
  rintro e w2 ⟨rfl, o⟩
  replace O := Lib.hid (O.out.trans o)
  clear o
  go_wp2_with fail
  (with_reducible refine (C2.out _).mono ?_)
  rintro e w2 ⟨rfl, o⟩
  replace O := Lib.hid (O.out.trans o)
  clear o
  go_wp2_with fail
  (with_reducible refine (RK.out _).mono ?_)
  rintro e w2 ⟨rfl, o⟩
  replace O := Lib.hid (O.out.trans o)
  clear o
  go_wp2_with fail
  go_ret
  exact ⟨rfl, O.out⟩

set_option maxRecDepth 100000 in
theorem ck_far (s q : ByteArray) (n k : Int) (w : World) (hb : bigB (zeroM 0) ([s, q].map (·.data.toList)) = false) (ht : isT s.data.toList = true) (hn : 0 ≤ n) (hn1 : n ≤ 9223372036854775807) (hk1 : k ≤ 9223372036854775807) (hk : 0 ≤ k) (hq : q = s) (hkn : ¬ k = n) (hne : ¬ (q = s ∧ k = n)) : Calls Try.prog 19 #[.string s, .string q, .int .i64 n, .int .i64 k] w (numA.Told w (.bool true)) := by
  have AW := Lib.hid (fun W => awake_any W)
  have O := Lib.hid (Only.refl (fun _ => False) w)
  have BG := Lib.hid (fun W => big0 s q false W hb)
  obtain ⟨hsz, -⟩ := size_le_of_any hb
  have s1 : s.size ≤ 200 := by have := hsz s.data.toList (by simp); rwa [tl_size] at this
  have s2 : q.size ≤ 200 := by have := hsz q.data.toList (by simp); rwa [tl_size] at this
  clear hsz
  have IS := Lib.hid (fun W => (show Calls Try.prog 39 #[.string s] W (numA.Told W (.bool true)) from by have h := trJ.is_any s W (by omega); rw [show trJ.isT s.data.toList = true from ht] at h; exact h))
  obtain ⟨c, hc⟩ : ∃ c : ByteArray, c.data.toList = macT s.data.toList (numT n) := ⟨⟨(macT s.data.toList (numT n)).toArray⟩, rfl⟩
  have nn := numT_ok (n := n) hn (by unfold most; omega)
  have cne : c.data.toList ≠ [] := by rw [hc]; exact (mac2 ht nn.1 (by rw [tl_size]; omega)).2.2
  have csz : c.data.toList ≠ [] := cne
  have n0 : (n < 0) = False := eq_false (by omega)
  have CK := Lib.hid (fun W => cookie_any s c n W hn hn1 hc (by omega))
  have RK := Lib.hid (fun W => refcookie_any s c n W hn hn1 hc (by omega))
  have c1 := beq_t (rfl : c = c)
  have c2 := eq_t (rfl : c = c)
  obtain ⟨d, hd⟩ : ∃ d : ByteArray, d.data.toList = macT q.data.toList (numT k) := ⟨⟨(macT q.data.toList (numT k)).toArray⟩, rfl⟩
  have C2 := Lib.hid (fun W => cookie_any q d k W hk hk1 hd (by omega))
  have e0 : ¬ c = d := by
    intro e
    have h : macT s.data.toList (numT n) = macT q.data.toList (numT k) := by rw [← hc, ← hd, e]
    have hi := (mk_inj (k := 9) (by decide) (by decide) (by decide) (by decide) (by rw [hc] at cne; exact cne) h).1
    rw [srt_not (by decide), srt_not (by decide)] at hi
    simp only [List.cons.injEq, and_true] at hi
    exact hne ⟨(ba_ext hi.1).symm, (numT_inj hn hn1 hk hk1 hi.2).symm⟩
  have q1 := beq_t hq
  have q2 := eq_t hq
  have d1 := beq_f e0
  have d2 := eq_f e0
  have k1 : (k == n) = false := by rw [beq_eq_false_iff_ne]; exact hkn
  clear hkn
  clear e0 hne
  clear hd
  clear hb ht s1 s2 hn hn1 hk1 hk hc nn cne csz hq
  go_enter Try.func19, Try.ntmps19
  go_wp2_with fail
  (with_reducible refine (AW.out _).mono ?_)
  rintro e w2 ⟨rfl, o⟩
  replace O := Lib.hid (O.out.trans o)
  clear o
  go_wp2_with fail
  (with_reducible refine (BG.out _).mono ?_)
  rintro e w2 ⟨rfl, o⟩
  replace O := Lib.hid (O.out.trans o)
  clear o
  go_wp2_with fail
  (with_reducible refine (CK.out _).mono ?_)
  rintro e w2 ⟨rfl, o⟩
  replace O := Lib.hid (O.out.trans o)
  clear o
  go_wp2_with fail
  (with_reducible refine (IS.out _).mono ?_)
  rintro e w2 ⟨rfl, o⟩
  replace O := Lib.hid (O.out.trans o)
  clear o
  go_wp2_with fail
  (with_reducible refine (C2.out _).mono ?_)
  rintro e w2 ⟨rfl, o⟩
  replace O := Lib.hid (O.out.trans o)
  clear o
  go_wp2_with fail
  (with_reducible refine (RK.out _).mono ?_)
  rintro e w2 ⟨rfl, o⟩
  replace O := Lib.hid (O.out.trans o)
  clear o
  go_wp2_with fail
  go_ret
  exact ⟨rfl, O.out⟩

set_option maxRecDepth 100000 in
theorem ck_other (s q : ByteArray) (n k : Int) (w : World) (hb : bigB (zeroM 0) ([s, q].map (·.data.toList)) = false) (ht : isT s.data.toList = true) (hn : 0 ≤ n) (hn1 : n ≤ 9223372036854775807) (hk1 : k ≤ 9223372036854775807) (hk : 0 ≤ k) (hq : ¬ q = s) (hne : ¬ (q = s ∧ k = n)) : Calls Try.prog 19 #[.string s, .string q, .int .i64 n, .int .i64 k] w (numA.Told w (.bool true)) := by
  have AW := Lib.hid (fun W => awake_any W)
  have O := Lib.hid (Only.refl (fun _ => False) w)
  have BG := Lib.hid (fun W => big0 s q false W hb)
  obtain ⟨hsz, -⟩ := size_le_of_any hb
  have s1 : s.size ≤ 200 := by have := hsz s.data.toList (by simp); rwa [tl_size] at this
  have s2 : q.size ≤ 200 := by have := hsz q.data.toList (by simp); rwa [tl_size] at this
  clear hsz
  have IS := Lib.hid (fun W => (show Calls Try.prog 39 #[.string s] W (numA.Told W (.bool true)) from by have h := trJ.is_any s W (by omega); rw [show trJ.isT s.data.toList = true from ht] at h; exact h))
  obtain ⟨c, hc⟩ : ∃ c : ByteArray, c.data.toList = macT s.data.toList (numT n) := ⟨⟨(macT s.data.toList (numT n)).toArray⟩, rfl⟩
  have nn := numT_ok (n := n) hn (by unfold most; omega)
  have cne : c.data.toList ≠ [] := by rw [hc]; exact (mac2 ht nn.1 (by rw [tl_size]; omega)).2.2
  have csz : c.data.toList ≠ [] := cne
  have n0 : (n < 0) = False := eq_false (by omega)
  have CK := Lib.hid (fun W => cookie_any s c n W hn hn1 hc (by omega))
  have RK := Lib.hid (fun W => refcookie_any s c n W hn hn1 hc (by omega))
  have c1 := beq_t (rfl : c = c)
  have c2 := eq_t (rfl : c = c)
  obtain ⟨d, hd⟩ : ∃ d : ByteArray, d.data.toList = macT q.data.toList (numT k) := ⟨⟨(macT q.data.toList (numT k)).toArray⟩, rfl⟩
  have C2 := Lib.hid (fun W => cookie_any q d k W hk hk1 hd (by omega))
  have e0 : ¬ c = d := by
    intro e
    have h : macT s.data.toList (numT n) = macT q.data.toList (numT k) := by rw [← hc, ← hd, e]
    have hi := (mk_inj (k := 9) (by decide) (by decide) (by decide) (by decide) (by rw [hc] at cne; exact cne) h).1
    rw [srt_not (by decide), srt_not (by decide)] at hi
    simp only [List.cons.injEq, and_true] at hi
    exact hne ⟨(ba_ext hi.1).symm, (numT_inj hn hn1 hk hk1 hi.2).symm⟩
  have q1 := beq_f hq
  have q2 := eq_f hq
  have d1 := beq_f e0
  have d2 := eq_f e0
  clear e0 hne
  clear hd
  clear hb ht s1 s2 hn hn1 hk1 hk hc nn cne csz hq
  go_enter Try.func19, Try.ntmps19
  go_wp2_with fail
  (with_reducible refine (AW.out _).mono ?_)
  rintro e w2 ⟨rfl, o⟩
  replace O := Lib.hid (O.out.trans o)
  clear o
  go_wp2_with fail
  (with_reducible refine (BG.out _).mono ?_)
  rintro e w2 ⟨rfl, o⟩
  replace O := Lib.hid (O.out.trans o)
  clear o
  go_wp2_with fail
  (with_reducible refine (CK.out _).mono ?_)
  rintro e w2 ⟨rfl, o⟩
  replace O := Lib.hid (O.out.trans o)
  clear o
  go_wp2_with fail
  (with_reducible refine (IS.out _).mono ?_)
  rintro e w2 ⟨rfl, o⟩
  replace O := Lib.hid (O.out.trans o)
  clear o
  go_wp2_with fail
  (with_reducible refine (C2.out _).mono ?_)
  rintro e w2 ⟨rfl, o⟩
  replace O := Lib.hid (O.out.trans o)
  clear o
  go_wp2_with fail
  (with_reducible refine (RK.out _).mono ?_)
  rintro e w2 ⟨rfl, o⟩
  replace O := Lib.hid (O.out.trans o)
  clear o
  go_wp2_with fail
  go_ret
  exact ⟨rfl, O.out⟩

theorem cookies_any (s q : ByteArray) (n k : Int) (w : World) (hn1 : n ≤ 9223372036854775807) (hk1 : k ≤ 9223372036854775807) : Calls Try.prog 19 #[.string s, .string q, .int .i64 n, .int .i64 k] w (numA.Told w (.bool true)) := by
  cases hb : bigB (zeroM 0) ([s, q].map (·.data.toList))
  case true => exact ck_big s q n k w hb
  cases ht : isT s.data.toList
  · by_cases hn : n < 0
    · exact ck_no_neg s q n k w hb ht hn
    · exact ck_no_pos s q n k w hb ht (by omega) hn1 hk1
  by_cases hn : n < 0
  · exact ck_neg s q n k w hb ht hn
  have hn0 : 0 ≤ n := by omega
  by_cases hk : k < 0
  · by_cases hq : q = s
    · exact ck_neg_t s q n k w hb ht hn0 hn1 hk1 hk hq
    · exact ck_neg_f s q n k w hb ht hn0 hn1 hk1 hk hq
  have hk0 : 0 ≤ k := by omega
  by_cases hq : q = s
  · by_cases hkn : k = n
    · exact ck_same s q n k w hb ht hn0 hn1 hk1 hk0 hq hkn
    · exact ck_far s q n k w hb ht hn0 hn1 hk1 hk0 hq hkn (fun h => hkn h.2)
  · exact ck_other s q n k w hb ht hn0 hn1 hk1 hk0 hq (fun h => hq h.1)

theorem cookies_walk (s : ByteArray) (_ : s.size ≤ 9223372036854775807) (q : ByteArray) (_ : q.size ≤ 9223372036854775807) (n : Int) (hn : (Lit.int .i64 n).wf = true) (k : Int) (hk : (Lit.int .i64 k).wf = true) {w : World} : Calls Try.prog 19 #[.string s, .string q, .int .i64 n, .int .i64 k] w fun e w' => e = .returned (.bool true) ∧ Below w.heap.size w w' := by
  have h1 := bounds_i64 hn
  have h2 := bounds_i64 hk
  refine (cookies_any s q n k w h1.2 h2.2).mono ?_
  rintro e w' ⟨rfl, o⟩
  exact ⟨rfl, o.below (fun _ h => h.elim) (Nat.le_refl _)⟩

end Go.Proofs.Ytbjnejnjlidiaaa.maH
