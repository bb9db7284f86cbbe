/- Noise: the document's First, Seals. -/
import Derived.Test.YtbjnejnjlidiaaaNoC
import Derived.Test.YtbjnejnjlidiaaaRgA
namespace Go.Proofs.Ytbjnejnjlidiaaa.noD
open Go.RowKit kit numA numB numC numD numE tmA tmB tmC tmD tmE trA trB prR prS prW prX tsA tsB tsF tsI wrA wrB wrC wrD wrE wrF wrG wrH wrI wrJ mkA maA maB maC noA noB noC
set_option linter.unusedVariables false
set_option linter.unusedSimpArgs false

/-- A block of a struct's cells. -/
def Blk (w : World) (B : Nat) (t : TypeId) (c : Array Value) : Prop := w.heap[B]? = some (.cells c t (0, 0))
theorem Blk.keep {w w' : World} {B : Nat} {t : TypeId} {c : Array Value} {T : Nat → Prop} (h : Blk w B t c) (o : Only T w w') (hT : ¬ T B) : Blk w' B t c := Only.keep o h hT
theorem Blk.new (w : World) (t : TypeId) (c : Array Value) : Blk (w.alloc (.cells c t)) w.heap.size t c := heap_alloc_new w _
theorem Blk.lt {w : World} {B : Nat} {t : TypeId} {c : Array Value} (h : Blk w B t c) : B < w.heap.size := lt_of h
theorem Blk.row {w : World} {B : Nat} {t : TypeId} {c : Array Value} (h : Blk w B t c) (c' : Array Value) : Blk (w.setRow B c') B t c' := setRow_heap w B _ _ _ _ h
theorem Blk.off {w : World} {B g : Nat} {t : TypeId} {c : Array Value} (h : Blk w B t c) (cs : Array Value) (hg : B ≠ g) : Blk (w.setRow g cs) B t c := (setRow_other w g B cs hg).trans h
theorem Blk.cell {w : World} {B : Nat} {t : TypeId} {c : Array Value} (h : Blk w B t c) (i : Nat) : w.cell? ⟨B, i, none⟩ = c[i]? := cell_of h
theorem Blk.free {w : World} {B : Nat} {t : TypeId} {c : Array Value} (h : Blk w B t c) (i : Nat) : w.frozen? ⟨B, i, none⟩ = false := free_of h
theorem only_row {S : Nat → Prop} {a w : World} (h : Only S a w) {g : Nat} (cs : Array Value) (hb : S g) : Only S a (w.setRow g cs) :=
  h.trans ⟨rfl, rfl, rfl, by simp, fun k _ hk => setRow_other w g k cs fun e => hk (e ▸ hb)⟩
theorem lst_of {f : FuncId} {args : Array Value} {W : World} {o : Obj} {v : Value} (h : Calls Try.prog f args (W.alloc o) (numA.Told (W.alloc o) v)) : Calls Try.prog f args (W.alloc o) (numA.Told W v) :=
  h.mono fun e w' h => ⟨h.1, ((Only.refl _ W).alloc _).trans h.2⟩

theorem res_tc {fn : Func} {P : Program} {p u : Tmp} {ty : TypeId} (h : fn.results = #[.tmp u, .cell p ty]) (tmps : Array Value) (w : World) (g : Nat) (t : TypeId) (cs : Array Value) (fr : Nat × Nat) (d : TypeDesc)
    (hp : tmps.getD p undef = .pointer (some ⟨g, 0, none⟩)) (hg : w.heap[g]? = some (.cells cs t fr))
    (hu : P.underlying ty = some d) (hd : (match d with | .struct _ | .array _ _ => true | _ => false) = true) (hi : (P.info? ty).map (·.size) = some cs.size) :
    (results fn tmps).run P w = .ok (.tuple #[tmps.getD u undef, .agg cs]) w := by
  have hp' : tmps[p]?.getD undef = .pointer (some ⟨g, 0, none⟩) := by simpa using hp
  simp only [results, h]
  simp [Sem.run_bind, Result.andThen, hp', asAddr, run_loadVar_row w g t ty cs fr d hg hu hd hi]
theorem res_cct {fn : Func} {P : Program} {p q u : Tmp} {ty tz : TypeId} (h : fn.results = #[.cell p ty, .cell q tz, .tmp u]) (tmps : Array Value) (w : World) (g k : Nat) (t s : TypeId) (cs ds : Array Value) (fr fs : Nat × Nat) (d d' : TypeDesc)
    (hp : tmps.getD p undef = .pointer (some ⟨g, 0, none⟩)) (hg : w.heap[g]? = some (.cells cs t fr))
    (hu : P.underlying ty = some d) (hd : (match d with | .struct _ | .array _ _ => true | _ => false) = true) (hi : (P.info? ty).map (·.size) = some cs.size)
    (hq : tmps.getD q undef = .pointer (some ⟨k, 0, none⟩)) (hk : w.heap[k]? = some (.cells ds s fs))
    (hu' : P.underlying tz = some d') (hd' : (match d' with | .struct _ | .array _ _ => true | _ => false) = true) (hi' : (P.info? tz).map (·.size) = some ds.size) :
    (results fn tmps).run P w = .ok (.tuple #[.agg cs, .agg ds, tmps.getD u undef]) w := by
  have hp' : tmps[p]?.getD undef = .pointer (some ⟨g, 0, none⟩) := by simpa using hp
  have hq' : tmps[q]?.getD undef = .pointer (some ⟨k, 0, none⟩) := by simpa using hq
  simp only [results, h]
  simp [Sem.run_bind, Result.andThen, hp', hq', asAddr, run_loadVar_row w g t ty cs fr d hg hu hd hi, run_loadVar_row w k s tz ds fs d' hk hu' hd' hi']
theorem res_cc {fn : Func} {P : Program} {p q : Tmp} {ty tz : TypeId} (h : fn.results = #[.cell p ty, .cell q tz]) (tmps : Array Value) (w : World) (g k : Nat) (t s : TypeId) (cs ds : Array Value) (fr fs : Nat × Nat) (d d' : TypeDesc)
    (hp : tmps.getD p undef = .pointer (some ⟨g, 0, none⟩)) (hg : w.heap[g]? = some (.cells cs t fr))
    (hu : P.underlying ty = some d) (hd : (match d with | .struct _ | .array _ _ => true | _ => false) = true) (hi : (P.info? ty).map (·.size) = some cs.size)
    (hq : tmps.getD q undef = .pointer (some ⟨k, 0, none⟩)) (hk : w.heap[k]? = some (.cells ds s fs))
    (hu' : P.underlying tz = some d') (hd' : (match d' with | .struct _ | .array _ _ => true | _ => false) = true) (hi' : (P.info? tz).map (·.size) = some ds.size) :
    (results fn tmps).run P w = .ok (.tuple #[.agg cs, .agg ds]) w := by
  have hp' : tmps[p]?.getD undef = .pointer (some ⟨g, 0, none⟩) := by simpa using hp
  have hq' : tmps[q]?.getD undef = .pointer (some ⟨k, 0, none⟩) := by simpa using hq
  simp only [results, h]
  simp [Sem.run_bind, Result.andThen, hp', hq', asAddr, run_loadVar_row w g t ty cs fr d hg hu hd hi, run_loadVar_row w k s tz ds fs d' hk hu' hd' hi']

theorem refhash_blk (xs : List ByteArray) (b : ByteArray) (w : World) (G : Nat) (hb : b.data.toList = mkT 7 0 [] (xs.map (·.data.toList))) (hl : xs.length ≤ 1000) (hx : (xs.map (·.size)).sum ≤ 50000000) (hw : w.heap.size = G) : Calls Try.prog 148 #[.slice (some ⟨G, 0, none⟩) xs.length xs.length] (w.alloc (.cells (xs.map Value.string).toArray 9)) (numA.Told w (.string b)) := by
  have C := Lib.hid (told_str (b := b) (by rw [hb]; rfl) (refmake_lst 7 0 0 rfl (by decide) xs w hx hl))
  rw [hw] at C
  clear hb hl hx hw
  go_enter Try.func148, Try.ntmps148
  go_wp2_with fail
  (with_reducible refine C.out.mono ?_)
  rintro e wx ⟨rfl, o⟩
  have O := Lib.hid o
  clear o
  go_wp2_with fail
  go_ret
  exact ⟨rfl, O.out⟩

abbrev chainV (c h : ByteArray) : Array Value := #[.string c, .string h]
theorem info78 (c h : ByteArray) : (Try.prog.info? 78).map (·.size) = some (chainV c h).size := by
  rw [show (chainV c h).size = 2 from rfl]; kernel_rfl

set_option maxRecDepth 100000 in
set_option maxHeartbeats 1600000 in
theorem first_any (y e C H : ByteArray) (w : World) (hC : C.data.toList = kdfT 1 c0T e.data.toList) (hH : H.data.toList = hashT (hashT c0T y.data.toList) e.data.toList) (hy : y.size ≤ 10000000) (he : e.size ≤ 10000000) : Calls Try.prog 136 #[.string y, .string e] w (numA.Told w (.agg (chainV C H))) := by
  obtain ⟨c, hc⟩ : ∃ c : ByteArray, c.data.toList = c0T := ⟨⟨(c0T).toArray⟩, rfl⟩
  obtain ⟨t, ht⟩ : ∃ t : ByteArray, t.data.toList = hashT c0T y.data.toList := ⟨⟨(hashT c0T y.data.toList).toArray⟩, rfl⟩
  have CH := Lib.hid (fun W G (hG : W.heap.size = G) => (show Calls Try.prog 148 #[.slice (some ⟨G, 0, none⟩) 1 1] (W.alloc (.cells #[.string ⟨#[120, 55, 51, 54, 101, 54, 57, 54, 51, 54, 98, 54, 53, 55, 52]⟩] 9)) (numA.Told W (.string c)) from refhash_blk [⟨#[120, 55, 51, 54, 101, 54, 57, 54, 51, 54, 98, 54, 53, 55, 52]⟩] c W G (by rw [hc]; rfl) (by decide) (by decide) hG))
  have cz : c.size ≤ 10000000 := u_le hc (by decide +kernel)
  have tz : t.size ≤ 10000000 := u_le ht (Nat.le_trans (hash_most _ _) (by decide))
  have C1 := Lib.hid (fun W => (show Calls Try.prog 139 #[.int .u64 1, .string c, .string e] W (numA.Told W (.string C)) from kdf_any 1 c e C W (by rw [hC, hc]) (by decide) (cz) (he)))
  have C2 := Lib.hid (fun W => hash_any c y t W (by rw [ht, hc]) cz hy)
  have C3 := Lib.hid (fun W => hash_any t e H W (by rw [hH, ht]) tz he)
  clear hC hH hy he hc ht cz tz
  obtain ⟨Y, hY⟩ : ∃ Y, Y = (w.alloc (.cells #[.string ⟨#[]⟩, .string ⟨#[]⟩] 78)) := ⟨_, rfl⟩
  obtain ⟨A, hA⟩ : ∃ A, A = w.heap.size := ⟨_, rfl⟩
  have O := Lib.hid (show Only (fun _ => False) w Y from by rw [hY]; exact (Only.refl _ w).alloc _)
  have HR0 := Lib.hid (show Blk Y (A) 78 #[.string ⟨#[]⟩, .string ⟨#[]⟩] from by have h := (Blk.new w 78 #[.string ⟨#[]⟩, .string ⟨#[]⟩]); rw [hY, hA]; exact h)
  have HY := Lib.hid hY
  have HAE := Lib.hid hA
  have HYS := Lib.hid (show Y.heap.size = A + 1 from by rw [hY, hA]; simp only [World.size_alloc])
  have HYW := Lib.hid (show Y.heap.size = w.heap.size + 1 from by rw [hY]; simp only [World.size_alloc])
  clear hY hA
  go_enter Try.func136, Try.ntmps136
  go_wp2_with fail
  rw [← HY.out, ← HAE.out]
  (with_reducible refine (CH.out _ _ ?_).mono ?_)
  · exact HYS.out
  rintro e w2 ⟨rfl, o⟩
  replace O := Lib.hid (O.out.trans o)
  replace HR0 := Lib.hid (Blk.keep HR0.out o id)
  clear o
  go_wp2_with fail
  (with_reducible refine (C1.out _).mono ?_)
  rintro e w2 ⟨rfl, o⟩
  replace O := Lib.hid (O.out.trans o)
  replace HR0 := Lib.hid (Blk.keep HR0.out o id)
  clear o
  go_wp2_with fail
  (with_reducible refine (C2.out _).mono ?_)
  rintro e w2 ⟨rfl, o⟩
  replace O := Lib.hid (O.out.trans o)
  replace HR0 := Lib.hid (Blk.keep HR0.out o id)
  clear o
  go_wp2_with fail
  (with_reducible refine (C3.out _).mono ?_)
  rintro e w2 ⟨rfl, o⟩
  replace O := Lib.hid (O.out.trans o)
  replace HR0 := Lib.hid (Blk.keep HR0.out o id)
  clear o
  go_wp2_with (refine wpList_store_row rfl 78 (.tmp 4) (.tmp 16) rfl A (chainV C H) rfl rfl 78 _ HR0.out (info78 C H) rfl (by simp [chainV, Value.oneCell']) ?_)
  exact bodyPost_ret (results_cell_row (p := 4) (ty := 78) Try.results136 _ _ A 78 (chainV C H) (0, 0) _ rfl (Blk.row HR0.out _) Try.underlying78 rfl (info78 C H)) rfl ⟨rfl, Only.old (only_row (O.out.mono fun _ h => h.elim) _ (by rw [HAE.out]; exact Nat.le_refl _))⟩

set_option maxRecDepth 100000 in
set_option maxHeartbeats 1600000 in
theorem seals_any (C H u i t C1 H1 : ByteArray) (w : World) (ht : t.data.toList = sealT (kdfT 2 C.data.toList u.data.toList) i.data.toList H.data.toList) (hC1 : C1.data.toList = kdfT 1 C.data.toList u.data.toList) (hH1 : H1.data.toList = hashT H.data.toList t.data.toList) (cz : C.size ≤ 10000000) (uz : u.size ≤ 10000000) (iz : i.size ≤ 10000000) (hz : H.size ≤ 10000000) : Calls Try.prog 137 #[.agg (chainV C H), .string u, .string i] w (numA.Told w (.tuple #[.string t, .agg (chainV C1 H1)])) := by
  obtain ⟨k, hk⟩ : ∃ k : ByteArray, k.data.toList = kdfT 2 C.data.toList u.data.toList := ⟨⟨(kdfT 2 C.data.toList u.data.toList).toArray⟩, rfl⟩
  have kz : k.size ≤ 10000000 := u_le hk (Nat.le_trans (kdf_most _ (by decide) _ _) (by decide))
  have tz : t.size ≤ 10000000 := u_le ht (Nat.le_trans (seal_most _ _ _) (by decide))
  have K1 := Lib.hid (fun W => (show Calls Try.prog 139 #[.int .u64 2, .string C, .string u] W (numA.Told W (.string k)) from kdf_any 2 C u k W (hk) (by decide) (cz) (uz)))
  have K2 := Lib.hid (fun W => (show Calls Try.prog 38 #[.int .u64 0, .string k, .string i, .string H] W (numA.Told W (.string t)) from told_str (by rw [ht, ← hk]; rfl) (seal_any 0 k i H W (by decide) kz iz hz)))
  have K3 := Lib.hid (fun W => (show Calls Try.prog 139 #[.int .u64 1, .string C, .string u] W (numA.Told W (.string C1)) from kdf_any 1 C u C1 W (hC1) (by decide) (cz) (uz)))
  have K4 := Lib.hid (fun W => hash_any H t H1 W hH1 hz tz)
  clear hk ht hC1 hH1 cz uz iz hz kz tz
  obtain ⟨Y, hY⟩ : ∃ Y, Y = ((w.alloc (.cells (chainV C H) 78)).alloc (.cells #[.string ⟨#[]⟩, .string ⟨#[]⟩] 78)) := ⟨_, rfl⟩
  obtain ⟨A, hA⟩ : ∃ A, A = w.heap.size := ⟨_, rfl⟩
  have O := Lib.hid (show Only (fun _ => False) w Y from by rw [hY]; exact ((Only.refl _ w).alloc _).alloc _)
  have HR0 := Lib.hid (show Blk Y (A) 78 (chainV C H) from by have h := (Blk.keep (Blk.new w 78 (chainV C H)) ((Only.refl (fun _ => False) _).alloc (.cells #[.string ⟨#[]⟩, .string ⟨#[]⟩] 78)) id); rw [hY, hA]; exact h)
  have HR1 := Lib.hid (show Blk Y (A + 1) 78 #[.string ⟨#[]⟩, .string ⟨#[]⟩] from by have h := (Blk.new (w.alloc (.cells (chainV C H) 78)) 78 #[.string ⟨#[]⟩, .string ⟨#[]⟩]); simp only [World.size_alloc] at h; rw [hY, hA]; exact h)
  have HY := Lib.hid hY
  have HAE := Lib.hid hA
  have HYS := Lib.hid (show Y.heap.size = A + 2 from by rw [hY, hA]; simp only [World.size_alloc])
  have HYW := Lib.hid (show Y.heap.size = w.heap.size + 1 + 1 from by rw [hY]; simp only [World.size_alloc])
  clear hY hA
  have hAB : A ≠ A + 1 := by omega
  go_enter Try.func137, Try.ntmps137
  go_wp2_with fail
  rw [← HY.out, ← HAE.out]
  have R := Lib.hid ((Only.refl (fun _ => False) Y).drew)
  refine wp_region_held_drew (S := (fun w' => w'.cell? ⟨A, 0, none⟩ = some (.string C) ∧ w'.cell? ⟨A, 1, none⟩ = some (.string H))) (by kernel_rfl) ?_ (fun hHeld => ?_)
  · exact ⟨Blk.cell (Blk.keep HR0.out R.out id) 0, Blk.cell (Blk.keep HR0.out R.out id) 1⟩
  refine rgA.tk 0 hHeld ?_
  refine rgA.tk 1 hHeld ?_
  refine rgA.tk 2 hHeld ?_
  refine rgA.tk 4 hHeld ?_
  refine rgA.tk 5 hHeld ?_
  refine rgA.tk 6 hHeld ?_
  refine rgA.rd 3 (fun K hK => ?_)
  go_simp
  (with_reducible refine (K1.out _).mono ?_)
  rintro e w2 ⟨rfl, o⟩
  replace R := Lib.hid (R.out.trans o)
  clear o
  go_wp2_with fail
  refine hK.out _ _ ?_ (fun hHeld => ?_)
  · exact ⟨Blk.cell (Blk.keep HR0.out R.out id) 0, Blk.cell (Blk.keep HR0.out R.out id) 1⟩
  clear hK K
  try simp only [List.getElem_toArray, List.getElem_cons_succ, List.getElem_cons_zero, Act.put, List.setIfInBounds_toArray, List.set_cons_zero, List.set_cons_succ]
  refine rgA.rd 7 (fun K hK => ?_)
  go_simp
  (with_reducible refine (K2.out _).mono ?_)
  rintro e w2 ⟨rfl, o⟩
  replace R := Lib.hid (R.out.trans o)
  clear o
  go_wp2_with fail
  refine hK.out _ _ ?_ (fun hHeld => ?_)
  · exact ⟨Blk.cell (Blk.keep HR0.out R.out id) 0, Blk.cell (Blk.keep HR0.out R.out id) 1⟩
  clear hK K
  try simp only [List.getElem_toArray, List.getElem_cons_succ, List.getElem_cons_zero, Act.put, List.setIfInBounds_toArray, List.set_cons_zero, List.set_cons_succ]
  refine rgA.tk 8 hHeld ?_
  refine wpAnyH_done (by kernel_rfl) ?_ _
  obtain ⟨V, hV⟩ : ∃ V, V = w2 := ⟨_, rfl⟩
  rw [← hV] at R ⊢
  clear hV hHeld
  replace O := Lib.hid (O.out.trans R.out)
  replace HR0 := Lib.hid (Blk.keep HR0.out R.out id)
  replace HR1 := Lib.hid (Blk.keep HR1.out R.out id)
  clear R
  go_upto_region 2 with fail
  have R := Lib.hid ((Only.refl (fun _ => False) V).drew)
  refine wp_region_held_drew (S := (fun w' => w'.cell? ⟨A, 0, none⟩ = some (.string C) ∧ w'.cell? ⟨A, 1, none⟩ = some (.string H))) (by kernel_rfl) ?_ (fun hHeld => ?_)
  · exact ⟨Blk.cell (Blk.keep HR0.out R.out id) 0, Blk.cell (Blk.keep HR0.out R.out id) 1⟩
  refine rgA.tk 0 hHeld ?_
  refine rgA.tk 1 hHeld ?_
  refine rgA.tk 2 hHeld ?_
  refine rgA.tk 3 hHeld ?_
  refine rgA.tk 5 hHeld ?_
  refine rgA.tk 6 hHeld ?_
  refine rgA.tk 7 hHeld ?_
  refine rgA.rd 4 (fun K hK => ?_)
  go_simp
  (with_reducible refine (K3.out _).mono ?_)
  rintro e w2 ⟨rfl, o⟩
  replace R := Lib.hid (R.out.trans o)
  clear o
  go_wp2_with fail
  refine hK.out _ _ ?_ (fun hHeld => ?_)
  · first | exact ⟨Blk.cell (Blk.keep HR0.out R.out id) 0, Blk.cell (Blk.keep HR0.out R.out id) 1⟩ | exact ⟨Blk.cell (Blk.off (Blk.keep HR0.out R.out id) _ (by omega)) 0, Blk.cell (Blk.off (Blk.keep HR0.out R.out id) _ (by omega)) 1⟩
  clear hK K
  try simp only [List.getElem_toArray, List.getElem_cons_succ, List.getElem_cons_zero, Act.put, List.setIfInBounds_toArray, List.set_cons_zero, List.set_cons_succ]
  refine rgA.rd 8 (fun K hK => ?_)
  go_simp
  (with_reducible refine (K4.out _).mono ?_)
  rintro e w2 ⟨rfl, o⟩
  replace R := Lib.hid (R.out.trans o)
  clear o
  go_wp2_with fail
  refine hK.out _ _ ?_ (fun hHeld => ?_)
  · first | exact ⟨Blk.cell (Blk.keep HR0.out R.out id) 0, Blk.cell (Blk.keep HR0.out R.out id) 1⟩ | exact ⟨Blk.cell (Blk.off (Blk.keep HR0.out R.out id) _ (by omega)) 0, Blk.cell (Blk.off (Blk.keep HR0.out R.out id) _ (by omega)) 1⟩
  clear hK K
  try simp only [List.getElem_toArray, List.getElem_cons_succ, List.getElem_cons_zero, Act.put, List.setIfInBounds_toArray, List.set_cons_zero, List.set_cons_succ]
  refine rgA.tk 9 hHeld ?_
  refine rgA.tk 10 hHeld ?_
  refine rgA.rd 11 (fun K hK => ?_)
  rw [if_pos (by rfl)]
  refine wp_store_row 78 (.tmp 7) (.tmp 26) rfl (A + 1) (chainV C1 H1) rfl rfl 78 _ (Blk.keep HR1.out R.out id) (info78 C1 H1) rfl (by simp [chainV, Value.oneCell']) ?_
  refine hK.out _ _ ?_ (fun hHeld => ?_)
  · first | exact ⟨Blk.cell (Blk.keep HR0.out R.out id) 0, Blk.cell (Blk.keep HR0.out R.out id) 1⟩ | exact ⟨Blk.cell (Blk.off (Blk.keep HR0.out R.out id) _ (by omega)) 0, Blk.cell (Blk.off (Blk.keep HR0.out R.out id) _ (by omega)) 1⟩
  clear hK K
  try simp only [List.getElem_toArray, List.getElem_cons_succ, List.getElem_cons_zero, Act.put, List.setIfInBounds_toArray, List.set_cons_zero, List.set_cons_succ]
  refine wpAnyH_done (by kernel_rfl) ?_ _
  go_wp2_with fail
  exact bodyPost_ret (res_tc Try.results137 _ _ (A + 1) 78 (chainV C1 H1) (0, 0) _ rfl (Blk.row (Blk.keep HR1.out R.out id) _) Try.underlying78 rfl (info78 C1 H1)) rfl ⟨rfl, Only.old (only_row ((O.out.trans R.out).mono fun _ h => h.elim) _ (by rw [HAE.out]; omega))⟩

end Go.Proofs.Ytbjnejnjlidiaaa.noD
