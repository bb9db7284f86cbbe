/- Addresses: the program's Plain. -/
import Derived.Test.YtokbaknckagfmaaAdF
import Derived.Deep.WholeRow
import Derived.Laws.Tables
import Derived.Laws.Rows
import Derived.Laws.BitsAllLaws
namespace Go.Proofs.Ytokbaknckagfmaa.adG
open Go.RowKit kit numA numB numD adA adB adC adD adE adF
set_option linter.unusedVariables false
set_option linter.unusedSimpArgs false

theorem res2 {fn : Func} {P : Program} {p u : Tmp} {ty : TypeId} (h : fn.results = #[.cell p ty, .tmp u]) (tmps : Array Value) (w : World) (g : Nat) (t : TypeId) (cs : Array Value) (fr : Nat × Nat) (d : TypeDesc)
    (hp : tmps.getD p undef = .pointer (some ⟨g, 0, none⟩)) (hg : w.heap[g]? = some (.cells cs t fr))
    (hu : P.underlying ty = some d) (hd : (match d with | .struct _ | .array _ _ => true | _ => false) = true) (hi : (P.info? ty).map (·.size) = some cs.size) :
    (results fn tmps).run P w = .ok (.tuple #[.agg cs, tmps.getD u undef]) w := by
  have hp' : tmps[p]?.getD undef = .pointer (some ⟨g, 0, none⟩) := by simpa using hp
  rw [results_cell_tmp h]
  simp [hp', asAddr, run_loadVar_row w g t ty cs fr d hg hu hd hi, Result.andThen]

theorem step_fn (l : Txt) (q k v : Nat) (hv : v = mk l q k) (j : Nat) : (if j < k + 1 then mk l q j else (l.getD j 0).toNat) = (if j = k then v else (if j < k then mk l q j else (l.getD j 0).toNat)) := by
  by_cases h : j = k
  · subst h; rw [if_pos (by omega), if_pos rfl, hv]
  · rw [if_neg h]
    by_cases h2 : j < k
    · rw [if_pos (by omega), if_pos h2]
    · rw [if_neg (by omega), if_neg h2]
theorem dist_eq (q k d : Nat) (hd : d = min (q - 8 * k) 8) : (if (8 : Int) < (if (q : Int) - 8 * (k : Int) < 0 then 0 else (q : Int) - 8 * (k : Int)) then 8 else (if (q : Int) - 8 * (k : Int) < 0 then 0 else (q : Int) - 8 * (k : Int))) = (d : Int) := by
  split <;> split at * <;> omega
theorem mask_eq (d m : Nat) (hm : m = 65280 / 2 ^ d % 256) : IntKind.u8.wrap ((65280 : Int) / 2 ^ d) = (m : Int) := by
  have e : ((65280 : Int) / 2 ^ d) = ((65280 / 2 ^ d : Nat) : Int) := by simp
  rw [e, IntKind.wrap_u8, hm]
  omega
theorem info24 (v0 v1 : Value) : (Try.prog.info? 24).map (·.size) = some (#[v0, v1] : Array Value).size := by
  rw [show (#[v0, v1] : Array Value).size = 2 from rfl]; kernel_rfl
theorem only_roww {S : Nat → Prop} {a w : World} (h : Only S a w) {g : Nat} (cs : Array Value) (hb : S g) : Only S a (w.setRow g cs) :=
  h.trans ⟨rfl, rfl, rfl, by simp, fun k _ hk => setRow_other w g k cs fun e => hk (e ▸ hb)⟩
set_option maxRecDepth 100000 in
set_option maxHeartbeats 1600000 in
theorem plain_no (a : Option Addr) (n c : Nat) (b : Int) (w : World) (hr : rP n b = false) : Calls Try.prog 6 #[.agg #[.slice a n c, .int .i64 b]] w (numA.Told w (.tuple #[.agg #[.slice none 0 0, .int .i64 0], .int .i64 3])) := by
  have HR := Lib.hid (fun W => (show Calls Try.prog 7 #[.agg #[.slice a n c, .int .i64 b]] W (numA.Told W (.bool false)) from by have h := right_any a n c b W; rw [hr] at h; exact h))
  obtain ⟨X, hX⟩ : ∃ X, X = (w.alloc (.cells #[.slice a n c, .int .i64 b] 24)).alloc (.cells #[.slice none 0 0, .int .i64 0] 24) := ⟨_, rfl⟩
  obtain ⟨P, hP⟩ : ∃ A, A = w.heap.size := ⟨_, rfl⟩
  have O := Lib.hid (show Only (fun _ => False) w X from by rw [hX]; exact ((Only.refl _ w).alloc _).alloc _)
  have HP := Lib.hid (show PfxAt X P (.slice a n c) b from by rw [hX, hP]; exact Only.keep ((Only.refl (fun _ => False) _).alloc _) (heap_alloc_new w _) id)
  have HQ := Lib.hid (show PfxAt X (P + 1) (.slice none 0 0) 0 from by
    have h := heap_alloc_new (w.alloc (.cells #[.slice a n c, .int .i64 b] 24)) (.cells #[.slice none 0 0, .int .i64 0] 24)
    rw [World.size_alloc, ← hP] at h
    rw [hX]
    exact h)
  have HX := Lib.hid hX
  have HPE := Lib.hid hP
  clear hX hP hr
  go_enter Try.func6, Try.ntmps6
  go_wp2_with fail
  rw [← HX.out, ← HPE.out]
  obtain ⟨p0, p1⟩ := PfxAt.cells HP.out
  go_wp2_with fail
  clear p0 p1
  (with_reducible refine (HR.out _).mono ?_)
  rintro e w2 ⟨rfl, o⟩
  replace O := Lib.hid (O.out.trans o)
  replace HP := Lib.hid (PfxAt.keep HP.out o id)
  replace HQ := Lib.hid (PfxAt.keep HQ.out o id)
  clear o
  go_wp2_with (refine wpList_store_row rfl 24 (.tmp 2) (.tmp 10) rfl (P + 1) #[.slice none 0 0, .int .i64 0] rfl rfl 24 _ HQ.out (info24 _ _) rfl (by simp [Value.oneCell']) ?_)
  exact bodyPost_ret (res2 Try.results6 _ _ (P + 1) 24 #[.slice none 0 0, .int .i64 0] (0, 0) _ rfl (setRow_heap _ _ _ _ _ _ HQ.out) Try.underlying24 rfl (info24 _ _)) rfl ⟨rfl, Only.old (only_roww (O.out.mono fun _ h => h.elim) _ (by rw [HPE.out]; omega))⟩

set_option maxRecDepth 100000 in
set_option maxHeartbeats 3200000 in
theorem plain_ok (S : Nat → Prop) (a : Option Addr) (n c q : Nat) (l : Txt) (w : World) (hs : Sl w S (.slice a n c) (U8 l)) (hl : n = l.length) (hr : rP n (q : Nat) = true) : Calls Try.prog 6 #[.agg #[.slice a n c, .int .i64 (q : Nat)]] w (fun e w' => ∃ g cp, e = .returned (.tuple #[.agg #[.slice (some ⟨g, 0, none⟩) n cp, .int .i64 (q : Nat)], .int .i64 0]) ∧ Only (fun _ => False) w w' ∧ RowF w' g n (mk l q) ∧ w.heap.size ≤ g) := by
  obtain ⟨hn16, q', hqq, hq⟩ := rP_spec hr
  obtain rfl : q = q' := by omega
  have h1n : 1 ≤ n := by
    unfold rP at hr
    simp at hr
    omega
  have HR := Lib.hid (fun W => (show Calls Try.prog 7 #[.agg #[.slice a n c, .int .i64 (q : Nat)]] W (numA.Told W (.bool true)) from by have h := right_any a n c (q : Nat) W; rw [hr] at h; exact h))
  obtain ⟨X, hX⟩ : ∃ X, X = (w.alloc (.cells #[.slice a n c, .int .i64 (q : Nat)] 24)).alloc (.cells #[.slice none 0 0, .int .i64 0] 24) := ⟨_, rfl⟩
  obtain ⟨P, hP⟩ : ∃ A, A = w.heap.size := ⟨_, rfl⟩
  have O := Lib.hid (show Only (fun _ => False) w X from by rw [hX]; exact ((Only.refl _ w).alloc _).alloc _)
  have HP := Lib.hid (show PfxAt X P (.slice a n c) (q : Nat) from by rw [hX, hP]; exact Only.keep ((Only.refl (fun _ => False) _).alloc _) (heap_alloc_new w _) id)
  have HQ := Lib.hid (show PfxAt X (P + 1) (.slice none 0 0) 0 from by
    have h := heap_alloc_new (w.alloc (.cells #[.slice a n c, .int .i64 (q : Nat)] 24)) (.cells #[.slice none 0 0, .int .i64 0] 24)
    rw [World.size_alloc, ← hP] at h
    rw [hX]
    exact h)
  have HX := Lib.hid hX
  have HPE := Lib.hid hP
  have SA := Lib.hid (Sl.keep (hs.mono (T := fun _ => True) (fun _ _ => trivial)) O.out (fun _ _ h => h))
  have HB := Lib.hid (show n ≤ 16 ∧ 1 ≤ n ∧ q ≤ 8 * n ∧ n = l.length from ⟨hn16, h1n, hq, hl⟩)
  clear hX hP hr hqq hs hn16 h1n hq hl
  go_enter Try.func6, Try.ntmps6
  go_wp2_with fail
  rw [← HX.out, ← HPE.out]
  obtain ⟨p0, p1⟩ := PfxAt.cells HP.out
  go_wp2_with fail
  clear p0 p1
  (with_reducible refine (HR.out _).mono ?_)
  rintro e w2 ⟨rfl, o⟩
  replace O := Lib.hid (O.out.trans o)
  replace HP := Lib.hid (PfxAt.keep HP.out o id)
  replace HQ := Lib.hid (PfxAt.keep HQ.out o id)
  replace SA := Lib.hid (Sl.keep SA.out o (fun _ _ h => h))
  clear o
  obtain ⟨p0, p1⟩ := PfxAt.cells HP.out
  go_wp2_with fail
  clear p0 p1
  have CL := Lib.hid (clone_any _ a n c l w2 SA.out HB.out.2.2.2 HB.out.2.1 (Nat.le_trans HB.out.1 (by decide)))
  (with_reducible refine CL.out.mono ?_)
  rintro e w3 ⟨g, cp, rfl, o, own⟩
  have hge := (own.lt g rfl).1
  have h2s := O.out.size
  have h2p := lt_of HQ.out
  have HG := Lib.hid (show w.heap.size ≤ g ∧ P + 1 < g from ⟨by omega, by omega⟩)
  have HF := Lib.hid (RowF.of_owns own HB.out.2.2.2 HB.out.2.1)
  replace O := Lib.hid (O.out.trans o)
  replace HP := Lib.hid (PfxAt.keep HP.out o id)
  replace HQ := Lib.hid (PfxAt.keep HQ.out o id)
  clear o own CL hge h2s h2p
  go_wp2_with fail
  go_loopw [16] (fun i wr => ∃ k : Nat, i = .int .i64 (k : Nat) ∧ k ≤ n ∧ RowF wr g n (fun j => if j < k then mk l q j else (l.getD j 0).toNat) ∧ Only (fun x => x = g) w3 wr) (fun i _ => n - (intOf i).toNat)
  case atStart => exact ⟨0, rfl, Nat.zero_le _, HF.out.congr (fun j hj => by rw [if_neg (by omega)]), Only.refl _ _⟩
  case round =>
    obtain ⟨k, rfl, hk, hF, ho⟩ := hrel
    have HF3 := Lib.hid hF
    have HO3 := Lib.hid ho
    have HP3 := Lib.hid (PfxAt.keep HP.out ho (by have := HG.out.2; omega))
    have HQ3 := Lib.hid (PfxAt.keep HQ.out ho (by have := HG.out.2; omega))
    obtain ⟨p0, p1⟩ := PfxAt.cells HP3.out
    clear hF ho
    by_cases hkn : k < n
    · have k1 : ((k : Int) < (n : Int)) = True := eq_true (by omega)
      have wk : wrap64 ((k : Int) + 1) = (k : Int) + 1 := IntWalk.wrap64_in _ (by have := HB.out.1; omega)
      have w8 : wrap64 (8 * (k : Int)) = 8 * (k : Int) := IntWalk.wrap64_in _ (by have := HB.out.1; omega)
      have wq : wrap64 ((q : Int) - 8 * (k : Int)) = (q : Int) - 8 * (k : Int) := IntWalk.wrap64_in _ (by have := HB.out; omega)
      have HKK := Lib.hid hkn
      have x0 := HF3.out.cell HKK.out
      have f0 := HF3.out.free k
      simp only [Nat.lt_irrefl, if_false] at x0
      obtain ⟨x, hx⟩ : ∃ x, x = (l.getD k 0).toNat := ⟨_, rfl⟩
      have hx8 : x < 256 := by rw [hx]; exact UInt8.toNat_lt _
      rw [← hx] at x0
      have HXE := Lib.hid hx
      obtain ⟨d, hd⟩ : ∃ d, d = min (q - 8 * k) 8 := ⟨_, rfl⟩
      have kd : (if (8 : Int) < (if (q : Int) - 8 * (k : Int) < 0 then 0 else (q : Int) - 8 * (k : Int)) then 8 else (if (q : Int) - 8 * (k : Int) < 0 then 0 else (q : Int) - 8 * (k : Int))) = (d : Int) := dist_eq q k d hd
      have hd8 : d < 9 := by omega
      obtain ⟨m, hm⟩ : ∃ m, m = 65280 / 2 ^ d % 256 := ⟨_, rfl⟩
      have km : IntKind.u8.wrap ((65280 : Int) / 2 ^ d) = (m : Int) := mask_eq d m hm
      obtain ⟨v, hv⟩ : ∃ v, v = mk l q k := ⟨_, rfl⟩
      have kv : bits .and .u8 (x : Int) (m : Int) = (v : Int) := by
        rw [Go.u8_and_nat x m hx8 (by omega), hm, and_top d hd8 x hx8, hv, mk, ← hx, ← hd]
      have HVE := Lib.hid hv
      have HF4 := Lib.hid (HF3.out.set (v := v) HKK.out)
      have hd9 : (d : Int) < 9 := by omega
      clear hx hd hm hv hx8
      clear hk
      go_upto_region 8 with fail
      clear kd w8 wq p0 p1 hkn
      go_region
      all_goals go_wp2_with fail
      all_goals go_roundw
      all_goals first
        | exact measq HKK.out wk
        | exact ⟨k + 1, by first | rfl | (rw [wk]; rfl), HKK.out, (HF4.out.congr (fun j hj => (step_fn l q k v HVE.out j).symm)).keep ((Only.refl (fun _ => False) _).drew) id, (HO3.out.set rfl).drew⟩
    · obtain rfl : k = n := at_endq hkn hk
      have k1 : ((k : Int) < (k : Int)) = False := eq_false (by omega)
      have HFE := Lib.hid (HF3.out.congr (G := mk l q) (fun j hj => by rw [if_pos hj]))
      clear hkn hk HF3
      go_wp2_with (refine wpList_store_row rfl 24 (.tmp 2) (.tmp 39) rfl (P + 1) #[.slice (some ⟨g, 0, none⟩) k cp, .int .i64 (q : Nat)] rfl rfl 24 _ HQ3.out (info24 _ _) rfl (by simp [Value.oneCell']) ?_)
      exact bodyPost_ret (res2 Try.results6 _ _ (P + 1) 24 #[.slice (some ⟨g, 0, none⟩) k cp, .int .i64 (q : Nat)] (0, 0) _ rfl (setRow_heap _ _ _ _ _ _ HQ3.out) Try.underlying24 rfl (info24 _ _)) rfl ⟨g, cp, rfl, Only.old (only_roww ((O.out.mono fun _ h => h.elim).trans (HO3.out.mono fun x hx => by have := HG.out.1; omega)) _ (by rw [HPE.out]; omega)), HFE.out.keep (only_roww (S := fun x => x = P + 1) (Only.refl _ _) _ rfl) (by have := HG.out.2; omega), HG.out.1⟩


end Go.Proofs.Ytokbaknckagfmaa.adG
