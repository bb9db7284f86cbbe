/- Noise: plain facts for any answer. -/
import Derived.Test.YtbjnejnjlidiaaaNoY
namespace Go.Proofs.Ytbjnejnjlidiaaa.npA
open Go.RowKit kit numA numB numC numD numE tmA tmB tmC tmD tmE trA trB prR prS prW prX tsA tsB tsF tsI wrA wrB wrC wrD wrE wrF wrG wrH wrI wrJ mkA maA maB maC noA noB noC noD noE tsG noF noG noH noJ noK noL noM noN noO noP wrL noS noU noY
set_option linter.unusedVariables false
set_option linter.unusedSimpArgs false

def CutB (V : World) (b : Bool) (p : Value) (wx : World) : Prop := p = .bool b ∧ Only (fun _ => False) V wx
def CutI (V : World) (n : Nat) (p : Value) (wx : World) : Prop := p = .int .i64 (n : Nat) ∧ Only (fun _ => False) V wx
/-- Finish's code, by the Empty that is due. -/
theorem finR_is {x : Int} {e c h s q : Txt} {m : Msg} {E : Txt} (hE : E = sealT (finK e c s q (m.t 4).data.toList) zeroT (finW e c h s q (m.t 4).data.toList)) (g : [s, q, e, c, h].all isT = true ∧ (m.k == 2 && rightM m) = true ∧ pubB (m.t 4).data.toList = true) : finR x e c h s q m = if m.r = x then (if (m.t 7).data.toList = E then 0 else 8) else 6 := by
  unfold finR
  rw [if_pos g]
  by_cases hr : m.r = x
  case neg => rw [if_neg hr, if_neg hr]
  rw [if_pos hr, if_pos hr]
  have hR := g.2.1
  rw [Bool.and_eq_true] at hR
  have hk : m.k = 2 := by simpa using hR.1
  have hf := rterms_is hR.2
  unfold rterms rtexts at hf
  rw [if_neg (by rw [hk]; decide), if_pos hk] at hf
  have h7 : isT (m.t 7).data.toList = true := hf _ (by simp)
  by_cases h : (m.t 7).data.toList = E
  · rw [if_pos h, if_pos]
    unfold finO
    rw [h, hE]
    rw [h, hE] at h7
    rw [open_same h7]
    exact ⟨rfl, rfl⟩
  · rw [if_neg h, if_neg]
    rintro ⟨h1, h2⟩
    apply h
    rw [hE]
    unfold finO at h1 h2
    exact seal_of (Prod.ext h2 h1)
theorem fin_ex (x : Int) (e c h s q : Txt) (m : Msg) : ∃ (cd : Nat) (K1 K2 : ByteArray), finVal x e c h s q m = .tuple #[.agg (keysV K1 K2), .int .i64 (cd : Nat)] ∧ cd = finR x e c h s q m ∧ (cd ≠ 0 → K1 = ⟨#[]⟩ ∧ K2 = ⟨#[]⟩) ∧ (cd = 0 → K1.data.toList = kdfT 1 (finC e c s q (m.t 4).data.toList) zeroT ∧ K2.data.toList = kdfT 2 (finC e c s q (m.t 4).data.toList) zeroT) := by
  by_cases h0 : finR x e c h s q m = 0
  · obtain ⟨K1, e1⟩ := mkb (kdfT 1 (finC e c s q (m.t 4).data.toList) zeroT)
    obtain ⟨K2, e2⟩ := mkb (kdfT 2 (finC e c s q (m.t 4).data.toList) zeroT)
    refine ⟨0, K1, K2, ?_, h0.symm, fun h => absurd rfl h, fun _ => ⟨e1, e2⟩⟩
    rw [finVal, if_pos h0, ← e1, ← e2, bytes_mk, bytes_mk]
    rfl
  · obtain ⟨cd, hc⟩ : ∃ n, n = finR x e c h s q m := ⟨_, rfl⟩
    rw [← hc] at h0 ⊢
    refine ⟨cd, ⟨#[]⟩, ⟨#[]⟩, ?_, rfl, fun _ => ⟨rfl, rfl⟩, fun h => absurd h h0⟩
    rw [finVal, ← hc, if_neg h0]
theorem kdf_ne {c u : Txt} (h1 : isT (kdfT 2 c u) = true) (h2 : isT (kdfT 1 c u) = true) : kdfT 2 c u ≠ kdfT 1 c u := by
  intro h
  have e1 := nd_make (by decide) ((mk_isT (by decide)).1 h1)
  have e2 := nd_make (by decide) ((mk_isT (by decide)).1 h2)
  unfold kdfT at h
  rw [h, e2] at e1
  have := congrArg Nd.n e1
  simp [nodeOf] at this
structure AnsE (y : Int) (ab : Bool) (M : Msg) (L1 L2 : ByteArray) (ad : Nat) : Prop where
  no : ab = false → M = zeroM 0 ∧ L1 = ⟨#[]⟩ ∧ L2 = ⟨#[]⟩ ∧ ad = 3
  yes : ab = true → ad = 0 ∧ rightM M = true ∧ M.r = y ∧ isT L1.data.toList = true ∧ isT L2.data.toList = true ∧ L1.data.toList ≠ L2.data.toList
  sz : (∀ i, (M.t i).size ≤ 20000) ∧ L1.size ≤ 20000 ∧ L2.size ≤ 20000
theorem ansE_ex (y N : Int) (p ee c2 h2 s q : ByteArray) (zp : p.size ≤ 200) (zee : ee.size ≤ 200) (zc2 : c2.size ≤ 200) (zh2 : h2.size ≤ 200) (zs : s.size ≤ 200) (zq : q.size ≤ 200) : ∃ (M : Msg) (L1 L2 : ByteArray) (ad : Nat), AnsE y (ansB s.data.toList q.data.toList p.data.toList ee.data.toList c2.data.toList h2.data.toList) M L1 L2 ad ∧ ∀ W, Calls Try.prog 72 #[.agg (heardV y p N ee c2 h2), .string s, .string q, .int .u32 4] W (numA.Told W (.tuple #[.agg M.row, .agg (keysV L1 L2), .int .i64 (ad : Nat)])) := by
  obtain ⟨eph, he⟩ := mkb (pubT s.data.toList)
  obtain ⟨em, hem⟩ := mkb (sealT (ltK c2.data.toList eph.data.toList (agr s.data.toList ee.data.toList) (agr s.data.toList p.data.toList) q.data.toList) zeroT (ltW c2.data.toList h2.data.toList eph.data.toList (agr s.data.toList ee.data.toList) (agr s.data.toList p.data.toList) q.data.toList))
  obtain ⟨sd, hsd⟩ := mkb (kdfT 2 (ltC c2.data.toList eph.data.toList (agr s.data.toList ee.data.toList) (agr s.data.toList p.data.toList) q.data.toList) zeroT)
  obtain ⟨rc, hrc⟩ := mkb (kdfT 1 (ltC c2.data.toList eph.data.toList (agr s.data.toList ee.data.toList) (agr s.data.toList p.data.toList) q.data.toList) zeroT)
  cases hf : ansB s.data.toList q.data.toList p.data.toList ee.data.toList c2.data.toList h2.data.toList
  · refine ⟨zeroM 0, ⟨#[]⟩, ⟨#[]⟩, 3, ⟨fun _ => ⟨rfl, rfl, rfl, rfl⟩, (fun h => by cases h), ⟨fun i => Nat.zero_le _, Nat.zero_le _, Nat.zero_le _⟩⟩, fun W => ?_⟩
    have h0 := answer_any 4 y N p ee c2 h2 s q eph em sd rc W he hem hsd hrc (fun h => by rw [hf] at h; cases h) (by omega) (by omega) (by omega) (by omega) (by omega) (by omega)
    rw [ansVal, if_neg (by rw [hf]; decide)] at h0
    exact h0
  · have hf' := hf
    simp only [ansB, Bool.and_eq_true] at hf'
    obtain ⟨⟨f1, f2⟩, ⟨f3, f4⟩, f5, f6⟩ := hf'
    have os : Ok s.data.toList 200 := ⟨f1, by rw [tl_size]; exact zs⟩
    have oq : Ok q.data.toList 200 := ⟨f2, by rw [tl_size]; exact zq⟩
    have oc : Ok c2.data.toList 200 := ⟨f5, by rw [tl_size]; exact zc2⟩
    have oh : Ok h2.data.toList 200 := ⟨f6, by rw [tl_size]; exact zh2⟩
    have oe : Ok eph.data.toList 203 := by rw [he]; exact (ok_pub os (by decide)).1
    have ou : Ok (agr s.data.toList ee.data.toList) 426 := ok_agr os (by simpa [pubB] using f4) (by rw [tl_size]; exact zee) (by decide)
    have ov : Ok (agr s.data.toList p.data.toList) 426 := ok_agr os (by simpa [pubB] using f3) (by rw [tl_size]; exact zp) (by decide)
    have hL := last_ok oc oh oe ou ov oq (by decide)
    have i2 : Ok em.data.toList 20000 := by rw [hem]; exact hL.em.mono (by decide)
    have i3 : Ok sd.data.toList 20000 := by rw [hsd]; exact hL.k2.mono (by decide)
    have i4 : Ok rc.data.toList 20000 := by rw [hrc]; exact hL.k1.mono (by decide)
    have sz : ∀ {b : ByteArray} {n : Nat}, Ok b.data.toList n → b.size ≤ n := fun h => by have := h.2; rw [tl_size] at this; exact this
    refine ⟨respM 4 y eph em, sd, rc, 0, ⟨(fun h => by cases h), fun _ => ⟨rfl, right_resp (ok_fit oe (by decide)) (ok_fit i2 (by decide)), rfl, i3.1, i4.1, ?_⟩, ⟨fun i => resp_sz (Nat.le_trans (sz oe) (by decide)) (sz i2) (by decide) i, sz i3, sz i4⟩⟩, fun W => ?_⟩
    · rw [hsd, hrc]
      exact kdf_ne hL.k2.1 hL.k1.1
    · have h0 := answer_any 4 y N p ee c2 h2 s q eph em sd rc W he hem hsd hrc (fun _ => by simp [oe.1, i2.1, i3.1, i4.1]) (by omega) (by omega) (by omega) (by omega) (by omega) (by omega)
      rw [ansVal, if_pos hf] at h0
      exact h0

end Go.Proofs.Ytbjnejnjlidiaaa.npA
