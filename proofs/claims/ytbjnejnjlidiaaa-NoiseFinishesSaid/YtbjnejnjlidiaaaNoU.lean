/- Noise: plain facts on Finish. -/
import Derived.Test.YtbjnejnjlidiaaaNoS
namespace Go.Proofs.Ytbjnejnjlidiaaa.noU
open Go.RowKit kit numA numB numC numD numE tmA tmB tmC tmD tmE trA trB prR prS prW prX tsA tsB tsF tsI wrA wrB wrC wrD wrE wrF wrG wrH wrI wrJ mkA maA maB maC noA noB noC noD noE tsG noF noG noH noJ noK noL noM noN noO noP noS
set_option linter.unusedVariables false
set_option linter.unusedSimpArgs false

theorem list_txt {a b : ByteArray} (h : a.toList = b.toList) : a.data.toList = b.data.toList := by rw [← ByteArray.toList_eq, ← ByteArray.toList_eq, h]
theorem txt_list {a b : ByteArray} (h : a.data.toList = b.data.toList) : a.toList = b.toList := by rw [ByteArray.toList_eq, ByteArray.toList_eq, h]
theorem fin3 {x : Int} {e c h s q : Txt} {m : Msg} (hq : isT q = false) : finR x e c h s q m = 3 := by
  unfold finR
  rw [if_neg]
  rintro ⟨h1, -⟩
  simp [hq] at h1
theorem fin_init {x y : Int} {e c h s q : Txt} {a b d : ByteArray} : finR x e c h s q (initM y a b d) = 3 := by
  unfold finR
  rw [if_neg]
  rintro ⟨-, h2, -⟩
  simp [initM] at h2
theorem fin_bent {x y z : Int} {e c h s q f : Txt} {eph em : ByteArray} (he : Ok e 250) (hs : Ok s 250) (hf : Ok f 250) (hq : Ok q 250) (hc : Ok c 1500) (hh : Ok h 6200) (heph : eph.data.toList = pubT f) (hem : fitB em.data.toList = true) (hz : z ≠ x) : finR x e c h s q (respM y z eph em) = 6 := by
  have hpe : pubB eph.data.toList = true := by rw [heph]; exact pubB_of hf (by decide)
  have hR := right_resp (x := y) (y := z) (eph := eph) (em := em) (ok_fit (n := 253) (by rw [heph]; exact (ok_pub hf (by decide)).1) (by decide)) hem
  unfold finR
  rw [if_pos ⟨by simp [hs.1, hq.1, he.1, hc.1, hh.1], by rw [hR]; rfl, hpe⟩, if_neg (show ¬ (respM y z eph em).r = x from hz)]
theorem fit_n1 : fitB (⟨#[110, 49]⟩ : ByteArray).data.toList = true := by decide +kernel
theorem nd_n1 : (nd [110, 49]).k = 3 := by decide +kernel
theorem fin_n1 {x y : Int} {e c h s q f : Txt} {eph : ByteArray} (he : Ok e 250) (hs : Ok s 250) (hf : Ok f 250) (hq : Ok q 250) (hc : Ok c 1500) (hh : Ok h 6200) (heph : eph.data.toList = pubT f) : finR x e c h s q (respM y x eph ⟨#[110, 49]⟩) = 8 := by
  have hpe : pubB eph.data.toList = true := by rw [heph]; exact pubB_of hf (by decide)
  have hR := right_resp (x := y) (y := x) (eph := eph) (em := ⟨#[110, 49]⟩) (ok_fit (n := 253) (by rw [heph]; exact (ok_pub hf (by decide)).1) (by decide)) fit_n1
  have hO : ∀ k v, opn [110, 49] k 0 v = ([], 3) := by
    intro k v
    rw [opn, if_neg (by rw [nd_n1]; decide)]
  unfold finR
  rw [if_pos ⟨by simp [hs.1, hq.1, he.1, hc.1, hh.1], by rw [hR]; rfl, hpe⟩, if_pos (show (respM y x eph ⟨#[110, 49]⟩).r = x from rfl)]
  unfold finO
  rw [show ((respM y x eph ⟨#[110, 49]⟩).t 7).data.toList = [110, 49] from rfl, hO, if_neg (by rintro ⟨h1, -⟩; cases h1)]
theorem resp_put {x y : Int} {eph em b : ByteArray} : (respM x y eph em).put 7 b = respM x y eph b := by
  unfold Msg.put respM
  congr 1
  funext j
  by_cases h7 : j = 7
  · subst h7; rfl
  · simp only [h7, if_false]
theorem finish_no {x : Int} {e c h s q : ByteArray} {m : Msg} {k : Nat} (W : World) (hr : finR x e.data.toList c.data.toList h.data.toList s.data.toList q.data.toList m = k) (hk : k ≠ 0) (ht : ∀ i, (m.t i).size ≤ 10000000) (ez : e.size ≤ 10000000) (cz : c.size ≤ 10000000) (hz : h.size ≤ 10000000) (sz : s.size ≤ 10000000) (qz : q.size ≤ 10000000) : Calls Try.prog 75 #[.agg (startV x e c h), .string s, .string q, mval m] W (numA.Told W (.tuple #[.agg (keysV ⟨#[]⟩ ⟨#[]⟩), .int .i64 (k : Nat)])) := by
  have h0 := finish_any x e c h s q m W ht ez cz hz sz qz
  rw [fv_no hr hk] at h0
  exact h0
/-- The document's With of a block of four texts. -/
theorem with2_blk (x y : Int) (eph em : ByteArray) (W : World) (G : Nat) (h : W.heap[G]? = some (.cells #[.string eph, .string em, .string ⟨#[48]⟩, .string ⟨#[48]⟩] 9 (0, 0))) : Calls Try.prog 74 #[.int .i64 2, .int .u32 x, .int .u32 y, .int .u64 0, .slice (some ⟨G, 0, none⟩) 4 4] W (numA.Told W (.agg (respM x y eph em).row)) := by
  refine (with_2 (respM x y eph em) W G 0 4 (lt_of h) (fun i hi => ?_)).mono ?_
  · rcases (by omega : i = 0 ∨ i = 1 ∨ i = 2 ∨ i = 3) with rfl | rfl | rfl | rfl <;> exact cell_of h
  · rintro e w' ⟨o, rfl⟩
    exact ⟨rfl, o⟩


end Go.Proofs.Ytbjnejnjlidiaaa.noU
