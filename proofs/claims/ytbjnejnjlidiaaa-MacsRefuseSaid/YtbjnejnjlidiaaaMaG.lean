/- Macs: big, awake. -/
import Derived.Test.YtbjnejnjlidiaaaMaF
import Derived.Test.YtbjnejnjlidiaaaTsA
namespace Go.Proofs.Ytbjnejnjlidiaaa.maG
open Go.RowKit kit numA numB numC numD numE tmA tmB tmC tmD tmE trA trB prR prS prW prX tsA tsB tsF tsI wrA wrB wrC wrD wrE wrF wrG wrH wrI wrJ wrK wrL mkA maA maB maC maD maE maF
set_option linter.unusedVariables false
set_option linter.unusedSimpArgs false

def bigB (m : Msg) (ps : List Txt) : Bool := ps.any (fun p => decide (200 < p.length)) || decide (3000 < bytesM m)

set_option maxRecDepth 100000 in
set_option maxHeartbeats 1600000 in
theorem big_any (m : Msg) (ps : List Txt) (S : Nat → Prop) (a : Value) (w : World) (ha : Sl w S a (ps.map sv)) (hx : ps.length ≤ 1000000) (ht : ∀ i, (m.t i).size ≤ 140737488355328) : Calls Try.prog 77 #[mval m, a] w (numA.Told w (.bool (bigB m ps))) := by
  obtain ⟨a', n, c, rfl⟩ : ∃ a' n c, a = .slice a' n c := by obtain ⟨_, a', c, h, _⟩ := ha; exact ⟨a', _, c, h⟩
  obtain rfl := sl_len ha
  have CH := Lib.hid (fun W => (show Calls Try.prog 54 #[.agg m.row, .int .i64 3000] W _ from heavy_any m 3000 W ht))
  have HA := Lib.hid (show MsgAt (w.alloc (.cells m.row 61)) w.heap.size m from heap_alloc_new w _)
  have O := Lib.hid (show Only (fun _ => False) w (w.alloc (.cells m.row 61)) from (Only.refl _ w).alloc _)
  have HS := Lib.hid (ha.keep ((Only.refl (fun _ => False) w).alloc (.cells m.row 61)) fun _ _ h => h)
  have HX := Lib.hid hx
  obtain ⟨X, hX⟩ : ∃ X, X = w.alloc (.cells m.row 61) := ⟨_, rfl⟩
  rw [← hX] at HA O HS
  obtain ⟨A, hA⟩ : ∃ A, A = w.heap.size := ⟨_, rfl⟩
  rw [← hA] at HA
  have HXE := Lib.hid hX
  have HAE := Lib.hid hA
  simp only [Msg.row] at HXE
  unfold mval
  clear ha hx ht hX hA
  go_enter Try.func77, Try.ntmps77
  go_wp2_with fail
  rw [← HXE.out, ← HAE.out]
  have hi := info61 m
  go_loop [5] (fun i => ∃ j : Nat, i = .int .i64 j ∧ j ≤ ps.length ∧ ∀ q, q < j → (ps.getD q []).length ≤ 200) (fun i => ps.length - (Lib.intOf i).toNat)
  case atStart => exact ⟨0, rfl, Nat.zero_le _, fun _ h => by omega⟩
  case round =>
    obtain ⟨j, rfl, hj, hq⟩ := hrel
    by_cases hlt : j < ps.length
    · obtain ⟨g, o, rfl, -, -, x0⟩ := sl_get HS.out j hlt
      unfold sv at x0
      obtain ⟨p, hp⟩ : ∃ p, p = ps.getD j [] := ⟨_, rfl⟩
      rw [← hp] at x0
      have hsz : ((⟨p.toArray⟩ : ByteArray).size : Int) = (p.length : Int) := by simp [ByteArray.size]
      have k0 : (0 : Int) ≤ (j : Int) := by omega
      have k1 : (j : Int) < (ps.length : Int) := by omega
      have k1' : ((j : Int) < (ps.length : Int)) = True := eq_true k1
      have wj : wrap64 ((j : Int) + 1) = (j : Int) + 1 := IntWalk.wrap64_in _ (by have := HX.out; omega)
      have HP := Lib.hid hp
      have HJ := Lib.hid hlt
      have HQ := Lib.hid hq
      clear hp hj hlt hq
      by_cases hb : 200 < p.length
      · have b1 : ((200 : Int) < (p.length : Int)) = True := eq_true (by omega)
        have HB := Lib.hid (show bigB m ps = true from by
          rw [bigB, Bool.or_eq_true]
          left
          rw [List.any_eq_true]
          exact ⟨p, by rw [HP.out, List.getD_eq_getElem?_getD, List.getElem?_eq_getElem HJ.out]; exact List.getElem_mem _, decide_eq_true hb⟩)
        clear hb
        go_wp2_with fail
        go_ret
        exact ⟨by rw [HB.out]; rfl, O.out⟩
      · have b1 : ((200 : Int) < (p.length : Int)) = False := eq_false (by omega)
        have HB := Lib.hid hb
        clear hb
        go_wp2_with fail
        go_round
        case rel =>
          refine ⟨j + 1, by rw [wj]; rfl, HJ.out, fun q h => ?_⟩
          rcases Nat.lt_or_ge q j with h' | h'
          · exact HQ.out q h'
          · obtain rfl : q = j := by omega
            rw [← HP.out]
            exact Nat.not_lt.1 HB.out
        case measure =>
          rw [wj]
          have := HJ.out
          simp only [Lib.intOf]
          omega
    · obtain rfl : j = ps.length := by omega
      have k1 : ((ps.length : Int) < (ps.length : Int)) = False := eq_false (by omega)
      have HB := Lib.hid (show bigB m ps = decide (3000 < bytesM m) from by
        rw [bigB]
        have : ps.any (fun p => decide (200 < p.length)) = false := by
          rw [List.any_eq_false]
          intro p hp
          obtain ⟨q, hql, hqe⟩ := List.mem_iff_getElem.1 hp
          have := hq q hql
          rw [List.getD_eq_getElem?_getD, List.getElem?_eq_getElem hql, Option.getD_some, hqe] at this
          simp
          omega
        rw [this, Bool.false_or])
      clear hj hlt hq
      go_wp2_with (refine wpList_load_row rfl 61 (.tmp 2) rfl A rfl 61 m.row (0, 0) _ HA.out Try.underlying61 rfl hi ?_)
      (with_reducible refine (CH.out _).mono ?_)
      rintro e w2 ⟨rfl, o⟩
      replace O := Lib.hid (O.out.trans o)
      clear o
      go_wp2_with fail
      go_ret
      exact ⟨by rw [HB.out]; rfl, O.out⟩

theorem big_lst (m : Msg) (xs : List ByteArray) (r : Bool) (W : World) (hl : xs.length ≤ 100) (hr : bigB m (xs.map (·.data.toList)) = r) (ht : ∀ i, (m.t i).size ≤ 140737488355328) (G : Nat) (hG : W.heap.size = G) : Calls Try.prog 77 #[.agg m.row, .slice (some ⟨G, 0, none⟩) xs.length xs.length] (W.alloc (.cells (xs.map Value.string).toArray 9)) (numA.Told W (.bool r)) := by
  subst hG
  refine (big_any m (xs.map (·.data.toList)) _ _ _ (sl_strs W xs (by omega)) (by rw [List.length_map]; omega) ht).mono ?_
  rintro e w' ⟨rfl, o⟩
  exact ⟨by rw [hr], ((Only.refl _ W).alloc _).trans o⟩

theorem load61 {w : World} {g : Nat} {c : Array Value} (h : w.heap[g]? = some (.cells c 61 (0, 0))) (hi : (Try.prog.info? 61).map (·.size) = some c.size) : (Instr.loadAt 61 (.pointer (some ⟨g, 0, none⟩))).run Try.prog w = .ok (.agg c) w := by
  simp only [Instr.loadAt, Instr.sureAddr, Sem.run_bind, Sem.run_pure, Result.andThen]
  exact run_loadVar_row w g 61 61 c (0, 0) _ h Try.underlying61 rfl hi

def exM : Msg := ⟨1, 0, 0, 0, fun i => if i = 4 then ⟨#[112, 40, 97, 49, 41]⟩ else if i = 5 ∨ i = 6 ∨ i = 11 ∨ i = 12 then ⟨#[48]⟩ else ⟨#[]⟩⟩
def exB : ByteArray := ⟨(firstT exM [112, 40, 97, 50, 41]).toArray⟩
theorem ex_sz : ∀ i, (exM.t i).size ≤ 5 := by
  intro i
  by_cases h4 : i = 4
  · rw [h4]; decide
  by_cases h5 : i = 5 ∨ i = 6 ∨ i = 11 ∨ i = 12
  · simp only [exM, if_neg h4, if_pos h5]; decide
  · simp only [exM, if_neg h4, if_neg h5]; decide
theorem ex_asks : asksM exM = true := by decide +kernel
theorem ex_pub : pubB [112, 40, 97, 50, 41] = true := by decide +kernel
theorem ex_right : rightM (sumsM exM exB ⟨#[48]⟩) = true := by decide +kernel
theorem ex_first : firstB (sumsM exM exB ⟨#[48]⟩) [112, 40, 97, 50, 41] = true := by decide +kernel
theorem ex_other : firstB (sumsM exM exB ⟨#[48]⟩) [112, 40, 97, 51, 41] = false := by decide +kernel
theorem ex_bsz : exB.size ≤ 65536 := by
  have h : exB.size = (firstT exM [112, 40, 97, 50, 41]).length := by simp [exB, ByteArray.size]
  rw [h]
  exact mac_most _ _

set_option maxRecDepth 100000 in
set_option maxHeartbeats 1600000 in
theorem awake_any (w : World) : Calls Try.prog 76 #[] w (numA.Told w (.bool true)) := by
  have CS := Lib.hid (fun W => sign_e exM ⟨#[112, 40, 97, 50, 41]⟩ exB W ex_asks ex_pub rfl ex_right (fun i => Nat.le_trans (ex_sz i) (by decide)) (by decide) (by decide) (by decide))
  obtain ⟨ms, hms⟩ : ∃ ms, ms = sumsM exM exB ⟨#[48]⟩ := ⟨_, rfl⟩
  have hz : ∀ i, (ms.t i).size ≤ 10000000 := by rw [hms]; exact sums_sz (fun i => Nat.le_trans (ex_sz i) (by decide)) (Nat.le_trans ex_bsz (by decide)) (by decide)
  have C1 := Lib.hid (fun W => (first_any ms ⟨#[112, 40, 97, 50, 41]⟩ true W (by rw [hms]; exact ex_first) hz (by decide) (by rw [hms]; decide) (by rw [hms]; decide)))
  have C2 := Lib.hid (fun W => (first_any ms ⟨#[112, 40, 97, 51, 41]⟩ false W (by rw [hms]; exact ex_other) hz (by decide) (by rw [hms]; decide) (by rw [hms]; decide)))
  have h12 : ms.t 12 = ⟨#[48]⟩ := by rw [hms]; rfl
  have hi := info61 ms
  have h1 := one61 ms
  rw [← hms] at CS
  simp only [mval] at C1 C2
  rw [h12] at C1 C2
  have hz13 : (zeroM 0).row.size = ms.row.size := rfl
  have hm : mval exM = .agg #[.int .i64 1, .int .u32 0, .int .u32 0, .int .u64 0, .string ⟨#[112, 40, 97, 49, 41]⟩, .string ⟨#[48]⟩, .string ⟨#[48]⟩, .string ⟨#[]⟩, .string ⟨#[]⟩, .string ⟨#[]⟩, .string ⟨#[]⟩, .string ⟨#[48]⟩, .string ⟨#[48]⟩] := rfl
  rw [hm] at CS
  clear hz hms hm
  go_enter Try.func76, Try.ntmps76
  go_wp2_with fail
  (with_reducible refine (CS.out _).mono ?_)
  rintro e w2 ⟨rfl, o⟩
  have O := Lib.hid o
  clear o
  have HN := Lib.hid (show (w2.alloc (.cells #[.int .i64 0, .int .u32 0, .int .u32 0, .int .u64 0, .string ⟨#[]⟩, .string ⟨#[]⟩, .string ⟨#[]⟩, .string ⟨#[]⟩, .string ⟨#[]⟩, .string ⟨#[]⟩, .string ⟨#[]⟩, .string ⟨#[]⟩, .string ⟨#[]⟩] 61)).heap[w2.heap.size]? = some (.cells #[.int .i64 0, .int .u32 0, .int .u32 0, .int .u64 0, .string ⟨#[]⟩, .string ⟨#[]⟩, .string ⟨#[]⟩, .string ⟨#[]⟩, .string ⟨#[]⟩, .string ⟨#[]⟩, .string ⟨#[]⟩, .string ⟨#[]⟩, .string ⟨#[]⟩] 61 (0, 0)) from heap_alloc_new w2 _)
  go_upto_region 2 with (refine wpList_store_row rfl 61 (.tmp 1) (.tmp 6) rfl w2.heap.size ms.row rfl rfl 61 _ HN.out hi hz13 h1 ?_)
  obtain ⟨Z, hZ⟩ : ∃ Z, Z = (w2.alloc (.cells #[.int .i64 0, .int .u32 0, .int .u32 0, .int .u64 0, .string ⟨#[]⟩, .string ⟨#[]⟩, .string ⟨#[]⟩, .string ⟨#[]⟩, .string ⟨#[]⟩, .string ⟨#[]⟩, .string ⟨#[]⟩, .string ⟨#[]⟩, .string ⟨#[]⟩] 61)).setRow w2.heap.size ms.row := ⟨_, rfl⟩
  obtain ⟨G, hG⟩ : ∃ G, G = w2.heap.size := ⟨_, rfl⟩
  rw [← hZ, ← hG]
  have HC := Lib.hid (show Z.heap[G]? = some (.cells ms.row 61 (0, 0)) from by rw [hZ, hG]; exact setRow_heap _ _ _ _ _ _ HN.out)
  have oS : Only (fun _ => False) w2 Z := by rw [hZ, World.setRow_alloc_new]; exact (Only.refl _ _).alloc _
  replace O := Lib.hid (O.out.trans oS)
  clear hZ hG HN
  clear oS
  obtain ⟨d0, d1, d2, d3, d4, d5, d6, d7, d8, d9, d10, d11, d12⟩ := MsgAt.cells (show MsgAt _ G ms from HC.out)
  rw [h12] at d12
  go_wp2_with fail
  (with_reducible refine (C1.out _).mono ?_)
  rintro e w3 ⟨rfl, o⟩
  replace O := Lib.hid (O.out.trans o)
  replace HC := Lib.hid (o.keep HC.out id)
  clear o
  obtain ⟨d0, d1, d2, d3, d4, d5, d6, d7, d8, d9, d10, d11, d12⟩ := MsgAt.cells (show MsgAt _ G ms from HC.out)
  rw [h12] at d12
  go_wp2_with fail
  (with_reducible refine (C2.out _).mono ?_)
  rintro e w4 ⟨rfl, o⟩
  replace O := Lib.hid (O.out.trans o)
  clear o
  go_wp2_with fail
  go_ret
  exact ⟨rfl, O.out⟩


end Go.Proofs.Ytbjnejnjlidiaaa.maG
