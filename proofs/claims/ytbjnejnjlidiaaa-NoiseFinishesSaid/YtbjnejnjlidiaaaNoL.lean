/- Noise: comparisons, big. -/
import Derived.Test.YtbjnejnjlidiaaaNoK
namespace Go.Proofs.Ytbjnejnjlidiaaa.noL
open Go.RowKit kit numA numB numC numD numE tmA tmB tmC tmD tmE trA trB prR prS prW prX tsA tsB tsF tsI wrA wrB wrC wrD wrE wrF wrG wrH wrI wrJ mkA maA maB maC noA noB noC noD noE tsG noF noG noH noJ noK
set_option linter.unusedVariables false
set_option linter.unusedSimpArgs false

def eqSt (a0 : Int) (a1 : ByteArray) (a2 : ByteArray) (a3 : ByteArray) (b0 : Int) (b1 : ByteArray) (b2 : ByteArray) (b3 : ByteArray) : Bool := a0 == b0 && (a1.toList == b1.toList && (a2.toList == b2.toList && (a3.toList == b3.toList)))
theorem run_eqSt (a0 : Int) (a1 : ByteArray) (a2 : ByteArray) (a3 : ByteArray) (b0 : Int) (b1 : ByteArray) (b2 : ByteArray) (b3 : ByteArray) (W : World) : (Op.equalIn 10000 74 (.agg (startV a0 a1 a2 a3)) (.agg (startV b0 b1 b2 b3))).run Try.prog W = .ok (eqSt a0 a1 a2 a3 b0 b1 b2 b3) W := by
  have hf : Try.prog.underlying 74 = some (.struct (Try.prog.fieldsOf 74)) := by rw [Program.fieldsOf, Try.underlying74]
  rw [show (10000 : Nat) = 9999 + 1 from rfl, run_equalIn_agg W 9999 74 _ _ hf (by kernel_rfl)]
  clear hf
  simp only [Program.fieldsOf, Try.underlying74]
  simp [Op.eqFields, go_sem, startV]
  unfold eqSt
  by_cases h0 : a0 = b0
  case neg => first | (rw [if_neg h0]; simp [h0]) | simp [h0]
  try rw [if_pos h0]
  by_cases h1 : a1.toList = b1.toList
  case neg => first | (rw [if_neg h1]; simp [h0, h1]) | simp [h0, h1]
  try rw [if_pos h1]
  by_cases h2 : a2.toList = b2.toList
  case neg => first | (rw [if_neg h2]; simp [h0, h1, h2]) | simp [h0, h1, h2]
  try rw [if_pos h2]
  by_cases h3 : a3.toList = b3.toList
  case neg => first | (rw [if_neg h3]; simp [h0, h1, h2, h3]) | simp [h0, h1, h2, h3]
  try rw [if_pos h3]
  try simp [h0, h1, h2, h3]
theorem eql_eqSt (a0 : Int) (a1 : ByteArray) (a2 : ByteArray) (a3 : ByteArray) (b0 : Int) (b1 : ByteArray) (b2 : ByteArray) (b3 : ByteArray) (W : World) : (binOp .eql 74 (.agg (startV a0 a1 a2 a3)) (.agg (startV b0 b1 b2 b3))).run Try.prog W = .ok (.bool (eqSt a0 a1 a2 a3 b0 b1 b2 b3)) W := by
  rw [run_eql_struct, run_eqSt]
  rfl
theorem neq_eqSt (a0 : Int) (a1 : ByteArray) (a2 : ByteArray) (a3 : ByteArray) (b0 : Int) (b1 : ByteArray) (b2 : ByteArray) (b3 : ByteArray) (W : World) : (binOp .neq 74 (.agg (startV a0 a1 a2 a3)) (.agg (startV b0 b1 b2 b3))).run Try.prog W = .ok (.bool (!eqSt a0 a1 a2 a3 b0 b1 b2 b3)) W := by
  rw [run_neq_struct, run_eqSt]
  rfl
theorem eqSt_iff (a0 : Int) (a1 : ByteArray) (a2 : ByteArray) (a3 : ByteArray) (b0 : Int) (b1 : ByteArray) (b2 : ByteArray) (b3 : ByteArray) : eqSt a0 a1 a2 a3 b0 b1 b2 b3 = true ↔ a0 = b0 ∧ a1.toList = b1.toList ∧ a2.toList = b2.toList ∧ a3.toList = b3.toList := by
  unfold eqSt
  simp only [Bool.and_eq_true, beq_iff_eq]

def eqHd (a0 : Int) (a1 : ByteArray) (a2 : Int) (a3 : ByteArray) (a4 : ByteArray) (a5 : ByteArray) (b0 : Int) (b1 : ByteArray) (b2 : Int) (b3 : ByteArray) (b4 : ByteArray) (b5 : ByteArray) : Bool := a0 == b0 && (a1.toList == b1.toList && (a2 == b2 && (a3.toList == b3.toList && (a4.toList == b4.toList && (a5.toList == b5.toList)))))
theorem run_eqHd (a0 : Int) (a1 : ByteArray) (a2 : Int) (a3 : ByteArray) (a4 : ByteArray) (a5 : ByteArray) (b0 : Int) (b1 : ByteArray) (b2 : Int) (b3 : ByteArray) (b4 : ByteArray) (b5 : ByteArray) (W : World) : (Op.equalIn 10000 82 (.agg (heardV a0 a1 a2 a3 a4 a5)) (.agg (heardV b0 b1 b2 b3 b4 b5))).run Try.prog W = .ok (eqHd a0 a1 a2 a3 a4 a5 b0 b1 b2 b3 b4 b5) W := by
  have hf : Try.prog.underlying 82 = some (.struct (Try.prog.fieldsOf 82)) := by rw [Program.fieldsOf, Try.underlying82]
  rw [show (10000 : Nat) = 9999 + 1 from rfl, run_equalIn_agg W 9999 82 _ _ hf (by kernel_rfl)]
  clear hf
  simp only [Program.fieldsOf, Try.underlying82]
  simp [Op.eqFields, go_sem, heardV]
  unfold eqHd
  by_cases h0 : a0 = b0
  case neg => first | (rw [if_neg h0]; simp [h0]) | simp [h0]
  try rw [if_pos h0]
  by_cases h1 : a1.toList = b1.toList
  case neg => first | (rw [if_neg h1]; simp [h0, h1]) | simp [h0, h1]
  try rw [if_pos h1]
  by_cases h2 : a2 = b2
  case neg => first | (rw [if_neg h2]; simp [h0, h1, h2]) | simp [h0, h1, h2]
  try rw [if_pos h2]
  by_cases h3 : a3.toList = b3.toList
  case neg => first | (rw [if_neg h3]; simp [h0, h1, h2, h3]) | simp [h0, h1, h2, h3]
  try rw [if_pos h3]
  by_cases h4 : a4.toList = b4.toList
  case neg => first | (rw [if_neg h4]; simp [h0, h1, h2, h3, h4]) | simp [h0, h1, h2, h3, h4]
  try rw [if_pos h4]
  by_cases h5 : a5.toList = b5.toList
  case neg => first | (rw [if_neg h5]; simp [h0, h1, h2, h3, h4, h5]) | simp [h0, h1, h2, h3, h4, h5]
  try rw [if_pos h5]
  try simp [h0, h1, h2, h3, h4, h5]
theorem eql_eqHd (a0 : Int) (a1 : ByteArray) (a2 : Int) (a3 : ByteArray) (a4 : ByteArray) (a5 : ByteArray) (b0 : Int) (b1 : ByteArray) (b2 : Int) (b3 : ByteArray) (b4 : ByteArray) (b5 : ByteArray) (W : World) : (binOp .eql 82 (.agg (heardV a0 a1 a2 a3 a4 a5)) (.agg (heardV b0 b1 b2 b3 b4 b5))).run Try.prog W = .ok (.bool (eqHd a0 a1 a2 a3 a4 a5 b0 b1 b2 b3 b4 b5)) W := by
  rw [run_eql_struct, run_eqHd]
  rfl
theorem neq_eqHd (a0 : Int) (a1 : ByteArray) (a2 : Int) (a3 : ByteArray) (a4 : ByteArray) (a5 : ByteArray) (b0 : Int) (b1 : ByteArray) (b2 : Int) (b3 : ByteArray) (b4 : ByteArray) (b5 : ByteArray) (W : World) : (binOp .neq 82 (.agg (heardV a0 a1 a2 a3 a4 a5)) (.agg (heardV b0 b1 b2 b3 b4 b5))).run Try.prog W = .ok (.bool (!eqHd a0 a1 a2 a3 a4 a5 b0 b1 b2 b3 b4 b5)) W := by
  rw [run_neq_struct, run_eqHd]
  rfl
theorem eqHd_iff (a0 : Int) (a1 : ByteArray) (a2 : Int) (a3 : ByteArray) (a4 : ByteArray) (a5 : ByteArray) (b0 : Int) (b1 : ByteArray) (b2 : Int) (b3 : ByteArray) (b4 : ByteArray) (b5 : ByteArray) : eqHd a0 a1 a2 a3 a4 a5 b0 b1 b2 b3 b4 b5 = true ↔ a0 = b0 ∧ a1.toList = b1.toList ∧ a2 = b2 ∧ a3.toList = b3.toList ∧ a4.toList = b4.toList ∧ a5.toList = b5.toList := by
  unfold eqHd
  simp only [Bool.and_eq_true, beq_iff_eq]

def eqKy (a0 : ByteArray) (a1 : ByteArray) (b0 : ByteArray) (b1 : ByteArray) : Bool := a0.toList == b0.toList && (a1.toList == b1.toList)
theorem run_eqKy (a0 : ByteArray) (a1 : ByteArray) (b0 : ByteArray) (b1 : ByteArray) (W : World) : (Op.equalIn 10000 92 (.agg (keysV a0 a1)) (.agg (keysV b0 b1))).run Try.prog W = .ok (eqKy a0 a1 b0 b1) W := by
  have hf : Try.prog.underlying 92 = some (.struct (Try.prog.fieldsOf 92)) := by rw [Program.fieldsOf, Try.underlying92]
  rw [show (10000 : Nat) = 9999 + 1 from rfl, run_equalIn_agg W 9999 92 _ _ hf (by kernel_rfl)]
  clear hf
  simp only [Program.fieldsOf, Try.underlying92]
  simp [Op.eqFields, go_sem, keysV]
  unfold eqKy
  by_cases h0 : a0.toList = b0.toList
  case neg => first | (rw [if_neg h0]; simp [h0]) | simp [h0]
  try rw [if_pos h0]
  by_cases h1 : a1.toList = b1.toList
  case neg => first | (rw [if_neg h1]; simp [h0, h1]) | simp [h0, h1]
  try rw [if_pos h1]
  try simp [h0, h1]
theorem eql_eqKy (a0 : ByteArray) (a1 : ByteArray) (b0 : ByteArray) (b1 : ByteArray) (W : World) : (binOp .eql 92 (.agg (keysV a0 a1)) (.agg (keysV b0 b1))).run Try.prog W = .ok (.bool (eqKy a0 a1 b0 b1)) W := by
  rw [run_eql_struct, run_eqKy]
  rfl
theorem neq_eqKy (a0 : ByteArray) (a1 : ByteArray) (b0 : ByteArray) (b1 : ByteArray) (W : World) : (binOp .neq 92 (.agg (keysV a0 a1)) (.agg (keysV b0 b1))).run Try.prog W = .ok (.bool (!eqKy a0 a1 b0 b1)) W := by
  rw [run_neq_struct, run_eqKy]
  rfl
theorem eqKy_iff (a0 : ByteArray) (a1 : ByteArray) (b0 : ByteArray) (b1 : ByteArray) : eqKy a0 a1 b0 b1 = true ↔ a0.toList = b0.toList ∧ a1.toList = b1.toList := by
  unfold eqKy
  simp only [Bool.and_eq_true, beq_iff_eq]

/-- Is one of the texts over 200 bytes? -/
def bigN (ps : List Txt) : Bool := ps.any (fun p => decide (200 < p.length))

set_option maxRecDepth 100000 in
set_option maxHeartbeats 1600000 in
theorem big_any (ps : List Txt) (S : Nat → Prop) (a : Value) (w : World) (ha : Sl w S a (ps.map sv)) (hx : ps.length ≤ 1000000) : Calls Try.prog 67 #[a] w (numA.Told w (.bool (bigN ps))) := by
  obtain ⟨a', n, c, rfl⟩ : ∃ a' n c, a = .slice a' n c := by obtain ⟨_, a', c, h, _⟩ := ha; exact ⟨a', _, c, h⟩
  obtain rfl := sl_len ha
  have HS := Lib.hid ha
  have HX := Lib.hid hx
  have O := Lib.hid (Only.refl (fun _ => False) w)
  clear ha hx
  go_enter Try.func67, Try.ntmps67
  go_wp2_with fail
  go_loop [3] (fun i => ∃ j : Nat, i = .int .i64 j ∧ j ≤ ps.length ∧ ∀ q, q < j → (ps.getD q []).length ≤ 200) (fun i => ps.length - (Lib.intOf i).toNat)
  case atStart => exact ⟨0, rfl, Nat.zero_le _, fun _ h => by omega⟩
  case round =>
    obtain ⟨j, rfl, hj, hq⟩ := hrel
    by_cases hlt : j < ps.length
    · obtain ⟨g, o, rfl, -, -, x0⟩ := sl_get HS.out j hlt
      unfold sv at x0
      obtain ⟨p, hp⟩ : ∃ p, p = ps.getD j [] := ⟨_, rfl⟩
      rw [← hp] at x0
      have hsz : ((⟨p.toArray⟩ : ByteArray).size : Int) = (p.length : Int) := by simp [ByteArray.size]
      have k0 : (0 : Int) ≤ (j : Int) := by omega
      have k1 : (j : Int) < (ps.length : Int) := by omega
      have k1' : ((j : Int) < (ps.length : Int)) = True := eq_true k1
      have wj : wrap64 ((j : Int) + 1) = (j : Int) + 1 := IntWalk.wrap64_in _ (by have := HX.out; omega)
      have HP := Lib.hid hp
      have HJ := Lib.hid hlt
      have HQ := Lib.hid hq
      clear hp hj hlt hq
      by_cases hb : 200 < p.length
      · have b1 : ((200 : Int) < (p.length : Int)) = True := eq_true (by omega)
        have HB := Lib.hid (show bigN ps = true from by
          rw [bigN, List.any_eq_true]
          exact ⟨p, by rw [HP.out, List.getD_eq_getElem?_getD, List.getElem?_eq_getElem HJ.out]; exact List.getElem_mem _, decide_eq_true hb⟩)
        clear hb
        go_wp2_with fail
        go_ret
        exact ⟨by rw [HB.out]; rfl, O.out⟩
      · have b1 : ((200 : Int) < (p.length : Int)) = False := eq_false (by omega)
        have HB := Lib.hid hb
        clear hb
        go_wp2_with fail
        go_round
        case rel =>
          refine ⟨j + 1, by rw [wj]; rfl, HJ.out, fun q h => ?_⟩
          rcases Nat.lt_or_ge q j with h' | h'
          · exact HQ.out q h'
          · obtain rfl : q = j := by omega
            rw [← HP.out]
            exact Nat.not_lt.1 HB.out
        case measure =>
          rw [wj]
          have := HJ.out
          simp only [Lib.intOf]
          omega
    · obtain rfl : j = ps.length := by omega
      have k1 : ((ps.length : Int) < (ps.length : Int)) = False := eq_false (by omega)
      have HB := Lib.hid (show bigN ps = false from by
        rw [bigN, List.any_eq_false]
        intro p hp
        obtain ⟨q, hql, hqe⟩ := List.mem_iff_getElem.1 hp
        have := hq q hql
        rw [List.getD_eq_getElem?_getD, List.getElem?_eq_getElem hql, Option.getD_some, hqe] at this
        simp
        omega)
      clear hj hlt hq
      go_wp2_with fail
      go_ret
      exact ⟨by rw [HB.out]; rfl, O.out⟩

theorem big_blk (xs : List ByteArray) (r : Bool) (W : World) (hl : xs.length ≤ 100) (hr : bigN (xs.map (·.data.toList)) = r) (G : Nat) (hG : W.heap.size = G) : Calls Try.prog 67 #[.slice (some ⟨G, 0, none⟩) xs.length xs.length] (W.alloc (.cells (xs.map Value.string).toArray 9)) (numA.Told W (.bool r)) := by
  subst hG
  refine (big_any (xs.map (·.data.toList)) _ _ _ (sl_strs W xs (by omega)) (by rw [List.length_map]; omega)).mono ?_
  rintro e w' ⟨rfl, o⟩
  exact ⟨by rw [hr], ((Only.refl _ W).alloc _).trans o⟩

end Go.Proofs.Ytbjnejnjlidiaaa.noL
