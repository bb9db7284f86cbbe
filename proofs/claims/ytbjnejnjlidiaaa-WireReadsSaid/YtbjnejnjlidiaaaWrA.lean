/- Wire: what a field is. -/
import Derived.Test.YtbjnejnjlidiaaaTrA
import Derived.Test.YtbjnejnjlidiaaaNumA
import Derived.Laws.StructEq
import Derived.Laws.EntriesVeiled
import Derived.Test.YtbjnejnjlidiaaaPrS
namespace Go.Proofs.Ytbjnejnjlidiaaa.wrA
open Go.RowKit kit numA trB
set_option linter.unusedVariables false
set_option linter.unusedSimpArgs false

/-- A message: its kind, its numbers, and its texts by their places (4 to 12). -/
structure Msg where
  k : Int
  s : Int
  r : Int
  c : Int
  t : Nat → ByteArray

def Msg.row (m : Msg) : Array Value := #[.int .i64 m.k, .int .u32 m.s, .int .u32 m.r, .int .u64 m.c, .string (m.t 4), .string (m.t 5), .string (m.t 6), .string (m.t 7), .string (m.t 8), .string (m.t 9), .string (m.t 10), .string (m.t 11), .string (m.t 12)]

def MsgAt (w : World) (B : Nat) (m : Msg) : Prop := w.heap[B]? = some (.cells m.row 61 (0, 0))

theorem MsgAt.keep {w w' : World} {B : Nat} {m : Msg} {T : Nat → Prop} (h : MsgAt w B m) (o : Only T w w') (hT : ¬ T B) : MsgAt w' B m := Only.keep o h hT
theorem MsgAt.nums {w : World} {B : Nat} {m : Msg} (h : MsgAt w B m) : w.cell? ⟨B, 0, none⟩ = some (.int .i64 m.k) ∧ w.cell? ⟨B, 1, none⟩ = some (.int .u32 m.s) ∧ w.cell? ⟨B, 2, none⟩ = some (.int .u32 m.r) ∧ w.cell? ⟨B, 3, none⟩ = some (.int .u64 m.c) := ⟨cell_of h, cell_of h, cell_of h, cell_of h⟩
theorem MsgAt.text {w : World} {B : Nat} {m : Msg} (h : MsgAt w B m) {i : Nat} (h4 : 4 ≤ i) (h12 : i ≤ 12) : w.cell? ⟨B, i, none⟩ = some (.string (m.t i)) := by
  rw [cell_of h]
  have e : i = 4 ∨ i = 5 ∨ i = 6 ∨ i = 7 ∨ i = 8 ∨ i = 9 ∨ i = 10 ∨ i = 11 ∨ i = 12 := by omega
  rcases e with rfl | rfl | rfl | rfl | rfl | rfl | rfl | rfl | rfl <;> rfl
theorem MsgAt.free {w : World} {B : Nat} {m : Msg} (h : MsgAt w B m) (i : Nat) : w.frozen? ⟨B, i, none⟩ = false := free_of h

def Msg.put (m : Msg) (i : Nat) (b : ByteArray) : Msg := { m with t := fun j => if j = i then b else m.t j }

theorem MsgAt.put {w : World} {B : Nat} {m : Msg} (h : MsgAt w B m) {i : Nat} (h4 : 4 ≤ i) (h12 : i ≤ 12) (b : ByteArray) : MsgAt (w.setCell ⟨B, i, none⟩ (.string b)) B (m.put i b) := by
  have e := heap_set (o := i) (v := .string b) h
  have q : m.row.setIfInBounds i (.string b) = (m.put i b).row := by
    have e : i = 4 ∨ i = 5 ∨ i = 6 ∨ i = 7 ∨ i = 8 ∨ i = 9 ∨ i = 10 ∨ i = 11 ∨ i = 12 := by omega
    rcases e with rfl | rfl | rfl | rfl | rfl | rfl | rfl | rfl | rfl <;> simp [Msg.row, Msg.put]
  rw [q] at e
  exact e
theorem MsgAt.putS {w : World} {B : Nat} {m : Msg} (h : MsgAt w B m) (x : Int) : MsgAt (w.setCell ⟨B, 1, none⟩ (.int .u32 x)) B { m with s := x } := heap_set h
theorem MsgAt.putR {w : World} {B : Nat} {m : Msg} (h : MsgAt w B m) (x : Int) : MsgAt (w.setCell ⟨B, 2, none⟩ (.int .u32 x)) B { m with r := x } := heap_set h
theorem MsgAt.putC {w : World} {B : Nat} {m : Msg} (h : MsgAt w B m) (x : Int) : MsgAt (w.setCell ⟨B, 3, none⟩ (.int .u64 x)) B { m with c := x } := heap_set h
/-- The comparison of messages. -/
def eqM (m n : Msg) : Bool := m.k == n.k && (m.s == n.s && (m.r == n.r && (m.c == n.c && ((m.t 4).toList == (n.t 4).toList && ((m.t 5).toList == (n.t 5).toList && ((m.t 6).toList == (n.t 6).toList && ((m.t 7).toList == (n.t 7).toList && ((m.t 8).toList == (n.t 8).toList && ((m.t 9).toList == (n.t 9).toList && ((m.t 10).toList == (n.t 10).toList && ((m.t 11).toList == (n.t 11).toList && (m.t 12).toList == (n.t 12).toList)))))))))))

theorem run_eqM (m n : Msg) (W : World) : (Op.equalIn 10000 61 (.agg m.row) (.agg n.row)).run Try.prog W = .ok (eqM m n) W := by
  have hf : Try.prog.underlying 61 = some (.struct (Try.prog.fieldsOf 61)) := by rw [Program.fieldsOf, Try.underlying61]
  rw [show (10000 : Nat) = 9999 + 1 from rfl, run_equalIn_agg W 9999 61 _ _ hf (by kernel_rfl)]
  clear hf
  simp only [Program.fieldsOf, Try.underlying61]
  simp [Op.eqFields, go_sem, Msg.row]
  unfold eqM
  by_cases h0 : m.k = n.k
  case neg => rw [if_neg h0]; simp [h0]
  rw [if_pos h0]
  by_cases h1 : m.s = n.s
  case neg => rw [if_neg h1]; simp [h1]
  rw [if_pos h1]
  by_cases h2 : m.r = n.r
  case neg => rw [if_neg h2]; simp [h2]
  rw [if_pos h2]
  by_cases h3 : m.c = n.c
  case neg => rw [if_neg h3]; simp [h3]
  rw [if_pos h3]
  by_cases h4 : (m.t 4).toList = (n.t 4).toList
  case neg => rw [if_neg h4]; simp [h4]
  rw [if_pos h4]
  by_cases h5 : (m.t 5).toList = (n.t 5).toList
  case neg => rw [if_neg h5]; simp [h5]
  rw [if_pos h5]
  by_cases h6 : (m.t 6).toList = (n.t 6).toList
  case neg => rw [if_neg h6]; simp [h6]
  rw [if_pos h6]
  by_cases h7 : (m.t 7).toList = (n.t 7).toList
  case neg => rw [if_neg h7]; simp [h7]
  rw [if_pos h7]
  by_cases h8 : (m.t 8).toList = (n.t 8).toList
  case neg => rw [if_neg h8]; simp [h8]
  rw [if_pos h8]
  by_cases h9 : (m.t 9).toList = (n.t 9).toList
  case neg => rw [if_neg h9]; simp [h9]
  rw [if_pos h9]
  by_cases h10 : (m.t 10).toList = (n.t 10).toList
  case neg => rw [if_neg h10]; simp [h10]
  rw [if_pos h10]
  by_cases h11 : (m.t 11).toList = (n.t 11).toList
  case neg => rw [if_neg h11]; simp [h11]
  rw [if_pos h11]
  by_cases h12 : (m.t 12).toList = (n.t 12).toList
  case neg => rw [if_neg h12]; simp [h12]
  rw [if_pos h12]
  simp [h0, h1, h2, h3, h4, h5, h6, h7, h8, h9, h10, h11, h12]

theorem run_eqlM (m n : Msg) (W : World) : (binOp .eql 61 (.agg m.row) (.agg n.row)).run Try.prog W = .ok (.bool (eqM m n)) W := by
  rw [run_eql_struct, run_eqM]
  rfl
theorem run_neqM (m n : Msg) (W : World) : (binOp .neq 61 (.agg m.row) (.agg n.row)).run Try.prog W = .ok (.bool (!eqM m n)) W := by
  rw [run_neq_struct, run_eqM]
  rfl

/-- Which function tells the place of a text. -/
def fnT (i : Nat) : Nat := if i = 4 then 180 else if i = 11 then 181 else if i = 12 then 182 else if i = 5 then 183 else if i = 6 then 184 else if i = 7 then 185 else if i = 8 then 186 else if i = 9 then 187 else 190

theorem text4 (B : Nat) (w : World) : Calls Try.prog 180 #[.pointer (some ⟨B, 0, none⟩)] w fun e w' => e = .returned (.pointer (some ⟨B, 4, none⟩)) ∧ w = w' := by
  go_enter Try.func180, Try.ntmps180
  go_wp2_with fail
  go_ret
  exact ⟨rfl, rfl⟩
theorem text11 (B : Nat) (w : World) : Calls Try.prog 181 #[.pointer (some ⟨B, 0, none⟩)] w fun e w' => e = .returned (.pointer (some ⟨B, 11, none⟩)) ∧ w = w' := by
  go_enter Try.func181, Try.ntmps181
  go_wp2_with fail
  go_ret
  exact ⟨rfl, rfl⟩
theorem text12 (B : Nat) (w : World) : Calls Try.prog 182 #[.pointer (some ⟨B, 0, none⟩)] w fun e w' => e = .returned (.pointer (some ⟨B, 12, none⟩)) ∧ w = w' := by
  go_enter Try.func182, Try.ntmps182
  go_wp2_with fail
  go_ret
  exact ⟨rfl, rfl⟩
theorem text5 (B : Nat) (w : World) : Calls Try.prog 183 #[.pointer (some ⟨B, 0, none⟩)] w fun e w' => e = .returned (.pointer (some ⟨B, 5, none⟩)) ∧ w = w' := by
  go_enter Try.func183, Try.ntmps183
  go_wp2_with fail
  go_ret
  exact ⟨rfl, rfl⟩
theorem text6 (B : Nat) (w : World) : Calls Try.prog 184 #[.pointer (some ⟨B, 0, none⟩)] w fun e w' => e = .returned (.pointer (some ⟨B, 6, none⟩)) ∧ w = w' := by
  go_enter Try.func184, Try.ntmps184
  go_wp2_with fail
  go_ret
  exact ⟨rfl, rfl⟩
theorem text7 (B : Nat) (w : World) : Calls Try.prog 185 #[.pointer (some ⟨B, 0, none⟩)] w fun e w' => e = .returned (.pointer (some ⟨B, 7, none⟩)) ∧ w = w' := by
  go_enter Try.func185, Try.ntmps185
  go_wp2_with fail
  go_ret
  exact ⟨rfl, rfl⟩
theorem text8 (B : Nat) (w : World) : Calls Try.prog 186 #[.pointer (some ⟨B, 0, none⟩)] w fun e w' => e = .returned (.pointer (some ⟨B, 8, none⟩)) ∧ w = w' := by
  go_enter Try.func186, Try.ntmps186
  go_wp2_with fail
  go_ret
  exact ⟨rfl, rfl⟩
theorem text9 (B : Nat) (w : World) : Calls Try.prog 187 #[.pointer (some ⟨B, 0, none⟩)] w fun e w' => e = .returned (.pointer (some ⟨B, 9, none⟩)) ∧ w = w' := by
  go_enter Try.func187, Try.ntmps187
  go_wp2_with fail
  go_ret
  exact ⟨rfl, rfl⟩
theorem text10 (B : Nat) (w : World) : Calls Try.prog 190 #[.pointer (some ⟨B, 0, none⟩)] w fun e w' => e = .returned (.pointer (some ⟨B, 10, none⟩)) ∧ w = w' := by
  go_enter Try.func190, Try.ntmps190
  go_wp2_with fail
  go_ret
  exact ⟨rfl, rfl⟩

theorem text_any (i : Nat) (h4 : 4 ≤ i) (h12 : i ≤ 12) (B : Nat) (w : World) : Calls Try.prog (fnT i) #[.pointer (some ⟨B, 0, none⟩)] w fun e w' => e = .returned (.pointer (some ⟨B, i, none⟩)) ∧ w = w' := by
  have e : i = 4 ∨ i = 5 ∨ i = 6 ∨ i = 7 ∨ i = 8 ∨ i = 9 ∨ i = 10 ∨ i = 11 ∨ i = 12 := by omega
  rcases e with rfl | rfl | rfl | rfl | rfl | rfl | rfl | rfl | rfl
  · exact text4 B w
  · exact text5 B w
  · exact text6 B w
  · exact text7 B w
  · exact text8 B w
  · exact text9 B w
  · exact text10 B w
  · exact text11 B w
  · exact text12 B w

theorem at1 (B : Nat) (w : World) : Calls Try.prog 177 #[.pointer (some ⟨B, 0, none⟩)] w fun e w' => e = .returned (.pointer (some ⟨B, 1, none⟩)) ∧ w = w' := by
  go_enter Try.func177, Try.ntmps177
  go_wp2_with fail
  go_ret
  exact ⟨rfl, rfl⟩
theorem at2 (B : Nat) (w : World) : Calls Try.prog 178 #[.pointer (some ⟨B, 0, none⟩)] w fun e w' => e = .returned (.pointer (some ⟨B, 2, none⟩)) ∧ w = w' := by
  go_enter Try.func178, Try.ntmps178
  go_wp2_with fail
  go_ret
  exact ⟨rfl, rfl⟩

/-- A box with a function in it. -/
def BoxF (w : World) (X fn : Nat) : Prop := w.heap[X]? = some (.cells #[.func (.func fn) #[] #[]] 212 (0, 0))

theorem get1 (B X : Nat) (m : Msg) (w : World) (hm : MsgAt w B m) (hx : BoxF w X 177) (hs : 0 ≤ m.s ∧ m.s ≤ 4294967295) : Calls Try.prog 215 #[.pointer (some ⟨B, 0, none⟩), .pointer (some ⟨X, 0, none⟩)] w fun e w' => e = .returned (.int .u64 m.s) ∧ w = w' := by
  have c0 : w.cell? ⟨X, 0, none⟩ = some (.func (.func 177) #[] #[]) := cell_of hx
  obtain ⟨-, c1, -, -⟩ := hm.nums
  have A := Lib.hid (at1 B w)
  have b0 := hs.1
  have b1 := hs.2
  clear hm hx hs
  go_enter Try.func215, Try.ntmps215
  go_wp2_with fail
  (with_reducible refine A.out.mono ?_)
  rintro e w2 ⟨rfl, hw⟩
  obtain rfl := hw
  go_wp2_with fail
  go_ret
  exact ⟨rfl, rfl⟩
theorem get2 (B X : Nat) (m : Msg) (w : World) (hm : MsgAt w B m) (hx : BoxF w X 178) (hs : 0 ≤ m.r ∧ m.r ≤ 4294967295) : Calls Try.prog 215 #[.pointer (some ⟨B, 0, none⟩), .pointer (some ⟨X, 0, none⟩)] w fun e w' => e = .returned (.int .u64 m.r) ∧ w = w' := by
  have c0 : w.cell? ⟨X, 0, none⟩ = some (.func (.func 178) #[] #[]) := cell_of hx
  obtain ⟨-, -, c1, -⟩ := hm.nums
  have A := Lib.hid (at2 B w)
  have b0 := hs.1
  have b1 := hs.2
  clear hm hx hs
  go_enter Try.func215, Try.ntmps215
  go_wp2_with fail
  (with_reducible refine A.out.mono ?_)
  rintro e w2 ⟨rfl, hw⟩
  obtain rfl := hw
  go_wp2_with fail
  go_ret
  exact ⟨rfl, rfl⟩
theorem get3 (B : Nat) (m : Msg) (w : World) (hm : MsgAt w B m) : Calls Try.prog 188 #[.pointer (some ⟨B, 0, none⟩)] w fun e w' => e = .returned (.int .u64 m.c) ∧ w = w' := by
  obtain ⟨-, -, -, c1⟩ := hm.nums
  clear hm
  go_enter Try.func188, Try.ntmps188
  go_wp2_with fail
  go_ret
  exact ⟨rfl, rfl⟩

theorem set1 (B X : Nat) (m : Msg) (u : Int) (w : World) (hm : MsgAt w B m) (hx : BoxF w X 177) (hs : 0 ≤ u ∧ u ≤ 4294967295) : Calls Try.prog 216 #[.pointer (some ⟨B, 0, none⟩), .int .u64 u, .pointer (some ⟨X, 0, none⟩)] w fun e w' => (∃ v, e = .returned v) ∧ w' = w.setCell ⟨B, 1, none⟩ (.int .u32 u) := by
  have c0 : w.cell? ⟨X, 0, none⟩ = some (.func (.func 177) #[] #[]) := cell_of hx
  obtain ⟨-, c1, -, -⟩ := hm.nums
  have f1 := hm.free 1
  have A := Lib.hid (at1 B w)
  have b0 := hs.1
  have b1 := hs.2
  clear hm hx hs
  go_enter Try.func216, Try.ntmps216
  go_wp2_with fail
  (with_reducible refine A.out.mono ?_)
  rintro e w2 ⟨rfl, hw⟩
  obtain rfl := hw
  go_wp2_with fail
  go_end0
  exact ⟨⟨_, rfl⟩, rfl⟩
theorem set2 (B X : Nat) (m : Msg) (u : Int) (w : World) (hm : MsgAt w B m) (hx : BoxF w X 178) (hs : 0 ≤ u ∧ u ≤ 4294967295) : Calls Try.prog 216 #[.pointer (some ⟨B, 0, none⟩), .int .u64 u, .pointer (some ⟨X, 0, none⟩)] w fun e w' => (∃ v, e = .returned v) ∧ w' = w.setCell ⟨B, 2, none⟩ (.int .u32 u) := by
  have c0 : w.cell? ⟨X, 0, none⟩ = some (.func (.func 178) #[] #[]) := cell_of hx
  obtain ⟨-, -, c1, -⟩ := hm.nums
  have f1 := hm.free 2
  have A := Lib.hid (at2 B w)
  have b0 := hs.1
  have b1 := hs.2
  clear hm hx hs
  go_enter Try.func216, Try.ntmps216
  go_wp2_with fail
  (with_reducible refine A.out.mono ?_)
  rintro e w2 ⟨rfl, hw⟩
  obtain rfl := hw
  go_wp2_with fail
  go_end0
  exact ⟨⟨_, rfl⟩, rfl⟩
theorem set3 (B : Nat) (m : Msg) (u : Int) (w : World) (hm : MsgAt w B m) : Calls Try.prog 189 #[.pointer (some ⟨B, 0, none⟩), .int .u64 u] w fun e w' => (∃ v, e = .returned v) ∧ w' = w.setCell ⟨B, 3, none⟩ (.int .u64 u) := by
  obtain ⟨-, -, -, c1⟩ := hm.nums
  have f1 := hm.free 3
  clear hm
  go_enter Try.func189, Try.ntmps189
  go_wp2_with fail
  go_end0
  exact ⟨⟨_, rfl⟩, rfl⟩

theorem word_any (fn : Nat) (w : World) : Calls Try.prog 179 #[.func (.func fn) #[] #[]] w fun e w' => Only (fun _ => False) w w' ∧ e = .returned (.agg #[.int .i64 0, .nilFunc, .nilFunc, .func (.func fn) #[] #[]]) := by
  have hb := heap_alloc_new w (.cells #[.int .i64 0, .nilFunc, .nilFunc, .func (.func fn) #[] #[]] 155)
  go_enter Try.func179, Try.ntmps179
  go_wp2_with fail
  exact bodyPost_ret (results_cell_row (p := 2) (ty := 155) Try.results179 _ _ w.heap.size 155 _ (0, 0) _ rfl hb Try.underlying155 rfl (by kernel_rfl)) rfl ⟨(Only.refl _ w).alloc _, rfl⟩

theorem place_any (fn : Nat) (w : World) : Calls Try.prog 176 #[.func (.func fn) #[] #[]] w fun e w' => Only (fun _ => False) w w' ∧ ∃ X, e = .returned (.agg #[.int .i64 4, .func (.func 215) #[] #[.pointer (some ⟨X, 0, none⟩)], .func (.func 216) #[] #[.pointer (some ⟨X, 0, none⟩)], .nilFunc]) ∧ BoxF w' X fn := by
  have hmf : ∀ (fn : Fn) (first cap : Array Value) (w : World), (Instr.makeFunc fn first cap).run Try.prog w = .ok (.func fn first cap) w := fun _ _ _ _ => rfl
  have hb := heap_alloc_new (w.alloc (.cells #[.func (.func fn) #[] #[]] 212)) (.cells #[.int .i64 4, .func (.func 215) #[] #[.pointer (some ⟨w.heap.size, 0, none⟩)], .func (.func 216) #[] #[.pointer (some ⟨w.heap.size, 0, none⟩)], .nilFunc] 155)
  rw [World.size_alloc] at hb
  have hx := heap_alloc_new w (.cells #[.func (.func fn) #[] #[]] 212)
  have HX := Lib.hid (show BoxF ((w.alloc (.cells #[.func (.func fn) #[] #[]] 212)).alloc (.cells #[.int .i64 4, .func (.func 215) #[] #[.pointer (some ⟨w.heap.size, 0, none⟩)], .func (.func 216) #[] #[.pointer (some ⟨w.heap.size, 0, none⟩)], .nilFunc] 155)) w.heap.size fn from (Below.heap_alloc _ _ _ (by rw [World.size_alloc]; omega)).trans hx)
  clear hx
  go_enter Try.func176, Try.ntmps176
  go_wp2_with fail
  exact bodyPost_ret (results_cell_row (p := 2) (ty := 155) Try.results176 _ _ (w.heap.size + 1) 155 _ (0, 0) _ rfl hb Try.underlying155 rfl (by kernel_rfl)) rfl ⟨((Only.refl _ w).alloc _).alloc _, _, rfl, HX.out⟩
end Go.Proofs.Ytbjnejnjlidiaaa.wrA
namespace Go.Proofs.Ytbjnejnjlidiaaa.wrB
open Go.RowKit kit numA trB wrA
set_option linter.unusedVariables false
set_option linter.unusedSimpArgs false

/-- A field: a text, a number of four bytes, or the counter. -/
inductive Fl
  | t (i : Nat)
  | n (i : Nat)
  | c
deriving DecidableEq

def fnN (i : Nat) : Nat := if i = 1 then 177 else 178

def fcells (f : Fl) (b : Nat) : List Value := match f with
  | .t i => [.int .i64 0, .nilFunc, .nilFunc, .func (.func (fnT i)) #[] #[]]
  | .n _ => [.int .i64 4, .func (.func 215) #[] #[.pointer (some ⟨b, 0, none⟩)], .func (.func 216) #[] #[.pointer (some ⟨b, 0, none⟩)], .nilFunc]
  | .c => [.int .i64 8, .func (.func 188) #[] #[], .func (.func 189) #[] #[], .nilFunc]

def rowOf (k : Int) : List Fl := if k = 1 then [.n 1, .t 4, .t 5, .t 6, .t 11, .t 12] else if k = 2 then [.n 1, .n 2, .t 4, .t 7, .t 11, .t 12] else if k = 3 then [.n 2, .t 8, .t 9] else if k = 4 then [.n 2, .c, .t 10] else []

/-- A field's value: what its four cells hold, and its box. -/
def Fld (w : World) (g o : Nat) (f : Fl) : Prop := ∃ b, (w.cell? ⟨g, o, none⟩ = some ((fcells f b).getD 0 undef) ∧ w.cell? ⟨g, o + 1, none⟩ = some ((fcells f b).getD 1 undef) ∧ w.cell? ⟨g, o + 2, none⟩ = some ((fcells f b).getD 2 undef) ∧ w.cell? ⟨g, o + 3, none⟩ = some ((fcells f b).getD 3 undef)) ∧ ∀ i, f = .n i → BoxF w b (fnN i)

def RowV (w : World) (v : Value) (fs : List Fl) : Prop := (fs = [] ∧ ∃ c, v = .slice none 0 c) ∨ ∃ g o cap, v = .slice (some ⟨g, o, none⟩) fs.length cap ∧ fs.length ≤ cap ∧ cap ≤ 1000 ∧ g < w.heap.size ∧ ∀ i f, fs[i]? = some f → Fld w g (o + i * 4) f

theorem BoxF.keep {w w' : World} {X fn : Nat} (h : BoxF w X fn) (o : Only (fun _ => False) w w') : BoxF w' X fn := Only.keep o h id

theorem Fld.keepT {w w' : World} {g o : Nat} {f : Fl} {T : Nat → Prop} (h : Fld w g o f) (hg : g < w.heap.size) (hT : ¬ T g) (k : Only T w w') (hB : ∀ b i, BoxF w b (fnN i) → ¬ T b) : Fld w' g o f := by
  obtain ⟨b, ⟨h0, h1, h2, h3⟩, hb⟩ := h
  have e := k.block g hg hT
  exact ⟨b, ⟨(World.cell?_of_block (w := w) (a := ⟨g, o, none⟩) e).trans h0, (World.cell?_of_block (w := w) (a := ⟨g, o + 1, none⟩) e).trans h1, (World.cell?_of_block (w := w) (a := ⟨g, o + 2, none⟩) e).trans h2, (World.cell?_of_block (w := w) (a := ⟨g, o + 3, none⟩) e).trans h3⟩, fun i q => Only.keep k (hb i q) (hB b i (hb i q))⟩

theorem RowV.keep {w w' : World} {v : Value} {fs : List Fl} (h : RowV w v fs) (k : Only (fun _ => False) w w') : RowV w' v fs := by
  rcases h with h | ⟨g, o, cap, hv, hc, hm, hg, hf⟩
  · exact .inl h
  · exact .inr ⟨g, o, cap, hv, hc, hm, Nat.lt_of_lt_of_le hg k.size, fun i f e => (hf i f e).keepT hg id k fun _ _ _ => id⟩

theorem RowV.len {w : World} {v : Value} {fs : List Fl} (h : RowV w v fs) : ∃ a c, v = .slice a fs.length c := by
  rcases h with ⟨rfl, c, rfl⟩ | ⟨g, o, cap, hv, _⟩
  · exact ⟨none, c, rfl⟩
  · exact ⟨_, cap, hv⟩

def RowP (w : World) (fs : List Fl) (e : Ending) (w' : World) : Prop := Only (fun _ => False) w w' ∧ ∃ v, e = .returned v ∧ RowV w' v fs

/-- What has been made so far: boxes of fields, boxes of functions. -/
structure Mk (w W : World) (L : List (Nat × Array Value)) (X : List (Nat × Nat)) : Prop where
  only : Only (fun _ => False) w W
  box : ∀ p ∈ L, W.heap[p.1]? = some (.cells p.2 155 (0, 0))
  fn : ∀ p ∈ X, BoxF W p.1 p.2

theorem Mk.zero (w : World) : Mk w w [] [] := ⟨Only.refl _ w, by simp, by simp⟩
theorem Mk.call {w W W' : World} {L : List (Nat × Array Value)} {X : List (Nat × Nat)} (h : Mk w W L X) (o : Only (fun _ => False) W W') : Mk w W' L X := ⟨h.only.trans o, fun p hp => o.keep (h.box p hp) id, fun p hp => BoxF.keep (h.fn p hp) o⟩
theorem Mk.more {w W : World} {L : List (Nat × Array Value)} {X : List (Nat × Nat)} {a b : Nat} (h : Mk w W L X) (hx : BoxF W a b) : Mk w W L ((a, b) :: X) := ⟨h.only, h.box, fun p hp => by
  rcases List.mem_cons.1 hp with rfl | hp
  · exact hx
  · exact h.fn p hp⟩
theorem Mk.put {w W : World} {L : List (Nat × Array Value)} {X : List (Nat × Nat)} (h : Mk w W L X) (c : Array Value) : Mk w (W.alloc (.cells c 155)) ((W.heap.size, c) :: L) X := by
  have o : Only (fun _ => False) W (W.alloc (.cells c 155)) := (Only.refl _ W).alloc _
  refine ⟨h.only.trans o, fun p hp => ?_, fun p hp => BoxF.keep (h.fn p hp) o⟩
  rcases List.mem_cons.1 hp with rfl | hp
  · exact heap_alloc_new W _
  · exact o.keep (h.box p hp) id

theorem box4 {W : World} {B : Nat} {a b c d : Value} (h : W.heap[B]? = some (.cells #[a, b, c, d] 155 (0, 0))) : B < W.heap.size ∧ W.cell? ⟨B, 0, none⟩ = some a ∧ W.cell? ⟨B, 1, none⟩ = some b ∧ W.cell? ⟨B, 2, none⟩ = some c ∧ W.cell? ⟨B, 3, none⟩ = some d := ⟨lt_of h, cell_of h, cell_of h, cell_of h, cell_of h⟩

set_option maxRecDepth 100000 in
set_option maxHeartbeats 2000000 in
theorem row1 (w : World) : Calls Try.prog 121 #[.int .i64 1] w (RowP w [Fl.n 1, Fl.t 4, Fl.t 5, Fl.t 6, Fl.t 11, Fl.t 12]) := by
  have H0 := Lib.hid (Mk.zero w)
  go_enter Try.func121, Try.ntmps121
  go_wp2_with fail
  (with_reducible refine (place_any 177 _).mono ?_)
  rintro e p0 ⟨o, X0, rfl, hx⟩
  have H1 := Lib.hid ((H0.out.call o).more hx)
  clear o hx
  have G1 := Lib.hid (H1.out.put #[.int .i64 4, .func (.func 215) #[] #[.pointer (some ⟨X0, 0, none⟩)], .func (.func 216) #[] #[.pointer (some ⟨X0, 0, none⟩)], .nilFunc])
  go_wp2_with fail
  (with_reducible refine (place_any 178 _).mono ?_)
  rintro e p1 ⟨o, X1, rfl, hx⟩
  have H2 := Lib.hid ((G1.out.call o).more hx)
  clear o hx
  have G2 := Lib.hid (H2.out.put #[.int .i64 4, .func (.func 215) #[] #[.pointer (some ⟨X1, 0, none⟩)], .func (.func 216) #[] #[.pointer (some ⟨X1, 0, none⟩)], .nilFunc])
  go_wp2_with fail
  (with_reducible refine (word_any 180 _).mono ?_)
  rintro e p2 ⟨o, rfl⟩
  have H3 := Lib.hid (G2.out.call o)
  clear o
  have G3 := Lib.hid (H3.out.put #[.int .i64 0, .nilFunc, .nilFunc, .func (.func 180) #[] #[]])
  go_wp2_with fail
  (with_reducible refine (word_any 181 _).mono ?_)
  rintro e p3 ⟨o, rfl⟩
  have H4 := Lib.hid (G3.out.call o)
  clear o
  have G4 := Lib.hid (H4.out.put #[.int .i64 0, .nilFunc, .nilFunc, .func (.func 181) #[] #[]])
  go_wp2_with fail
  (with_reducible refine (word_any 182 _).mono ?_)
  rintro e p4 ⟨o, rfl⟩
  have H5 := Lib.hid (G4.out.call o)
  clear o
  have G5 := Lib.hid (H5.out.put #[.int .i64 0, .nilFunc, .nilFunc, .func (.func 182) #[] #[]])
  go_wp2_with fail
  (with_reducible refine (word_any 183 _).mono ?_)
  rintro e p5 ⟨o, rfl⟩
  have H6 := Lib.hid (G5.out.call o)
  clear o
  have G6 := Lib.hid (H6.out.put #[.int .i64 0, .nilFunc, .nilFunc, .func (.func 183) #[] #[]])
  go_wp2_with fail
  (with_reducible refine (word_any 184 _).mono ?_)
  rintro e p6 ⟨o, rfl⟩
  have H7 := Lib.hid (G6.out.call o)
  clear o
  obtain ⟨b5, x50, x51, x52, x53⟩ := box4 (H7.out.box _ (List.mem_cons_self))
  obtain ⟨b4, x40, x41, x42, x43⟩ := box4 (H7.out.box _ (List.mem_cons_of_mem _ List.mem_cons_self))
  obtain ⟨b3, x30, x31, x32, x33⟩ := box4 (H7.out.box _ (List.mem_cons_of_mem _ (List.mem_cons_of_mem _ List.mem_cons_self)))
  obtain ⟨b2, x20, x21, x22, x23⟩ := box4 (H7.out.box _ (List.mem_cons_of_mem _ (List.mem_cons_of_mem _ (List.mem_cons_of_mem _ List.mem_cons_self))))
  obtain ⟨b1, x10, x11, x12, x13⟩ := box4 (H7.out.box _ (List.mem_cons_of_mem _ (List.mem_cons_of_mem _ (List.mem_cons_of_mem _ (List.mem_cons_of_mem _ List.mem_cons_self)))))
  obtain ⟨b0, x00, x01, x02, x03⟩ := box4 (H7.out.box _ (List.mem_cons_of_mem _ (List.mem_cons_of_mem _ (List.mem_cons_of_mem _ (List.mem_cons_of_mem _ (List.mem_cons_of_mem _ List.mem_cons_self))))))
  go_wp2_with fail
  go_ret
  have hb := heap_alloc_new (p6.alloc (.cells #[.int .i64 0, .nilFunc, .nilFunc, .func (.func 184) #[] #[]] 155)) (.cells #[.int .i64 4, .func (.func 215) #[] #[.pointer (some ⟨X0, 0, none⟩)], .func (.func 216) #[] #[.pointer (some ⟨X0, 0, none⟩)], .nilFunc, .int .i64 0, .nilFunc, .nilFunc, .func (.func 180) #[] #[], .int .i64 0, .nilFunc, .nilFunc, .func (.func 183) #[] #[], .int .i64 0, .nilFunc, .nilFunc, .func (.func 184) #[] #[], .int .i64 0, .nilFunc, .nilFunc, .func (.func 181) #[] #[], .int .i64 0, .nilFunc, .nilFunc, .func (.func 182) #[] #[]] 155)
  rw [World.size_alloc] at hb
  have oo : Only (fun _ => False) p6 ((p6.alloc (.cells #[.int .i64 0, .nilFunc, .nilFunc, .func (.func 184) #[] #[]] 155)).alloc (.cells #[.int .i64 4, .func (.func 215) #[] #[.pointer (some ⟨X0, 0, none⟩)], .func (.func 216) #[] #[.pointer (some ⟨X0, 0, none⟩)], .nilFunc, .int .i64 0, .nilFunc, .nilFunc, .func (.func 180) #[] #[], .int .i64 0, .nilFunc, .nilFunc, .func (.func 183) #[] #[], .int .i64 0, .nilFunc, .nilFunc, .func (.func 184) #[] #[], .int .i64 0, .nilFunc, .nilFunc, .func (.func 181) #[] #[], .int .i64 0, .nilFunc, .nilFunc, .func (.func 182) #[] #[]] 155)) := ((Only.refl _ p6).alloc _).alloc _
  refine ⟨H7.out.only.trans oo, _, rfl, .inr ⟨p6.heap.size + 1, 0, 6, rfl, by decide, by decide, by simp, fun i f hf => ?_⟩⟩
  have hi : i < 6 := by have := (List.getElem?_eq_some_iff.1 hf).1; simpa using this
  rcases (by omega : i = 0 ∨ i = 1 ∨ i = 2 ∨ i = 3 ∨ i = 4 ∨ i = 5) with rfl | rfl | rfl | rfl | rfl | rfl
  · obtain rfl : Fl.n 1 = f := by simpa using hf
    exact ⟨X0, ⟨cell_of hb, cell_of hb, cell_of hb, cell_of hb⟩, fun j q => by cases q; exact BoxF.keep (H7.out.fn _ (List.mem_cons_of_mem _ List.mem_cons_self)) oo⟩
  · obtain rfl : Fl.t 4 = f := by simpa using hf
    exact ⟨0, ⟨cell_of hb, cell_of hb, cell_of hb, cell_of hb⟩, fun j q => by cases q⟩
  · obtain rfl : Fl.t 5 = f := by simpa using hf
    exact ⟨0, ⟨cell_of hb, cell_of hb, cell_of hb, cell_of hb⟩, fun j q => by cases q⟩
  · obtain rfl : Fl.t 6 = f := by simpa using hf
    exact ⟨0, ⟨cell_of hb, cell_of hb, cell_of hb, cell_of hb⟩, fun j q => by cases q⟩
  · obtain rfl : Fl.t 11 = f := by simpa using hf
    exact ⟨0, ⟨cell_of hb, cell_of hb, cell_of hb, cell_of hb⟩, fun j q => by cases q⟩
  · obtain rfl : Fl.t 12 = f := by simpa using hf
    exact ⟨0, ⟨cell_of hb, cell_of hb, cell_of hb, cell_of hb⟩, fun j q => by cases q⟩

set_option maxRecDepth 100000 in
set_option maxHeartbeats 2000000 in
theorem row2 (w : World) : Calls Try.prog 121 #[.int .i64 2] w (RowP w [Fl.n 1, Fl.n 2, Fl.t 4, Fl.t 7, Fl.t 11, Fl.t 12]) := by
  have H0 := Lib.hid (Mk.zero w)
  go_enter Try.func121, Try.ntmps121
  go_wp2_with fail
  (with_reducible refine (place_any 177 _).mono ?_)
  rintro e p0 ⟨o, X0, rfl, hx⟩
  have H1 := Lib.hid ((H0.out.call o).more hx)
  clear o hx
  have G1 := Lib.hid (H1.out.put #[.int .i64 4, .func (.func 215) #[] #[.pointer (some ⟨X0, 0, none⟩)], .func (.func 216) #[] #[.pointer (some ⟨X0, 0, none⟩)], .nilFunc])
  go_wp2_with fail
  (with_reducible refine (place_any 178 _).mono ?_)
  rintro e p1 ⟨o, X1, rfl, hx⟩
  have H2 := Lib.hid ((G1.out.call o).more hx)
  clear o hx
  have G2 := Lib.hid (H2.out.put #[.int .i64 4, .func (.func 215) #[] #[.pointer (some ⟨X1, 0, none⟩)], .func (.func 216) #[] #[.pointer (some ⟨X1, 0, none⟩)], .nilFunc])
  go_wp2_with fail
  (with_reducible refine (word_any 180 _).mono ?_)
  rintro e p2 ⟨o, rfl⟩
  have H3 := Lib.hid (G2.out.call o)
  clear o
  have G3 := Lib.hid (H3.out.put #[.int .i64 0, .nilFunc, .nilFunc, .func (.func 180) #[] #[]])
  go_wp2_with fail
  (with_reducible refine (word_any 181 _).mono ?_)
  rintro e p3 ⟨o, rfl⟩
  have H4 := Lib.hid (G3.out.call o)
  clear o
  have G4 := Lib.hid (H4.out.put #[.int .i64 0, .nilFunc, .nilFunc, .func (.func 181) #[] #[]])
  go_wp2_with fail
  (with_reducible refine (word_any 182 _).mono ?_)
  rintro e p4 ⟨o, rfl⟩
  have H5 := Lib.hid (G4.out.call o)
  clear o
  have G5 := Lib.hid (H5.out.put #[.int .i64 0, .nilFunc, .nilFunc, .func (.func 182) #[] #[]])
  go_wp2_with fail
  (with_reducible refine (word_any 185 _).mono ?_)
  rintro e p5 ⟨o, rfl⟩
  have H6 := Lib.hid (G5.out.call o)
  clear o
  obtain ⟨b4, x40, x41, x42, x43⟩ := box4 (H6.out.box _ (List.mem_cons_self))
  obtain ⟨b3, x30, x31, x32, x33⟩ := box4 (H6.out.box _ (List.mem_cons_of_mem _ List.mem_cons_self))
  obtain ⟨b2, x20, x21, x22, x23⟩ := box4 (H6.out.box _ (List.mem_cons_of_mem _ (List.mem_cons_of_mem _ List.mem_cons_self)))
  obtain ⟨b1, x10, x11, x12, x13⟩ := box4 (H6.out.box _ (List.mem_cons_of_mem _ (List.mem_cons_of_mem _ (List.mem_cons_of_mem _ List.mem_cons_self))))
  obtain ⟨b0, x00, x01, x02, x03⟩ := box4 (H6.out.box _ (List.mem_cons_of_mem _ (List.mem_cons_of_mem _ (List.mem_cons_of_mem _ (List.mem_cons_of_mem _ List.mem_cons_self)))))
  go_wp2_with fail
  go_ret
  have hb := heap_alloc_new (p5.alloc (.cells #[.int .i64 0, .nilFunc, .nilFunc, .func (.func 185) #[] #[]] 155)) (.cells #[.int .i64 4, .func (.func 215) #[] #[.pointer (some ⟨X0, 0, none⟩)], .func (.func 216) #[] #[.pointer (some ⟨X0, 0, none⟩)], .nilFunc, .int .i64 4, .func (.func 215) #[] #[.pointer (some ⟨X1, 0, none⟩)], .func (.func 216) #[] #[.pointer (some ⟨X1, 0, none⟩)], .nilFunc, .int .i64 0, .nilFunc, .nilFunc, .func (.func 180) #[] #[], .int .i64 0, .nilFunc, .nilFunc, .func (.func 185) #[] #[], .int .i64 0, .nilFunc, .nilFunc, .func (.func 181) #[] #[], .int .i64 0, .nilFunc, .nilFunc, .func (.func 182) #[] #[]] 155)
  rw [World.size_alloc] at hb
  have oo : Only (fun _ => False) p5 ((p5.alloc (.cells #[.int .i64 0, .nilFunc, .nilFunc, .func (.func 185) #[] #[]] 155)).alloc (.cells #[.int .i64 4, .func (.func 215) #[] #[.pointer (some ⟨X0, 0, none⟩)], .func (.func 216) #[] #[.pointer (some ⟨X0, 0, none⟩)], .nilFunc, .int .i64 4, .func (.func 215) #[] #[.pointer (some ⟨X1, 0, none⟩)], .func (.func 216) #[] #[.pointer (some ⟨X1, 0, none⟩)], .nilFunc, .int .i64 0, .nilFunc, .nilFunc, .func (.func 180) #[] #[], .int .i64 0, .nilFunc, .nilFunc, .func (.func 185) #[] #[], .int .i64 0, .nilFunc, .nilFunc, .func (.func 181) #[] #[], .int .i64 0, .nilFunc, .nilFunc, .func (.func 182) #[] #[]] 155)) := ((Only.refl _ p5).alloc _).alloc _
  refine ⟨H6.out.only.trans oo, _, rfl, .inr ⟨p5.heap.size + 1, 0, 6, rfl, by decide, by decide, by simp, fun i f hf => ?_⟩⟩
  have hi : i < 6 := by have := (List.getElem?_eq_some_iff.1 hf).1; simpa using this
  rcases (by omega : i = 0 ∨ i = 1 ∨ i = 2 ∨ i = 3 ∨ i = 4 ∨ i = 5) with rfl | rfl | rfl | rfl | rfl | rfl
  · obtain rfl : Fl.n 1 = f := by simpa using hf
    exact ⟨X0, ⟨cell_of hb, cell_of hb, cell_of hb, cell_of hb⟩, fun j q => by cases q; exact BoxF.keep (H6.out.fn _ (List.mem_cons_of_mem _ List.mem_cons_self)) oo⟩
  · obtain rfl : Fl.n 2 = f := by simpa using hf
    exact ⟨X1, ⟨cell_of hb, cell_of hb, cell_of hb, cell_of hb⟩, fun j q => by cases q; exact BoxF.keep (H6.out.fn _ (List.mem_cons_self)) oo⟩
  · obtain rfl : Fl.t 4 = f := by simpa using hf
    exact ⟨0, ⟨cell_of hb, cell_of hb, cell_of hb, cell_of hb⟩, fun j q => by cases q⟩
  · obtain rfl : Fl.t 7 = f := by simpa using hf
    exact ⟨0, ⟨cell_of hb, cell_of hb, cell_of hb, cell_of hb⟩, fun j q => by cases q⟩
  · obtain rfl : Fl.t 11 = f := by simpa using hf
    exact ⟨0, ⟨cell_of hb, cell_of hb, cell_of hb, cell_of hb⟩, fun j q => by cases q⟩
  · obtain rfl : Fl.t 12 = f := by simpa using hf
    exact ⟨0, ⟨cell_of hb, cell_of hb, cell_of hb, cell_of hb⟩, fun j q => by cases q⟩

set_option maxRecDepth 100000 in
set_option maxHeartbeats 2000000 in
theorem row3 (w : World) : Calls Try.prog 121 #[.int .i64 3] w (RowP w [Fl.n 2, Fl.t 8, Fl.t 9]) := by
  have H0 := Lib.hid (Mk.zero w)
  go_enter Try.func121, Try.ntmps121
  go_wp2_with fail
  (with_reducible refine (place_any 177 _).mono ?_)
  rintro e p0 ⟨o, X0, rfl, hx⟩
  have H1 := Lib.hid ((H0.out.call o).more hx)
  clear o hx
  have G1 := Lib.hid (H1.out.put #[.int .i64 4, .func (.func 215) #[] #[.pointer (some ⟨X0, 0, none⟩)], .func (.func 216) #[] #[.pointer (some ⟨X0, 0, none⟩)], .nilFunc])
  go_wp2_with fail
  (with_reducible refine (place_any 178 _).mono ?_)
  rintro e p1 ⟨o, X1, rfl, hx⟩
  have H2 := Lib.hid ((G1.out.call o).more hx)
  clear o hx
  have G2 := Lib.hid (H2.out.put #[.int .i64 4, .func (.func 215) #[] #[.pointer (some ⟨X1, 0, none⟩)], .func (.func 216) #[] #[.pointer (some ⟨X1, 0, none⟩)], .nilFunc])
  go_wp2_with fail
  (with_reducible refine (word_any 180 _).mono ?_)
  rintro e p2 ⟨o, rfl⟩
  have H3 := Lib.hid (G2.out.call o)
  clear o
  have G3 := Lib.hid (H3.out.put #[.int .i64 0, .nilFunc, .nilFunc, .func (.func 180) #[] #[]])
  go_wp2_with fail
  (with_reducible refine (word_any 181 _).mono ?_)
  rintro e p3 ⟨o, rfl⟩
  have H4 := Lib.hid (G3.out.call o)
  clear o
  have G4 := Lib.hid (H4.out.put #[.int .i64 0, .nilFunc, .nilFunc, .func (.func 181) #[] #[]])
  go_wp2_with fail
  (with_reducible refine (word_any 182 _).mono ?_)
  rintro e p4 ⟨o, rfl⟩
  have H5 := Lib.hid (G4.out.call o)
  clear o
  have G5 := Lib.hid (H5.out.put #[.int .i64 0, .nilFunc, .nilFunc, .func (.func 182) #[] #[]])
  go_wp2_with fail
  (with_reducible refine (word_any 186 _).mono ?_)
  rintro e p5 ⟨o, rfl⟩
  have H6 := Lib.hid (G5.out.call o)
  clear o
  have G6 := Lib.hid (H6.out.put #[.int .i64 0, .nilFunc, .nilFunc, .func (.func 186) #[] #[]])
  go_wp2_with fail
  (with_reducible refine (word_any 187 _).mono ?_)
  rintro e p6 ⟨o, rfl⟩
  have H7 := Lib.hid (G6.out.call o)
  clear o
  obtain ⟨b5, x50, x51, x52, x53⟩ := box4 (H7.out.box _ (List.mem_cons_self))
  obtain ⟨b4, x40, x41, x42, x43⟩ := box4 (H7.out.box _ (List.mem_cons_of_mem _ List.mem_cons_self))
  obtain ⟨b3, x30, x31, x32, x33⟩ := box4 (H7.out.box _ (List.mem_cons_of_mem _ (List.mem_cons_of_mem _ List.mem_cons_self)))
  obtain ⟨b2, x20, x21, x22, x23⟩ := box4 (H7.out.box _ (List.mem_cons_of_mem _ (List.mem_cons_of_mem _ (List.mem_cons_of_mem _ List.mem_cons_self))))
  obtain ⟨b1, x10, x11, x12, x13⟩ := box4 (H7.out.box _ (List.mem_cons_of_mem _ (List.mem_cons_of_mem _ (List.mem_cons_of_mem _ (List.mem_cons_of_mem _ List.mem_cons_self)))))
  obtain ⟨b0, x00, x01, x02, x03⟩ := box4 (H7.out.box _ (List.mem_cons_of_mem _ (List.mem_cons_of_mem _ (List.mem_cons_of_mem _ (List.mem_cons_of_mem _ (List.mem_cons_of_mem _ List.mem_cons_self))))))
  go_wp2_with fail
  go_ret
  have hb := heap_alloc_new (p6.alloc (.cells #[.int .i64 0, .nilFunc, .nilFunc, .func (.func 187) #[] #[]] 155)) (.cells #[.int .i64 4, .func (.func 215) #[] #[.pointer (some ⟨X1, 0, none⟩)], .func (.func 216) #[] #[.pointer (some ⟨X1, 0, none⟩)], .nilFunc, .int .i64 0, .nilFunc, .nilFunc, .func (.func 186) #[] #[], .int .i64 0, .nilFunc, .nilFunc, .func (.func 187) #[] #[]] 155)
  rw [World.size_alloc] at hb
  have oo : Only (fun _ => False) p6 ((p6.alloc (.cells #[.int .i64 0, .nilFunc, .nilFunc, .func (.func 187) #[] #[]] 155)).alloc (.cells #[.int .i64 4, .func (.func 215) #[] #[.pointer (some ⟨X1, 0, none⟩)], .func (.func 216) #[] #[.pointer (some ⟨X1, 0, none⟩)], .nilFunc, .int .i64 0, .nilFunc, .nilFunc, .func (.func 186) #[] #[], .int .i64 0, .nilFunc, .nilFunc, .func (.func 187) #[] #[]] 155)) := ((Only.refl _ p6).alloc _).alloc _
  refine ⟨H7.out.only.trans oo, _, rfl, .inr ⟨p6.heap.size + 1, 0, 3, rfl, by decide, by decide, by simp, fun i f hf => ?_⟩⟩
  have hi : i < 3 := by have := (List.getElem?_eq_some_iff.1 hf).1; simpa using this
  rcases (by omega : i = 0 ∨ i = 1 ∨ i = 2) with rfl | rfl | rfl
  · obtain rfl : Fl.n 2 = f := by simpa using hf
    exact ⟨X1, ⟨cell_of hb, cell_of hb, cell_of hb, cell_of hb⟩, fun j q => by cases q; exact BoxF.keep (H7.out.fn _ (List.mem_cons_self)) oo⟩
  · obtain rfl : Fl.t 8 = f := by simpa using hf
    exact ⟨0, ⟨cell_of hb, cell_of hb, cell_of hb, cell_of hb⟩, fun j q => by cases q⟩
  · obtain rfl : Fl.t 9 = f := by simpa using hf
    exact ⟨0, ⟨cell_of hb, cell_of hb, cell_of hb, cell_of hb⟩, fun j q => by cases q⟩

set_option maxRecDepth 100000 in
set_option maxHeartbeats 2000000 in
theorem row4 (w : World) : Calls Try.prog 121 #[.int .i64 4] w (RowP w [Fl.n 2, Fl.c, Fl.t 10]) := by
  have H0 := Lib.hid (Mk.zero w)
  go_enter Try.func121, Try.ntmps121
  go_wp2_with fail
  (with_reducible refine (place_any 177 _).mono ?_)
  rintro e p0 ⟨o, X0, rfl, hx⟩
  have H1 := Lib.hid ((H0.out.call o).more hx)
  clear o hx
  have G1 := Lib.hid (H1.out.put #[.int .i64 4, .func (.func 215) #[] #[.pointer (some ⟨X0, 0, none⟩)], .func (.func 216) #[] #[.pointer (some ⟨X0, 0, none⟩)], .nilFunc])
  go_wp2_with fail
  (with_reducible refine (place_any 178 _).mono ?_)
  rintro e p1 ⟨o, X1, rfl, hx⟩
  have H2 := Lib.hid ((G1.out.call o).more hx)
  clear o hx
  have G2 := Lib.hid (H2.out.put #[.int .i64 4, .func (.func 215) #[] #[.pointer (some ⟨X1, 0, none⟩)], .func (.func 216) #[] #[.pointer (some ⟨X1, 0, none⟩)], .nilFunc])
  go_wp2_with fail
  (with_reducible refine (word_any 180 _).mono ?_)
  rintro e p2 ⟨o, rfl⟩
  have H3 := Lib.hid (G2.out.call o)
  clear o
  have G3 := Lib.hid (H3.out.put #[.int .i64 0, .nilFunc, .nilFunc, .func (.func 180) #[] #[]])
  go_wp2_with fail
  (with_reducible refine (word_any 181 _).mono ?_)
  rintro e p3 ⟨o, rfl⟩
  have H4 := Lib.hid (G3.out.call o)
  clear o
  have G4 := Lib.hid (H4.out.put #[.int .i64 0, .nilFunc, .nilFunc, .func (.func 181) #[] #[]])
  go_wp2_with fail
  (with_reducible refine (word_any 182 _).mono ?_)
  rintro e p4 ⟨o, rfl⟩
  have H5 := Lib.hid (G4.out.call o)
  clear o
  have G5 := Lib.hid (H5.out.put #[.int .i64 0, .nilFunc, .nilFunc, .func (.func 182) #[] #[]])
  have G6 := Lib.hid (G5.out.put #[.int .i64 8, .func (.func 188) #[] #[], .func (.func 189) #[] #[], .nilFunc])
  rw [World.size_alloc] at G6
  go_wp2_with fail
  (with_reducible refine (word_any 190 _).mono ?_)
  rintro e p6 ⟨o, rfl⟩
  have H7 := Lib.hid (G6.out.call o)
  clear o
  obtain ⟨b5, x50, x51, x52, x53⟩ := box4 (H7.out.box _ (List.mem_cons_self))
  obtain ⟨b4, x40, x41, x42, x43⟩ := box4 (H7.out.box _ (List.mem_cons_of_mem _ List.mem_cons_self))
  obtain ⟨b3, x30, x31, x32, x33⟩ := box4 (H7.out.box _ (List.mem_cons_of_mem _ (List.mem_cons_of_mem _ List.mem_cons_self)))
  obtain ⟨b2, x20, x21, x22, x23⟩ := box4 (H7.out.box _ (List.mem_cons_of_mem _ (List.mem_cons_of_mem _ (List.mem_cons_of_mem _ List.mem_cons_self))))
  obtain ⟨b1, x10, x11, x12, x13⟩ := box4 (H7.out.box _ (List.mem_cons_of_mem _ (List.mem_cons_of_mem _ (List.mem_cons_of_mem _ (List.mem_cons_of_mem _ List.mem_cons_self)))))
  obtain ⟨b0, x00, x01, x02, x03⟩ := box4 (H7.out.box _ (List.mem_cons_of_mem _ (List.mem_cons_of_mem _ (List.mem_cons_of_mem _ (List.mem_cons_of_mem _ (List.mem_cons_of_mem _ List.mem_cons_self))))))
  go_wp2_with fail
  go_ret
  have hb := heap_alloc_new (p6.alloc (.cells #[.int .i64 0, .nilFunc, .nilFunc, .func (.func 190) #[] #[]] 155)) (.cells #[.int .i64 4, .func (.func 215) #[] #[.pointer (some ⟨X1, 0, none⟩)], .func (.func 216) #[] #[.pointer (some ⟨X1, 0, none⟩)], .nilFunc, .int .i64 8, .func (.func 188) #[] #[], .func (.func 189) #[] #[], .nilFunc, .int .i64 0, .nilFunc, .nilFunc, .func (.func 190) #[] #[]] 155)
  rw [World.size_alloc] at hb
  have oo : Only (fun _ => False) p6 ((p6.alloc (.cells #[.int .i64 0, .nilFunc, .nilFunc, .func (.func 190) #[] #[]] 155)).alloc (.cells #[.int .i64 4, .func (.func 215) #[] #[.pointer (some ⟨X1, 0, none⟩)], .func (.func 216) #[] #[.pointer (some ⟨X1, 0, none⟩)], .nilFunc, .int .i64 8, .func (.func 188) #[] #[], .func (.func 189) #[] #[], .nilFunc, .int .i64 0, .nilFunc, .nilFunc, .func (.func 190) #[] #[]] 155)) := ((Only.refl _ p6).alloc _).alloc _
  refine ⟨H7.out.only.trans oo, _, rfl, .inr ⟨p6.heap.size + 1, 0, 3, rfl, by decide, by decide, by simp, fun i f hf => ?_⟩⟩
  have hi : i < 3 := by have := (List.getElem?_eq_some_iff.1 hf).1; simpa using this
  rcases (by omega : i = 0 ∨ i = 1 ∨ i = 2) with rfl | rfl | rfl
  · obtain rfl : Fl.n 2 = f := by simpa using hf
    exact ⟨X1, ⟨cell_of hb, cell_of hb, cell_of hb, cell_of hb⟩, fun j q => by cases q; exact BoxF.keep (H7.out.fn _ (List.mem_cons_self)) oo⟩
  · obtain rfl : Fl.c = f := by simpa using hf
    exact ⟨0, ⟨cell_of hb, cell_of hb, cell_of hb, cell_of hb⟩, fun j q => by cases q⟩
  · obtain rfl : Fl.t 10 = f := by simpa using hf
    exact ⟨0, ⟨cell_of hb, cell_of hb, cell_of hb, cell_of hb⟩, fun j q => by cases q⟩

set_option maxRecDepth 100000 in
theorem row_no (k : Int) (h : k < 1 ∨ 4 < k) (w : World) : Calls Try.prog 121 #[.int .i64 k] w (RowP w []) := by
  have H0 := Lib.hid (Mk.zero w)
  have e1 : (k == 1) = false := by rw [beq_eq_false_iff_ne]; omega
  have e2 : (k == 2) = false := by rw [beq_eq_false_iff_ne]; omega
  have e3 : (k == 3) = false := by rw [beq_eq_false_iff_ne]; omega
  have e4 : (k == 4) = false := by rw [beq_eq_false_iff_ne]; omega
  clear h
  go_enter Try.func121, Try.ntmps121
  go_wp2_with fail
  (with_reducible refine (place_any 177 _).mono ?_)
  rintro e p0 ⟨o, X0, rfl, hx⟩
  have H1 := Lib.hid ((H0.out.call o).more hx)
  clear o hx
  have G1 := Lib.hid (H1.out.put #[.int .i64 4, .func (.func 215) #[] #[.pointer (some ⟨X0, 0, none⟩)], .func (.func 216) #[] #[.pointer (some ⟨X0, 0, none⟩)], .nilFunc])
  go_wp2_with fail
  (with_reducible refine (place_any 178 _).mono ?_)
  rintro e p1 ⟨o, X1, rfl, hx⟩
  have H2 := Lib.hid ((G1.out.call o).more hx)
  clear o hx
  have G2 := Lib.hid (H2.out.put #[.int .i64 4, .func (.func 215) #[] #[.pointer (some ⟨X1, 0, none⟩)], .func (.func 216) #[] #[.pointer (some ⟨X1, 0, none⟩)], .nilFunc])
  go_wp2_with fail
  (with_reducible refine (word_any 180 _).mono ?_)
  rintro e p2 ⟨o, rfl⟩
  have H3 := Lib.hid (G2.out.call o)
  clear o
  have G3 := Lib.hid (H3.out.put #[.int .i64 0, .nilFunc, .nilFunc, .func (.func 180) #[] #[]])
  go_wp2_with fail
  (with_reducible refine (word_any 181 _).mono ?_)
  rintro e p3 ⟨o, rfl⟩
  have H4 := Lib.hid (G3.out.call o)
  clear o
  have G4 := Lib.hid (H4.out.put #[.int .i64 0, .nilFunc, .nilFunc, .func (.func 181) #[] #[]])
  go_wp2_with fail
  (with_reducible refine (word_any 182 _).mono ?_)
  rintro e p4 ⟨o, rfl⟩
  have H5 := Lib.hid (G4.out.call o)
  clear o
  have G5 := Lib.hid (H5.out.put #[.int .i64 0, .nilFunc, .nilFunc, .func (.func 182) #[] #[]])
  go_wp2_with fail
  go_ret
  exact ⟨G5.out.only, _, rfl, .inl ⟨rfl, 0, rfl⟩⟩

theorem row_any (k : Int) (w : World) : Calls Try.prog 121 #[.int .i64 k] w (RowP w (rowOf k)) := by
  by_cases h : k < 1 ∨ 4 < k
  · rw [show rowOf k = [] from by unfold rowOf; rw [if_neg (by omega), if_neg (by omega), if_neg (by omega), if_neg (by omega)]]
    exact row_no k h w
  · have e : k = 1 ∨ k = 2 ∨ k = 3 ∨ k = 4 := by omega
    rcases e with rfl | rfl | rfl | rfl
    · exact row1 w
    · exact row2 w
    · exact row3 w
    · exact row4 w
end Go.Proofs.Ytbjnejnjlidiaaa.wrB
namespace Go.Proofs.Ytbjnejnjlidiaaa.wrC
open Go.RowKit kit numA numC numD tmA tmD trA trB prR prS wrA wrB
set_option linter.unusedVariables false
set_option linter.unusedSimpArgs false

def fitB (t : Txt) : Bool := decide (t.length ≤ 65535) && isT t

set_option maxRecDepth 100000 in
theorem fits_any (s : ByteArray) (w : World) (hm : s.size ≤ 100000000) : Calls Try.prog 173 #[.string s] w (numA.Told w (.bool (fitB s.data.toList))) := by
  have KA := Lib.hid (kind_any s w hm)
  have hsz := tl_size s
  by_cases h : s.size ≤ 65535
  · have g1 : ((s.size : Int) ≤ 65535) = True := eq_true (by omega)
    obtain ⟨k, hk⟩ : ∃ k, k = (trJ.ndOf s.data.toList).k := ⟨_, rfl⟩
    have HK := Lib.hid hk.symm
    have HF := Lib.hid (show fitB s.data.toList = (k != 0) from by
      rw [fitB, decide_eq_true (by omega), Bool.true_and, Bool.eq_iff_iff, bne_iff_ne, hk]
      exact isT_kind _)
    have c0 : ((k : Int) != 0) = (k != 0) := by rw [Bool.eq_iff_iff, bne_iff_ne, bne_iff_ne]; omega
    clear hk h hm hsz
    go_enter Try.func173, Try.ntmps173
    go_wp2_with fail
    (with_reducible refine KA.out.mono ?_)
    rintro e w2 ⟨rfl, o⟩
    have O := Lib.hid o
    clear o
    rw [HK.out]
    go_wp2_with fail
    go_ret
    exact ⟨by rw [HF.out]; rfl, O.out⟩
  · have g1 : ((s.size : Int) ≤ 65535) = False := eq_false (by omega)
    have HF := Lib.hid (show fitB s.data.toList = false from by rw [fitB, decide_eq_false (by omega)]; rfl)
    clear h hm hsz
    go_enter Try.func173, Try.ntmps173
    go_wp2_with fail
    go_ret
    exact ⟨by rw [HF.out]; rfl, Only.refl _ _⟩

/-- A message with a field made zero. -/
def clr (f : Fl) (m : Msg) : Msg := match f with
  | .t i => m.put i ⟨#[]⟩
  | .n i => if i = 1 then { m with s := 0 } else { m with r := 0 }
  | .c => { m with c := 0 }

def Clr (w : World) (R : Nat) (m : Msg) (e : Ending) (w' : World) : Prop := (∃ v, e = .returned v) ∧ Only (fun k => k = R) w w' ∧ MsgAt w' R m

theorem MsgAt.lt {w : World} {B : Nat} {m : Msg} (h : MsgAt w B m) : B < w.heap.size := lt_of h

set_option maxRecDepth 100000 in
theorem clear_t4  (R : Nat) (m : Msg) (w : World) (hm : MsgAt w R m) : Calls Try.prog 174 #[.agg #[.int .i64 0, .nilFunc, .nilFunc, .func (.func 180) #[] #[]], .pointer (some ⟨R, 0, none⟩)] w (Clr w R (clr (.t 4) m)) := by
  have oA : Only (fun k => k = R) w (w.alloc (.cells #[.int .i64 0, .nilFunc, .nilFunc, .func (.func 180) #[] #[]] 155)) := (Only.refl _ w).alloc _
  have HM := Lib.hid (show MsgAt (w.alloc (.cells #[.int .i64 0, .nilFunc, .nilFunc, .func (.func 180) #[] #[]] 155)) R m from (Below.heap_alloc _ _ _ (MsgAt.lt hm)).trans hm)
  have c1 := HM.out.text (i := 4) (by decide) (by decide)
  have f1 := HM.out.free 4
  have TA := Lib.hid (fun W => text4 R W)
  have HP := Lib.hid (HM.out.put (i := 4) (by decide) (by decide) ⟨#[]⟩)
  have OA := Lib.hid oA
  clear hm oA
  go_enter Try.func174, Try.ntmps174
  go_wp2_with fail
  (with_reducible refine (TA.out _).mono ?_)
  rintro e w2 ⟨rfl, hw⟩
  obtain rfl := hw
  go_wp2_with fail
  go_end0
  exact ⟨⟨_, rfl⟩, OA.out.set rfl, HP.out⟩
set_option maxRecDepth 100000 in
theorem clear_t5  (R : Nat) (m : Msg) (w : World) (hm : MsgAt w R m) : Calls Try.prog 174 #[.agg #[.int .i64 0, .nilFunc, .nilFunc, .func (.func 183) #[] #[]], .pointer (some ⟨R, 0, none⟩)] w (Clr w R (clr (.t 5) m)) := by
  have oA : Only (fun k => k = R) w (w.alloc (.cells #[.int .i64 0, .nilFunc, .nilFunc, .func (.func 183) #[] #[]] 155)) := (Only.refl _ w).alloc _
  have HM := Lib.hid (show MsgAt (w.alloc (.cells #[.int .i64 0, .nilFunc, .nilFunc, .func (.func 183) #[] #[]] 155)) R m from (Below.heap_alloc _ _ _ (MsgAt.lt hm)).trans hm)
  have c1 := HM.out.text (i := 5) (by decide) (by decide)
  have f1 := HM.out.free 5
  have TA := Lib.hid (fun W => text5 R W)
  have HP := Lib.hid (HM.out.put (i := 5) (by decide) (by decide) ⟨#[]⟩)
  have OA := Lib.hid oA
  clear hm oA
  go_enter Try.func174, Try.ntmps174
  go_wp2_with fail
  (with_reducible refine (TA.out _).mono ?_)
  rintro e w2 ⟨rfl, hw⟩
  obtain rfl := hw
  go_wp2_with fail
  go_end0
  exact ⟨⟨_, rfl⟩, OA.out.set rfl, HP.out⟩
set_option maxRecDepth 100000 in
theorem clear_t6  (R : Nat) (m : Msg) (w : World) (hm : MsgAt w R m) : Calls Try.prog 174 #[.agg #[.int .i64 0, .nilFunc, .nilFunc, .func (.func 184) #[] #[]], .pointer (some ⟨R, 0, none⟩)] w (Clr w R (clr (.t 6) m)) := by
  have oA : Only (fun k => k = R) w (w.alloc (.cells #[.int .i64 0, .nilFunc, .nilFunc, .func (.func 184) #[] #[]] 155)) := (Only.refl _ w).alloc _
  have HM := Lib.hid (show MsgAt (w.alloc (.cells #[.int .i64 0, .nilFunc, .nilFunc, .func (.func 184) #[] #[]] 155)) R m from (Below.heap_alloc _ _ _ (MsgAt.lt hm)).trans hm)
  have c1 := HM.out.text (i := 6) (by decide) (by decide)
  have f1 := HM.out.free 6
  have TA := Lib.hid (fun W => text6 R W)
  have HP := Lib.hid (HM.out.put (i := 6) (by decide) (by decide) ⟨#[]⟩)
  have OA := Lib.hid oA
  clear hm oA
  go_enter Try.func174, Try.ntmps174
  go_wp2_with fail
  (with_reducible refine (TA.out _).mono ?_)
  rintro e w2 ⟨rfl, hw⟩
  obtain rfl := hw
  go_wp2_with fail
  go_end0
  exact ⟨⟨_, rfl⟩, OA.out.set rfl, HP.out⟩
set_option maxRecDepth 100000 in
theorem clear_t7  (R : Nat) (m : Msg) (w : World) (hm : MsgAt w R m) : Calls Try.prog 174 #[.agg #[.int .i64 0, .nilFunc, .nilFunc, .func (.func 185) #[] #[]], .pointer (some ⟨R, 0, none⟩)] w (Clr w R (clr (.t 7) m)) := by
  have oA : Only (fun k => k = R) w (w.alloc (.cells #[.int .i64 0, .nilFunc, .nilFunc, .func (.func 185) #[] #[]] 155)) := (Only.refl _ w).alloc _
  have HM := Lib.hid (show MsgAt (w.alloc (.cells #[.int .i64 0, .nilFunc, .nilFunc, .func (.func 185) #[] #[]] 155)) R m from (Below.heap_alloc _ _ _ (MsgAt.lt hm)).trans hm)
  have c1 := HM.out.text (i := 7) (by decide) (by decide)
  have f1 := HM.out.free 7
  have TA := Lib.hid (fun W => text7 R W)
  have HP := Lib.hid (HM.out.put (i := 7) (by decide) (by decide) ⟨#[]⟩)
  have OA := Lib.hid oA
  clear hm oA
  go_enter Try.func174, Try.ntmps174
  go_wp2_with fail
  (with_reducible refine (TA.out _).mono ?_)
  rintro e w2 ⟨rfl, hw⟩
  obtain rfl := hw
  go_wp2_with fail
  go_end0
  exact ⟨⟨_, rfl⟩, OA.out.set rfl, HP.out⟩
set_option maxRecDepth 100000 in
theorem clear_t8  (R : Nat) (m : Msg) (w : World) (hm : MsgAt w R m) : Calls Try.prog 174 #[.agg #[.int .i64 0, .nilFunc, .nilFunc, .func (.func 186) #[] #[]], .pointer (some ⟨R, 0, none⟩)] w (Clr w R (clr (.t 8) m)) := by
  have oA : Only (fun k => k = R) w (w.alloc (.cells #[.int .i64 0, .nilFunc, .nilFunc, .func (.func 186) #[] #[]] 155)) := (Only.refl _ w).alloc _
  have HM := Lib.hid (show MsgAt (w.alloc (.cells #[.int .i64 0, .nilFunc, .nilFunc, .func (.func 186) #[] #[]] 155)) R m from (Below.heap_alloc _ _ _ (MsgAt.lt hm)).trans hm)
  have c1 := HM.out.text (i := 8) (by decide) (by decide)
  have f1 := HM.out.free 8
  have TA := Lib.hid (fun W => text8 R W)
  have HP := Lib.hid (HM.out.put (i := 8) (by decide) (by decide) ⟨#[]⟩)
  have OA := Lib.hid oA
  clear hm oA
  go_enter Try.func174, Try.ntmps174
  go_wp2_with fail
  (with_reducible refine (TA.out _).mono ?_)
  rintro e w2 ⟨rfl, hw⟩
  obtain rfl := hw
  go_wp2_with fail
  go_end0
  exact ⟨⟨_, rfl⟩, OA.out.set rfl, HP.out⟩
set_option maxRecDepth 100000 in
theorem clear_t9  (R : Nat) (m : Msg) (w : World) (hm : MsgAt w R m) : Calls Try.prog 174 #[.agg #[.int .i64 0, .nilFunc, .nilFunc, .func (.func 187) #[] #[]], .pointer (some ⟨R, 0, none⟩)] w (Clr w R (clr (.t 9) m)) := by
  have oA : Only (fun k => k = R) w (w.alloc (.cells #[.int .i64 0, .nilFunc, .nilFunc, .func (.func 187) #[] #[]] 155)) := (Only.refl _ w).alloc _
  have HM := Lib.hid (show MsgAt (w.alloc (.cells #[.int .i64 0, .nilFunc, .nilFunc, .func (.func 187) #[] #[]] 155)) R m from (Below.heap_alloc _ _ _ (MsgAt.lt hm)).trans hm)
  have c1 := HM.out.text (i := 9) (by decide) (by decide)
  have f1 := HM.out.free 9
  have TA := Lib.hid (fun W => text9 R W)
  have HP := Lib.hid (HM.out.put (i := 9) (by decide) (by decide) ⟨#[]⟩)
  have OA := Lib.hid oA
  clear hm oA
  go_enter Try.func174, Try.ntmps174
  go_wp2_with fail
  (with_reducible refine (TA.out _).mono ?_)
  rintro e w2 ⟨rfl, hw⟩
  obtain rfl := hw
  go_wp2_with fail
  go_end0
  exact ⟨⟨_, rfl⟩, OA.out.set rfl, HP.out⟩
set_option maxRecDepth 100000 in
theorem clear_t10  (R : Nat) (m : Msg) (w : World) (hm : MsgAt w R m) : Calls Try.prog 174 #[.agg #[.int .i64 0, .nilFunc, .nilFunc, .func (.func 190) #[] #[]], .pointer (some ⟨R, 0, none⟩)] w (Clr w R (clr (.t 10) m)) := by
  have oA : Only (fun k => k = R) w (w.alloc (.cells #[.int .i64 0, .nilFunc, .nilFunc, .func (.func 190) #[] #[]] 155)) := (Only.refl _ w).alloc _
  have HM := Lib.hid (show MsgAt (w.alloc (.cells #[.int .i64 0, .nilFunc, .nilFunc, .func (.func 190) #[] #[]] 155)) R m from (Below.heap_alloc _ _ _ (MsgAt.lt hm)).trans hm)
  have c1 := HM.out.text (i := 10) (by decide) (by decide)
  have f1 := HM.out.free 10
  have TA := Lib.hid (fun W => text10 R W)
  have HP := Lib.hid (HM.out.put (i := 10) (by decide) (by decide) ⟨#[]⟩)
  have OA := Lib.hid oA
  clear hm oA
  go_enter Try.func174, Try.ntmps174
  go_wp2_with fail
  (with_reducible refine (TA.out _).mono ?_)
  rintro e w2 ⟨rfl, hw⟩
  obtain rfl := hw
  go_wp2_with fail
  go_end0
  exact ⟨⟨_, rfl⟩, OA.out.set rfl, HP.out⟩
set_option maxRecDepth 100000 in
theorem clear_t11  (R : Nat) (m : Msg) (w : World) (hm : MsgAt w R m) : Calls Try.prog 174 #[.agg #[.int .i64 0, .nilFunc, .nilFunc, .func (.func 181) #[] #[]], .pointer (some ⟨R, 0, none⟩)] w (Clr w R (clr (.t 11) m)) := by
  have oA : Only (fun k => k = R) w (w.alloc (.cells #[.int .i64 0, .nilFunc, .nilFunc, .func (.func 181) #[] #[]] 155)) := (Only.refl _ w).alloc _
  have HM := Lib.hid (show MsgAt (w.alloc (.cells #[.int .i64 0, .nilFunc, .nilFunc, .func (.func 181) #[] #[]] 155)) R m from (Below.heap_alloc _ _ _ (MsgAt.lt hm)).trans hm)
  have c1 := HM.out.text (i := 11) (by decide) (by decide)
  have f1 := HM.out.free 11
  have TA := Lib.hid (fun W => text11 R W)
  have HP := Lib.hid (HM.out.put (i := 11) (by decide) (by decide) ⟨#[]⟩)
  have OA := Lib.hid oA
  clear hm oA
  go_enter Try.func174, Try.ntmps174
  go_wp2_with fail
  (with_reducible refine (TA.out _).mono ?_)
  rintro e w2 ⟨rfl, hw⟩
  obtain rfl := hw
  go_wp2_with fail
  go_end0
  exact ⟨⟨_, rfl⟩, OA.out.set rfl, HP.out⟩
set_option maxRecDepth 100000 in
theorem clear_t12  (R : Nat) (m : Msg) (w : World) (hm : MsgAt w R m) : Calls Try.prog 174 #[.agg #[.int .i64 0, .nilFunc, .nilFunc, .func (.func 182) #[] #[]], .pointer (some ⟨R, 0, none⟩)] w (Clr w R (clr (.t 12) m)) := by
  have oA : Only (fun k => k = R) w (w.alloc (.cells #[.int .i64 0, .nilFunc, .nilFunc, .func (.func 182) #[] #[]] 155)) := (Only.refl _ w).alloc _
  have HM := Lib.hid (show MsgAt (w.alloc (.cells #[.int .i64 0, .nilFunc, .nilFunc, .func (.func 182) #[] #[]] 155)) R m from (Below.heap_alloc _ _ _ (MsgAt.lt hm)).trans hm)
  have c1 := HM.out.text (i := 12) (by decide) (by decide)
  have f1 := HM.out.free 12
  have TA := Lib.hid (fun W => text12 R W)
  have HP := Lib.hid (HM.out.put (i := 12) (by decide) (by decide) ⟨#[]⟩)
  have OA := Lib.hid oA
  clear hm oA
  go_enter Try.func174, Try.ntmps174
  go_wp2_with fail
  (with_reducible refine (TA.out _).mono ?_)
  rintro e w2 ⟨rfl, hw⟩
  obtain rfl := hw
  go_wp2_with fail
  go_end0
  exact ⟨⟨_, rfl⟩, OA.out.set rfl, HP.out⟩
theorem clear_t (i : Nat) (h4 : 4 ≤ i) (h12 : i ≤ 12) (R : Nat) (m : Msg) (w : World) (hm : MsgAt w R m) : Calls Try.prog 174 #[.agg #[.int .i64 0, .nilFunc, .nilFunc, .func (.func (fnT i)) #[] #[]], .pointer (some ⟨R, 0, none⟩)] w (Clr w R (clr (.t i) m)) := by
  have e : i = 4 ∨ i = 5 ∨ i = 6 ∨ i = 7 ∨ i = 8 ∨ i = 9 ∨ i = 10 ∨ i = 11 ∨ i = 12 := by omega
  rcases e with rfl | rfl | rfl | rfl | rfl | rfl | rfl | rfl | rfl
  · exact clear_t4 R m w hm
  · exact clear_t5 R m w hm
  · exact clear_t6 R m w hm
  · exact clear_t7 R m w hm
  · exact clear_t8 R m w hm
  · exact clear_t9 R m w hm
  · exact clear_t10 R m w hm
  · exact clear_t11 R m w hm
  · exact clear_t12 R m w hm

set_option maxRecDepth 100000 in
theorem clear_n1 (b : Nat) (R : Nat) (m : Msg) (w : World) (hm : MsgAt w R m) (hx : BoxF w b 177) : Calls Try.prog 174 #[.agg #[.int .i64 4, .func (.func 215) #[] #[.pointer (some ⟨b, 0, none⟩)], .func (.func 216) #[] #[.pointer (some ⟨b, 0, none⟩)], .nilFunc], .pointer (some ⟨R, 0, none⟩)] w (Clr w R (clr (.n 1) m)) := by
  have oA : Only (fun k => k = R) w (w.alloc (.cells #[.int .i64 4, .func (.func 215) #[] #[.pointer (some ⟨b, 0, none⟩)], .func (.func 216) #[] #[.pointer (some ⟨b, 0, none⟩)], .nilFunc] 155)) := (Only.refl _ w).alloc _
  have HM := Lib.hid (show MsgAt (w.alloc (.cells #[.int .i64 4, .func (.func 215) #[] #[.pointer (some ⟨b, 0, none⟩)], .func (.func 216) #[] #[.pointer (some ⟨b, 0, none⟩)], .nilFunc] 155)) R m from (Below.heap_alloc _ _ _ (MsgAt.lt hm)).trans hm)
  have SE := Lib.hid (set1 R b m 0 (w.alloc (.cells #[.int .i64 4, .func (.func 215) #[] #[.pointer (some ⟨b, 0, none⟩)], .func (.func 216) #[] #[.pointer (some ⟨b, 0, none⟩)], .nilFunc] 155)) HM.out (BoxF.keep hx ((Only.refl _ w).alloc _)) (by decide))
  have HP := Lib.hid (HM.out.putS 0)
  have OA := Lib.hid oA
  clear hm oA hx
  go_enter Try.func174, Try.ntmps174
  go_wp2_with fail
  (with_reducible refine SE.out.mono ?_)
  rintro e w2 ⟨⟨v, rfl⟩, rfl⟩
  go_wp2_with fail
  go_end0
  exact ⟨⟨_, rfl⟩, OA.out.set rfl, HP.out⟩
set_option maxRecDepth 100000 in
theorem clear_n2 (b : Nat) (R : Nat) (m : Msg) (w : World) (hm : MsgAt w R m) (hx : BoxF w b 178) : Calls Try.prog 174 #[.agg #[.int .i64 4, .func (.func 215) #[] #[.pointer (some ⟨b, 0, none⟩)], .func (.func 216) #[] #[.pointer (some ⟨b, 0, none⟩)], .nilFunc], .pointer (some ⟨R, 0, none⟩)] w (Clr w R (clr (.n 2) m)) := by
  have oA : Only (fun k => k = R) w (w.alloc (.cells #[.int .i64 4, .func (.func 215) #[] #[.pointer (some ⟨b, 0, none⟩)], .func (.func 216) #[] #[.pointer (some ⟨b, 0, none⟩)], .nilFunc] 155)) := (Only.refl _ w).alloc _
  have HM := Lib.hid (show MsgAt (w.alloc (.cells #[.int .i64 4, .func (.func 215) #[] #[.pointer (some ⟨b, 0, none⟩)], .func (.func 216) #[] #[.pointer (some ⟨b, 0, none⟩)], .nilFunc] 155)) R m from (Below.heap_alloc _ _ _ (MsgAt.lt hm)).trans hm)
  have SE := Lib.hid (set2 R b m 0 (w.alloc (.cells #[.int .i64 4, .func (.func 215) #[] #[.pointer (some ⟨b, 0, none⟩)], .func (.func 216) #[] #[.pointer (some ⟨b, 0, none⟩)], .nilFunc] 155)) HM.out (BoxF.keep hx ((Only.refl _ w).alloc _)) (by decide))
  have HP := Lib.hid (HM.out.putR 0)
  have OA := Lib.hid oA
  clear hm oA hx
  go_enter Try.func174, Try.ntmps174
  go_wp2_with fail
  (with_reducible refine SE.out.mono ?_)
  rintro e w2 ⟨⟨v, rfl⟩, rfl⟩
  go_wp2_with fail
  go_end0
  exact ⟨⟨_, rfl⟩, OA.out.set rfl, HP.out⟩
set_option maxRecDepth 100000 in
theorem clear_c  (R : Nat) (m : Msg) (w : World) (hm : MsgAt w R m) : Calls Try.prog 174 #[.agg #[.int .i64 8, .func (.func 188) #[] #[], .func (.func 189) #[] #[], .nilFunc], .pointer (some ⟨R, 0, none⟩)] w (Clr w R (clr (.c) m)) := by
  have oA : Only (fun k => k = R) w (w.alloc (.cells #[.int .i64 8, .func (.func 188) #[] #[], .func (.func 189) #[] #[], .nilFunc] 155)) := (Only.refl _ w).alloc _
  have HM := Lib.hid (show MsgAt (w.alloc (.cells #[.int .i64 8, .func (.func 188) #[] #[], .func (.func 189) #[] #[], .nilFunc] 155)) R m from (Below.heap_alloc _ _ _ (MsgAt.lt hm)).trans hm)
  have SE := Lib.hid (set3 R m 0 (w.alloc (.cells #[.int .i64 8, .func (.func 188) #[] #[], .func (.func 189) #[] #[], .nilFunc] 155)) HM.out)
  have HP := Lib.hid (HM.out.putC 0)
  have OA := Lib.hid oA
  clear hm oA
  go_enter Try.func174, Try.ntmps174
  go_wp2_with fail
  (with_reducible refine SE.out.mono ?_)
  rintro e w2 ⟨⟨v, rfl⟩, rfl⟩
  go_wp2_with fail
  go_end0
  exact ⟨⟨_, rfl⟩, OA.out.set rfl, HP.out⟩
end Go.Proofs.Ytbjnejnjlidiaaa.wrC
namespace Go.Proofs.Ytbjnejnjlidiaaa.wrD
open Go.RowKit kit numA numC numD tmA tmD trA trB prR prS wrA wrB wrC
set_option linter.unusedVariables false
set_option linter.unusedSimpArgs false

theorem enter_text (i : Nat) (args : Array Value) (w : World) : (callFunc (fnT i) args).run Try.prog w = .ok (.enter (fnT i) args) w := by
  have e : fnT i = 180 ∨ fnT i = 181 ∨ fnT i = 182 ∨ fnT i = 183 ∨ fnT i = 184 ∨ fnT i = 185 ∨ fnT i = 186 ∨ fnT i = 187 ∨ fnT i = 190 := by
    unfold fnT; repeat' split <;> simp_all
  generalize fnT i = f at *
  rcases e with rfl | rfl | rfl | rfl | rfl | rfl | rfl | rfl | rfl <;> go_simp

theorem Only.old {w w' : World} (h : Only (fun k => w.heap.size ≤ k) w w') : Only (fun _ => False) w w' := ⟨h.os, h.tape, h.output, h.size, fun k hk _ => h.block k hk (Nat.not_le.2 hk)⟩
theorem RowV.above {w w' : World} {v : Value} {fs : List Fl} (h : RowV w v fs) (k : Only (fun k => w.heap.size ≤ k) w w') : RowV w' v fs := h.keep (Only.old k)

theorem RowV.at {w : World} {a : Option Addr} {cap : Nat} {fs : List Fl} {n : Nat} (h : RowV w (.slice a n cap) fs) {j : Nat} {f : Fl} (hj : fs[j]? = some f) : ∃ g o, a = some ⟨g, o, none⟩ ∧ g < w.heap.size ∧ fs.length ≤ cap ∧ Fld w g (o + j * 4) f := by
  rcases h with ⟨e, _⟩ | ⟨g, o, c, hv, hc, hm, hg, hf⟩
  · rw [e] at hj; simp at hj
  · simp only [Value.slice.injEq] at hv
    obtain ⟨rfl, -, rfl⟩ := hv
    exact ⟨g, o, rfl, hg, hc, hf j _ hj⟩

def okT (m : Msg) (f : Fl) : Bool := match f with | .t i => fitB (m.t i).data.toList | _ => true
def clrs (m : Msg) (fs : List Fl) : Msg := fs.foldl (fun m f => clr f m) m
def zeroM (k : Int) : Msg := ⟨k, 0, 0, 0, fun _ => ⟨#[]⟩⟩
/-- Is this a message of its kind? -/
def goodM (m : Msg) : Bool := (rowOf m.k).all (okT m) && eqM (clrs m (rowOf m.k)) (zeroM m.k)
def goodF (m : Msg) : List Fl := if goodM m then rowOf m.k else []

theorem clrs_succ (m : Msg) (fs : List Fl) (j : Nat) (f : Fl) (hj : fs[j]? = some f) : clrs m (fs.take (j + 1)) = clr f (clrs m (fs.take j)) := by
  unfold clrs
  rw [List.take_add_one, hj, List.foldl_append]
  rfl
/-- What a field may be. -/
def okFl (f : Fl) : Prop := match f with
  | .t i => 4 ≤ i ∧ i ≤ 12
  | .n i => i = 1 ∨ i = 2
  | .c => True
theorem rowOf_ok (k : Int) : ∀ f ∈ rowOf k, okFl f := by
  unfold rowOf
  repeat' split
  all_goals intro f hf; simp at hf; try (rcases hf with rfl | rfl | rfl | rfl | rfl | rfl)
  all_goals first | (rcases hf with rfl | rfl | rfl) | skip
  all_goals simp [okFl]
theorem rowOf_len (k : Int) : (rowOf k).length ≤ 6 := by
  unfold rowOf
  by_cases h1 : k = 1
  · rw [if_pos h1]; decide
  rw [if_neg h1]
  by_cases h2 : k = 2
  · rw [if_pos h2]; decide
  rw [if_neg h2]
  by_cases h3 : k = 3
  · rw [if_pos h3]; decide
  rw [if_neg h3]
  by_cases h4 : k = 4
  · rw [if_pos h4]; decide
  rw [if_neg h4]; decide

structure RR (W : World) (m : Msg) (fs : List Fl) (j : Nat) (wr : World) : Prop where
  le : j ≤ fs.length
  only : Only (fun k => W.heap.size ≤ k) W wr
  msg : MsgAt wr W.heap.size (clrs m (fs.take j))
  ok : ∀ f ∈ fs.take j, okT m f = true

theorem RR_next {W wr w' : World} {m : Msg} {fs : List Fl} {j : Nat} {f : Fl} (h : RR W m fs j wr) (hj : fs[j]? = some f) (o : Only (fun k => W.heap.size ≤ k) wr w') (hm : MsgAt w' W.heap.size (clr f (clrs m (fs.take j)))) (ht : okT m f = true) : RR W m fs (j + 1) w' := by
  have hlt : j < fs.length := (List.getElem?_eq_some_iff.1 hj).1
  refine ⟨hlt, h.only.trans o, by rw [clrs_succ m fs j f hj]; exact hm, fun g hg => ?_⟩
  rw [List.take_add_one, hj] at hg
  rcases List.mem_append.1 hg with hg | hg
  · exact h.ok g hg
  · simp at hg
    rw [hg]
    exact ht

theorem bad_field {m : Msg} {j : Nat} {f : Fl} (hj : (rowOf m.k)[j]? = some f) (h : okT m f = false) : goodF m = [] := by
  unfold goodF goodM
  have : (rowOf m.k).all (okT m) = false := by
    rw [List.all_eq_false]
    exact ⟨f, List.mem_of_getElem? hj, by rw [h]; decide⟩
  rw [this]
  rfl

def Rest (w : World) (m : Msg) (e : Ending) (w' : World) : Prop := Only (fun _ => False) w w' ∧ ∃ v, e = .returned v ∧ RowV w' v (goodF m)

def mval (m : Msg) : Value := .agg #[.int .i64 m.k, .int .u32 m.s, .int .u32 m.r, .int .u64 m.c, .string (m.t 4), .string (m.t 5), .string (m.t 6), .string (m.t 7), .string (m.t 8), .string (m.t 9), .string (m.t 10), .string (m.t 11), .string (m.t 12)]

theorem MsgAt.cells {w : World} {B : Nat} {m : Msg} (h : MsgAt w B m) : w.cell? ⟨B, 0, none⟩ = some (.int .i64 m.k) ∧ w.cell? ⟨B, 1, none⟩ = some (.int .u32 m.s) ∧ w.cell? ⟨B, 2, none⟩ = some (.int .u32 m.r) ∧ w.cell? ⟨B, 3, none⟩ = some (.int .u64 m.c) ∧ w.cell? ⟨B, 4, none⟩ = some (.string (m.t 4)) ∧ w.cell? ⟨B, 5, none⟩ = some (.string (m.t 5)) ∧ w.cell? ⟨B, 6, none⟩ = some (.string (m.t 6)) ∧ w.cell? ⟨B, 7, none⟩ = some (.string (m.t 7)) ∧ w.cell? ⟨B, 8, none⟩ = some (.string (m.t 8)) ∧ w.cell? ⟨B, 9, none⟩ = some (.string (m.t 9)) ∧ w.cell? ⟨B, 10, none⟩ = some (.string (m.t 10)) ∧ w.cell? ⟨B, 11, none⟩ = some (.string (m.t 11)) ∧ w.cell? ⟨B, 12, none⟩ = some (.string (m.t 12)) := ⟨cell_of h, cell_of h, cell_of h, cell_of h, cell_of h, cell_of h, cell_of h, cell_of h, cell_of h, cell_of h, cell_of h, cell_of h, cell_of h⟩

set_option maxRecDepth 100000 in
theorem laid_neqM (m n : Msg) (W : World) : (binOp .neq 61 (mval m) (mval n)).run Try.prog W = .ok (.bool (!eqM m n)) W := run_neqM m n W

set_option maxRecDepth 100000 in
set_option maxHeartbeats 3200000 in
theorem right_any (m : Msg) (w : World) (ht : ∀ i, (m.t i).size ≤ 100000000) : Calls Try.prog 117 #[(mval m)] w (Rest w m) := by
  have HA := Lib.hid (show MsgAt (w.alloc (.cells m.row 61)) w.heap.size m from heap_alloc_new w _)
  obtain ⟨W1, hW1⟩ : ∃ W, W = w.alloc (.cells m.row 61) := ⟨_, rfl⟩
  have c0 := HA.out.nums.1
  have HW := Lib.hid hW1
  have oW := Lib.hid (show Only (fun _ => False) w (w.alloc (.cells m.row 61)) from (Only.refl _ w).alloc _)
  have HT := Lib.hid ht
  clear ht hW1
  unfold mval
  go_enter Try.func117, Try.ntmps117
  go_wp2_with fail
  (with_reducible refine (row_any m.k _).mono ?_)
  rintro e W2 ⟨o, v, rfl, hv⟩
  obtain ⟨a, cap, rfl⟩ := hv.len
  have O2 := Lib.hid o
  have HV := Lib.hid hv
  have HA2 := Lib.hid (MsgAt.keep HA.out o id)
  have hlt := MsgAt.lt HA2.out
  obtain ⟨c0', c1, c2, c3, c4, c5, c6, c7, c8, c9, c10, c11, c12⟩ := MsgAt.cells HA2.out
  clear o hv c0
  obtain ⟨fs, hfs⟩ : ∃ fs, fs = rowOf m.k := ⟨_, rfl⟩
  rw [← hfs]
  rw [← hfs] at HV
  have HFS := Lib.hid hfs
  clear hfs
  go_wp2_with fail
  clear c0' c1 c2 c3 c4 c5 c6 c7 c8 c9 c10 c11 c12
  have HB := Lib.hid (show RR W2 m fs 0 (W2.alloc (.cells m.row 61)) from ⟨Nat.zero_le _, (Only.refl _ W2).alloc _, heap_alloc_new W2 _, by simp⟩)
  obtain ⟨A, hA⟩ : ∃ A, A = w.heap.size := ⟨_, rfl⟩
  rw [← hA] at HA HA2 hlt ⊢
  have HAE := Lib.hid hA
  clear hA
  go_loopw [6, 13] (fun _ i wr => ∃ j : Nat, i = .int .i64 j ∧ RR W2 m fs j wr) (fun _ i _ => fs.length - (Lib.intOf i).toNat)
  case atStart => exact ⟨0, rfl, HB.out⟩
  case round =>
    obtain ⟨j, rfl, hR⟩ := hrel
    have RH := Lib.hid hR
    have wj : wrap64 ((j : Int) + 1) = (j : Int) + 1 := IntWalk.wrap64_in _ (by have := hR.le; have := rowOf_len m.k; rw [← HFS.out] at this; omega)
    have HAr := Lib.hid (MsgAt.keep HA2.out hR.only (by omega))
    by_cases hj : j < fs.length
    · have HVr := Lib.hid (RowV.above HV.out hR.only)
      obtain ⟨f, hf⟩ : ∃ f, fs[j]? = some f := ⟨_, List.getElem?_eq_getElem hj⟩
      obtain ⟨g, o, rfl, hg, hcap, hF⟩ := RowV.at HVr.out hf
      have k0 : (0 : Int) ≤ (j : Int) := by omega
      have k1 : (j : Int) < (fs.length : Int) := by omega
      have k1' : ((j : Int) < (fs.length : Int)) = True := eq_true k1
      have HJ := Lib.hid hj
      have hok := rowOf_ok m.k f (by rw [← HFS.out]; exact List.mem_of_getElem? hf)
      have HFJ := Lib.hid hf
      obtain ⟨b, ⟨f0, f1, f2, f3⟩, hbx⟩ := hF
      have HBX := Lib.hid hbx
      clear hf hR hj hbx
      cases f with
      | t i =>
        obtain ⟨h4, h12⟩ := hok
        have f0' : wr.cell? ⟨g, o + j * 4, none⟩ = some (.int .i64 0) := f0
        have f1' : wr.cell? ⟨g, o + j * 4 + 1, none⟩ = some .nilFunc := f1
        have f2' : wr.cell? ⟨g, o + j * 4 + 2, none⟩ = some .nilFunc := f2
        have f3' : wr.cell? ⟨g, o + j * 4 + 3, none⟩ = some (.func (.func (fnT i)) #[] #[]) := f3
        have hcf := enter_text i
        have TA := Lib.hid (fun W => text_any i h4 h12 A W)
        obtain ⟨X, hX⟩ : ∃ X, X = wr.alloc (.cells #[.int .i64 0, .nilFunc, .nilFunc, .func (.func (fnT i)) #[] #[]] 155) := ⟨_, rfl⟩
        have oX : Only (fun _ => False) wr X := by rw [hX]; exact (Only.refl _ wr).alloc _
        have hb : X.heap[wr.heap.size]? = some (.cells #[.int .i64 0, .nilFunc, .nilFunc, .func (.func (fnT i)) #[] #[]] 155 (0, 0)) := by rw [hX]; exact heap_alloc_new wr _
        have HAX := Lib.hid (MsgAt.keep HAr.out oX id)
        have HRX := Lib.hid (MsgAt.keep RH.out.msg oX id)
        have cA := MsgAt.text HAX.out h4 h12
        have FA := Lib.hid (fun W => fits_any (m.t i) W (HT.out i))
        have OX := Lib.hid oX
        have HBB := Lib.hid hb
        have HX := Lib.hid hX
        rw [hX] at cA
        clear f0 f1 f2 f3 oX hb hX
        go_wp2_with fail
        (with_reducible refine (TA.out _).mono ?_)
        rintro e x ⟨rfl, hx⟩
        obtain rfl := hx
        go_wp2_with fail
        rw [← HX.out]
        (with_reducible refine (FA.out _).mono ?_)
        rintro e w3 ⟨rfl, o3⟩
        have O3 := Lib.hid o3
        obtain ⟨d0, d1, d2, d3⟩ : w3.cell? ⟨wr.heap.size, 0, none⟩ = some (.int .i64 0) ∧ w3.cell? ⟨wr.heap.size, 1, none⟩ = some .nilFunc ∧ w3.cell? ⟨wr.heap.size, 2, none⟩ = some .nilFunc ∧ w3.cell? ⟨wr.heap.size, 3, none⟩ = some (.func (.func (fnT i)) #[] #[]) := by
          have h := o3.keep HBB.out id
          exact ⟨cell_of h, cell_of h, cell_of h, cell_of h⟩
        have HR3 := Lib.hid (MsgAt.keep HRX.out o3 id)
        clear o3 cA f0' f1' f2' f3'
        cases hq : fitB (m.t i).data.toList with
        | false =>
          have HQ := Lib.hid hq
          have HG := Lib.hid (show goodF m = [] from bad_field (by rw [← HFS.out]; exact HFJ.out) (show okT m (.t i) = false from hq))
          clear hq
          go_wp2_with fail
          go_ret
          refine ⟨(((oW.out.trans O2.out).trans (Only.old RH.out.only)).trans OX.out).trans O3.out, _, rfl, ?_⟩
          rw [HG.out]
          exact .inl ⟨rfl, 0, rfl⟩
        | true =>
          have HQ := Lib.hid hq
          have CT := Lib.hid (clear_t i h4 h12 W2.heap.size _ w3 HR3.out)
          clear hq
          go_wp2_with fail
          (with_reducible refine CT.out.mono ?_)
          rintro e w4 ⟨⟨y, rfl⟩, o4, hm4⟩
          have O4 := Lib.hid o4
          have HM4 := Lib.hid hm4
          clear o4 hm4 d0 d1 d2 d3
          go_wp2_with fail
          go_roundw
          case rel => exact ⟨j + 1, by rw [wj]; rfl, RR_next RH.out HFJ.out (((OX.out.mono fun _ h => h.elim).trans (O3.out.mono fun _ h => h.elim)).trans (O4.out.mono fun _ h => by omega)) HM4.out HQ.out⟩
          case measure =>
            rw [wj]
            have := HJ.out
            simp only [Lib.intOf]
            omega
      | n i =>
        rcases hok with rfl | rfl
        · obtain ⟨X, hX⟩ : ∃ X, X = wr.alloc (.cells #[.int .i64 4, .func (.func 215) #[] #[.pointer (some ⟨b, 0, none⟩)], .func (.func 216) #[] #[.pointer (some ⟨b, 0, none⟩)], .nilFunc] 155) := ⟨_, rfl⟩
          have oX : Only (fun _ => False) wr X := by rw [hX]; exact (Only.refl _ wr).alloc _
          have HRX := Lib.hid (MsgAt.keep RH.out.msg oX id)
          have OX := Lib.hid oX
          have HX := Lib.hid hX
          have f0' : wr.cell? ⟨g, o + j * 4, none⟩ = some (.int .i64 4) := f0
          have f1' : wr.cell? ⟨g, o + j * 4 + 1, none⟩ = some (.func (.func 215) #[] #[.pointer (some ⟨b, 0, none⟩)]) := f1
          have f2' : wr.cell? ⟨g, o + j * 4 + 2, none⟩ = some (.func (.func 216) #[] #[.pointer (some ⟨b, 0, none⟩)]) := f2
          have f3' : wr.cell? ⟨g, o + j * 4 + 3, none⟩ = some (.nilFunc) := f3
          have CT := Lib.hid (clear_n1 b W2.heap.size _ X HRX.out (BoxF.keep (HBX.out 1 rfl) OX.out))
          clear oX hX f0 f1 f2 f3
          go_wp2_with fail
          rw [← HX.out]
          (with_reducible refine CT.out.mono ?_)
          rintro e w4 ⟨⟨y, rfl⟩, o4, hm4⟩
          have O4 := Lib.hid o4
          have HM4 := Lib.hid hm4
          clear o4 hm4
          go_wp2_with fail
          go_roundw
          case rel => exact ⟨j + 1, by rw [wj]; rfl, RR_next RH.out HFJ.out ((OX.out.mono fun _ h => h.elim).trans (O4.out.mono fun _ h => by omega)) HM4.out rfl⟩
          case measure =>
            rw [wj]
            have := HJ.out
            simp only [Lib.intOf]
            omega

        · obtain ⟨X, hX⟩ : ∃ X, X = wr.alloc (.cells #[.int .i64 4, .func (.func 215) #[] #[.pointer (some ⟨b, 0, none⟩)], .func (.func 216) #[] #[.pointer (some ⟨b, 0, none⟩)], .nilFunc] 155) := ⟨_, rfl⟩
          have oX : Only (fun _ => False) wr X := by rw [hX]; exact (Only.refl _ wr).alloc _
          have HRX := Lib.hid (MsgAt.keep RH.out.msg oX id)
          have OX := Lib.hid oX
          have HX := Lib.hid hX
          have f0' : wr.cell? ⟨g, o + j * 4, none⟩ = some (.int .i64 4) := f0
          have f1' : wr.cell? ⟨g, o + j * 4 + 1, none⟩ = some (.func (.func 215) #[] #[.pointer (some ⟨b, 0, none⟩)]) := f1
          have f2' : wr.cell? ⟨g, o + j * 4 + 2, none⟩ = some (.func (.func 216) #[] #[.pointer (some ⟨b, 0, none⟩)]) := f2
          have f3' : wr.cell? ⟨g, o + j * 4 + 3, none⟩ = some (.nilFunc) := f3
          have CT := Lib.hid (clear_n2 b W2.heap.size _ X HRX.out (BoxF.keep (HBX.out 2 rfl) OX.out))
          clear oX hX f0 f1 f2 f3
          go_wp2_with fail
          rw [← HX.out]
          (with_reducible refine CT.out.mono ?_)
          rintro e w4 ⟨⟨y, rfl⟩, o4, hm4⟩
          have O4 := Lib.hid o4
          have HM4 := Lib.hid hm4
          clear o4 hm4
          go_wp2_with fail
          go_roundw
          case rel => exact ⟨j + 1, by rw [wj]; rfl, RR_next RH.out HFJ.out ((OX.out.mono fun _ h => h.elim).trans (O4.out.mono fun _ h => by omega)) HM4.out rfl⟩
          case measure =>
            rw [wj]
            have := HJ.out
            simp only [Lib.intOf]
            omega

      | c =>
        obtain ⟨X, hX⟩ : ∃ X, X = wr.alloc (.cells #[.int .i64 8, .func (.func 188) #[] #[], .func (.func 189) #[] #[], .nilFunc] 155) := ⟨_, rfl⟩
        have oX : Only (fun _ => False) wr X := by rw [hX]; exact (Only.refl _ wr).alloc _
        have HRX := Lib.hid (MsgAt.keep RH.out.msg oX id)
        have OX := Lib.hid oX
        have HX := Lib.hid hX
        have f0' : wr.cell? ⟨g, o + j * 4, none⟩ = some (.int .i64 8) := f0
        have f1' : wr.cell? ⟨g, o + j * 4 + 1, none⟩ = some (.func (.func 188) #[] #[]) := f1
        have f2' : wr.cell? ⟨g, o + j * 4 + 2, none⟩ = some (.func (.func 189) #[] #[]) := f2
        have f3' : wr.cell? ⟨g, o + j * 4 + 3, none⟩ = some (.nilFunc) := f3
        have CT := Lib.hid (clear_c W2.heap.size _ X HRX.out)
        clear oX hX f0 f1 f2 f3
        go_wp2_with fail
        rw [← HX.out]
        (with_reducible refine CT.out.mono ?_)
        rintro e w4 ⟨⟨y, rfl⟩, o4, hm4⟩
        have O4 := Lib.hid o4
        have HM4 := Lib.hid hm4
        clear o4 hm4
        go_wp2_with fail
        go_roundw
        case rel => exact ⟨j + 1, by rw [wj]; rfl, RR_next RH.out HFJ.out ((OX.out.mono fun _ h => h.elim).trans (O4.out.mono fun _ h => by omega)) HM4.out rfl⟩
        case measure =>
          rw [wj]
          have := HJ.out
          simp only [Lib.intOf]
          omega

    · obtain rfl : j = fs.length := by have := hR.le; omega
      have j1 : ((fs.length : Int) < (fs.length : Int)) = False := eq_false (by omega)
      obtain ⟨mm, hmm⟩ : ∃ mm, mm = clrs m (fs.take fs.length) := ⟨_, rfl⟩
      have hmsg := hR.msg
      rw [← hmm] at hmsg
      rw [List.take_length] at hmm
      obtain ⟨d0, d1, d2, d3, d4, d5, d6, d7, d8, d9, d10, d11, d12⟩ := MsgAt.cells hmsg
      have c0 := (MsgAt.cells HAr.out).1
      have hneq := laid_neqM mm (zeroM m.k)
      simp only [mval, zeroM] at hneq
      have HMM := Lib.hid hmm
      have HOK := Lib.hid hR.ok
      rw [List.take_length] at HOK
      have HVr := Lib.hid (RowV.above HV.out hR.only)
      obtain ⟨q, hq⟩ : ∃ q, q = eqM mm (zeroM m.k) := ⟨_, rfl⟩
      rw [show (⟨m.k, 0, 0, 0, fun _ => ⟨#[]⟩⟩ : Msg) = zeroM m.k from rfl, ← hq] at hneq
      have HQ := Lib.hid hq
      clear hmm hmsg hR hj hq
      cases q with
      | true =>
        have HG := Lib.hid (show goodF m = fs from by
          unfold goodF goodM
          rw [← HFS.out, ← HMM.out, ← HQ.out, List.all_eq_true.2 HOK.out]
          rfl)
        go_wp2_with fail
        go_ret
        refine ⟨(oW.out.trans O2.out).trans (Only.old RH.out.only), _, rfl, ?_⟩
        rw [HG.out]
        exact HVr.out
      | false =>
        have HG := Lib.hid (show goodF m = [] from by
          unfold goodF goodM
          rw [← HFS.out, ← HMM.out, ← HQ.out, Bool.and_false]
          rfl)
        go_wp2_with fail
        go_ret
        refine ⟨(oW.out.trans O2.out).trans (Only.old RH.out.only), _, rfl, ?_⟩
        rw [HG.out]
        exact .inl ⟨rfl, 0, rfl⟩
end Go.Proofs.Ytbjnejnjlidiaaa.wrD
