/- Term: the program's reader: a term. -/
import Derived.Test.YtbjnejnjlidiaaaPrA
import Derived.Test.YtbjnejnjlidiaaaPrE
import Derived.Laws.Externs
import Derived.WalkSpells
import Derived.Test.YtbjnejnjlidiaaaTrE
import Derived.Defers
import Derived.Recover
namespace Go.Proofs.Ytbjnejnjlidiaaa.prL
open Go.RowKit kit numA numB numC numD numE numF tmA tmB tmC srcA trA trB trD trE prA prB prC prD
set_option linter.unusedVariables false
set_option linter.unusedSimpArgs false

def lettersB : ByteArray := ⟨#[48, 97, 110, 120, 112, 100, 104, 107, 109, 115, 108]⟩

theorem first_idx (c : UInt8) : firstIdx lettersB c = (kindOf c : Int) - 1 := by
  have key : ∀ i : Fin 256, firstIdx lettersB (UInt8.ofNat i.val) = (kindOf (UInt8.ofNat i.val) : Int) - 1 := by decide +kernel
  have := key ⟨c.toNat, c.toNat_lt⟩
  simpa using this

theorem entry (c : UInt8) (w : World) : (callFunc 231 #[.string lettersB, .int .u8 (c.toNat : Int)]).run Try.prog w = .ok (.value (.int .i64 ((kindOf c : Int) - 1))) w := by
  have h := run_callFunc_extern (P := Try.prog) (e := Extern.BytealgIndexByte.indexByte) Try.func231 (by kernel_rfl) (by kernel_rfl) (by kernel_rfl) (by kernel_rfl) #[.string lettersB, .int .u8 (c.toNat : Int)] w
  rw [h, run_indexByte_string]
  have e : ((c.toNat : Int)).toNat.toUInt8 = c := by simp
  rw [e, first_idx]
  rfl

set_option maxRecDepth 100000 in
theorem index1 (c : UInt8) (w : World) : Calls Try.prog 218 #[.string lettersB, .int .u8 (c.toNat : Int)] w fun e w' => e = .returned (.int .i64 ((kindOf c : Int) - 1)) ∧ w' = w := by
  have he := entry c
  go_enter Try.func218, Try.ntmps218
  go_wp2_with fail
  go_ret
  exact ⟨rfl, rfl⟩

set_option maxRecDepth 100000 in
theorem index2 (c : UInt8) (x : Int) (hx : (kindOf c : Int) - 1 = x) (w : World) : Calls Try.prog 195 #[.string lettersB, .int .u8 (c.toNat : Int)] w fun e w' => e = .returned (.int .i64 x) ∧ w' = w := by
  subst hx
  have he := index1 c
  go_enter Try.func195, Try.ntmps195
  go_wp2_with fail
  refine (he _).mono ?_
  rintro e w1 ⟨rfl, hw⟩
  obtain rfl := hw
  go_wp2_with fail
  go_ret
  exact ⟨rfl, rfl⟩

theorem look_shape {w : World} {b k : Nat} (h : w.heap[b]? = some (.map table 7)) (h5 : 5 ≤ k) (h11 : k ≤ 11) : (Instr.lookup 136 (.map (some b)) (.int .i64 k) false).run Try.prog w = .ok (shv k) w := by
  have e : k = 5 ∨ k = 6 ∨ k = 7 ∨ k = 8 ∨ k = 9 ∨ k = 10 ∨ k = 11 := by omega
  rcases e with rfl | rfl | rfl | rfl | rfl | rfl | rfl
  · exact get_val (i := 0) (v := shv 5) h 5 rfl
  · exact get_val (i := 1) (v := shv 6) h 6 rfl
  · exact get_val (i := 2) (v := shv 7) h 7 rfl
  · exact get_val (i := 3) (v := shv 8) h 8 rfl
  · exact get_val (i := 4) (v := shv 9) h 9 rfl
  · exact get_val (i := 5) (v := shv 10) h 10 rfl
  · exact get_val (i := 6) (v := shv 11) h 11 rfl

theorem inside_any (s : ByteArray) (N : Nat) (ih : IHT s N) (R p f k : Nat) (w : World) (hm : s.size ≤ 100000000) (hp : p ≤ s.size) (hN : s.size - p ≤ N + 1) (hf : 2 * (s.size - p) + 1 ≤ f) (hr : RS w R s p) (h5 : 5 ≤ k) (h11 : k ≤ 11) : Calls Try.prog 198 #[ptr R, shv k, .pointer none] w (IC w R s (insC f k (s.data.toList.drop p))) := by
  have e : (k = 5 ∨ k = 7 ∨ k = 9) ∨ k = 6 ∨ (k = 8 ∨ k = 10) ∨ k = 11 := by omega
  rcases e with h | h | h | h
  · exact inside_o s N ih R p f k w hm hp hN hf hr h
  · exact inside_6 s N ih R p f k w hm hp hN hf hr h
  · exact inside_n s N ih R p f k w hm hp hN hf hr h
  · exact inside_11 s N ih R p f k w hm hp hN hf hr h

theorem inside_told (s : ByteArray) (N : Nat) (ih : IHT s N) (P R p f k : Nat) (w : World) (hm : s.size ≤ 100000000) (hp : p ≤ s.size) (hN : s.size - p ≤ N + 1) (hf : 2 * (s.size - p) + 1 ≤ f) (hr : RS w R s p) (hPR : P < R) (htp : TP w P R []) (h5 : 5 ≤ k) (h11 : k ≤ 11) : Calls Try.prog 198 #[ptr R, shv k, .pointer (some ⟨P, 0, none⟩)] w (ICT w P R s (insC f k (s.data.toList.drop p))) := by
  have e : (k = 5 ∨ k = 7 ∨ k = 9) ∨ k = 6 ∨ (k = 8 ∨ k = 10) ∨ k = 11 := by omega
  rcases e with h | h | h | h
  · exact inside_o_t s N ih P R p f k w hm hp hN hf hr hPR htp h
  · exact inside_6_t s N ih P R p f k w hm hp hN hf hr hPR htp h
  · exact inside_n_t s N ih P R p f k w hm hp hN hf hr hPR htp h
  · exact inside_11_t s N ih P R p f k w hm hp hN hf hr hPR htp h

def TCT (w : World) (P R : Nat) (s : ByteArray) (r : Option (Nat × Nat × List Txt × Txt)) (e : Ending) (w' : World) : Prop := Only (fun k => P ≤ k) w w' ∧ match r with
  | some (k, n, ps, rest) => e = .returned (.tuple #[.int .i64 k, .int .u64 n]) ∧ RS w' R s (behind s rest) ∧ TP w' P R ps
  | none => Thrown e ∧ ∃ v, w'.heap[P]? = some (.cells #[v] 25 (0, 0))

set_option maxRecDepth 100000 in
theorem rterm_none (s : ByteArray) (R p f : Nat) (w : World) (hm : s.size ≤ 100000000) (hp : p ≤ s.size) (hf : 2 * (s.size - p) ≤ f) (hr : RS w R s p) (hk : kindOf (cb s p) = 0) : Calls Try.prog 163 #[ptr R, .pointer none] w (TC w R s (tmC f (s.data.toList.drop p))) := by
  obtain ⟨M, hr1, hr2⟩ := hr
  have HR := Lib.hid hr1
  have y0 : w.cell? ⟨R, 0, none⟩ = some (.string s) := cell_of hr1
  have y1 : w.cell? ⟨R, 1, none⟩ = some (.int .i64 p) := cell_of hr1
  have fz : w.frozen? ⟨R, 1, none⟩ = false := free_of hr1
  have HF := Lib.hid (show tmC f (s.data.toList.drop p) = none from by
    rcases Nat.lt_or_ge p s.size with h | h
    · obtain ⟨f, rfl⟩ : ∃ g, f = g + 1 := ⟨f - 1, by omega⟩
      rw [cb_in s p h, tmC_cons, if_pos hk]
    · rw [(cb_out s p h).2, tmC_nil])
  have hlb : ({ data := #[48, 97, 110, 120, 112, 100, 104, 107, 109, 115, 108] } : ByteArray) = lettersB := rfl
  rcases Nat.lt_or_ge p s.size with h | h
  · have q1 : ((p : Int) == (s.size : Int)) = false := by rw [beq_eq_false_iff_ne]; omega
    have q2 : (p : Int) < (s.size : Int) := by omega
    have p0 : (0 : Int) ≤ (p : Int) := by omega
    have IX := Lib.hid (fun W => index2 (s[p]'h) (-1) (by rw [← cb_get s p h, hk]; rfl) W)
    have wi : wrap64 ((p : Int) + 1) = (p : Int) + 1 := IntWalk.wrap64_in _ (by omega)
    have j3 : IntKind.i64.wrap 0 = 0 := IntWalk.i64_in _ (by omega)
    clear hr1 hr2 hm hp hf hk
    unfold lettersB at IX
    clear hlb
    go_enter Try.func163, Try.ntmps163
    go_wp2_with fail
    go_quiet (fail)
    go_wp2_with fail
    go_region_held3 (fun w' => w'.cell? ⟨R, 0, none⟩ = some (.string s) ∧ w'.cell? ⟨R, 1, none⟩ = some (.int .i64 p)) (first | go_keep | exact ⟨y0, y1⟩) (first | (go_at_call 195; (with_reducible refine Calls.mono (IX.out _) ?_); rintro e w3 ⟨rfl, hw3⟩; obtain rfl := hw3))
    go_wp2_with fail
    exact ⟨rfl, (((Only.refl (fun q => q = R) w).drewN nq).drew).set rfl, by rw [HF.out]; exact ⟨_, rfl⟩⟩
  · have q1 : ((p : Int) == (s.size : Int)) = true := by rw [beq_iff_eq]; omega
    have OS := Lib.hid (fun (q : Nat) => (Only.refl (fun q => q = R) w).drewN q)
    clear hr1 hr2 hm hp hf hk h hlb
    go_enter Try.func163, Try.ntmps163
    go_wp2_with fail
    go_quiet (fail)
    go_wp2_with fail
    exact ⟨rfl, OS.out nq, by rw [HF.out]; exact ⟨_, rfl⟩⟩
set_option maxRecDepth 100000 in
theorem rterm_zero (s : ByteArray) (R p f : Nat) (w : World) (hm : s.size ≤ 100000000) (hp : p ≤ s.size) (hf : 2 * (s.size - p) ≤ f) (hr : RS w R s p) (hk : kindOf (cb s p) = 1) : Calls Try.prog 163 #[ptr R, .pointer none] w (TC w R s (tmC f (s.data.toList.drop p))) := by
  obtain ⟨M, hr1, hr2⟩ := hr
  have HR := Lib.hid hr1
  have HM2 := Lib.hid hr2
  have y0 : w.cell? ⟨R, 0, none⟩ = some (.string s) := cell_of hr1
  have y1 : w.cell? ⟨R, 1, none⟩ = some (.int .i64 p) := cell_of hr1
  have fz : w.frozen? ⟨R, 1, none⟩ = false := free_of hr1
  have h : p < s.size := by
    rcases Nat.lt_or_ge p s.size with h | h
    · exact h
    · rw [(cb_out s p h).1, show kindOf 0 = 0 from by decide] at hk
      omega
  have q1 : ((p : Int) == (s.size : Int)) = false := by rw [beq_eq_false_iff_ne]; omega
  have q2 : (p : Int) < (s.size : Int) := by omega
  have p0 : (0 : Int) ≤ (p : Int) := by omega
  have HS := Lib.hid hm
  have HLT := Lib.hid h
  have HF := Lib.hid (show tmC f (s.data.toList.drop p) = some (1, 0, [], s.data.toList.drop (p + 1)) from by
    obtain ⟨f, rfl⟩ : ∃ g, f = g + 1 := ⟨f - 1, by omega⟩
    rw [cb_in s p h, tmC_cons, hk]
    rfl)
  have IX := Lib.hid (fun W => index2 (s[p]'h) 0 (by rw [← cb_get s p h, hk]; rfl) W)
  have wi : wrap64 ((p : Int) + 1) = (p : Int) + 1 := IntWalk.wrap64_in _ (by omega)
  have j3 : IntKind.i64.wrap 1 = 1 := IntWalk.i64_in _ (by omega)
  clear hr1 hr2 hm hp hf hk
  unfold lettersB at IX
  go_enter Try.func163, Try.ntmps163
  go_wp2_with fail
  go_quiet (fail)
  go_wp2_with fail
  go_region_held3 (fun w' => w'.cell? ⟨R, 0, none⟩ = some (.string s) ∧ w'.cell? ⟨R, 1, none⟩ = some (.int .i64 p)) (first | go_keep | exact ⟨y0, y1⟩) (first | (go_at_call 195; (with_reducible refine Calls.mono (IX.out _) ?_); rintro e w3 ⟨rfl, hw3⟩; obtain rfl := hw3))
  have HR2 := Lib.hid (show Rd ((w.drewN (nq + 1)).setCell ⟨R, 1, none⟩ (.int .i64 ((p : Int) + 1))) R s (p + 1) M from HR.out.drewN.set _ _ rfl)
  have O2 := Lib.hid (show Only (fun q => q = R) w ((w.drewN (nq + 1)).setCell ⟨R, 1, none⟩ (.int .i64 ((p : Int) + 1))) from ((Only.refl (fun q => q = R) w).drewN (nq + 1)).set rfl)
  go_wp2_with fail
  have wi2 := wi
  go_ret2
  refine ⟨O2.out.mono (T := fun q => q = R) (fun q e => e), ?_⟩
  rw [HF.out]
  refine ⟨rfl, ?_⟩
  rw [behind, List.length_drop, tl_size, show s.size - (s.size - (p + 1)) = p + 1 by have := HLT.out; omega]
  exact RS.move HM2.out HR.out O2.out HR2.out
set_option maxRecDepth 100000 in
theorem rterm_atom (s : ByteArray) (R p f : Nat) (w : World) (hm : s.size ≤ 100000000) (hp : p ≤ s.size) (hf : 2 * (s.size - p) ≤ f) (hr : RS w R s p) (hk : kindOf (cb s p) = 2) : Calls Try.prog 163 #[ptr R, .pointer none] w (TC w R s (tmC f (s.data.toList.drop p))) := by
  obtain ⟨M, hr1, hr2⟩ := hr
  have HR := Lib.hid hr1
  have HM2 := Lib.hid hr2
  have y0 : w.cell? ⟨R, 0, none⟩ = some (.string s) := cell_of hr1
  have y1 : w.cell? ⟨R, 1, none⟩ = some (.int .i64 p) := cell_of hr1
  have fz : w.frozen? ⟨R, 1, none⟩ = false := free_of hr1
  have h : p < s.size := by
    rcases Nat.lt_or_ge p s.size with h | h
    · exact h
    · rw [(cb_out s p h).1, show kindOf 0 = 0 from by decide] at hk
      omega
  have q1 : ((p : Int) == (s.size : Int)) = false := by rw [beq_eq_false_iff_ne]; omega
  have q2 : (p : Int) < (s.size : Int) := by omega
  have p0 : (0 : Int) ≤ (p : Int) := by omega
  have HS := Lib.hid hm
  have HLT := Lib.hid h
  have HF := Lib.hid (show tmC f (s.data.toList.drop p) = (match numOf 0 4294967295 (s.data.toList.drop (p + 1)) with | none => none | some (n, r2) => some (2, n, [], r2)) from by
    obtain ⟨f, rfl⟩ : ∃ g, f = g + 1 := ⟨f - 1, by omega⟩
    rw [cb_in s p h, tmC_cons, hk]
    rfl)
  have IX := Lib.hid (fun W => index2 (s[p]'h) 1 (by rw [← cb_get s p h, hk]; rfl) W)
  have wi : wrap64 ((p : Int) + 1) = (p : Int) + 1 := IntWalk.wrap64_in _ (by omega)
  have j3 : IntKind.i64.wrap 2 = 2 := IntWalk.i64_in _ (by omega)
  have NC := Lib.hid (fun W (q : Rd W R s (p + 1) M) => (show Calls Try.prog 196 #[ptr R, .int .u64 0, .int .u64 4294967295] W (Numb W R s M (numOf 0 4294967295 (s.data.toList.drop (p + 1)))) from number_any R s (p + 1) 0 4294967295 M W (by omega) h q))
  clear hr1 hr2 hm hp hf hk
  unfold lettersB at IX
  go_enter Try.func163, Try.ntmps163
  go_wp2_with fail
  go_quiet (fail)
  go_wp2_with fail
  go_region_held3 (fun w' => w'.cell? ⟨R, 0, none⟩ = some (.string s) ∧ w'.cell? ⟨R, 1, none⟩ = some (.int .i64 p)) (first | go_keep | exact ⟨y0, y1⟩) (first | (go_at_call 195; (with_reducible refine Calls.mono (IX.out _) ?_); rintro e w3 ⟨rfl, hw3⟩; obtain rfl := hw3))
  have HR2 := Lib.hid (show Rd ((w.drewN (nq + 1)).setCell ⟨R, 1, none⟩ (.int .i64 ((p : Int) + 1))) R s (p + 1) M from HR.out.drewN.set _ _ rfl)
  have O2 := Lib.hid (show Only (fun q => q = R) w ((w.drewN (nq + 1)).setCell ⟨R, 1, none⟩ (.int .i64 ((p : Int) + 1))) from ((Only.refl (fun q => q = R) w).drewN (nq + 1)).set rfl)
  go_wp2_with fail
  generalize (w.drewN (nq + 1)).setCell ⟨R, 1, none⟩ (.int .i64 ((p : Int) + 1)) = W2 at HR2 O2 ⊢
  have NC2 := Lib.hid (NC.out W2 HR2.out)
  obtain ⟨q, hq⟩ : ∃ q, q = numOf 0 4294967295 (s.data.toList.drop (p + 1)) := ⟨_, rfl⟩
  rw [← hq] at NC2 HF
  clear hq y0 y1 fz
  (with_reducible refine NC2.out.mono ?_)
  rintro e w4 ⟨o4, hr4⟩
  have O4 := Lib.hid (O2.out.trans o4)
  cases q with
  | none =>
    obtain ⟨v, rfl⟩ := hr4
    clear o4 NC2
    go_wp2_with fail
    exact ⟨rfl, O4.out.mono (T := fun q => q = R) (fun q e => e), by rw [HF.out]; exact ⟨_, rfl⟩⟩
  | some dd =>
    obtain ⟨nv, rest⟩ := dd
    obtain ⟨rfl, hr4⟩ := hr4
    have R4 := Lib.hid (RS.move HM2.out HR.out O4.out hr4)
    clear o4 NC2 hr4
    go_wp2_with fail
    go_ret2
    exact ⟨O4.out.mono (T := fun q => q = R) (fun q e => e), by rw [HF.out]; exact ⟨rfl, R4.out⟩⟩
set_option maxRecDepth 100000 in
theorem rterm_num (s : ByteArray) (R p f : Nat) (w : World) (hm : s.size ≤ 100000000) (hp : p ≤ s.size) (hf : 2 * (s.size - p) ≤ f) (hr : RS w R s p) (hk : kindOf (cb s p) = 3) : Calls Try.prog 163 #[ptr R, .pointer none] w (TC w R s (tmC f (s.data.toList.drop p))) := by
  obtain ⟨M, hr1, hr2⟩ := hr
  have HR := Lib.hid hr1
  have HM2 := Lib.hid hr2
  have y0 : w.cell? ⟨R, 0, none⟩ = some (.string s) := cell_of hr1
  have y1 : w.cell? ⟨R, 1, none⟩ = some (.int .i64 p) := cell_of hr1
  have fz : w.frozen? ⟨R, 1, none⟩ = false := free_of hr1
  have h : p < s.size := by
    rcases Nat.lt_or_ge p s.size with h | h
    · exact h
    · rw [(cb_out s p h).1, show kindOf 0 = 0 from by decide] at hk
      omega
  have q1 : ((p : Int) == (s.size : Int)) = false := by rw [beq_eq_false_iff_ne]; omega
  have q2 : (p : Int) < (s.size : Int) := by omega
  have p0 : (0 : Int) ≤ (p : Int) := by omega
  have HS := Lib.hid hm
  have HLT := Lib.hid h
  have HF := Lib.hid (show tmC f (s.data.toList.drop p) = (match numOf 0 most (s.data.toList.drop (p + 1)) with | none => none | some (n, r2) => some (3, n, [], r2)) from by
    obtain ⟨f, rfl⟩ : ∃ g, f = g + 1 := ⟨f - 1, by omega⟩
    rw [cb_in s p h, tmC_cons, hk]
    rfl)
  have IX := Lib.hid (fun W => index2 (s[p]'h) 2 (by rw [← cb_get s p h, hk]; rfl) W)
  have wi : wrap64 ((p : Int) + 1) = (p : Int) + 1 := IntWalk.wrap64_in _ (by omega)
  have j3 : IntKind.i64.wrap 3 = 3 := IntWalk.i64_in _ (by omega)
  have NC := Lib.hid (fun W (q : Rd W R s (p + 1) M) => (show Calls Try.prog 196 #[ptr R, .int .u64 0, .int .u64 18446744073709551615] W (Numb W R s M (numOf 0 most (s.data.toList.drop (p + 1)))) from number_any R s (p + 1) 0 most M W (by omega) h q))
  clear hr1 hr2 hm hp hf hk
  unfold lettersB at IX
  go_enter Try.func163, Try.ntmps163
  go_wp2_with fail
  go_quiet (fail)
  go_wp2_with fail
  go_region_held3 (fun w' => w'.cell? ⟨R, 0, none⟩ = some (.string s) ∧ w'.cell? ⟨R, 1, none⟩ = some (.int .i64 p)) (first | go_keep | exact ⟨y0, y1⟩) (first | (go_at_call 195; (with_reducible refine Calls.mono (IX.out _) ?_); rintro e w3 ⟨rfl, hw3⟩; obtain rfl := hw3))
  have HR2 := Lib.hid (show Rd ((w.drewN (nq + 1)).setCell ⟨R, 1, none⟩ (.int .i64 ((p : Int) + 1))) R s (p + 1) M from HR.out.drewN.set _ _ rfl)
  have O2 := Lib.hid (show Only (fun q => q = R) w ((w.drewN (nq + 1)).setCell ⟨R, 1, none⟩ (.int .i64 ((p : Int) + 1))) from ((Only.refl (fun q => q = R) w).drewN (nq + 1)).set rfl)
  go_wp2_with fail
  generalize (w.drewN (nq + 1)).setCell ⟨R, 1, none⟩ (.int .i64 ((p : Int) + 1)) = W2 at HR2 O2 ⊢
  have NC2 := Lib.hid (NC.out W2 HR2.out)
  obtain ⟨q, hq⟩ : ∃ q, q = numOf 0 most (s.data.toList.drop (p + 1)) := ⟨_, rfl⟩
  rw [← hq] at NC2 HF
  clear hq y0 y1 fz
  (with_reducible refine NC2.out.mono ?_)
  rintro e w4 ⟨o4, hr4⟩
  have O4 := Lib.hid (O2.out.trans o4)
  cases q with
  | none =>
    obtain ⟨v, rfl⟩ := hr4
    clear o4 NC2
    go_wp2_with fail
    exact ⟨rfl, O4.out.mono (T := fun q => q = R) (fun q e => e), by rw [HF.out]; exact ⟨_, rfl⟩⟩
  | some dd =>
    obtain ⟨nv, rest⟩ := dd
    obtain ⟨rfl, hr4⟩ := hr4
    have R4 := Lib.hid (RS.move HM2.out HR.out O4.out hr4)
    clear o4 NC2 hr4
    go_wp2_with fail
    go_ret2
    exact ⟨O4.out.mono (T := fun q => q = R) (fun q e => e), by rw [HF.out]; exact ⟨rfl, R4.out⟩⟩
set_option maxRecDepth 100000 in
theorem rterm_data (s : ByteArray) (R p f : Nat) (w : World) (hm : s.size ≤ 100000000) (hp : p ≤ s.size) (hf : 2 * (s.size - p) ≤ f) (hr : RS w R s p) (hk : kindOf (cb s p) = 4) : Calls Try.prog 163 #[ptr R, .pointer none] w (TC w R s (tmC f (s.data.toList.drop p))) := by
  obtain ⟨M, hr1, hr2⟩ := hr
  have HR := Lib.hid hr1
  have HM2 := Lib.hid hr2
  have y0 : w.cell? ⟨R, 0, none⟩ = some (.string s) := cell_of hr1
  have y1 : w.cell? ⟨R, 1, none⟩ = some (.int .i64 p) := cell_of hr1
  have fz : w.frozen? ⟨R, 1, none⟩ = false := free_of hr1
  have h : p < s.size := by
    rcases Nat.lt_or_ge p s.size with h | h
    · exact h
    · rw [(cb_out s p h).1, show kindOf 0 = 0 from by decide] at hk
      omega
  have q1 : ((p : Int) == (s.size : Int)) = false := by rw [beq_eq_false_iff_ne]; omega
  have q2 : (p : Int) < (s.size : Int) := by omega
  have p0 : (0 : Int) ≤ (p : Int) := by omega
  have HS := Lib.hid hm
  have HLT := Lib.hid h
  have HF := Lib.hid (show tmC f (s.data.toList.drop p) = (match datOf (s.data.toList.drop (p + 1)) with | none => none | some r2 => some (4, 0, [], r2)) from by
    obtain ⟨f, rfl⟩ : ∃ g, f = g + 1 := ⟨f - 1, by omega⟩
    rw [cb_in s p h, tmC_cons, hk]
    rfl)
  have IX := Lib.hid (fun W => index2 (s[p]'h) 3 (by rw [← cb_get s p h, hk]; rfl) W)
  have wi : wrap64 ((p : Int) + 1) = (p : Int) + 1 := IntWalk.wrap64_in _ (by omega)
  have j3 : IntKind.i64.wrap 4 = 4 := IntWalk.i64_in _ (by omega)
  have NC := Lib.hid (fun W (q : Rd W R s (p + 1) M) => data_any R s (p + 1) M W (by omega) h q)
  clear hr1 hr2 hm hp hf hk
  unfold lettersB at IX
  go_enter Try.func163, Try.ntmps163
  go_wp2_with fail
  go_quiet (fail)
  go_wp2_with fail
  go_region_held3 (fun w' => w'.cell? ⟨R, 0, none⟩ = some (.string s) ∧ w'.cell? ⟨R, 1, none⟩ = some (.int .i64 p)) (first | go_keep | exact ⟨y0, y1⟩) (first | (go_at_call 195; (with_reducible refine Calls.mono (IX.out _) ?_); rintro e w3 ⟨rfl, hw3⟩; obtain rfl := hw3))
  have HR2 := Lib.hid (show Rd ((w.drewN (nq + 1)).setCell ⟨R, 1, none⟩ (.int .i64 ((p : Int) + 1))) R s (p + 1) M from HR.out.drewN.set _ _ rfl)
  have O2 := Lib.hid (show Only (fun q => q = R) w ((w.drewN (nq + 1)).setCell ⟨R, 1, none⟩ (.int .i64 ((p : Int) + 1))) from ((Only.refl (fun q => q = R) w).drewN (nq + 1)).set rfl)
  go_wp2_with fail
  generalize (w.drewN (nq + 1)).setCell ⟨R, 1, none⟩ (.int .i64 ((p : Int) + 1)) = W2 at HR2 O2 ⊢
  have NC2 := Lib.hid (NC.out W2 HR2.out)
  obtain ⟨q, hq⟩ : ∃ q, q = datOf (s.data.toList.drop (p + 1)) := ⟨_, rfl⟩
  rw [← hq] at NC2 HF
  clear hq y0 y1 fz
  (with_reducible refine NC2.out.mono ?_)
  rintro e w4 ⟨o4, hr4⟩
  have O4 := Lib.hid (O2.out.trans o4)
  cases q with
  | none =>
    obtain ⟨v, rfl⟩ := hr4
    clear o4 NC2
    go_wp2_with fail
    exact ⟨rfl, O4.out.mono (T := fun q => q = R) (fun q e => e), by rw [HF.out]; exact ⟨_, rfl⟩⟩
  | some dd =>
    skip
    obtain ⟨rfl, hr4⟩ := hr4
    have R4 := Lib.hid (RS.move HM2.out HR.out O4.out hr4)
    clear o4 NC2 hr4
    go_wp2_with fail
    go_ret2
    exact ⟨O4.out.mono (T := fun q => q = R) (fun q e => e), by rw [HF.out]; exact ⟨rfl, R4.out⟩⟩
end Go.Proofs.Ytbjnejnjlidiaaa.prL
namespace Go.Proofs.Ytbjnejnjlidiaaa.prL
open Go.RowKit kit numA numB numC numD numE numF tmA tmB tmC srcA trA trB trD trE prA prB prC prD
set_option linter.unusedVariables false
set_option linter.unusedSimpArgs false

set_option maxRecDepth 100000 in
theorem rterm_none_t (s : ByteArray) (P R p f : Nat) (w : World) (hm : s.size ≤ 100000000) (hp : p ≤ s.size) (hf : 2 * (s.size - p) ≤ f) (hr : RS w R s p) (hPR : P < R) (htp : TP w P R []) (hk : kindOf (cb s p) = 0) : Calls Try.prog 163 #[ptr R, .pointer (some ⟨P, 0, none⟩)] w (TCT w P R s (tmC f (s.data.toList.drop p))) := by
  obtain ⟨M, hr1, hr2⟩ := hr
  have HR := Lib.hid hr1
  have y0 : w.cell? ⟨R, 0, none⟩ = some (.string s) := cell_of hr1
  have y1 : w.cell? ⟨R, 1, none⟩ = some (.int .i64 p) := cell_of hr1
  have fz : w.frozen? ⟨R, 1, none⟩ = false := free_of hr1
  have HF := Lib.hid (show tmC f (s.data.toList.drop p) = none from by
    rcases Nat.lt_or_ge p s.size with h | h
    · obtain ⟨f, rfl⟩ : ∃ g, f = g + 1 := ⟨f - 1, by omega⟩
      rw [cb_in s p h, tmC_cons, if_pos hk]
    · rw [(cb_out s p h).2, tmC_nil])
  have HTP := Lib.hid htp
  have hlb : ({ data := #[48, 97, 110, 120, 112, 100, 104, 107, 109, 115, 108] } : ByteArray) = lettersB := rfl
  rcases Nat.lt_or_ge p s.size with h | h
  · have q1 : ((p : Int) == (s.size : Int)) = false := by rw [beq_eq_false_iff_ne]; omega
    have q2 : (p : Int) < (s.size : Int) := by omega
    have p0 : (0 : Int) ≤ (p : Int) := by omega
    have IX := Lib.hid (fun W => index2 (s[p]'h) (-1) (by rw [← cb_get s p h, hk]; rfl) W)
    have wi : wrap64 ((p : Int) + 1) = (p : Int) + 1 := IntWalk.wrap64_in _ (by omega)
    have j3 : IntKind.i64.wrap 0 = 0 := IntWalk.i64_in _ (by omega)
    have HPR := Lib.hid hPR
    clear hr1 hr2 hm hp hf hk hPR htp
    unfold lettersB at IX
    clear hlb
    go_enter Try.func163, Try.ntmps163
    go_wp2_with fail
    go_quiet (fail)
    go_wp2_with fail
    go_region_held3 (fun w' => w'.cell? ⟨R, 0, none⟩ = some (.string s) ∧ w'.cell? ⟨R, 1, none⟩ = some (.int .i64 p)) (first | go_keep | exact ⟨y0, y1⟩) (first | (go_at_call 195; (with_reducible refine Calls.mono (IX.out _) ?_); rintro e w3 ⟨rfl, hw3⟩; obtain rfl := hw3))
    go_wp2_with fail
    exact ⟨rfl, (((Only.refl (fun q => P ≤ q) w).drewN nq).drew).set (by show P ≤ R; have := HPR.out; omega), by rw [HF.out]; exact ⟨⟨_, rfl⟩, (HTP.out.keep HPR.out ((((Only.refl (fun q => q = R) w).drewN nq).drew).set (o := 1) (v := .int .i64 ((p : Int) + 1)) rfl)).cell⟩⟩
  · have q1 : ((p : Int) == (s.size : Int)) = true := by rw [beq_iff_eq]; omega
    have OS := Lib.hid (fun (q : Nat) => (Only.refl (fun q => P ≤ q) w).drewN q)
    clear hr1 hr2 hm hp hf hk h hlb hPR htp
    go_enter Try.func163, Try.ntmps163
    go_wp2_with fail
    go_quiet (fail)
    go_wp2_with fail
    exact ⟨rfl, OS.out nq, by rw [HF.out]; exact ⟨⟨_, rfl⟩, (HTP.out.keep0 ((Only.refl (fun _ => False) w).drewN nq)).cell⟩⟩
set_option maxRecDepth 100000 in
theorem rterm_zero_t (s : ByteArray) (P R p f : Nat) (w : World) (hm : s.size ≤ 100000000) (hp : p ≤ s.size) (hf : 2 * (s.size - p) ≤ f) (hr : RS w R s p) (hPR : P < R) (htp : TP w P R []) (hk : kindOf (cb s p) = 1) : Calls Try.prog 163 #[ptr R, .pointer (some ⟨P, 0, none⟩)] w (TCT w P R s (tmC f (s.data.toList.drop p))) := by
  obtain ⟨M, hr1, hr2⟩ := hr
  have HR := Lib.hid hr1
  have HM2 := Lib.hid hr2
  have y0 : w.cell? ⟨R, 0, none⟩ = some (.string s) := cell_of hr1
  have y1 : w.cell? ⟨R, 1, none⟩ = some (.int .i64 p) := cell_of hr1
  have fz : w.frozen? ⟨R, 1, none⟩ = false := free_of hr1
  have h : p < s.size := by
    rcases Nat.lt_or_ge p s.size with h | h
    · exact h
    · rw [(cb_out s p h).1, show kindOf 0 = 0 from by decide] at hk
      omega
  have q1 : ((p : Int) == (s.size : Int)) = false := by rw [beq_eq_false_iff_ne]; omega
  have q2 : (p : Int) < (s.size : Int) := by omega
  have p0 : (0 : Int) ≤ (p : Int) := by omega
  have HS := Lib.hid hm
  have HLT := Lib.hid h
  have HPR := Lib.hid hPR
  have HTP := Lib.hid htp
  have HF := Lib.hid (show tmC f (s.data.toList.drop p) = some (1, 0, [], s.data.toList.drop (p + 1)) from by
    obtain ⟨f, rfl⟩ : ∃ g, f = g + 1 := ⟨f - 1, by omega⟩
    rw [cb_in s p h, tmC_cons, hk]
    rfl)
  have IX := Lib.hid (fun W => index2 (s[p]'h) 0 (by rw [← cb_get s p h, hk]; rfl) W)
  have wi : wrap64 ((p : Int) + 1) = (p : Int) + 1 := IntWalk.wrap64_in _ (by omega)
  have j3 : IntKind.i64.wrap 1 = 1 := IntWalk.i64_in _ (by omega)
  clear hr1 hr2 hm hp hf hk hPR htp
  unfold lettersB at IX
  go_enter Try.func163, Try.ntmps163
  go_wp2_with fail
  go_quiet (fail)
  go_wp2_with fail
  go_region_held3 (fun w' => w'.cell? ⟨R, 0, none⟩ = some (.string s) ∧ w'.cell? ⟨R, 1, none⟩ = some (.int .i64 p)) (first | go_keep | exact ⟨y0, y1⟩) (first | (go_at_call 195; (with_reducible refine Calls.mono (IX.out _) ?_); rintro e w3 ⟨rfl, hw3⟩; obtain rfl := hw3))
  have HR2 := Lib.hid (show Rd ((w.drewN (nq + 1)).setCell ⟨R, 1, none⟩ (.int .i64 ((p : Int) + 1))) R s (p + 1) M from HR.out.drewN.set _ _ rfl)
  have O2 := Lib.hid (show Only (fun q => q = R) w ((w.drewN (nq + 1)).setCell ⟨R, 1, none⟩ (.int .i64 ((p : Int) + 1))) from ((Only.refl (fun q => q = R) w).drewN (nq + 1)).set rfl)
  go_wp2_with fail
  have wi2 := wi
  go_ret2
  refine ⟨O2.out.mono (T := fun q => P ≤ q) (fun q e => by subst e; show P ≤ _; have := HPR.out; omega), ?_⟩
  rw [HF.out]
  refine ⟨rfl, ?_, HTP.out.keep HPR.out O2.out⟩
  rw [behind, List.length_drop, tl_size, show s.size - (s.size - (p + 1)) = p + 1 by have := HLT.out; omega]
  exact RS.move HM2.out HR.out O2.out HR2.out
set_option maxRecDepth 100000 in
theorem rterm_atom_t (s : ByteArray) (P R p f : Nat) (w : World) (hm : s.size ≤ 100000000) (hp : p ≤ s.size) (hf : 2 * (s.size - p) ≤ f) (hr : RS w R s p) (hPR : P < R) (htp : TP w P R []) (hk : kindOf (cb s p) = 2) : Calls Try.prog 163 #[ptr R, .pointer (some ⟨P, 0, none⟩)] w (TCT w P R s (tmC f (s.data.toList.drop p))) := by
  obtain ⟨M, hr1, hr2⟩ := hr
  have HR := Lib.hid hr1
  have HM2 := Lib.hid hr2
  have y0 : w.cell? ⟨R, 0, none⟩ = some (.string s) := cell_of hr1
  have y1 : w.cell? ⟨R, 1, none⟩ = some (.int .i64 p) := cell_of hr1
  have fz : w.frozen? ⟨R, 1, none⟩ = false := free_of hr1
  have h : p < s.size := by
    rcases Nat.lt_or_ge p s.size with h | h
    · exact h
    · rw [(cb_out s p h).1, show kindOf 0 = 0 from by decide] at hk
      omega
  have q1 : ((p : Int) == (s.size : Int)) = false := by rw [beq_eq_false_iff_ne]; omega
  have q2 : (p : Int) < (s.size : Int) := by omega
  have p0 : (0 : Int) ≤ (p : Int) := by omega
  have HS := Lib.hid hm
  have HLT := Lib.hid h
  have HPR := Lib.hid hPR
  have HTP := Lib.hid htp
  have HF := Lib.hid (show tmC f (s.data.toList.drop p) = (match numOf 0 4294967295 (s.data.toList.drop (p + 1)) with | none => none | some (n, r2) => some (2, n, [], r2)) from by
    obtain ⟨f, rfl⟩ : ∃ g, f = g + 1 := ⟨f - 1, by omega⟩
    rw [cb_in s p h, tmC_cons, hk]
    rfl)
  have IX := Lib.hid (fun W => index2 (s[p]'h) 1 (by rw [← cb_get s p h, hk]; rfl) W)
  have wi : wrap64 ((p : Int) + 1) = (p : Int) + 1 := IntWalk.wrap64_in _ (by omega)
  have j3 : IntKind.i64.wrap 2 = 2 := IntWalk.i64_in _ (by omega)
  have NC := Lib.hid (fun W (q : Rd W R s (p + 1) M) => (show Calls Try.prog 196 #[ptr R, .int .u64 0, .int .u64 4294967295] W (Numb W R s M (numOf 0 4294967295 (s.data.toList.drop (p + 1)))) from number_any R s (p + 1) 0 4294967295 M W (by omega) h q))
  clear hr1 hr2 hm hp hf hk hPR htp
  unfold lettersB at IX
  go_enter Try.func163, Try.ntmps163
  go_wp2_with fail
  go_quiet (fail)
  go_wp2_with fail
  go_region_held3 (fun w' => w'.cell? ⟨R, 0, none⟩ = some (.string s) ∧ w'.cell? ⟨R, 1, none⟩ = some (.int .i64 p)) (first | go_keep | exact ⟨y0, y1⟩) (first | (go_at_call 195; (with_reducible refine Calls.mono (IX.out _) ?_); rintro e w3 ⟨rfl, hw3⟩; obtain rfl := hw3))
  have HR2 := Lib.hid (show Rd ((w.drewN (nq + 1)).setCell ⟨R, 1, none⟩ (.int .i64 ((p : Int) + 1))) R s (p + 1) M from HR.out.drewN.set _ _ rfl)
  have O2 := Lib.hid (show Only (fun q => q = R) w ((w.drewN (nq + 1)).setCell ⟨R, 1, none⟩ (.int .i64 ((p : Int) + 1))) from ((Only.refl (fun q => q = R) w).drewN (nq + 1)).set rfl)
  go_wp2_with fail
  generalize (w.drewN (nq + 1)).setCell ⟨R, 1, none⟩ (.int .i64 ((p : Int) + 1)) = W2 at HR2 O2 ⊢
  have NC2 := Lib.hid (NC.out W2 HR2.out)
  obtain ⟨q, hq⟩ : ∃ q, q = numOf 0 4294967295 (s.data.toList.drop (p + 1)) := ⟨_, rfl⟩
  rw [← hq] at NC2 HF
  clear hq y0 y1 fz
  (with_reducible refine NC2.out.mono ?_)
  rintro e w4 ⟨o4, hr4⟩
  have O4 := Lib.hid (O2.out.trans o4)
  cases q with
  | none =>
    obtain ⟨v, rfl⟩ := hr4
    clear o4 NC2
    go_wp2_with fail
    exact ⟨rfl, O4.out.mono (T := fun q => P ≤ q) (fun q e => by subst e; show P ≤ _; have := HPR.out; omega), by rw [HF.out]; exact ⟨⟨_, rfl⟩, (HTP.out.keep HPR.out O4.out).cell⟩⟩
  | some dd =>
    obtain ⟨nv, rest⟩ := dd
    obtain ⟨rfl, hr4⟩ := hr4
    have R4 := Lib.hid (RS.move HM2.out HR.out O4.out hr4)
    clear o4 NC2 hr4
    go_wp2_with fail
    go_ret2
    exact ⟨O4.out.mono (T := fun q => P ≤ q) (fun q e => by subst e; show P ≤ _; have := HPR.out; omega), by rw [HF.out]; exact ⟨rfl, R4.out, HTP.out.keep HPR.out O4.out⟩⟩
set_option maxRecDepth 100000 in
theorem rterm_num_t (s : ByteArray) (P R p f : Nat) (w : World) (hm : s.size ≤ 100000000) (hp : p ≤ s.size) (hf : 2 * (s.size - p) ≤ f) (hr : RS w R s p) (hPR : P < R) (htp : TP w P R []) (hk : kindOf (cb s p) = 3) : Calls Try.prog 163 #[ptr R, .pointer (some ⟨P, 0, none⟩)] w (TCT w P R s (tmC f (s.data.toList.drop p))) := by
  obtain ⟨M, hr1, hr2⟩ := hr
  have HR := Lib.hid hr1
  have HM2 := Lib.hid hr2
  have y0 : w.cell? ⟨R, 0, none⟩ = some (.string s) := cell_of hr1
  have y1 : w.cell? ⟨R, 1, none⟩ = some (.int .i64 p) := cell_of hr1
  have fz : w.frozen? ⟨R, 1, none⟩ = false := free_of hr1
  have h : p < s.size := by
    rcases Nat.lt_or_ge p s.size with h | h
    · exact h
    · rw [(cb_out s p h).1, show kindOf 0 = 0 from by decide] at hk
      omega
  have q1 : ((p : Int) == (s.size : Int)) = false := by rw [beq_eq_false_iff_ne]; omega
  have q2 : (p : Int) < (s.size : Int) := by omega
  have p0 : (0 : Int) ≤ (p : Int) := by omega
  have HS := Lib.hid hm
  have HLT := Lib.hid h
  have HPR := Lib.hid hPR
  have HTP := Lib.hid htp
  have HF := Lib.hid (show tmC f (s.data.toList.drop p) = (match numOf 0 most (s.data.toList.drop (p + 1)) with | none => none | some (n, r2) => some (3, n, [], r2)) from by
    obtain ⟨f, rfl⟩ : ∃ g, f = g + 1 := ⟨f - 1, by omega⟩
    rw [cb_in s p h, tmC_cons, hk]
    rfl)
  have IX := Lib.hid (fun W => index2 (s[p]'h) 2 (by rw [← cb_get s p h, hk]; rfl) W)
  have wi : wrap64 ((p : Int) + 1) = (p : Int) + 1 := IntWalk.wrap64_in _ (by omega)
  have j3 : IntKind.i64.wrap 3 = 3 := IntWalk.i64_in _ (by omega)
  have NC := Lib.hid (fun W (q : Rd W R s (p + 1) M) => (show Calls Try.prog 196 #[ptr R, .int .u64 0, .int .u64 18446744073709551615] W (Numb W R s M (numOf 0 most (s.data.toList.drop (p + 1)))) from number_any R s (p + 1) 0 most M W (by omega) h q))
  clear hr1 hr2 hm hp hf hk hPR htp
  unfold lettersB at IX
  go_enter Try.func163, Try.ntmps163
  go_wp2_with fail
  go_quiet (fail)
  go_wp2_with fail
  go_region_held3 (fun w' => w'.cell? ⟨R, 0, none⟩ = some (.string s) ∧ w'.cell? ⟨R, 1, none⟩ = some (.int .i64 p)) (first | go_keep | exact ⟨y0, y1⟩) (first | (go_at_call 195; (with_reducible refine Calls.mono (IX.out _) ?_); rintro e w3 ⟨rfl, hw3⟩; obtain rfl := hw3))
  have HR2 := Lib.hid (show Rd ((w.drewN (nq + 1)).setCell ⟨R, 1, none⟩ (.int .i64 ((p : Int) + 1))) R s (p + 1) M from HR.out.drewN.set _ _ rfl)
  have O2 := Lib.hid (show Only (fun q => q = R) w ((w.drewN (nq + 1)).setCell ⟨R, 1, none⟩ (.int .i64 ((p : Int) + 1))) from ((Only.refl (fun q => q = R) w).drewN (nq + 1)).set rfl)
  go_wp2_with fail
  generalize (w.drewN (nq + 1)).setCell ⟨R, 1, none⟩ (.int .i64 ((p : Int) + 1)) = W2 at HR2 O2 ⊢
  have NC2 := Lib.hid (NC.out W2 HR2.out)
  obtain ⟨q, hq⟩ : ∃ q, q = numOf 0 most (s.data.toList.drop (p + 1)) := ⟨_, rfl⟩
  rw [← hq] at NC2 HF
  clear hq y0 y1 fz
  (with_reducible refine NC2.out.mono ?_)
  rintro e w4 ⟨o4, hr4⟩
  have O4 := Lib.hid (O2.out.trans o4)
  cases q with
  | none =>
    obtain ⟨v, rfl⟩ := hr4
    clear o4 NC2
    go_wp2_with fail
    exact ⟨rfl, O4.out.mono (T := fun q => P ≤ q) (fun q e => by subst e; show P ≤ _; have := HPR.out; omega), by rw [HF.out]; exact ⟨⟨_, rfl⟩, (HTP.out.keep HPR.out O4.out).cell⟩⟩
  | some dd =>
    obtain ⟨nv, rest⟩ := dd
    obtain ⟨rfl, hr4⟩ := hr4
    have R4 := Lib.hid (RS.move HM2.out HR.out O4.out hr4)
    clear o4 NC2 hr4
    go_wp2_with fail
    go_ret2
    exact ⟨O4.out.mono (T := fun q => P ≤ q) (fun q e => by subst e; show P ≤ _; have := HPR.out; omega), by rw [HF.out]; exact ⟨rfl, R4.out, HTP.out.keep HPR.out O4.out⟩⟩
set_option maxRecDepth 100000 in
theorem rterm_data_t (s : ByteArray) (P R p f : Nat) (w : World) (hm : s.size ≤ 100000000) (hp : p ≤ s.size) (hf : 2 * (s.size - p) ≤ f) (hr : RS w R s p) (hPR : P < R) (htp : TP w P R []) (hk : kindOf (cb s p) = 4) : Calls Try.prog 163 #[ptr R, .pointer (some ⟨P, 0, none⟩)] w (TCT w P R s (tmC f (s.data.toList.drop p))) := by
  obtain ⟨M, hr1, hr2⟩ := hr
  have HR := Lib.hid hr1
  have HM2 := Lib.hid hr2
  have y0 : w.cell? ⟨R, 0, none⟩ = some (.string s) := cell_of hr1
  have y1 : w.cell? ⟨R, 1, none⟩ = some (.int .i64 p) := cell_of hr1
  have fz : w.frozen? ⟨R, 1, none⟩ = false := free_of hr1
  have h : p < s.size := by
    rcases Nat.lt_or_ge p s.size with h | h
    · exact h
    · rw [(cb_out s p h).1, show kindOf 0 = 0 from by decide] at hk
      omega
  have q1 : ((p : Int) == (s.size : Int)) = false := by rw [beq_eq_false_iff_ne]; omega
  have q2 : (p : Int) < (s.size : Int) := by omega
  have p0 : (0 : Int) ≤ (p : Int) := by omega
  have HS := Lib.hid hm
  have HLT := Lib.hid h
  have HPR := Lib.hid hPR
  have HTP := Lib.hid htp
  have HF := Lib.hid (show tmC f (s.data.toList.drop p) = (match datOf (s.data.toList.drop (p + 1)) with | none => none | some r2 => some (4, 0, [], r2)) from by
    obtain ⟨f, rfl⟩ : ∃ g, f = g + 1 := ⟨f - 1, by omega⟩
    rw [cb_in s p h, tmC_cons, hk]
    rfl)
  have IX := Lib.hid (fun W => index2 (s[p]'h) 3 (by rw [← cb_get s p h, hk]; rfl) W)
  have wi : wrap64 ((p : Int) + 1) = (p : Int) + 1 := IntWalk.wrap64_in _ (by omega)
  have j3 : IntKind.i64.wrap 4 = 4 := IntWalk.i64_in _ (by omega)
  have NC := Lib.hid (fun W (q : Rd W R s (p + 1) M) => data_any R s (p + 1) M W (by omega) h q)
  clear hr1 hr2 hm hp hf hk hPR htp
  unfold lettersB at IX
  go_enter Try.func163, Try.ntmps163
  go_wp2_with fail
  go_quiet (fail)
  go_wp2_with fail
  go_region_held3 (fun w' => w'.cell? ⟨R, 0, none⟩ = some (.string s) ∧ w'.cell? ⟨R, 1, none⟩ = some (.int .i64 p)) (first | go_keep | exact ⟨y0, y1⟩) (first | (go_at_call 195; (with_reducible refine Calls.mono (IX.out _) ?_); rintro e w3 ⟨rfl, hw3⟩; obtain rfl := hw3))
  have HR2 := Lib.hid (show Rd ((w.drewN (nq + 1)).setCell ⟨R, 1, none⟩ (.int .i64 ((p : Int) + 1))) R s (p + 1) M from HR.out.drewN.set _ _ rfl)
  have O2 := Lib.hid (show Only (fun q => q = R) w ((w.drewN (nq + 1)).setCell ⟨R, 1, none⟩ (.int .i64 ((p : Int) + 1))) from ((Only.refl (fun q => q = R) w).drewN (nq + 1)).set rfl)
  go_wp2_with fail
  generalize (w.drewN (nq + 1)).setCell ⟨R, 1, none⟩ (.int .i64 ((p : Int) + 1)) = W2 at HR2 O2 ⊢
  have NC2 := Lib.hid (NC.out W2 HR2.out)
  obtain ⟨q, hq⟩ : ∃ q, q = datOf (s.data.toList.drop (p + 1)) := ⟨_, rfl⟩
  rw [← hq] at NC2 HF
  clear hq y0 y1 fz
  (with_reducible refine NC2.out.mono ?_)
  rintro e w4 ⟨o4, hr4⟩
  have O4 := Lib.hid (O2.out.trans o4)
  cases q with
  | none =>
    obtain ⟨v, rfl⟩ := hr4
    clear o4 NC2
    go_wp2_with fail
    exact ⟨rfl, O4.out.mono (T := fun q => P ≤ q) (fun q e => by subst e; show P ≤ _; have := HPR.out; omega), by rw [HF.out]; exact ⟨⟨_, rfl⟩, (HTP.out.keep HPR.out O4.out).cell⟩⟩
  | some dd =>
    skip
    obtain ⟨rfl, hr4⟩ := hr4
    have R4 := Lib.hid (RS.move HM2.out HR.out O4.out hr4)
    clear o4 NC2 hr4
    go_wp2_with fail
    go_ret2
    exact ⟨O4.out.mono (T := fun q => P ≤ q) (fun q e => by subst e; show P ≤ _; have := HPR.out; omega), by rw [HF.out]; exact ⟨rfl, R4.out, HTP.out.keep HPR.out O4.out⟩⟩
end Go.Proofs.Ytbjnejnjlidiaaa.prL
namespace Go.Proofs.Ytbjnejnjlidiaaa.prL
open Go.RowKit kit numA numB numC numD numE numF tmA tmB tmC srcA trA trB trD trE prA prB prC prD
set_option linter.unusedVariables false
set_option linter.unusedSimpArgs false

set_option maxRecDepth 100000 in
set_option maxHeartbeats 800000 in
theorem rterm_node (s : ByteArray) (N : Nat) (ih : IHT s N) (R p f k : Nat) (w : World) (hm : s.size ≤ 100000000) (hp : p ≤ s.size) (hN : s.size - p ≤ N + 1) (hf : 2 * (s.size - p) ≤ f) (hr : RS w R s p) (hk : kindOf (cb s p) = k) (h5 : 5 ≤ k) (h11 : k ≤ 11) : Calls Try.prog 163 #[ptr R, .pointer none] w (TC w R s (tmC f (s.data.toList.drop p))) := by
  obtain ⟨M, hr1, hr2⟩ := hr
  have HR := Lib.hid hr1
  have HM2 := Lib.hid hr2
  have y0 : w.cell? ⟨R, 0, none⟩ = some (.string s) := cell_of hr1
  have y1 : w.cell? ⟨R, 1, none⟩ = some (.int .i64 p) := cell_of hr1
  have fz : w.frozen? ⟨R, 1, none⟩ = false := free_of hr1
  have h : p < s.size := by
    rcases Nat.lt_or_ge p s.size with h | h
    · exact h
    · rw [(cb_out s p h).1, show kindOf 0 = 0 from by decide] at hk
      omega
  have q1 : ((p : Int) == (s.size : Int)) = false := by rw [beq_eq_false_iff_ne]; omega
  have q2 : (p : Int) < (s.size : Int) := by omega
  have p0 : (0 : Int) ≤ (p : Int) := by omega
  have HS := Lib.hid hm
  have HLT := Lib.hid h
  obtain ⟨f, rfl⟩ : ∃ g, f = g + 1 := ⟨f - 1, by omega⟩
  have HF := Lib.hid (show tmC (f + 1) (s.data.toList.drop p) = (match insC f k (s.data.toList.drop (p + 1)) with | none => none | some (n, ps, rest) => some (k, n, ps, rest)) from by
    rw [cb_in s p h, tmC_cons, hk, if_neg (by omega), if_neg (by omega), if_neg (by omega), if_neg (by omega), if_neg (by omega)]
    rfl)
  have IX := Lib.hid (fun W => index2 (s[p]'h) ((k : Int) - 1) (by rw [← cb_get s p h, hk]) W)
  have wi : wrap64 ((p : Int) + 1) = (p : Int) + 1 := IntWalk.wrap64_in _ (by omega)
  have j3 : IntKind.i64.wrap (k : Int) = (k : Int) := IntWalk.i64_in _ (by omega)
  have k0 : ((k : Int) == 0) = false := by rw [beq_eq_false_iff_ne]; omega
  have k1 : ((k : Int) == 1) = false := by rw [beq_eq_false_iff_ne]; omega
  have k2 : ((k : Int) == 2) = false := by rw [beq_eq_false_iff_ne]; omega
  have k3 : ((k : Int) == 3) = false := by rw [beq_eq_false_iff_ne]; omega
  have k4 : ((k : Int) == 4) = false := by rw [beq_eq_false_iff_ne]; omega
  have INC := Lib.hid (fun W (q : RS W R s (p + 1)) => inside_any s N ih R (p + 1) f k W hm (by omega) (by omega) (by omega) q h5 h11)
  have LK := Lib.hid (fun (W : World) (b : Nat) (q : W.heap[b]? = some (.map table 7)) => look_shape q h5 h11)
  clear hr1 hr2 hm hp hf hk ih hN h5 h11
  unfold lettersB at IX
  have y2 : w.cell? ⟨R, 2, none⟩ = some M := cell_of HR.out
  go_enter Try.func163, Try.ntmps163
  go_wp2_with fail
  go_quiet (fail)
  go_wp2_with fail
  go_region_held3 (fun w' => w'.cell? ⟨R, 0, none⟩ = some (.string s) ∧ w'.cell? ⟨R, 1, none⟩ = some (.int .i64 p)) (first | go_keep | exact ⟨y0, y1⟩) (first | (go_at_call 195; (with_reducible refine Calls.mono (IX.out _) ?_); rintro e w3 ⟨rfl, hw3⟩; obtain rfl := hw3))
  have HR2 := Lib.hid (show Rd ((w.drewN (nq + 1)).setCell ⟨R, 1, none⟩ (.int .i64 ((p : Int) + 1))) R s (p + 1) M from HR.out.drewN.set _ _ rfl)
  have O2 := Lib.hid (show Only (fun q => q = R) w ((w.drewN (nq + 1)).setCell ⟨R, 1, none⟩ (.int .i64 ((p : Int) + 1))) from ((Only.refl (fun q => q = R) w).drewN (nq + 1)).set rfl)
  obtain ⟨q, hq⟩ : ∃ q, q = insC f k (s.data.toList.drop (p + 1)) := ⟨_, rfl⟩
  rw [← hq] at INC HF
  clear hq
  rcases HM2.out with hM | ⟨b, hM, hb⟩
  · obtain rfl := hM
    have ql := run_eql_map_nil (P := Try.prog) ((w.drewN (nq + 1)).setCell ⟨R, 1, none⟩ (.int .i64 ((p : Int) + 1))) 136 _ _ none Try.underlying136
    have SH := Lib.hid (fun W => shapes_any W)
    go_wp2_with fail
    generalize (w.drewN (nq + 1)).setCell ⟨R, 1, none⟩ (.int .i64 ((p : Int) + 1)) = W2 at HR2 O2 ql ⊢
    clear ql
    refine (SH.out _).mono ?_
    rintro e w5 ⟨b, rfl, hb, o5⟩
    have HR5 := Lib.hid (HR2.out.keep o5)
    have z0 : w5.cell? ⟨R, 0, none⟩ = some (.string s) := cell_of HR5.out
    have z1 : w5.cell? ⟨R, 1, none⟩ = some (.int .i64 ((p + 1 : Nat) : Int)) := cell_of HR5.out
    have z2 : w5.cell? ⟨R, 2, none⟩ = some (.map none) := cell_of HR5.out
    have zf : w5.frozen? ⟨R, 2, none⟩ = false := free_of HR5.out
    have hne : b ≠ R := fun e => by
      subst e
      have := HR5.out
      unfold Rd at this
      rw [hb] at this
      cases this
    have hb6 : (w5.setCell ⟨R, 2, none⟩ (.map (some b))).heap[b]? = some (.map table 7) := (heap_other hne).trans hb
    have O6 := Lib.hid (show Only (fun q => q = R) w (w5.setCell ⟨R, 2, none⟩ (.map (some b))) from (O2.out.trans (o5.mono fun _ h => h.elim)).set rfl)
    have R6 := Lib.hid (show RS (w5.setCell ⟨R, 2, none⟩ (.map (some b))) R s (p + 1) from ⟨.map (some b), heap_set HR5.out, .inr ⟨b, rfl, hb6⟩⟩)
    have lk := LK.out _ b hb6
    have IN := Lib.hid (INC.out _ R6.out)
    clear hb hb6 o5 SH y0 y1 y2 fz
    go_wp2_with fail
    (with_reducible refine IN.out.mono ?_)
    rintro e w7 ⟨o7, hr7⟩
    have O7 := Lib.hid (show Only (fun q => q = R) w w7 from (O6.out.mono (T := fun q => q = R) (fun q e => e)).trans o7)
    clear o7
    cases q with
    | none =>
      obtain ⟨v, rfl⟩ := hr7
      go_wp2_with fail
      exact ⟨rfl, O7.out, by rw [HF.out]; exact ⟨_, rfl⟩⟩
    | some dd =>
      obtain ⟨n, ps, rest⟩ := dd
      obtain ⟨rfl, hr7⟩ := hr7
      have R7 := Lib.hid hr7
      clear hr7 lk
      go_wp2_with fail
      go_ret2
      exact ⟨O7.out, by rw [HF.out]; exact ⟨rfl, R7.out⟩⟩
  · obtain rfl := hM
    have ql := run_eql_map_nil (P := Try.prog) ((w.drewN (nq + 1)).setCell ⟨R, 1, none⟩ (.int .i64 ((p : Int) + 1))) 136 _ _ (some b) Try.underlying136
    have hne : b ≠ R := fun e => by
      subst e
      have := HR.out
      unfold Rd at this
      rw [hb] at this
      cases this
    have hb6 : ((w.drewN (nq + 1)).setCell ⟨R, 1, none⟩ (.int .i64 ((p : Int) + 1))).heap[b]? = some (.map table 7) := (heap_other hne).trans hb
    have R6 := Lib.hid (show RS ((w.drewN (nq + 1)).setCell ⟨R, 1, none⟩ (.int .i64 ((p : Int) + 1))) R s (p + 1) from ⟨.map (some b), HR2.out, .inr ⟨b, rfl, hb6⟩⟩)
    have lk := LK.out _ b hb6
    have O6 := O2
    have IN := Lib.hid (INC.out _ R6.out)
    clear hb6
    go_wp2_with fail
    (with_reducible refine IN.out.mono ?_)
    rintro e w7 ⟨o7, hr7⟩
    have O7 := Lib.hid (show Only (fun q => q = R) w w7 from (O6.out.mono (T := fun q => q = R) (fun q e => e)).trans o7)
    clear o7
    cases q with
    | none =>
      obtain ⟨v, rfl⟩ := hr7
      go_wp2_with fail
      exact ⟨rfl, O7.out, by rw [HF.out]; exact ⟨_, rfl⟩⟩
    | some dd =>
      obtain ⟨n, ps, rest⟩ := dd
      obtain ⟨rfl, hr7⟩ := hr7
      have R7 := Lib.hid hr7
      clear hr7 lk
      go_wp2_with fail
      go_ret2
      exact ⟨O7.out, by rw [HF.out]; exact ⟨rfl, R7.out⟩⟩
end Go.Proofs.Ytbjnejnjlidiaaa.prL
namespace Go.Proofs.Ytbjnejnjlidiaaa.prL
open Go.RowKit kit numA numB numC numD numE numF tmA tmB tmC srcA trA trB trD trE prA prB prC prD
set_option linter.unusedVariables false
set_option linter.unusedSimpArgs false

set_option maxRecDepth 100000 in
set_option maxHeartbeats 800000 in
theorem rterm_node_t (s : ByteArray) (N : Nat) (ih : IHT s N) (P R p f k : Nat) (w : World) (hm : s.size ≤ 100000000) (hp : p ≤ s.size) (hN : s.size - p ≤ N + 1) (hf : 2 * (s.size - p) ≤ f) (hr : RS w R s p) (hPR : P < R) (htp : TP w P R []) (hk : kindOf (cb s p) = k) (h5 : 5 ≤ k) (h11 : k ≤ 11) : Calls Try.prog 163 #[ptr R, .pointer (some ⟨P, 0, none⟩)] w (TCT w P R s (tmC f (s.data.toList.drop p))) := by
  obtain ⟨M, hr1, hr2⟩ := hr
  have HR := Lib.hid hr1
  have HM2 := Lib.hid hr2
  have y0 : w.cell? ⟨R, 0, none⟩ = some (.string s) := cell_of hr1
  have y1 : w.cell? ⟨R, 1, none⟩ = some (.int .i64 p) := cell_of hr1
  have fz : w.frozen? ⟨R, 1, none⟩ = false := free_of hr1
  have h : p < s.size := by
    rcases Nat.lt_or_ge p s.size with h | h
    · exact h
    · rw [(cb_out s p h).1, show kindOf 0 = 0 from by decide] at hk
      omega
  have q1 : ((p : Int) == (s.size : Int)) = false := by rw [beq_eq_false_iff_ne]; omega
  have q2 : (p : Int) < (s.size : Int) := by omega
  have p0 : (0 : Int) ≤ (p : Int) := by omega
  have HS := Lib.hid hm
  have HLT := Lib.hid h
  have HPR := Lib.hid hPR
  have HTP := Lib.hid htp
  obtain ⟨f, rfl⟩ : ∃ g, f = g + 1 := ⟨f - 1, by omega⟩
  have HF := Lib.hid (show tmC (f + 1) (s.data.toList.drop p) = (match insC f k (s.data.toList.drop (p + 1)) with | none => none | some (n, ps, rest) => some (k, n, ps, rest)) from by
    rw [cb_in s p h, tmC_cons, hk, if_neg (by omega), if_neg (by omega), if_neg (by omega), if_neg (by omega), if_neg (by omega)]
    rfl)
  have IX := Lib.hid (fun W => index2 (s[p]'h) ((k : Int) - 1) (by rw [← cb_get s p h, hk]) W)
  have wi : wrap64 ((p : Int) + 1) = (p : Int) + 1 := IntWalk.wrap64_in _ (by omega)
  have j3 : IntKind.i64.wrap (k : Int) = (k : Int) := IntWalk.i64_in _ (by omega)
  have k0 : ((k : Int) == 0) = false := by rw [beq_eq_false_iff_ne]; omega
  have k1 : ((k : Int) == 1) = false := by rw [beq_eq_false_iff_ne]; omega
  have k2 : ((k : Int) == 2) = false := by rw [beq_eq_false_iff_ne]; omega
  have k3 : ((k : Int) == 3) = false := by rw [beq_eq_false_iff_ne]; omega
  have k4 : ((k : Int) == 4) = false := by rw [beq_eq_false_iff_ne]; omega
  have INC := Lib.hid (fun W (q : RS W R s (p + 1)) (t : TP W P R []) => inside_told s N ih P R (p + 1) f k W hm (by omega) (by omega) (by omega) q hPR t h5 h11)
  have LK := Lib.hid (fun (W : World) (b : Nat) (q : W.heap[b]? = some (.map table 7)) => look_shape q h5 h11)
  clear hr1 hr2 hm hp hf hk ih hN h5 h11 hPR htp
  unfold lettersB at IX
  have y2 : w.cell? ⟨R, 2, none⟩ = some M := cell_of HR.out
  go_enter Try.func163, Try.ntmps163
  go_wp2_with fail
  go_quiet (fail)
  go_wp2_with fail
  go_region_held3 (fun w' => w'.cell? ⟨R, 0, none⟩ = some (.string s) ∧ w'.cell? ⟨R, 1, none⟩ = some (.int .i64 p)) (first | go_keep | exact ⟨y0, y1⟩) (first | (go_at_call 195; (with_reducible refine Calls.mono (IX.out _) ?_); rintro e w3 ⟨rfl, hw3⟩; obtain rfl := hw3))
  have HR2 := Lib.hid (show Rd ((w.drewN (nq + 1)).setCell ⟨R, 1, none⟩ (.int .i64 ((p : Int) + 1))) R s (p + 1) M from HR.out.drewN.set _ _ rfl)
  have O2 := Lib.hid (show Only (fun q => q = R) w ((w.drewN (nq + 1)).setCell ⟨R, 1, none⟩ (.int .i64 ((p : Int) + 1))) from ((Only.refl (fun q => q = R) w).drewN (nq + 1)).set rfl)
  obtain ⟨q, hq⟩ : ∃ q, q = insC f k (s.data.toList.drop (p + 1)) := ⟨_, rfl⟩
  rw [← hq] at INC HF
  clear hq
  rcases HM2.out with hM | ⟨b, hM, hb⟩
  · obtain rfl := hM
    have ql := run_eql_map_nil (P := Try.prog) ((w.drewN (nq + 1)).setCell ⟨R, 1, none⟩ (.int .i64 ((p : Int) + 1))) 136 _ _ none Try.underlying136
    have SH := Lib.hid (fun W => shapes_any W)
    go_wp2_with fail
    generalize (w.drewN (nq + 1)).setCell ⟨R, 1, none⟩ (.int .i64 ((p : Int) + 1)) = W2 at HR2 O2 ql ⊢
    clear ql
    refine (SH.out _).mono ?_
    rintro e w5 ⟨b, rfl, hb, o5⟩
    have HR5 := Lib.hid (HR2.out.keep o5)
    have z0 : w5.cell? ⟨R, 0, none⟩ = some (.string s) := cell_of HR5.out
    have z1 : w5.cell? ⟨R, 1, none⟩ = some (.int .i64 ((p + 1 : Nat) : Int)) := cell_of HR5.out
    have z2 : w5.cell? ⟨R, 2, none⟩ = some (.map none) := cell_of HR5.out
    have zf : w5.frozen? ⟨R, 2, none⟩ = false := free_of HR5.out
    have hne : b ≠ R := fun e => by
      subst e
      have := HR5.out
      unfold Rd at this
      rw [hb] at this
      cases this
    have hb6 : (w5.setCell ⟨R, 2, none⟩ (.map (some b))).heap[b]? = some (.map table 7) := (heap_other hne).trans hb
    have O6 := Lib.hid (show Only (fun q => q = R) w (w5.setCell ⟨R, 2, none⟩ (.map (some b))) from (O2.out.trans (o5.mono fun _ h => h.elim)).set rfl)
    have R6 := Lib.hid (show RS (w5.setCell ⟨R, 2, none⟩ (.map (some b))) R s (p + 1) from ⟨.map (some b), heap_set HR5.out, .inr ⟨b, rfl, hb6⟩⟩)
    have lk := LK.out _ b hb6
    have IN := Lib.hid (INC.out _ R6.out (HTP.out.keep HPR.out O6.out))
    clear hb hb6 o5 SH y0 y1 y2 fz
    go_wp2_with fail
    (with_reducible refine IN.out.mono ?_)
    rintro e w7 ⟨o7, hr7⟩
    have O7 := Lib.hid (show Only (fun q => P ≤ q) w w7 from (O6.out.mono (T := fun q => P ≤ q) (fun q e => by subst e; show P ≤ _; have := HPR.out; omega)).trans o7)
    clear o7
    cases q with
    | none =>
      obtain ⟨⟨v, rfl⟩, hc7⟩ := hr7
      go_wp2_with fail
      exact ⟨rfl, O7.out, by rw [HF.out]; exact ⟨⟨_, rfl⟩, hc7⟩⟩
    | some dd =>
      obtain ⟨n, ps, rest⟩ := dd
      obtain ⟨rfl, hr7⟩ := hr7
      have R7 := Lib.hid hr7
      clear hr7 lk
      go_wp2_with fail
      go_ret2
      exact ⟨O7.out, by rw [HF.out]; exact ⟨rfl, R7.out.1, R7.out.2⟩⟩
  · obtain rfl := hM
    have ql := run_eql_map_nil (P := Try.prog) ((w.drewN (nq + 1)).setCell ⟨R, 1, none⟩ (.int .i64 ((p : Int) + 1))) 136 _ _ (some b) Try.underlying136
    have hne : b ≠ R := fun e => by
      subst e
      have := HR.out
      unfold Rd at this
      rw [hb] at this
      cases this
    have hb6 : ((w.drewN (nq + 1)).setCell ⟨R, 1, none⟩ (.int .i64 ((p : Int) + 1))).heap[b]? = some (.map table 7) := (heap_other hne).trans hb
    have R6 := Lib.hid (show RS ((w.drewN (nq + 1)).setCell ⟨R, 1, none⟩ (.int .i64 ((p : Int) + 1))) R s (p + 1) from ⟨.map (some b), HR2.out, .inr ⟨b, rfl, hb6⟩⟩)
    have lk := LK.out _ b hb6
    have O6 := O2
    have IN := Lib.hid (INC.out _ R6.out (HTP.out.keep HPR.out O6.out))
    clear hb6
    go_wp2_with fail
    (with_reducible refine IN.out.mono ?_)
    rintro e w7 ⟨o7, hr7⟩
    have O7 := Lib.hid (show Only (fun q => P ≤ q) w w7 from (O6.out.mono (T := fun q => P ≤ q) (fun q e => by subst e; show P ≤ _; have := HPR.out; omega)).trans o7)
    clear o7
    cases q with
    | none =>
      obtain ⟨⟨v, rfl⟩, hc7⟩ := hr7
      go_wp2_with fail
      exact ⟨rfl, O7.out, by rw [HF.out]; exact ⟨⟨_, rfl⟩, hc7⟩⟩
    | some dd =>
      obtain ⟨n, ps, rest⟩ := dd
      obtain ⟨rfl, hr7⟩ := hr7
      have R7 := Lib.hid hr7
      clear hr7 lk
      go_wp2_with fail
      go_ret2
      exact ⟨O7.out, by rw [HF.out]; exact ⟨rfl, R7.out.1, R7.out.2⟩⟩
end Go.Proofs.Ytbjnejnjlidiaaa.prL
namespace Go.Proofs.Ytbjnejnjlidiaaa.prP
open Go.RowKit kit numA numB numC numD numE numF tmA tmB tmC srcA trA trB trD trE trJ prA prB prC prD prL
set_option linter.unusedVariables false
set_option linter.unusedSimpArgs false

theorem kind_le (c : UInt8) : kindOf c ≤ 11 := by
  by_cases h : kindOf c = 0
  · omega
  · exact (kind_letter c h).2.2

theorem rterm_all (s : ByteArray) (hm : s.size ≤ 100000000) : ∀ N, IHT s N := by
  intro N
  induction N with
  | zero =>
    intro R p f w hp hN hf hr
    have hk : kindOf (cb s p) = 0 := by rw [(cb_out s p (by omega)).1]; decide
    exact rterm_none s R p f w hm hp hf hr hk
  | succ N ih =>
    intro R p f w hp hN hf hr
    have h11 := kind_le (cb s p)
    rcases (by omega : kindOf (cb s p) = 0 ∨ kindOf (cb s p) = 1 ∨ kindOf (cb s p) = 2 ∨ kindOf (cb s p) = 3 ∨ kindOf (cb s p) = 4 ∨ 5 ≤ kindOf (cb s p)) with h | h | h | h | h | h
    · exact rterm_none s R p f w hm hp hf hr h
    · exact rterm_zero s R p f w hm hp hf hr h
    · exact rterm_atom s R p f w hm hp hf hr h
    · exact rterm_num s R p f w hm hp hf hr h
    · exact rterm_data s R p f w hm hp hf hr h
    · exact rterm_node s N ih R p f _ w hm hp (by omega) hf hr rfl h h11

theorem rterm_any (s : ByteArray) (R : Nat) (w : World) (hm : s.size ≤ 100000000) (hr : RS w R s 0) : Calls Try.prog 163 #[ptr R, .pointer none] w (TC w R s (tmC (2 * s.size) s.data.toList)) := by
  have := rterm_all s hm s.size R 0 (2 * s.size) w (Nat.zero_le _) (by omega) (by omega) hr
  rwa [List.drop_zero] at this

theorem rterm_told (s : ByteArray) (P R : Nat) (w : World) (hm : s.size ≤ 100000000) (hr : RS w R s 0) (hPR : P < R) (htp : TP w P R []) : Calls Try.prog 163 #[ptr R, .pointer (some ⟨P, 0, none⟩)] w (TCT w P R s (tmC (2 * s.size) s.data.toList)) := by
  have h11 := kind_le (cb s 0)
  have : Calls Try.prog 163 #[ptr R, .pointer (some ⟨P, 0, none⟩)] w (TCT w P R s (tmC (2 * s.size) (s.data.toList.drop 0))) := by
    rcases (by omega : kindOf (cb s 0) = 0 ∨ kindOf (cb s 0) = 1 ∨ kindOf (cb s 0) = 2 ∨ kindOf (cb s 0) = 3 ∨ kindOf (cb s 0) = 4 ∨ 5 ≤ kindOf (cb s 0)) with h | h | h | h | h | h
    · exact rterm_none_t s P R 0 _ w hm (Nat.zero_le _) (by omega) hr hPR htp h
    · exact rterm_zero_t s P R 0 _ w hm (Nat.zero_le _) (by omega) hr hPR htp h
    · exact rterm_atom_t s P R 0 _ w hm (Nat.zero_le _) (by omega) hr hPR htp h
    · exact rterm_num_t s P R 0 _ w hm (Nat.zero_le _) (by omega) hr hPR htp h
    · exact rterm_data_t s P R 0 _ w hm (Nat.zero_le _) (by omega) hr hPR htp h
    · exact rterm_node_t s s.size (rterm_all s hm s.size) P R 0 _ _ w hm (Nat.zero_le _) (by omega) (by omega) hr hPR htp rfl h h11
  rwa [List.drop_zero] at this

theorem catch_idle (p q r : Addr) (w : World) :
    CallsD Try.prog 162 #[.pointer (some p), .pointer (some q), .pointer (some r)] .returning w fun e u' w' => e = .returned (.tuple #[]) ∧ u' = .returning ∧ w' = w := by
  refine callsD_of_wpS Try.func162 rfl fun c₀ cs hu => ?_
  apply wpS_seq
  apply wpS_region
  simp [wpOpsS, go_sem, recoverD, hu, Try.ntmps162, Exit.thenS]
  refine wpS_cond (t := false) (by simp [Act.eval, Array.replicate]) ?_
  simp only [Bool.false_eq_true, if_false]
  refine wpS_of_wp (wp_skip ?_)
  cases c₀
  simp_all [bodyPostS, results, Try.results162]

abbrev zap (w : World) (p q r : Addr) : World := ((w.setCell p (.int .i64 0)).setCell q (.int .u64 0)).setCell r (.slice none 0 0)

theorem catch_panicking (K : Nat) (x y z : Value) (pv : Value) (w : World) (h0 : w.heap[K]? = some (.cells #[x] 3 (0, 0))) (h1 : w.heap[K + 1]? = some (.cells #[y] 23 (0, 0))) (h2 : w.heap[K + 1 + 1]? = some (.cells #[z] 25 (0, 0))) :
    CallsD Try.prog 162 #[.pointer (some ⟨K, 0, none⟩), .pointer (some ⟨K + 1, 0, none⟩), .pointer (some ⟨K + 1 + 1, 0, none⟩)] (.panicking ([{ v := .iface 199 pv, recovered := false }])) w fun e u' w' =>
      e = .returned (.tuple #[]) ∧ u' = .panicking ([{ v := .iface 199 pv, recovered := true }]) ∧ w' = zap w ⟨K, 0, none⟩ ⟨K + 1, 0, none⟩ ⟨K + 1 + 1, 0, none⟩ := by
  have c0 : w.cell? ⟨K, 0, none⟩ = some x := cell_of h0
  have c1 : w.cell? ⟨K + 1, 0, none⟩ = some y := cell_of h1
  have c2 : w.cell? ⟨K + 1 + 1, 0, none⟩ = some z := cell_of h2
  have f0 : w.frozen? ⟨K, 0, none⟩ = false := free_of h0
  have f1 : w.frozen? ⟨K + 1, 0, none⟩ = false := free_of h1
  have f2 : w.frozen? ⟨K + 1 + 1, 0, none⟩ = false := free_of h2
  refine callsD_of_wpS Try.func162 rfl fun c₀ cs hu => ?_
  apply wpS_seq
  apply wpS_region
  simp [wpOpsS, go_sem, recoverD, hu, Try.ntmps162, Exit.thenS]
  refine wpS_cond (t := true) (by simp [Act.eval, Array.replicate]) ?_
  simp only [if_true]
  apply wpS_region
  simp [wpOpsS, go_sem, c0, c1, c2, f0, f1, f2, bodyPostS, results, Try.results162]
end Go.Proofs.Ytbjnejnjlidiaaa.prP
