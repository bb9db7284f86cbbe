/- Term: the program's reader: its small parts. -/
import Derived.Test.YtbjnejnjlidiaaaTrE
import Derived.Test.YtbjnejnjlidiaaaTmA
import Derived.Test.YtbjnejnjlidiaaaSrcA
import Derived.Scope
import Derived.Deep.AppendLies
import Derived.Lib.AppendZeros
namespace Go.Proofs.Ytbjnejnjlidiaaa.prA
open Go.RowKit kit numA numB numC numD numE numF tmA tmB tmC trA trB trD trE
set_option linter.unusedVariables false
set_option linter.unusedSimpArgs false

/-- A reader at block R. -/
def Rd (w : World) (R : Nat) (s : ByteArray) (k : Nat) (M : Value) : Prop := w.heap[R]? = some (.cells #[.string s, .int .i64 k, M] 195 (0, 0))

theorem Rd.set {w : World} {R k : Nat} {s : ByteArray} {M : Value} (h : Rd w R s k M) (x : Int) (k' : Nat) (e : x = (k' : Int)) : Rd (w.setCell ⟨R, 1, none⟩ (.int .i64 x)) R s k' M := by subst e; exact heap_set h
theorem Rd.drewN {w : World} {R k n : Nat} {s : ByteArray} {M : Value} (h : Rd w R s k M) : Rd (w.drewN n) R s k M := h
theorem Rd.drew {w : World} {R k : Nat} {s : ByteArray} {M : Value} (h : Rd w R s k M) : Rd w.drew R s k M := h
theorem Rd.keep {w w' : World} {R k : Nat} {s : ByteArray} {M : Value} (h : Rd w R s k M) (o : Only (fun _ => False) w w') : Rd w' R s k M := o.keep h id

theorem keep2 {W W' : World} {R : Nat} {v x : Value} (o : Only (fun _ => False) W W') (m0 : W.cell? ⟨R, 0, none⟩ = some v) (x0 : W.cell? ⟨R, 1, none⟩ = some x) : W'.cell? ⟨R, 0, none⟩ = some v ∧ W'.cell? ⟨R, 1, none⟩ = some x := by
  have lM := World.block_lt_of_cell? W _ m0
  exact ⟨(World.cell?_of_block (w := W) (a := ⟨R, 0, none⟩) (o.block R lM id)).trans m0, (World.cell?_of_block (w := W) (a := ⟨R, 1, none⟩) (o.block R lM id)).trans x0⟩

abbrev ptr (B : Nat) : Value := .pointer (some ⟨B, 0, none⟩)

/-- The call was left by the program's own throw. -/
def Thrown (e : Ending) : Prop := ∃ v, e = .panicked [{ v := .iface 199 v, recovered := false }]

def Nexted (R : Nat) (s : ByteArray) (p : Nat) (M : Value) (w : World) (b : Bool) (e : Ending) (w' : World) : Prop := e = .returned (.bool b) ∧ Rd w' R s (if b then p + 1 else p) M ∧ Only (fun k => k = R) w w' ∧ (b = false → Only (fun _ => False) w w')

theorem cb_get (s : ByteArray) (p : Nat) (h : p < s.size) : cb s p = s[p] := by
  have h1 := cb_in s p h
  have h2 := drop_cons s p h
  rw [h1] at h2
  injection h2

set_option maxRecDepth 100000 in
theorem next_any (R : Nat) (s : ByteArray) (p : Nat) (M : Value) (x : UInt8) (w : World) (hm : s.size ≤ 1000000000) (hp : p ≤ s.size) (hr : Rd w R s p M) (hx : x ≠ 0) : Calls Try.prog 222 #[ptr R, .int .u8 (x.toNat : Int)] w (Nexted R s p M w (cb s p == x)) := by
  have y0 : w.cell? ⟨R, 0, none⟩ = some (.string s) := cell_of hr
  have y1 : w.cell? ⟨R, 1, none⟩ = some (.int .i64 p) := cell_of hr
  have fz : w.frozen? ⟨R, 1, none⟩ = false := free_of hr
  have HR := Lib.hid hr
  have p0 : (0 : Int) ≤ (p : Int) := by omega
  have wi : wrap64 ((p : Int) + 1) = (p : Int) + 1 := IntWalk.wrap64_in _ (by omega)
  clear hr
  rcases Nat.lt_or_ge p s.size with h | h
  · have q1 : ((p : Int) == (s.size : Int)) = false := by rw [beq_eq_false_iff_ne]; omega
    have q2 : (p : Int) < (s.size : Int) := by omega
    have HC := Lib.hid (cb_get s p h)
    cases hc : (cb s p == x)
    · have b1 : (((s[p]'h).toNat : Int) != (x.toNat : Int)) = true := by
        rw [HC.out] at hc
        rw [bne_iff_ne]
        intro q
        have : s[p] = x := UInt8.toNat_inj.1 (by omega)
        rw [this] at hc
        simp at hc
      clear hc
      go_enter Try.func222, Try.ntmps222
      go_wp2_with fail
      go_quiet (fail)
      go_wp2_with fail
      go_ret
      exact ⟨rfl, HR.out.drewN, (Only.refl _ w).drewN _, fun _ => (Only.refl _ w).drewN _⟩
    · have b1 : (((s[p]'h).toNat : Int) != (x.toNat : Int)) = false := by
        rw [HC.out] at hc
        have : s[p] = x := by simpa using hc
        rw [this]
        simp
      clear hc
      go_enter Try.func222, Try.ntmps222
      go_wp2_with fail
      go_quiet (fail)
      go_wp2_with fail
      go_ret
      exact ⟨rfl, HR.out.drewN.set _ _ (by first | rfl | (rw [wi]; rfl) | (rw [wi]; omega) | omega), ((Only.refl _ w).drewN _).set rfl, fun q => by cases q⟩
  · have q1 : ((p : Int) == (s.size : Int)) = true := by rw [beq_iff_eq]; omega
    have HF := Lib.hid (show (cb s p == x) = false from by
      rw [(cb_out s p h).1, beq_eq_false_iff_ne]
      exact fun q => hx q.symm)
    go_enter Try.func222, Try.ntmps222
    go_wp2_with fail
    go_quiet (fail)
    go_wp2_with fail
    go_ret
    exact ⟨by rw [HF.out]; rfl, by rw [HF.out]; exact HR.out.drewN, (Only.refl _ w).drewN _, fun _ => (Only.refl _ w).drewN _⟩

def Signed (R : Nat) (s : ByteArray) (p : Nat) (M : Value) (w : World) (b : Bool) (e : Ending) (w' : World) : Prop := Only (fun k => k = R) w w' ∧ if b then e = .returned (.tuple #[]) ∧ Rd w' R s (p + 1) M else Thrown e

set_option maxRecDepth 100000 in
theorem sign_any (R : Nat) (s : ByteArray) (p : Nat) (M : Value) (x : UInt8) (w : World) (hm : s.size ≤ 1000000000) (hp : p ≤ s.size) (hr : Rd w R s p M) (hx : x ≠ 0) : Calls Try.prog 221 #[ptr R, .int .u8 (x.toNat : Int)] w (Signed R s p M w (cb s p == x)) := by
  have NX := Lib.hid (next_any R s p M x w hm hp hr hx)
  generalize (cb s p == x) = b at NX ⊢
  clear hr hm hp hx
  cases b
  · go_enter Try.func221, Try.ntmps221
    go_wp2_with fail
    (with_reducible refine NX.out.mono ?_)
    rintro e w2 ⟨rfl, hr, o, _⟩
    have O := Lib.hid o
    clear o hr
    go_wp2_with fail
    exact ⟨rfl, O.out, _, rfl⟩
  · go_enter Try.func221, Try.ntmps221
    go_wp2_with fail
    (with_reducible refine NX.out.mono ?_)
    rintro e w2 ⟨rfl, hr, o, _⟩
    have O := Lib.hid o
    have H := Lib.hid hr
    clear o hr
    go_wp2_with fail
    exact bodyPost_end (v := .tuple #[]) (results_none rfl _ _ _) rfl ⟨O.out, rfl, H.out⟩

theorem isHex_any (c : UInt8) (w : World) : Calls Try.prog 220 #[.int .u8 (c.toNat : Int)] w fun e w' => e = .returned (.bool (isHex c)) ∧ w' = w := by
  have key : ((48 ≤ c.toNat ∧ c.toNat ≤ 57) ∨ (97 ≤ c.toNat ∧ c.toNat ≤ 102)) ∨ c.toNat < 48 ∨ (57 < c.toNat ∧ c.toNat < 97) ∨ 102 < c.toNat := by omega
  have H : isHex c = ((decide (48 ≤ c.toNat) && decide (c.toNat ≤ 57)) || (decide (97 ≤ c.toNat) && decide (c.toNat ≤ 102))) := rfl
  have HH := Lib.hid H
  clear H
  rcases key with (⟨k1, k2⟩ | ⟨k1, k2⟩) | k | ⟨k1, k2⟩ | k
  · have a1 : ((48 : Int) ≤ (c.toNat : Int)) = True := eq_true (by omega)
    have a2 : ((c.toNat : Int) ≤ 57) = True := eq_true (by omega)
    have HF := Lib.hid (show isHex c = true from by rw [HH.out]; simp [k1, k2])
    clear k1 k2
    go_enter Try.func220, Try.ntmps220
    go_wp2_with fail
    go_ret
    exact ⟨by rw [HF.out]; rfl, rfl⟩
  · have a1 : ((48 : Int) ≤ (c.toNat : Int)) = True := eq_true (by omega)
    have a2 : ((c.toNat : Int) ≤ 57) = False := eq_false (by omega)
    have a3 : ((97 : Int) ≤ (c.toNat : Int)) = True := eq_true (by omega)
    have a4 : ((c.toNat : Int) ≤ 102) = True := eq_true (by omega)
    have HF := Lib.hid (show isHex c = true from by rw [HH.out]; simp [k1, k2])
    clear k1 k2
    go_enter Try.func220, Try.ntmps220
    go_wp2_with fail
    go_ret
    exact ⟨by rw [HF.out]; rfl, rfl⟩
  · have a1 : ((48 : Int) ≤ (c.toNat : Int)) = False := eq_false (by omega)
    have a3 : ((97 : Int) ≤ (c.toNat : Int)) = False := eq_false (by omega)
    have HF := Lib.hid (show isHex c = false from by rw [HH.out]; simp; omega)
    clear k
    go_enter Try.func220, Try.ntmps220
    go_wp2_with fail
    go_ret
    exact ⟨by rw [HF.out]; rfl, rfl⟩
  · have a1 : ((48 : Int) ≤ (c.toNat : Int)) = True := eq_true (by omega)
    have a2 : ((c.toNat : Int) ≤ 57) = False := eq_false (by omega)
    have a3 : ((97 : Int) ≤ (c.toNat : Int)) = False := eq_false (by omega)
    have HF := Lib.hid (show isHex c = false from by rw [HH.out]; simp; omega)
    clear k1 k2
    go_enter Try.func220, Try.ntmps220
    go_wp2_with fail
    go_ret
    exact ⟨by rw [HF.out]; rfl, rfl⟩
  · have a1 : ((48 : Int) ≤ (c.toNat : Int)) = True := eq_true (by omega)
    have a2 : ((c.toNat : Int) ≤ 57) = False := eq_false (by omega)
    have a3 : ((97 : Int) ≤ (c.toNat : Int)) = True := eq_true (by omega)
    have a4 : ((c.toNat : Int) ≤ 102) = False := eq_false (by omega)
    have HF := Lib.hid (show isHex c = false from by rw [HH.out]; simp; omega)
    clear k
    go_enter Try.func220, Try.ntmps220
    go_wp2_with fail
    go_ret
    exact ⟨by rw [HF.out]; rfl, rfl⟩

theorem span_step {q : UInt8 → Bool} (s : ByteArray) (k : Nat) (h : k < s.size) (hq : q s[k] = true) : (s.data.toList.drop k).dropWhile q = (s.data.toList.drop (k + 1)).dropWhile q := by
  rw [drop_cons s k h, List.dropWhile_cons, if_pos hq]

theorem span_stop {q : UInt8 → Bool} (s : ByteArray) (k : Nat) (h : k < s.size) (hq : q s[k] = false) : (s.data.toList.drop k).dropWhile q = s.data.toList.drop k := by
  rw [drop_cons s k h, List.dropWhile_cons, if_neg (by simp [hq])]

/-- Where a span ends. -/
theorem span_end {q : UInt8 → Bool} (s : ByteArray) (p k : Nat) (hk : k ≤ s.size) (h : (s.data.toList.drop p).dropWhile q = s.data.toList.drop k) (hp : p ≤ k) : (s.data.toList.drop p).takeWhile q = (s.data.toList.drop p).take (k - p) ∧ behind s ((s.data.toList.drop p).dropWhile q) = k := by
  have e := List.takeWhile_append_dropWhile (p := q) (l := s.data.toList.drop p)
  have hl := congrArg List.length e
  rw [List.length_append, h, List.length_drop, List.length_drop, tl_size] at hl
  refine ⟨?_, ?_⟩
  · have : k - p = ((s.data.toList.drop p).takeWhile q).length := by omega
    rw [this]
    conv => rhs; arg 2; rw [← e]
    exact (List.take_left' rfl).symm
  · rw [h, behind, List.length_drop, tl_size]
    omega

def Numb (w : World) (R : Nat) (s : ByteArray) (M : Value) (r : Option (Nat × Txt)) (e : Ending) (w' : World) : Prop := Only (fun k => k = R) w w' ∧ match r with
  | some (n, rest) => e = .returned (.int .u64 n) ∧ Rd w' R s (behind s rest) M
  | none => Thrown e

theorem dig_eq (c : UInt8) : dig c = (decide (48 ≤ c.toNat) && decide (c.toNat ≤ 57)) := rfl

set_option maxRecDepth 100000 in
set_option maxHeartbeats 1000000 in
theorem number_any (R : Nat) (s : ByteArray) (p lo hi : Nat) (M : Value) (w : World) (hm : s.size ≤ 1000000000) (hp : p ≤ s.size) (hr : Rd w R s p M) : Calls Try.prog 196 #[ptr R, .int .u64 lo, .int .u64 hi] w (Numb w R s M (numOf lo hi (s.data.toList.drop p))) := by
  have HR := Lib.hid hr
  have HS := Lib.hid hm
  have HP := Lib.hid hp
  have z1 : w.cell? ⟨R, 1, none⟩ = some (.int .i64 p) := cell_of hr
  clear hr
  go_enter Try.func196, Try.ntmps196
  go_wp2_with fail
  go_loopw [48] (fun _ wr => ∃ k : Nat, p ≤ k ∧ k ≤ s.size ∧ Rd wr R s k M ∧ Only (fun j => j = R) w wr ∧ (s.data.toList.drop p).dropWhile dig = (s.data.toList.drop k).dropWhile dig) (fun _ wr => s.size - (match wr.cell? ⟨R, 1, none⟩ with | some (.int _ q) => q.toNat | _ => 0))
  case atStart => exact ⟨p, Nat.le_refl _, hp, HR.out, Only.refl _ _, rfl⟩
  case round =>
    obtain ⟨k, hk0, hk, hr, o, hd⟩ := hrel
    have y0 : wr.cell? ⟨R, 0, none⟩ = some (.string s) := cell_of hr
    have y1 : wr.cell? ⟨R, 1, none⟩ = some (.int .i64 k) := cell_of hr
    have fz : wr.frozen? ⟨R, 1, none⟩ = false := free_of hr
    have HRk := Lib.hid hr
    have HO := Lib.hid o
    have HD := Lib.hid hd
    have HK := Lib.hid (And.intro hk0 hk)
    clear hr o hd
    have a0 : (0 : Int) ≤ (k : Int) := by omega
    have stopped : Hid ((s.data.toList.drop k).dropWhile dig = s.data.toList.drop k) → True := fun _ => trivial
    by_cases hgo : ∃ h : k < s.size, dig (s[k]'h) = true
    · obtain ⟨hlt, hdg⟩ := hgo
      have hdg2 := hdg
      rw [dig_eq] at hdg2
      simp only [Bool.and_eq_true, decide_eq_true_eq] at hdg2
      have j1 : (k : Int) < (s.size : Int) := by omega
      have d3 : (48 : Int) ≤ ((s[k]'hlt).toNat : Int) := by omega
      have d4 : ((s[k]'hlt).toNat : Int) ≤ 57 := by omega
      have hsm := HS.out
      have HN := Lib.hid (HD.out.trans (span_step s k hlt hdg))
      clear hdg hdg2 stopped
      go_wp2_with fail
      go_quiet (fail)
      all_goals
        go_wp2_with fail
        go_roundw
        case rel => exact ⟨k + 1, by omega, by omega, HRk.out.drewN.set _ _ (by go_num), (HO.out.drewN _).set rfl, HN.out⟩
        case measure =>
          have e1 : ∀ q : Nat, ((wr.drewN q).setCell ⟨R, 1, none⟩ (.int .i64 ((k : Int) + 1))).cell? ⟨R, 1, none⟩ = some (.int .i64 ((k + 1 : Nat) : Int)) := fun q => cell_of (HRk.out.drewN.set ((k : Int) + 1) (k + 1) (by omega))
          rw [y1, e1]
          show s.size - (((k + 1 : Nat) : Int)).toNat < s.size - ((k : Nat) : Int).toNat
          omega
    · have HST := Lib.hid (show (s.data.toList.drop k).dropWhile dig = s.data.toList.drop k from by
        rcases Nat.lt_or_ge k s.size with h | h
        · exact span_stop s k h (by cases q : dig s[k] with | false => rfl | true => exact absurd ⟨h, q⟩ hgo)
        · rw [(cb_out s k h).2]
          rfl)
      obtain ⟨SE1, SE2⟩ := span_end s p k hk (HD.out.trans HST.out) hk0
      have SE := Lib.hid (And.intro SE1 SE2)
      have hsz : (s.extract p k).size ≤ 9223372036854775807 := by
        have : (s.extract p k).size ≤ s.size := by simp; omega
        have := HS.out
        omega
      have RD := fun W => read_any (s.extract p k) W hsz
      rw [extract_list s p k hk, ← SE1] at RD
      have RDH := Lib.hid RD
      have RCC := Lib.hid (rd_cases ((s.data.toList.drop p).takeWhile dig))
      have a1 : (0 : Int) ≤ (p : Int) := by omega
      have a2 : (p : Int) ≤ (k : Int) := by omega
      have a3 : (k : Int) ≤ (s.size : Int) := by omega
      have cases3 : k = s.size ∨ (∃ h : k < s.size, ((48 : Int) ≤ ((s[k]'h).toNat : Int)) = False) ∨ (∃ h : k < s.size, ((48 : Int) ≤ ((s[k]'h).toNat : Int)) = True ∧ (((s[k]'h).toNat : Int) ≤ 57) = False) := by
        rcases Nat.lt_or_ge k s.size with h | h
        · right
          by_cases g : 48 ≤ (s[k]'h).toNat
          · refine .inr ⟨h, eq_true (by omega), eq_false fun q => hgo ⟨h, ?_⟩⟩
            rw [dig_eq]
            simp
            omega
          · exact .inl ⟨h, eq_false (by omega)⟩
        · exact .inl (by omega)
      clear SE1 SE2 RD hsz hgo stopped
      rcases cases3 with g | ⟨h, g⟩ | ⟨h, g, g2⟩
      · have j1 : decide (k < s.size) = false := by simp; omega
        have j2 : ((k : Int) < (s.size : Int)) = False := eq_false (by omega)
        clear g
        go_wp2_with fail
        go_quiet (fail)
        go_wp2_with fail
        rcases RCC.out with ⟨h1, h2, h3⟩ | ⟨h1, c, hc, h3⟩
        · obtain ⟨nv, hv⟩ : ∃ v, v = val ((s.data.toList.drop p).takeWhile dig) := ⟨_, rfl⟩
          rw [← hv] at h2 h3
          have RD2 := Lib.hid (fun W => by have q := RDH.out W; rw [h3] at q; exact q)
          have HV := Lib.hid (And.intro h1 (And.intro h2 hv))
          clear h1 h2 h3 hv
          go_region_held3 (fun w' => w'.cell? ⟨R, 0, none⟩ = some (.string s) ∧ w'.cell? ⟨R, 1, none⟩ = some (.int .i64 k)) (first | exact keep2 ((Only.refl _ wr).drewN _).drew y0 y1 | exact keep2 (((Only.refl _ wr).drewN _).drew.trans o3) y0 y1) (first | (go_at_call 219; (with_reducible refine Calls.mono (RD2.out _) ?_); rintro e w3 ⟨rfl, o3⟩))
          have H3 := Lib.hid (show Rd w3 R s k M from (HRk.out.drewN (n := nq)).drew.keep o3)
          have O3 := Lib.hid ((HO.out.drewN nq).drew.trans (o3.mono (T := fun j => j = R) fun _ q => q.elim))
          clear o3
          by_cases g1 : nv < lo
          · have z1 : ((nv : Int) < (lo : Int)) = True := eq_true (by omega)
            have HF := Lib.hid (show numOf lo hi (s.data.toList.drop p) = none from by
              rw [numOf, if_neg]
              rw [← HV.out.2.2]
              simp
              omega)
            clear g1
            go_wp2_with fail
            exact ⟨rfl, O3.out, by rw [HF.out]; exact ⟨_, rfl⟩⟩
          have z1 : ((nv : Int) < (lo : Int)) = False := eq_false (by omega)
          by_cases g3 : hi < nv
          · have z3 : ((hi : Int) < (nv : Int)) = True := eq_true (by omega)
            have HF := Lib.hid (show numOf lo hi (s.data.toList.drop p) = none from by
              rw [numOf, if_neg]
              rw [← HV.out.2.2]
              simp
              omega)
            clear g1 g3
            go_wp2_with fail
            exact ⟨rfl, O3.out, by rw [HF.out]; exact ⟨_, rfl⟩⟩
          have z3 : ((hi : Int) < (nv : Int)) = False := eq_false (by omega)
          have HF := Lib.hid (show numOf lo hi (s.data.toList.drop p) = some (nv, (s.data.toList.drop p).dropWhile dig) from by
            rw [numOf, if_pos]
            · rw [← HV.out.2.2]
            · rw [← HV.out.2.2, HV.out.1]
              simp [HV.out.2.1]
              omega)
          clear g1 g3
          go_wp2_with fail
          go_ret
          exact ⟨O3.out, by rw [HF.out]; exact ⟨rfl, by rw [SE.out.2]; exact H3.out⟩⟩
        · have RD2 := Lib.hid (fun W => by have q := RDH.out W; rw [h3] at q; exact q)
          have H1 := Lib.hid h1
          clear h1 h3
          go_region_held3 (fun w' => w'.cell? ⟨R, 0, none⟩ = some (.string s) ∧ w'.cell? ⟨R, 1, none⟩ = some (.int .i64 k)) (first | exact keep2 ((Only.refl _ wr).drewN _).drew y0 y1 | exact keep2 (((Only.refl _ wr).drewN _).drew.trans o3) y0 y1) (first | (go_at_call 219; (with_reducible refine Calls.mono (RD2.out _) ?_); rintro e w3 ⟨rfl, o3⟩))
          have H3 := Lib.hid (show Rd w3 R s k M from (HRk.out.drewN (n := nq)).drew.keep o3)
          have O3 := Lib.hid ((HO.out.drewN nq).drew.trans (o3.mono (T := fun j => j = R) fun _ q => q.elim))
          clear o3
          have hc2 : (c != 0) = true := by rw [bne, hc]; rfl
          have HF := Lib.hid (show numOf lo hi (s.data.toList.drop p) = none from by
            rw [numOf, if_neg]
            intro q
            simp only [Bool.and_eq_true, decide_eq_true_eq] at q
            exact H1.out q.1.1)
          go_wp2_with fail
          exact ⟨rfl, O3.out, by rw [HF.out]; exact ⟨_, rfl⟩⟩
      · have j1 : (k : Int) < (s.size : Int) := by omega
        go_wp2_with fail
        go_quiet (fail)
        go_wp2_with fail
        rcases RCC.out with ⟨h1, h2, h3⟩ | ⟨h1, c, hc, h3⟩
        · obtain ⟨nv, hv⟩ : ∃ v, v = val ((s.data.toList.drop p).takeWhile dig) := ⟨_, rfl⟩
          rw [← hv] at h2 h3
          have RD2 := Lib.hid (fun W => by have q := RDH.out W; rw [h3] at q; exact q)
          have HV := Lib.hid (And.intro h1 (And.intro h2 hv))
          clear h1 h2 h3 hv
          go_region_held3 (fun w' => w'.cell? ⟨R, 0, none⟩ = some (.string s) ∧ w'.cell? ⟨R, 1, none⟩ = some (.int .i64 k)) (first | exact keep2 ((Only.refl _ wr).drewN _).drew y0 y1 | exact keep2 (((Only.refl _ wr).drewN _).drew.trans o3) y0 y1) (first | (go_at_call 219; (with_reducible refine Calls.mono (RD2.out _) ?_); rintro e w3 ⟨rfl, o3⟩))
          have H3 := Lib.hid (show Rd w3 R s k M from (HRk.out.drewN (n := nq)).drew.keep o3)
          have O3 := Lib.hid ((HO.out.drewN nq).drew.trans (o3.mono (T := fun j => j = R) fun _ q => q.elim))
          clear o3
          by_cases g1 : nv < lo
          · have z1 : ((nv : Int) < (lo : Int)) = True := eq_true (by omega)
            have HF := Lib.hid (show numOf lo hi (s.data.toList.drop p) = none from by
              rw [numOf, if_neg]
              rw [← HV.out.2.2]
              simp
              omega)
            clear g1
            go_wp2_with fail
            exact ⟨rfl, O3.out, by rw [HF.out]; exact ⟨_, rfl⟩⟩
          have z1 : ((nv : Int) < (lo : Int)) = False := eq_false (by omega)
          by_cases g3 : hi < nv
          · have z3 : ((hi : Int) < (nv : Int)) = True := eq_true (by omega)
            have HF := Lib.hid (show numOf lo hi (s.data.toList.drop p) = none from by
              rw [numOf, if_neg]
              rw [← HV.out.2.2]
              simp
              omega)
            clear g1 g3
            go_wp2_with fail
            exact ⟨rfl, O3.out, by rw [HF.out]; exact ⟨_, rfl⟩⟩
          have z3 : ((hi : Int) < (nv : Int)) = False := eq_false (by omega)
          have HF := Lib.hid (show numOf lo hi (s.data.toList.drop p) = some (nv, (s.data.toList.drop p).dropWhile dig) from by
            rw [numOf, if_pos]
            · rw [← HV.out.2.2]
            · rw [← HV.out.2.2, HV.out.1]
              simp [HV.out.2.1]
              omega)
          clear g1 g3
          go_wp2_with fail
          go_ret
          exact ⟨O3.out, by rw [HF.out]; exact ⟨rfl, by rw [SE.out.2]; exact H3.out⟩⟩
        · have RD2 := Lib.hid (fun W => by have q := RDH.out W; rw [h3] at q; exact q)
          have H1 := Lib.hid h1
          clear h1 h3
          go_region_held3 (fun w' => w'.cell? ⟨R, 0, none⟩ = some (.string s) ∧ w'.cell? ⟨R, 1, none⟩ = some (.int .i64 k)) (first | exact keep2 ((Only.refl _ wr).drewN _).drew y0 y1 | exact keep2 (((Only.refl _ wr).drewN _).drew.trans o3) y0 y1) (first | (go_at_call 219; (with_reducible refine Calls.mono (RD2.out _) ?_); rintro e w3 ⟨rfl, o3⟩))
          have H3 := Lib.hid (show Rd w3 R s k M from (HRk.out.drewN (n := nq)).drew.keep o3)
          have O3 := Lib.hid ((HO.out.drewN nq).drew.trans (o3.mono (T := fun j => j = R) fun _ q => q.elim))
          clear o3
          have hc2 : (c != 0) = true := by rw [bne, hc]; rfl
          have HF := Lib.hid (show numOf lo hi (s.data.toList.drop p) = none from by
            rw [numOf, if_neg]
            intro q
            simp only [Bool.and_eq_true, decide_eq_true_eq] at q
            exact H1.out q.1.1)
          go_wp2_with fail
          exact ⟨rfl, O3.out, by rw [HF.out]; exact ⟨_, rfl⟩⟩
      · have j1 : (k : Int) < (s.size : Int) := by omega
        go_wp2_with fail
        go_quiet (fail)
        go_wp2_with fail
        rcases RCC.out with ⟨h1, h2, h3⟩ | ⟨h1, c, hc, h3⟩
        · obtain ⟨nv, hv⟩ : ∃ v, v = val ((s.data.toList.drop p).takeWhile dig) := ⟨_, rfl⟩
          rw [← hv] at h2 h3
          have RD2 := Lib.hid (fun W => by have q := RDH.out W; rw [h3] at q; exact q)
          have HV := Lib.hid (And.intro h1 (And.intro h2 hv))
          clear h1 h2 h3 hv
          go_region_held3 (fun w' => w'.cell? ⟨R, 0, none⟩ = some (.string s) ∧ w'.cell? ⟨R, 1, none⟩ = some (.int .i64 k)) (first | exact keep2 ((Only.refl _ wr).drewN _).drew y0 y1 | exact keep2 (((Only.refl _ wr).drewN _).drew.trans o3) y0 y1) (first | (go_at_call 219; (with_reducible refine Calls.mono (RD2.out _) ?_); rintro e w3 ⟨rfl, o3⟩))
          have H3 := Lib.hid (show Rd w3 R s k M from (HRk.out.drewN (n := nq)).drew.keep o3)
          have O3 := Lib.hid ((HO.out.drewN nq).drew.trans (o3.mono (T := fun j => j = R) fun _ q => q.elim))
          clear o3
          by_cases g1 : nv < lo
          · have z1 : ((nv : Int) < (lo : Int)) = True := eq_true (by omega)
            have HF := Lib.hid (show numOf lo hi (s.data.toList.drop p) = none from by
              rw [numOf, if_neg]
              rw [← HV.out.2.2]
              simp
              omega)
            clear g1
            go_wp2_with fail
            exact ⟨rfl, O3.out, by rw [HF.out]; exact ⟨_, rfl⟩⟩
          have z1 : ((nv : Int) < (lo : Int)) = False := eq_false (by omega)
          by_cases g3 : hi < nv
          · have z3 : ((hi : Int) < (nv : Int)) = True := eq_true (by omega)
            have HF := Lib.hid (show numOf lo hi (s.data.toList.drop p) = none from by
              rw [numOf, if_neg]
              rw [← HV.out.2.2]
              simp
              omega)
            clear g1 g3
            go_wp2_with fail
            exact ⟨rfl, O3.out, by rw [HF.out]; exact ⟨_, rfl⟩⟩
          have z3 : ((hi : Int) < (nv : Int)) = False := eq_false (by omega)
          have HF := Lib.hid (show numOf lo hi (s.data.toList.drop p) = some (nv, (s.data.toList.drop p).dropWhile dig) from by
            rw [numOf, if_pos]
            · rw [← HV.out.2.2]
            · rw [← HV.out.2.2, HV.out.1]
              simp [HV.out.2.1]
              omega)
          clear g1 g3
          go_wp2_with fail
          go_ret
          exact ⟨O3.out, by rw [HF.out]; exact ⟨rfl, by rw [SE.out.2]; exact H3.out⟩⟩
        · have RD2 := Lib.hid (fun W => by have q := RDH.out W; rw [h3] at q; exact q)
          have H1 := Lib.hid h1
          clear h1 h3
          go_region_held3 (fun w' => w'.cell? ⟨R, 0, none⟩ = some (.string s) ∧ w'.cell? ⟨R, 1, none⟩ = some (.int .i64 k)) (first | exact keep2 ((Only.refl _ wr).drewN _).drew y0 y1 | exact keep2 (((Only.refl _ wr).drewN _).drew.trans o3) y0 y1) (first | (go_at_call 219; (with_reducible refine Calls.mono (RD2.out _) ?_); rintro e w3 ⟨rfl, o3⟩))
          have H3 := Lib.hid (show Rd w3 R s k M from (HRk.out.drewN (n := nq)).drew.keep o3)
          have O3 := Lib.hid ((HO.out.drewN nq).drew.trans (o3.mono (T := fun j => j = R) fun _ q => q.elim))
          clear o3
          have hc2 : (c != 0) = true := by rw [bne, hc]; rfl
          have HF := Lib.hid (show numOf lo hi (s.data.toList.drop p) = none from by
            rw [numOf, if_neg]
            intro q
            simp only [Bool.and_eq_true, decide_eq_true_eq] at q
            exact H1.out q.1.1)
          go_wp2_with fail
          exact ⟨rfl, O3.out, by rw [HF.out]; exact ⟨_, rfl⟩⟩
end Go.Proofs.Ytbjnejnjlidiaaa.prA
namespace Go.Proofs.Ytbjnejnjlidiaaa.prB
open Go.RowKit kit numA numB numC numD numE numF tmA tmB tmC trA trB trD trE prA
set_option linter.unusedVariables false
set_option linter.unusedSimpArgs false

def Dat (w : World) (R : Nat) (s : ByteArray) (M : Value) (r : Option Txt) (e : Ending) (w' : World) : Prop := Only (fun k => k = R) w w' ∧ match r with
  | some rest => e = .returned (.tuple #[]) ∧ Rd w' R s (behind s rest) M
  | none => Thrown e

theorem isHex_q (c : UInt8) (b : Bool) (h : isHex c = b) (w : World) : Calls Try.prog 220 #[.int .u8 (c.toNat : Int)] w fun e w' => e = .returned (.bool b) ∧ w' = w := h ▸ isHex_any c w

theorem odd_mod (p k : Nat) (h : p ≤ k) : (((k : Int) - (p : Int)) % 2 != 0) = !((k - p) % 2 == 0) := by
  have e : (k : Int) - (p : Int) = ((k - p : Nat) : Int) := by omega
  rw [e, bne]
  congr 1
  rw [Bool.eq_iff_iff]
  simp only [beq_iff_eq]
  omega

set_option maxRecDepth 100000 in
set_option maxHeartbeats 1000000 in
theorem data_any (R : Nat) (s : ByteArray) (p : Nat) (M : Value) (w : World) (hm : s.size ≤ 1000000000) (hp : p ≤ s.size) (hr : Rd w R s p M) : Calls Try.prog 197 #[ptr R] w (Dat w R s M (datOf (s.data.toList.drop p))) := by
  have HR := Lib.hid hr
  have HS := Lib.hid hm
  have HP := Lib.hid hp
  have z1 : w.cell? ⟨R, 1, none⟩ = some (.int .i64 p) := cell_of hr
  clear hr
  go_enter Try.func197, Try.ntmps197
  go_wp2_with fail
  go_loopw [29] (fun _ wr => ∃ k : Nat, p ≤ k ∧ k ≤ s.size ∧ Rd wr R s k M ∧ Only (fun j => j = R) w wr ∧ (s.data.toList.drop p).dropWhile isHex = (s.data.toList.drop k).dropWhile isHex) (fun _ wr => s.size - (match wr.cell? ⟨R, 1, none⟩ with | some (.int _ q) => q.toNat | _ => 0))
  case atStart => exact ⟨p, Nat.le_refl _, hp, HR.out, Only.refl _ _, rfl⟩
  case round =>
    obtain ⟨k, hk0, hk, hr, o, hd⟩ := hrel
    have y0 : wr.cell? ⟨R, 0, none⟩ = some (.string s) := cell_of hr
    have y1 : wr.cell? ⟨R, 1, none⟩ = some (.int .i64 k) := cell_of hr
    have fz : wr.frozen? ⟨R, 1, none⟩ = false := free_of hr
    have HRk := Lib.hid hr
    have HO := Lib.hid o
    have HD := Lib.hid hd
    clear hr o hd
    have a0 : (0 : Int) ≤ (k : Int) := by omega
    by_cases hgo : ∃ h : k < s.size, isHex (s[k]'h) = true
    · obtain ⟨hlt, hdg⟩ := hgo
      have j1 : (k : Int) < (s.size : Int) := by omega
      have hsm := HS.out
      have HN := Lib.hid (HD.out.trans (span_step s k hlt hdg))
      have HX := Lib.hid (isHex_q _ true hdg)
      clear hdg
      go_wp2_with fail
      go_quiet ((go_at_call 220; exact Calls.quiet_of_same (HX.out _)))
      all_goals
        go_wp2_with fail
        go_roundw
        case rel => exact ⟨k + 1, by omega, by omega, HRk.out.drewN.set _ _ (by go_num), (HO.out.drewN _).set rfl, HN.out⟩
        case measure =>
          have e1 : ∀ q : Nat, ((wr.drewN q).setCell ⟨R, 1, none⟩ (.int .i64 ((k : Int) + 1))).cell? ⟨R, 1, none⟩ = some (.int .i64 ((k + 1 : Nat) : Int)) := fun q => cell_of (HRk.out.drewN.set ((k : Int) + 1) (k + 1) (by omega))
          rw [y1, e1]
          show s.size - (((k + 1 : Nat) : Int)).toNat < s.size - ((k : Nat) : Int).toNat
          omega
    · have HST := Lib.hid (show (s.data.toList.drop k).dropWhile isHex = s.data.toList.drop k from by
        rcases Nat.lt_or_ge k s.size with h | h
        · exact span_stop s k h (by cases q : isHex s[k] with | false => rfl | true => exact absurd ⟨h, q⟩ hgo)
        · rw [(cb_out s k h).2]
          rfl)
      obtain ⟨SE1, SE2⟩ := span_end s p k hk (HD.out.trans HST.out) hk0
      have SE := Lib.hid (And.intro SE1 SE2)
      have a1 : (0 : Int) ≤ (p : Int) := by omega
      have a2 : (p : Int) ≤ (k : Int) := by omega
      have a3 : (k : Int) ≤ (s.size : Int) := by omega
      have wd : wrap64 ((k : Int) - (p : Int)) = (k : Int) - (p : Int) := IntWalk.wrap64_in _ (by have := HS.out; omega)
      have OM := Lib.hid (odd_mod p k hk0)
      have HDT := Lib.hid (show datOf (s.data.toList.drop p) = if (k - p) % 2 = 0 then some ((s.data.toList.drop p).dropWhile isHex) else none from by
        have hl : ((s.data.toList.drop p).takeWhile isHex).length = k - p := by
          rw [SE1, List.length_take, List.length_drop, tl_size]
          omega
        rw [datOf, hl])
      have cases3 : k = s.size ∨ (∃ h : k < s.size, isHex (s[k]'h) = false) := by
        rcases Nat.lt_or_ge k s.size with h | h
        · exact .inr ⟨h, by cases q : isHex s[k] with | false => rfl | true => exact absurd ⟨h, q⟩ hgo⟩
        · exact .inl (by omega)
      clear SE1 SE2 hgo
      rcases cases3 with g | ⟨h, g⟩
      · have j1 : decide (k < s.size) = false := by simp; omega
        have j2 : ((k : Int) < (s.size : Int)) = False := eq_false (by omega)
        clear g
        go_wp2_with fail
        go_quiet (fail)
        by_cases hev : (k - p) % 2 = 0
        · have om : (((k : Int) - (p : Int)) % 2 != 0) = false := by rw [OM.out, hev]; rfl
          have HF := Lib.hid (show datOf (s.data.toList.drop p) = some ((s.data.toList.drop p).dropWhile isHex) from by rw [HDT.out, if_pos hev])
          clear hev
          go_wp2_with fail
          exact bodyPost_end (v := .tuple #[]) (results_none rfl _ _ _) rfl ⟨HO.out.drewN nq, by rw [HF.out]; exact ⟨rfl, by rw [SE.out.2]; exact HRk.out.drewN⟩⟩
        · have om : (((k : Int) - (p : Int)) % 2 != 0) = true := by rw [OM.out, beq_eq_false_iff_ne.2 hev]; rfl
          have HF := Lib.hid (show datOf (s.data.toList.drop p) = none from by rw [HDT.out, if_neg hev])
          clear hev
          go_wp2_with fail
          exact ⟨rfl, HO.out.drewN nq, by rw [HF.out]; exact ⟨_, rfl⟩⟩
      · have j1 : (k : Int) < (s.size : Int) := by omega
        have HX := Lib.hid (isHex_q _ false g)
        clear g
        go_wp2_with fail
        go_quiet ((go_at_call 220; exact Calls.quiet_of_same (HX.out _)))
        by_cases hev : (k - p) % 2 = 0
        · have om : (((k : Int) - (p : Int)) % 2 != 0) = false := by rw [OM.out, hev]; rfl
          have HF := Lib.hid (show datOf (s.data.toList.drop p) = some ((s.data.toList.drop p).dropWhile isHex) from by rw [HDT.out, if_pos hev])
          clear hev
          go_wp2_with fail
          exact bodyPost_end (v := .tuple #[]) (results_none rfl _ _ _) rfl ⟨HO.out.drewN nq, by rw [HF.out]; exact ⟨rfl, by rw [SE.out.2]; exact HRk.out.drewN⟩⟩
        · have om : (((k : Int) - (p : Int)) % 2 != 0) = true := by rw [OM.out, beq_eq_false_iff_ne.2 hev]; rfl
          have HF := Lib.hid (show datOf (s.data.toList.drop p) = none from by rw [HDT.out, if_neg hev])
          clear hev
          go_wp2_with fail
          exact ⟨rfl, HO.out.drewN nq, by rw [HF.out]; exact ⟨_, rfl⟩⟩
end Go.Proofs.Ytbjnejnjlidiaaa.prB
namespace Go.Proofs.Ytbjnejnjlidiaaa.prC
open Go.RowKit kit numA numB numC numD numE numF tmA tmB tmC srcA trA trB trD trE prA prB
set_option linter.unusedVariables false
set_option linter.unusedSimpArgs false

theorem scope_jumps {P : Program} {a : Act} {w : World} {Q : Exit → Act → World → Prop} {c y : Code} (l : Nat) (J : Act → World → Prop) (μ : Act → World → Nat) (hf : findLabel c l = some (.seq .skip y))
    (pass : ∀ a w, J a w → y.wp P (Exit.jump l (fun a' w' => J a' w' ∧ μ a' w' < μ a w) Q) a w)
    (first : (∀ a w, J a w → y.wp P (Exit.jump l J Q) a w) → c.wp P (Exit.jump l J Q) a w) : (Code.scope c).wp P Q a w :=
  wp_scope_jumps l J μ hf (first fun a w h => Code.wp_mono (fun e a' w' q => by
    cases e
    case goto l' => exact ⟨q.1, q.2.1⟩
    all_goals exact q) (pass a w h)) fun a w h => wp_seq (wp_skip (pass a w h))

/-- The reader at R, at a place; its shapes are the table, or not yet there. -/
def RS (w : World) (R : Nat) (s : ByteArray) (p : Nat) : Prop := ∃ M, Rd w R s p M ∧ (M = .map none ∨ ∃ b, M = .map (some b) ∧ w.heap[b]? = some (.map table 7))

theorem RS.keep {w w' : World} {R p : Nat} {s : ByteArray} (h : RS w R s p) (o : Only (fun _ => False) w w') : RS w' R s p := by
  obtain ⟨M, h1, h2⟩ := h
  refine ⟨M, h1.keep o, ?_⟩
  rcases h2 with h2 | ⟨b, h2, h3⟩
  · exact .inl h2
  · exact .inr ⟨b, h2, o.keep h3 id⟩

/-- A reader that moved on. -/
theorem RS.move {w w' : World} {R p p' : Nat} {s : ByteArray} {M : Value} (h2 : M = .map none ∨ ∃ b, M = .map (some b) ∧ w.heap[b]? = some (.map table 7)) (hr : Rd w R s p M) (o : Only (fun k => k = R) w w') (h : Rd w' R s p' M) : RS w' R s p' := by
  refine ⟨M, h, ?_⟩
  rcases h2 with h2 | ⟨b, h2, h3⟩
  · exact .inl h2
  · refine .inr ⟨b, h2, o.keep h3 fun q => ?_⟩
    subst q
    rw [hr] at h3
    cases h3

/-- The shape of a kind, as the program holds it. -/
def shv (k : Nat) : Value := .agg #[.int .i64 (least k : Nat), .int .i64 (mostk k : Nat), .bool (numbered k), .int .u64 (lowk k : Nat), .int .u64 (highk k : Nat), .bool (k == 6)]

def Box6 (w : World) (B k : Nat) : Prop := w.heap[B]? = some (.cells #[.int .i64 (least k : Nat), .int .i64 (mostk k : Nat), .bool (numbered k), .int .u64 (lowk k : Nat), .int .u64 (highk k : Nat), .bool (k == 6)] 134 (0, 0))
theorem Box6.cells {w : World} {B k : Nat} (h : Box6 w B k) : w.cell? ⟨B, 0, none⟩ = some (.int .i64 (least k : Nat)) ∧ w.cell? ⟨B, 1, none⟩ = some (.int .i64 (mostk k : Nat)) ∧ w.cell? ⟨B, 2, none⟩ = some (.bool (numbered k)) ∧ w.cell? ⟨B, 3, none⟩ = some (.int .u64 (lowk k : Nat)) ∧ w.cell? ⟨B, 4, none⟩ = some (.int .u64 (highk k : Nat)) ∧ w.cell? ⟨B, 5, none⟩ = some (.bool (k == 6)) := ⟨cell_of h, cell_of h, cell_of h, cell_of h, cell_of h, cell_of h⟩
theorem Box6.keepS {w w' : World} {B k : Nat} {T : Nat → Prop} (h : Box6 w B k) (o : Only T w w') (hT : ¬ T B) : Box6 w' B k := o.keep h hT

theorem sign_lit (x : UInt8) (n : Int) (hn : (x.toNat : Int) = n) (R : Nat) (s : ByteArray) (p : Nat) (M : Value) (w : World) (hm : s.size ≤ 1000000000) (hp : p ≤ s.size) (hr : Rd w R s p M) (hx : x ≠ 0) : Calls Try.prog 221 #[ptr R, .int .u8 n] w (prA.Signed R s p M w (cb s p == x)) := by subst hn; exact sign_any R s p M x w hm hp hr hx
theorem next_lit (x : UInt8) (n : Int) (hn : (x.toNat : Int) = n) (R : Nat) (s : ByteArray) (p : Nat) (M : Value) (w : World) (hm : s.size ≤ 1000000000) (hp : p ≤ s.size) (hr : Rd w R s p M) (hx : x ≠ 0) : Calls Try.prog 222 #[ptr R, .int .u8 n] w (prA.Nexted R s p M w (cb s p == x)) := by subst hn; exact next_any R s p M x w hm hp hr hx

/-- The reader's place, as its block holds it. -/
def atOf (R : Nat) (w : World) : Nat := match w.cell? ⟨R, 1, none⟩ with | some (.int _ q) => q.toNat | _ => 0
theorem atOf_rd {R p : Nat} {s : ByteArray} {M : Value} {w : World} (h : Rd w R s p M) : atOf R w = p := by
  unfold atOf
  rw [show w.cell? ⟨R, 1, none⟩ = some (.int .i64 p) from cell_of h]
  simp
theorem atOf_rs {R p : Nat} {s : ByteArray} {w : World} (h : RS w R s p) : atOf R w = p := by
  obtain ⟨M, h1, _⟩ := h
  exact atOf_rd h1

def lastOf (acc : List Txt) : ByteArray := ⟨(acc.getLastD []).toArray⟩

/-- What holds where the next part begins. -/
structure LC (S : Nat → Prop) (w : World) (s : ByteArray) (R B p f k n : Nat) (j g : Nat) (acc : List Txt) (w' : World) : Prop where
  rs : RS w' R s j
  le : j ≤ s.size
  ge : p + 1 ≤ j
  eq : insC f k (s.data.toList.drop p) = (match lpC g k acc (s.data.toList.drop j) with | none => none | some (ps, rest) => some (n, ps, rest))
  fuel : 2 * (s.size - j) + 1 ≤ g
  cnt : acc.length ≤ j
  lt : acc.length < mostk k
  box : Box6 w' B k
  only : Only S w w'

theorem head_of {s : ByteArray} {p : Nat} (h : (cb s p == 40) = true) : s.data.toList.drop p = 40 :: s.data.toList.drop (p + 1) ∧ p < s.size := by
  have h : cb s p = 40 := by simpa using h
  have hlt := cb_lt (by decide) h
  exact ⟨by rw [cb_in s p hlt, h], hlt⟩

theorem ins_no {s : ByteArray} {f k p : Nat} (h : (cb s p == 40) = false) : insC f k (s.data.toList.drop p) = none := by
  cases f with
  | zero => exact insC_zero _ _
  | succ f =>
    rcases Nat.lt_or_ge p s.size with q | q
    · rw [cb_in s p q, insC_cons, if_neg (by simpa using h)]
    · rw [(cb_out s p q).2, insC_nil]

theorem ins_yes {s : ByteArray} {f k p : Nat} (h : (cb s p == 40) = true) : insC (f + 1) k (s.data.toList.drop p) = (match headOf k (s.data.toList.drop (p + 1)) with
      | none => none
      | some (n, r2) => if k = 11 ∧ r2.head? = some 41 then some (n, [], r2.tail) else (match lpC f k [] r2 with | none => none | some (ps, rest) => some (n, ps, rest))) := by
  rw [(head_of h).1, insC_cons, if_pos rfl]
  rfl

theorem span_suf (q : UInt8 → Bool) (l : Txt) : ∃ t, l = t ++ l.dropWhile q := ⟨l.takeWhile q, List.takeWhile_append_dropWhile.symm⟩

theorem num_suf {lo hi : Nat} {l : Txt} {n : Nat} {r : Txt} (h : numOf lo hi l = some (n, r)) : ∃ t, l = t ++ r := ⟨dec n, (num_sound h).1⟩

theorem head_suf {k : Nat} {l : Txt} {n : Nat} {r : Txt} (h : headOf k l = some (n, r)) : ∃ t, l = t ++ r := by
  unfold headOf at h
  split at h
  · cases hn : numOf (lowk k) (highk k) l with
    | none => rw [hn] at h; cases h
    | some q =>
      obtain ⟨n', r'⟩ := q
      rw [hn] at h
      obtain ⟨t, e⟩ := num_suf hn
      cases r' with
      | nil => cases h
      | cons c r'' =>
        by_cases hc : c = 44
        · simp only [hc, ↓reduceIte, Option.some.injEq, Prod.mk.injEq] at h
          obtain ⟨_, rfl⟩ := h
          exact ⟨t ++ [c], by rw [e]; simp⟩
        · simp [hc] at h
  · simp only [Option.some.injEq, Prod.mk.injEq] at h
    obtain ⟨_, rfl⟩ := h
    exact ⟨[], rfl⟩

/-- What is left behind is an end of what stood there. -/
theorem sufC : ∀ f, (∀ l k n ps rest, tmC f l = some (k, n, ps, rest) → ∃ t, t ≠ [] ∧ l = t ++ rest) ∧ (∀ k l n ps rest, insC f k l = some (n, ps, rest) → ∃ t, l = t ++ rest) ∧ (∀ k acc l ps rest, lpC f k acc l = some (ps, rest) → ∃ t, l = t ++ rest) := by
  intro f
  induction f with
  | zero => exact ⟨fun l k n ps rest h => (by rw [tmC_zero] at h; cases h), fun k l n ps rest h => (by rw [insC_zero] at h; cases h), fun k acc l ps rest h => (by rw [lpC_zero] at h; cases h)⟩
  | succ f ih =>
    obtain ⟨ih1, ih2, ih3⟩ := ih
    refine ⟨fun l k n ps rest h => ?_, fun k l n ps rest h => ?_, fun k acc l ps rest h => ?_⟩
    · cases l with
      | nil => rw [tmC_nil] at h; cases h
      | cons c r =>
        have key : (∃ t, r = t ++ rest) → ∃ t, t ≠ [] ∧ c :: r = t ++ rest := fun ⟨t, e⟩ => ⟨c :: t, by simp, by rw [e]; rfl⟩
        apply key
        rw [tmC_cons] at h
        split at h
        · cases h
        split at h
        · simp only [Option.some.injEq, Prod.mk.injEq] at h
          obtain ⟨_, _, _, rfl⟩ := h
          exact ⟨[], rfl⟩
        split at h
        · cases hn : numOf 0 4294967295 r with
          | none => rw [hn] at h; cases h
          | some q =>
            obtain ⟨n', r2⟩ := q
            rw [hn] at h
            simp only [Option.some.injEq, Prod.mk.injEq] at h
            obtain ⟨_, _, _, rfl⟩ := h
            exact num_suf hn
        split at h
        · cases hn : numOf 0 most r with
          | none => rw [hn] at h; cases h
          | some q =>
            obtain ⟨n', r2⟩ := q
            rw [hn] at h
            simp only [Option.some.injEq, Prod.mk.injEq] at h
            obtain ⟨_, _, _, rfl⟩ := h
            exact num_suf hn
        split at h
        · unfold datOf at h
          by_cases hev : (r.takeWhile isHex).length % 2 = 0
          · rw [if_pos hev] at h
            simp only [Option.some.injEq, Prod.mk.injEq] at h
            obtain ⟨_, _, _, rfl⟩ := h
            exact span_suf _ _
          · rw [if_neg hev] at h; cases h
        cases hi : insC f (kindOf c) r with
        | none => rw [hi] at h; cases h
        | some q =>
          obtain ⟨n', ps', rest'⟩ := q
          rw [hi] at h
          simp only [Option.some.injEq, Prod.mk.injEq] at h
          obtain ⟨_, _, _, rfl⟩ := h
          exact ih2 _ _ _ _ _ hi
    · cases l with
      | nil => rw [insC_nil] at h; cases h
      | cons o r1 =>
        rw [insC_cons] at h
        by_cases ho : o = 40
        · rw [if_pos ho] at h
          cases hh : headOf k r1 with
          | none => rw [hh] at h; cases h
          | some q =>
            obtain ⟨n', r2⟩ := q
            rw [hh] at h
            obtain ⟨t, e⟩ := head_suf hh
            simp only at h
            split at h
            · rename_i hk
              simp only [Option.some.injEq, Prod.mk.injEq] at h
              obtain ⟨_, _, rfl⟩ := h
              cases r2 with
              | nil => cases hk.2
              | cons x r3 => exact ⟨o :: (t ++ [x]), by rw [e]; simp⟩
            · cases hl : lpC f k [] r2 with
              | none => rw [hl] at h; cases h
              | some q =>
                obtain ⟨ps', rest'⟩ := q
                rw [hl] at h
                simp only [Option.some.injEq, Prod.mk.injEq] at h
                obtain ⟨_, _, rfl⟩ := h
                obtain ⟨t2, e2⟩ := ih3 _ _ _ _ _ hl
                exact ⟨o :: (t ++ t2), by rw [e, e2]; simp⟩
        · rw [if_neg ho] at h; cases h
    · rw [lpC_succ] at h
      cases ht : tmC f l with
      | none => rw [ht] at h; cases h
      | some q =>
        obtain ⟨k1, n1, ps1, rest1⟩ := q
        rw [ht] at h
        obtain ⟨t, _, e⟩ := ih1 _ _ _ _ _ ht
        simp only at h
        split at h
        · cases h
        split at h
        · rename_i hc
          obtain ⟨t2, e2⟩ := ih3 _ _ _ _ _ h
          cases rest1 with
          | nil => cases hc.2
          | cons x r => exact ⟨t ++ x :: t2, by rw [e]; simp at e2; rw [e2]; simp⟩
        · split at h
          · cases h
          split at h
          · simp only [Option.some.injEq, Prod.mk.injEq] at h
            obtain ⟨_, rfl⟩ := h
            cases rest1 with
            | nil => exact ⟨t, e⟩
            | cons x r => exact ⟨t ++ [x], by rw [e]; simp⟩
          · cases h

theorem partC {s : ByteArray} {g j k n : Nat} {ps : List Txt} {rest : Txt} (hj : j ≤ s.size) (h : tmC g (s.data.toList.drop j) = some (k, n, ps, rest)) :
    rest = s.data.toList.drop (behind s rest) ∧ j < behind s rest ∧ behind s rest ≤ s.size ∧ (s.data.toList.drop j).take ((s.data.toList.drop j).length - rest.length) = (s.data.toList.drop j).take (behind s rest - j) := by
  obtain ⟨t, hne, e⟩ := (sufC g).1 _ _ _ _ _ h
  obtain ⟨h1, h2, h3⟩ := behind_drop hj e
  have : 0 < t.length := List.length_pos_iff.2 hne
  refine ⟨h1, by omega, h3, ?_⟩
  rw [List.length_drop, tl_size]
  congr 1
  unfold behind
  omega

theorem stepC {s : ByteArray} {g j k jn k1 n1 : Nat} {acc ps1 : List Txt} {part rest : Txt} (hj : j ≤ s.size) (h : tmC g (s.data.toList.drop j) = some (k1, n1, ps1, rest)) (hjn : jn = behind s rest) (hp : part = (s.data.toList.drop j).take (jn - j)) :
    lpC (g + 1) k acc (s.data.toList.drop j) = if k = 6 ∧ 0 < acc.length ∧ gt (acc.getLastD []) part = true then none
      else if acc.length + 1 < mostk k ∧ cb s jn = 44 then lpC g k (acc ++ [part]) (s.data.toList.drop (jn + 1))
      else if acc.length + 1 < least k then none
      else if cb s jn = 41 then some (acc ++ [part], s.data.toList.drop (jn + 1)) else none := by
  obtain ⟨e1, hlt, hle, ept⟩ := partC hj h
  have e2 : rest.tail = s.data.toList.drop (jn + 1) := by
    rw [e1, ← hjn, List.tail_drop]
  have e3 : ∀ c : UInt8, c ≠ 0 → (rest.head? = some c ↔ cb s jn = c) := fun c hc => by
    rw [e1, ← hjn]
    exact drop_head s jn c hc
  rw [lpC_succ, h]
  simp only
  rw [ept, ← hjn, ← hp, e2]
  simp only [e3 44 (by decide), e3 41 (by decide)]

theorem noneC {s : ByteArray} {g j k : Nat} {acc : List Txt} (h : tmC g (s.data.toList.drop j) = none) : lpC (g + 1) k acc (s.data.toList.drop j) = none := by rw [lpC_succ, h]

theorem RS.keepS {w w' : World} {R p : Nat} {s : ByteArray} {S : Nat → Prop} (h : RS w R s p) (o : Only S w w') (hR : ¬ S R) (hb : ∀ b, w.heap[b]? = some (.map table 7) → ¬ S b) : RS w' R s p := by
  obtain ⟨M, h1, h2⟩ := h
  refine ⟨M, o.keep h1 hR, ?_⟩
  rcases h2 with h2 | ⟨b, h2, h3⟩
  · exact .inl h2
  · exact .inr ⟨b, h2, o.keep h3 (hb b h3)⟩

/-- Where the parts go that are told. -/
def TP (w : World) (P R : Nat) (acc : List Txt) : Prop := ∃ v, w.heap[P]? = some (.cells #[v] 25 (0, 0)) ∧ w.ownsRow (R + 1) 9 1 v acc.length (acc.map sv)

/-- A part is told. -/
theorem TP.put {w : World} {P R B k : Nat} {acc : List Txt} {s : ByteArray} {j : Nat} {M : Value} {part : Txt} (h : TP w P R acc) (hPR : P < R) (hr : Rd w R s j M) (hm : M = Value.map none ∨ ∃ b, M = Value.map (some b) ∧ w.heap[b]? = some (Obj.map table 7)) (hb : Box6 w B k) (hk : acc.length ≤ 100000001) :
    ∃ v g cp w', w.cell? ⟨P, 0, none⟩ = some v ∧ (Builtin.append_ #[25, 25] 25 #[v, .slice (some ⟨w.heap.size, 0, none⟩) 1 1]).run Try.prog (w.alloc (.cells #[sv part] 9)) = .ok (.slice (some ⟨g, 0, none⟩) (acc.length + 1 : Nat) cp) w' ∧
      w'.frozen? ⟨P, 0, none⟩ = false ∧ w'.cell? ⟨P, 0, none⟩ = some v ∧
      TP (w'.setCell ⟨P, 0, none⟩ (.slice (some ⟨g, 0, none⟩) (acc.length + 1 : Nat) cp)) P R (acc ++ [part]) ∧
      Rd (w'.setCell ⟨P, 0, none⟩ (.slice (some ⟨g, 0, none⟩) (acc.length + 1 : Nat) cp)) R s j M ∧
      (M = Value.map none ∨ ∃ b, M = Value.map (some b) ∧ (w'.setCell ⟨P, 0, none⟩ (.slice (some ⟨g, 0, none⟩) (acc.length + 1 : Nat) cp)).heap[b]? = some (Obj.map table 7)) ∧
      Box6 (w'.setCell ⟨P, 0, none⟩ (.slice (some ⟨g, 0, none⟩) (acc.length + 1 : Nat) cp)) B k ∧
      ∀ w0, Only (fun q => P ≤ q) w0 w → Only (fun q => P ≤ q) w0 (w'.setCell ⟨P, 0, none⟩ (.slice (some ⟨g, 0, none⟩) (acc.length + 1 : Nat) cp)) := by
  obtain ⟨v, hp, own⟩ := h
  obtain ⟨i0, hi0, hz0, hz1, hz2⟩ := trC.info_parts trC.info9
  have oA : Only (fun _ => False) w (w.alloc (.cells #[sv part] 9)) := (Only.refl (fun _ => False) w).alloc _
  have hlt := lt_of hp
  have own' := trC.owns_keep own oA
  have hh := heap_alloc_new w (.cells #[sv part] 9)
  have hs : (w.alloc (.cells #[sv part] 9)).heap.size = w.heap.size + 1 := World.size_alloc _ _
  have hRlt := lt_of hr
  obtain ⟨g, cp, w', hrun, hown, hg, hat, _⟩ := run_append_lies (P := Try.prog) (w.alloc (.cells #[sv part] 9)) 25 25 (R + 1) 9 i0 _ 1 16 Try.underlying25 hi0 hz0 hz1 hz2 rfl (by omega) v acc.length (acc.map sv) own' ⟨w.heap.size, 0, none⟩ 1 1 [sv part] rfl (fun j u hj => by
    rw [Addr.add_lit, cell_of hh, Nat.zero_add]
    simpa using hj) (fun u hu => by simp at hu; rcases hu with rfl; rfl) (by omega) (by unfold maxLen; omega) (by omega) (by omega) _ rfl
  -- the row's own block holds texts
  have hty : ∀ q, v.ownBlock = some q → ∃ c, w.heap[q]? = some (.cells c 9 (0, 0)) := fun q hq => by
    rcases own.2 with ⟨rfl, _⟩ | ⟨g', cap, cur, rfl, hb', hg', _⟩
    · cases hq
    · injection hq with hq
      subst hq
      exact ⟨cur, hg'⟩
  have keep : ∀ {b : Nat} {o : Obj}, w.heap[b]? = some o → (∀ c, o ≠ .cells c 9 (0, 0)) → w'.heap[b]? = some o := fun {b o} hbo hne => by
    have hbl := lt_of hbo
    refine (hg.block b (by omega) fun q => ?_).trans (oA.keep hbo id)
    obtain ⟨c, hc⟩ := hty b q.symm
    rw [hc] at hbo
    injection hbo with hbo
    exact hne c hbo.symm
  have hP : w'.heap[P]? = some (.cells #[v] 25 (0, 0)) := keep hp fun c q => by injection q with _ q; cases q
  have hOS : Only (fun q => P ≤ q) w (w'.setCell ⟨P, 0, none⟩ (.slice (some ⟨g, 0, none⟩) (acc.length + 1 : Nat) cp)) := by
    refine Only.set ((oA.mono fun _ h => h.elim).grown hg fun q hq => ?_) (Nat.le_refl P)
    have := (own.lt q hq).1
    show P ≤ q
    omega
  refine ⟨v, g, cp, w', cell_of hp, hrun, free_of hP, cell_of hP, ⟨_, heap_set hP, ?_⟩, ?_, ?_, ?_, fun w0 o0 => o0.trans hOS⟩
  · rw [List.length_append, List.map_append]
    exact trC.owns_set hown (by omega)
  · exact (heap_other (by omega)).trans (keep hr fun c q => by injection q with _ q; cases q)
  · rcases hm with h | ⟨b, h, h3⟩
    · exact .inl h
    · refine .inr ⟨b, h, (heap_other fun e => ?_).trans (keep h3 fun c q => by cases q)⟩
      subst e
      rw [hp] at h3
      cases h3
  · refine (heap_other fun e => ?_).trans (keep hb fun c q => by injection q with _ q; cases q)
    subst e
    have hb' : w.heap[B]? = _ := hb
    rw [hp] at hb'
    injection hb' with hb'
    injection hb' with _ q
    cases q

def TC (w : World) (R : Nat) (s : ByteArray) (r : Option (Nat × Nat × List Txt × Txt)) (e : Ending) (w' : World) : Prop := Only (fun k => k = R) w w' ∧ match r with
  | some (k, n, _, rest) => e = .returned (.tuple #[.int .i64 k, .int .u64 n]) ∧ RS w' R s (behind s rest)
  | none => Thrown e

def IC (w : World) (R : Nat) (s : ByteArray) (r : Option (Nat × List Txt × Txt)) (e : Ending) (w' : World) : Prop := Only (fun k => k = R) w w' ∧ match r with
  | some (n, _, rest) => e = .returned (.int .u64 n) ∧ RS w' R s (behind s rest)
  | none => Thrown e

def IHT (s : ByteArray) (N : Nat) : Prop := ∀ (R p f : Nat) (w : World), p ≤ s.size → s.size - p ≤ N → 2 * (s.size - p) ≤ f → RS w R s p → Calls Try.prog 163 #[ptr R, .pointer none] w (TC w R s (tmC f (s.data.toList.drop p)))

end Go.Proofs.Ytbjnejnjlidiaaa.prC
namespace Go.Proofs.Ytbjnejnjlidiaaa.prD
open Go.RowKit kit numA numB numC numD numE numF tmA tmB tmC srcA trA trB trD trE prA prB prC
set_option linter.unusedVariables false
set_option linter.unusedSimpArgs false

theorem _root_.Go.Proofs.Ytbjnejnjlidiaaa.prC.TP.keep {w w' : World} {P R : Nat} {acc : List Txt} (h : TP w P R acc) (hPR : P < R) (o : Only (fun q => q = R) w w') : TP w' P R acc := by
  obtain ⟨v, h1, h2⟩ := h
  exact ⟨v, o.keep h1 (by show ¬ P = R; omega), trC.owns_keepS h2 o fun k hk => by subst hk; exact Nat.lt_succ_self _⟩

theorem _root_.Go.Proofs.Ytbjnejnjlidiaaa.prC.TP.keep0 {w w' : World} {P R : Nat} {acc : List Txt} (h : TP w P R acc) (o : Only (fun _ => False) w w') : TP w' P R acc := by
  obtain ⟨v, h1, h2⟩ := h
  exact ⟨v, o.keep h1 id, trC.owns_keep h2 o⟩

def ICT (w : World) (P R : Nat) (s : ByteArray) (r : Option (Nat × List Txt × Txt)) (e : Ending) (w' : World) : Prop := Only (fun k => P ≤ k) w w' ∧ match r with
  | some (n, ps, rest) => e = .returned (.int .u64 n) ∧ RS w' R s (behind s rest) ∧ TP w' P R ps
  | none => Thrown e ∧ ∃ v, w'.heap[P]? = some (.cells #[v] 25 (0, 0))

theorem _root_.Go.Proofs.Ytbjnejnjlidiaaa.prC.TP.cell {w : World} {P R : Nat} {acc : List Txt} (h : TP w P R acc) : ∃ v, w.heap[P]? = some (.cells #[v] 25 (0, 0)) := ⟨_, h.choose_spec.1⟩

theorem _root_.Go.Proofs.Ytbjnejnjlidiaaa.prC.TP.zero {w : World} {P R : Nat} (h : w.heap[P]? = some (.cells #[.slice none 0 0] 25 (0, 0))) : TP w P R [] := ⟨_, h, ⟨rfl, .inl ⟨rfl, rfl⟩⟩⟩

set_option maxRecDepth 100000 in
set_option maxHeartbeats 3200000 in
theorem inside_o (s : ByteArray) (N : Nat) (ih : IHT s N) (R p f k : Nat) (w : World) (hm : s.size ≤ 100000000) (hp : p ≤ s.size) (hN : s.size - p ≤ N + 1) (hf : 2 * (s.size - p) + 1 ≤ f) (hr : RS w R s p) (h5 : k = 5 ∨ k = 7 ∨ k = 9) : Calls Try.prog 198 #[ptr R, shv k, .pointer none] w (IC w R s (insC f k (s.data.toList.drop p))) := by
  obtain ⟨M, hr1, hr2⟩ := hr
  have hRlt := lt_of hr1
  obtain ⟨f, rfl⟩ : ∃ g, f = g + 1 := ⟨f - 1, by omega⟩
  obtain ⟨W1, hW1⟩ : ∃ W, W = w.alloc (.cells #[.int .i64 (least k : Nat), .int .i64 (mostk k : Nat), .bool (numbered k), .int .u64 (lowk k : Nat), .int .u64 (highk k : Nat), .bool (k == 6)] 134) := ⟨_, rfl⟩
  have o1 : Only (fun _ => False) w W1 := by rw [hW1]; exact (Only.refl _ w).alloc _
  have HB := Lib.hid (show Box6 W1 w.heap.size k from by rw [hW1]; exact heap_alloc_new w _)
  have O1 := Lib.hid (o1.mono (T := fun q => q = R) fun _ q => q.elim)
  have HR := Lib.hid (hr1.keep o1)
  have HM2 := Lib.hid (show M = .map none ∨ ∃ b, M = .map (some b) ∧ W1.heap[b]? = some (.map table 7) from by
    rcases hr2 with h | ⟨b, h, h3⟩
    · exact .inl h
    · exact .inr ⟨b, h, o1.keep h3 id⟩)
  have SG := Lib.hid (sign_lit 40 40 rfl R s p M W1 (by omega) hp HR.out (by decide))
  have HBR := Lib.hid (show w.heap.size ≠ R by omega)
  have RtoS : ∀ q, q = R → (fun q => q = R) q := fun _ e => e
  have RTS := Lib.hid RtoS
  have HS := Lib.hid hm
  have HP := Lib.hid hp
  have HN := Lib.hid hN
  have HFu := Lib.hid hf
  have IHH := Lib.hid ih
  have KN := Lib.hid (show numbered k = false from by rcases h5 with rfl | rfl | rfl <;> rfl)
  have KL := Lib.hid (show ((least k : Int) == 0) = false from by rcases h5 with rfl | rfl | rfl <;> rfl)
  have K6 := Lib.hid (show (k == 6) = false from by rcases h5 with rfl | rfl | rfl <;> rfl)
  have H5 := Lib.hid h5
  have HW := Lib.hid hW1
  rw [hW1] at SG
  clear hr1 hr2 o1 hm hp hN hf ih h5 hRlt hW1 RtoS
  unfold shv
  go_enter Try.func198, Try.ntmps198
  go_wp2_with fail
  rw [← HW.out] at SG ⊢
  obtain ⟨B, hB⟩ : ∃ B, B = w.heap.size := ⟨_, rfl⟩
  rw [← hB] at HB HBR ⊢
  have HBB := Lib.hid hB
  clear hB
  refine scope_jumps 0 (fun a' w' => ∃ (j g n : Nat) (acc : List Txt), a' = { tmps := List.toArray (ptr R :: a'.tmps.getD 1 undef :: (.pointer none) :: a'.tmps.getD 3 undef :: (.pointer (some ⟨B, 0, none⟩)) :: a'.tmps.getD 5 undef :: a'.tmps.getD 6 undef :: (.int .u64 (n : Nat)) :: (.string (lastOf acc)) :: (.int .i64 (acc.length : Nat)) :: a'.tmps.getD 10 undef :: a'.tmps.getD 11 undef :: a'.tmps.getD 12 undef :: a'.tmps.getD 13 undef :: a'.tmps.getD 14 undef :: a'.tmps.getD 15 undef :: a'.tmps.getD 16 undef :: a'.tmps.getD 17 undef :: a'.tmps.getD 18 undef :: a'.tmps.getD 19 undef :: a'.tmps.getD 20 undef :: a'.tmps.getD 21 undef :: a'.tmps.getD 22 undef :: a'.tmps.getD 23 undef :: a'.tmps.getD 24 undef :: a'.tmps.getD 25 undef :: a'.tmps.getD 26 undef :: a'.tmps.getD 27 undef :: a'.tmps.getD 28 undef :: a'.tmps.getD 29 undef :: a'.tmps.getD 30 undef :: a'.tmps.getD 31 undef :: a'.tmps.getD 32 undef :: a'.tmps.getD 33 undef :: a'.tmps.getD 34 undef :: a'.tmps.getD 35 undef :: a'.tmps.getD 36 undef :: a'.tmps.getD 37 undef :: a'.tmps.getD 38 undef :: a'.tmps.getD 39 undef :: a'.tmps.getD 40 undef :: a'.tmps.getD 41 undef :: a'.tmps.getD 42 undef :: a'.tmps.getD 43 undef :: a'.tmps.getD 44 undef :: a'.tmps.getD 45 undef :: a'.tmps.getD 46 undef :: a'.tmps.getD 47 undef :: a'.tmps.getD 48 undef :: a'.tmps.getD 49 undef :: a'.tmps.getD 50 undef :: a'.tmps.getD 51 undef :: a'.tmps.getD 52 undef :: a'.tmps.getD 53 undef :: a'.tmps.getD 54 undef :: a'.tmps.getD 55 undef :: a'.tmps.getD 56 undef :: a'.tmps.getD 57 undef :: a'.tmps.getD 58 undef :: a'.tmps.getD 59 undef :: a'.tmps.getD 60 undef :: a'.tmps.getD 61 undef :: a'.tmps.getD 62 undef :: a'.tmps.getD 63 undef :: a'.tmps.getD 64 undef :: a'.tmps.getD 65 undef :: a'.tmps.getD 66 undef :: a'.tmps.getD 67 undef :: a'.tmps.getD 68 undef :: a'.tmps.getD 69 undef :: a'.tmps.getD 70 undef :: a'.tmps.getD 71 undef :: a'.tmps.getD 72 undef :: a'.tmps.getD 73 undef :: a'.tmps.getD 74 undef :: a'.tmps.getD 75 undef :: a'.tmps.getD 76 undef :: a'.tmps.getD 77 undef :: a'.tmps.getD 78 undef :: a'.tmps.getD 79 undef :: a'.tmps.getD 80 undef :: a'.tmps.getD 81 undef :: a'.tmps.getD 82 undef :: a'.tmps.getD 83 undef :: a'.tmps.getD 84 undef :: a'.tmps.getD 85 undef :: a'.tmps.getD 86 undef :: a'.tmps.getD 87 undef :: a'.tmps.getD 88 undef :: a'.tmps.getD 89 undef :: a'.tmps.getD 90 undef :: []), defers := [] } ∧ LC (fun q => q = R) w s R B p (f + 1) k n j g acc w') (fun _ w' => s.size - atOf R w') rfl ?_ ?_
  · rintro a' w' ⟨j, g, n, acc, ha, lc⟩
    obtain ⟨u, ha2⟩ : ∃ u : Nat → Value, a' = { tmps := List.toArray (ptr R :: u 1 :: (.pointer none) :: u 3 :: (.pointer (some ⟨B, 0, none⟩)) :: u 5 :: u 6 :: (.int .u64 (n : Nat)) :: (.string (lastOf acc)) :: (.int .i64 (acc.length : Nat)) :: u 10 :: u 11 :: u 12 :: u 13 :: u 14 :: u 15 :: u 16 :: u 17 :: u 18 :: u 19 :: u 20 :: u 21 :: u 22 :: u 23 :: u 24 :: u 25 :: u 26 :: u 27 :: u 28 :: u 29 :: u 30 :: u 31 :: u 32 :: u 33 :: u 34 :: u 35 :: u 36 :: u 37 :: u 38 :: u 39 :: u 40 :: u 41 :: u 42 :: u 43 :: u 44 :: u 45 :: u 46 :: u 47 :: u 48 :: u 49 :: u 50 :: u 51 :: u 52 :: u 53 :: u 54 :: u 55 :: u 56 :: u 57 :: u 58 :: u 59 :: u 60 :: u 61 :: u 62 :: u 63 :: u 64 :: u 65 :: u 66 :: u 67 :: u 68 :: u 69 :: u 70 :: u 71 :: u 72 :: u 73 :: u 74 :: u 75 :: u 76 :: u 77 :: u 78 :: u 79 :: u 80 :: u 81 :: u 82 :: u 83 :: u 84 :: u 85 :: u 86 :: u 87 :: u 88 :: u 89 :: u 90 :: []), defers := [] } := ⟨fun i => a'.tmps.getD i undef, ha⟩
    clear ha
    subst ha2
    have LCH := Lib.hid lc
    obtain ⟨M1, hrd, hm1⟩ := lc.rs
    have RD1 := Lib.hid hrd
    have y1 : w'.cell? ⟨R, 1, none⟩ = some (.int .i64 j) := cell_of hrd
    obtain ⟨g, rfl⟩ : ∃ g', g = g' + 1 := ⟨g - 1, by have := lc.fuel; omega⟩
    have RC := Lib.hid (IHH.out R j g w' lc.le (by have := lc.ge; have := HN.out; omega) (by have := lc.fuel; omega) lc.rs)
    obtain ⟨q, hq⟩ : ∃ q, q = tmC g (s.data.toList.drop j) := ⟨_, rfl⟩
    rw [← hq] at RC
    have HQ := Lib.hid hq
    clear hrd hm1 lc hq SG
    go_hide hQ
    go_wp2_with fail
    (with_reducible refine RC.out.mono ?_)
    rintro e w3 ⟨o, hr⟩
    have O3 := Lib.hid (LCH.out.only.trans (o.mono RTS.out))
    cases q with
    | none =>
      obtain ⟨v, rfl⟩ := hr
      have HF := Lib.hid (show insC (f + 1) k (s.data.toList.drop p) = none from by rw [LCH.out.eq, noneC HQ.out.symm])
      clear o RC y1
      go_wp2_with fail
      subst hQ
      simp only [Exit.jump]
      exact ⟨rfl, O3.out, by rw [HF.out]; exact ⟨_, rfl⟩⟩
    | some dd =>
      obtain ⟨k1, n1, ps1, rest⟩ := dd
      obtain ⟨rfl, hrs⟩ := hr
      obtain ⟨e1, hlt, hle, ept⟩ := partC LCH.out.le HQ.out.symm
      obtain ⟨jn, hjn⟩ : ∃ x, x = behind s rest := ⟨_, rfl⟩
      rw [← hjn] at e1 hlt hle ept hrs
      obtain ⟨part, hpart⟩ : ∃ x, x = (s.data.toList.drop j).take (jn - j) := ⟨_, rfl⟩
      have ST := Lib.hid (stepC (k := k) (acc := acc) LCH.out.le HQ.out.symm hjn hpart)
      have HJ := Lib.hid (And.intro hjn (And.intro hlt (And.intro hle hpart)))
      have SVE := Lib.hid (show s.extract j jn = ⟨part.toArray⟩ from by
        have := sv_extract s j jn hle
        rw [← hpart] at this
        injection this)
      have RS3 := Lib.hid hrs
      have BX := Lib.hid (LCH.out.box.keepS o (T := fun q => q = R) HBR.out)
      obtain ⟨M3, hrd, hm3⟩ := hrs
      have RD3 := Lib.hid hrd
      have HM3 := Lib.hid hm3
      have y0 : w3.cell? ⟨R, 0, none⟩ = some (.string s) := cell_of hrd
      have y1' : w3.cell? ⟨R, 1, none⟩ = some (.int .i64 jn) := cell_of hrd
      have b1 : (0 : Int) ≤ (j : Int) := by omega
      have b2 : (j : Int) ≤ (jn : Int) := by omega
      have b3 : (jn : Int) ≤ (s.size : Int) := by omega
      clear e1 hlt hle ept hjn hpart hrd hm3 o RC y1
      go_wp2_with fail
      have wl : wrap64 ((acc.length : Int) + 1) = (acc.length : Int) + 1 := IntWalk.wrap64_in _ (by have := LCH.out.cnt; have := LCH.out.le; have := HS.out; omega)
      go_quiet (fail)
      have OW5 : Only (fun q => q = R) w (w3.drewN nq) := O3.out.drewN nq
      have RD5 := Lib.hid (show Rd (w3.drewN nq) R s jn M3 from RD3.out)
      have HM5 := Lib.hid (show M3 = Value.map none ∨ ∃ b, M3 = Value.map (some b) ∧ (w3.drewN nq).heap[b]? = some (Obj.map table 7) from HM3.out)
      have BX5 := Lib.hid (show Box6 (w3.drewN nq) B k from BX.out)
      have O5 := Lib.hid OW5
      clear OW5 y0 y1' b1 b2 b3
      generalize w3.drewN nq = W5 at RD5 HM5 BX5 O5 ⊢
      have KQ := Lib.hid (show k ≠ 6 from by have := K6.out; simpa using this)
      obtain ⟨-, -, -, -, -, c5⟩ := BX5.out.cells
      rw [K6.out] at c5
      obtain ⟨c0, c1, -, -, -, -⟩ := BX5.out.cells
      have NXC := Lib.hid (next_lit 44 44 rfl R s jn M3 W5 (by have := HS.out; omega) HJ.out.2.2.1 RD5.out (by decide))
      by_cases hmo : acc.length + 1 < mostk k
      · have m1 : ((acc.length : Int) + 1 < (mostk k : Int)) = True := eq_true (by omega)
        have HMO := Lib.hid hmo
        clear hmo
        go_wp2_with fail
        (with_reducible refine NXC.out.mono ?_)
        cases h44 : (cb s jn == 44)
        · rintro e w6 ⟨rfl, hr6, o6, o6'⟩
          have h44' : ¬ cb s jn = 44 := by simpa using h44
          have H44 := Lib.hid h44'
          have RD6 := Lib.hid hr6
          have O6 := Lib.hid (O5.out.trans (o6.mono RTS.out))
          have HM6 := Lib.hid (show M3 = Value.map none ∨ ∃ b, M3 = Value.map (some b) ∧ w6.heap[b]? = some (Obj.map table 7) from by
            rcases HM5.out with h | ⟨b, h, h3⟩
            · exact .inl h
            · exact .inr ⟨b, h, (o6' rfl).keep h3 id⟩)
          have BX6 := Lib.hid (BX5.out.keepS (o6' rfl) id)
          clear c0 c1 c5
          obtain ⟨c0, c1, -, -, -, -⟩ := BX6.out.cells
          clear h44 h44' o6 o6' hr6 NXC
          by_cases hle : acc.length + 1 < least k
          · have z1 : ((acc.length : Int) + 1 < (least k : Int)) = True := eq_true (by omega)
            have HF := Lib.hid (show insC (f + 1) k (s.data.toList.drop p) = none from by
              rw [LCH.out.eq, ST.out, if_neg (fun q => KQ.out q.1), if_neg (fun q => H44.out q.2), if_pos hle])
            clear hle
            go_wp2_with fail
            subst hQ
            simp only [Exit.jump]
            exact ⟨rfl, O6.out, by rw [HF.out]; exact ⟨_, rfl⟩⟩
          have z1 : ((acc.length : Int) + 1 < (least k : Int)) = False := eq_false (by omega)
          have SGN := Lib.hid (sign_lit 41 41 rfl R s jn M3 w6 (by have := HS.out; omega) HJ.out.2.2.1 RD6.out (by decide))
          have HL2 := Lib.hid hle
          clear hle
          go_wp2_with fail
          (with_reducible refine SGN.out.mono ?_)
          cases h41 : (cb s jn == 41)
          · rintro e w7 ⟨o7, v, rfl⟩
            have HF := Lib.hid (show insC (f + 1) k (s.data.toList.drop p) = none from by
              rw [LCH.out.eq, ST.out, if_neg (fun q => KQ.out q.1), if_neg (fun q => H44.out q.2), if_neg HL2.out, if_neg (by simpa using h41)])
            have HO7 := Lib.hid (O6.out.trans (o7.mono RTS.out))
            clear h41 o7 SGN
            go_wp2_with fail
            subst hQ
            simp only [Exit.jump]
            exact ⟨rfl, HO7.out, by rw [HF.out]; exact ⟨_, rfl⟩⟩
          · rintro e w7 ⟨o7, rfl, hr7⟩
            have h41' : cb s jn = 41 := by simpa using h41
            have HF := Lib.hid (show insC (f + 1) k (s.data.toList.drop p) = some (n, acc ++ [part], s.data.toList.drop (jn + 1)) from by
              rw [LCH.out.eq, ST.out, if_neg (fun q => KQ.out q.1), if_neg (fun q => H44.out q.2), if_neg HL2.out, if_pos h41'])
            have HO7 := Lib.hid (O6.out.trans (o7.mono RTS.out))
            have R7 := Lib.hid (show RS w7 R s (behind s (s.data.toList.drop (jn + 1))) from by
              rw [behind, List.length_drop, tl_size, show s.size - (s.size - (jn + 1)) = jn + 1 by have := cb_lt (by decide) h41'; omega]
              exact RS.move HM6.out RD6.out o7 hr7)
            clear h41 h41' o7 hr7 SGN
            go_wp2_with fail
            subst hQ
            simp only [Exit.jump]
            go_ret
            exact ⟨HO7.out, by rw [HF.out]; exact ⟨rfl, R7.out⟩⟩
        · rintro e w6 ⟨rfl, hr6, o6, -⟩
          have h44' : cb s jn = 44 := by simpa using h44
          have NX6 := Lib.hid (show LC (fun q => q = R) w s R B p (f + 1) k n (jn + 1) g (acc ++ [part]) w6 from
            ⟨RS.move HM5.out RD5.out o6 hr6, cb_lt (by decide) h44', by have := LCH.out.ge; have := HJ.out.2.1; omega, by
              rw [LCH.out.eq, ST.out, if_neg (fun q => KQ.out q.1), if_pos ⟨HMO.out, h44'⟩], by have := LCH.out.fuel; have := HJ.out.2.1; have := HJ.out.2.2.1; omega,
              by have := LCH.out.cnt; have := HJ.out.2.1; simp; omega, by simpa using HMO.out, BX5.out.keepS o6 HBR.out, O5.out.trans (o6.mono RTS.out)⟩)
          have HLA := Lib.hid (show (⟨part.toArray⟩ : ByteArray) = lastOf (acc ++ [part]) from by simp [lastOf])
          clear h44 h44' o6 hr6 NXC
          go_wp2_with fail
          go_step3
          subst hQ
          have HLEN : ((acc.length : Int) + 1) = (((acc ++ [part]).length : Nat) : Int) := by simp
          rw [SVE.out, HLA.out, HLEN]
          refine ⟨rfl, ⟨jn + 1, g, n, acc ++ [part], rfl, NX6.out⟩, ?_⟩
          show s.size - atOf R w6 < s.size - atOf R w'
          rw [atOf_rs LCH.out.rs, atOf_rs NX6.out.rs]
          have := HJ.out.2.1
          have := NX6.out.le
          omega
      · have m1 : ((acc.length : Int) + 1 < (mostk k : Int)) = False := eq_false (by omega)
        have m2 : ((mostk k : Int) ≤ (acc.length : Int) + 1) := by omega
        have HMO := Lib.hid hmo
        clear hmo
        by_cases hle : acc.length + 1 < least k
        · have z1 : ((acc.length : Int) + 1 < (least k : Int)) = True := eq_true (by omega)
          have HF := Lib.hid (show insC (f + 1) k (s.data.toList.drop p) = none from by
            rw [LCH.out.eq, ST.out, if_neg (fun q => KQ.out q.1), if_neg (fun q => HMO.out q.1), if_pos hle])
          clear hle
          go_wp2_with fail
          subst hQ
          simp only [Exit.jump]
          exact ⟨rfl, O5.out, by rw [HF.out]; exact ⟨_, rfl⟩⟩
        have z1 : ((acc.length : Int) + 1 < (least k : Int)) = False := eq_false (by omega)
        have SGN := Lib.hid (sign_lit 41 41 rfl R s jn M3 W5 (by have := HS.out; omega) HJ.out.2.2.1 RD5.out (by decide))
        have HL2 := Lib.hid hle
        clear hle
        go_wp2_with fail
        (with_reducible refine SGN.out.mono ?_)
        cases h41 : (cb s jn == 41)
        · rintro e w7 ⟨o7, v, rfl⟩
          have HF := Lib.hid (show insC (f + 1) k (s.data.toList.drop p) = none from by
            rw [LCH.out.eq, ST.out, if_neg (fun q => KQ.out q.1), if_neg (fun q => HMO.out q.1), if_neg HL2.out, if_neg (by simpa using h41)])
          have HO7 := Lib.hid (O5.out.trans (o7.mono RTS.out))
          clear h41 o7 SGN
          go_wp2_with fail
          subst hQ
          simp only [Exit.jump]
          exact ⟨rfl, HO7.out, by rw [HF.out]; exact ⟨_, rfl⟩⟩
        · rintro e w7 ⟨o7, rfl, hr7⟩
          have h41' : cb s jn = 41 := by simpa using h41
          have HF := Lib.hid (show insC (f + 1) k (s.data.toList.drop p) = some (n, acc ++ [part], s.data.toList.drop (jn + 1)) from by
            rw [LCH.out.eq, ST.out, if_neg (fun q => KQ.out q.1), if_neg (fun q => HMO.out q.1), if_neg HL2.out, if_pos h41'])
          have HO7 := Lib.hid (O5.out.trans (o7.mono RTS.out))
          have R7 := Lib.hid (show RS w7 R s (behind s (s.data.toList.drop (jn + 1))) from by
            rw [behind, List.length_drop, tl_size, show s.size - (s.size - (jn + 1)) = jn + 1 by have := cb_lt (by decide) h41'; omega]
            exact RS.move HM5.out RD5.out o7 hr7)
          clear h41 h41' o7 hr7 SGN
          go_wp2_with fail
          subst hQ
          simp only [Exit.jump]
          go_ret
          exact ⟨HO7.out, by rw [HF.out]; exact ⟨rfl, R7.out⟩⟩
  · intro hrest
    have HRE := Lib.hid hrest
    clear hrest
    go_wp2_with fail
    (with_reducible refine SG.out.mono ?_)
    cases hc : (cb s p == 40)
    · rintro e w2 ⟨o, v, rfl⟩
      have HF := Lib.hid (ins_no (f := f + 1) (k := k) hc)
      have HO := Lib.hid (O1.out.trans (o.mono RTS.out))
      clear o hc SG
      go_wp2_with fail
      exact ⟨rfl, HO.out, by rw [HF.out]; exact ⟨_, rfl⟩⟩
    · rintro e w2 ⟨o, rfl, hr⟩
      obtain ⟨_, hlt⟩ := head_of hc
      have HY := Lib.hid (ins_yes (f := f) (k := k) hc)
      have HLT := Lib.hid hlt
      have HO := Lib.hid (O1.out.trans (o.mono RTS.out))
      have H2 := Lib.hid (RS.move HM2.out HR.out o hr)
      have RD2 := Lib.hid hr
      have HMM := Lib.hid (show M = Value.map none ∨ ∃ b, M = Value.map (some b) ∧ w2.heap[b]? = some (Obj.map table 7) from by
        obtain ⟨M', q1, q2⟩ := H2.out
        have e := hr.symm.trans q1
        injection e with e
        injection e with e
        injection e with e
        injection e with e e'
        injection e' with e' e''
        injection e'' with e''
        rw [e'']
        exact q2)
      have B6 := Lib.hid (HB.out.keepS o (T := fun q => q = R) HBR.out)
      obtain ⟨c0, c1, c2, c3, c4, c5⟩ := B6.out.cells
      rw [KN.out] at c2
      rw [K6.out] at c5
      have kl := KL.out
      clear o hr hlt hc SG
      go_wp2_with fail
      go_step3
      go_step
      go_step
      refine HRE.out _ _ ⟨p + 1, f, 0, [], rfl, ⟨H2.out, HLT.out, Nat.le_refl _, ?_, by have := HFu.out; have := HLT.out; omega, Nat.zero_le _, by rcases H5.out with rfl | rfl | rfl <;> decide, B6.out, HO.out⟩⟩
      rw [HY.out, headOf, if_neg (by rw [KN.out]; decide)]
      simp only
      rw [if_neg (by rcases H5.out with rfl | rfl | rfl <;> simp)]

end Go.Proofs.Ytbjnejnjlidiaaa.prD
