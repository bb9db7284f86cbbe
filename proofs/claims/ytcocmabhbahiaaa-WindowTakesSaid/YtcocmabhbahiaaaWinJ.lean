/- The law WindowRow. -/
import Derived.Test.YtcocmabhbahiaaaWinI
namespace Go.Proofs.Ytcocmabhbahiaaa.winJ
open Go.RowKit Go.Lib Go.Proofs.Ytcocmabhbahiaaa.kit Go.Proofs.Ytcocmabhbahiaaa.numA Go.Proofs.Ytcocmabhbahiaaa.winA Go.Proofs.Ytcocmabhbahiaaa.winB Go.Proofs.Ytcocmabhbahiaaa.winC Go.Proofs.Ytcocmabhbahiaaa.winD Go.Proofs.Ytcocmabhbahiaaa.winE Go.Proofs.Ytcocmabhbahiaaa.winF Go.Proofs.Ytcocmabhbahiaaa.winH Go.Proofs.Ytcocmabhbahiaaa.winI
set_option linter.unusedVariables false
set_option linter.unusedSimpArgs false

theorem rmiss_cnt {l : List Nat} (hl : l ≠ []) (hd : l.Nodup) : rmiss l = cnt (fun i => !decide (mx l - i ∈ l)) (min (mx l) 2047 + 1) := by
  have e0 : min (mx l) 2047 + 1 = if mx l < 2048 then mx l + 1 else 2048 := by split <;> omega
  have e2 := cnt_not (fun i => decide (mx l - i ∈ l)) (min (mx l) 2047 + 1)
  have e3 := cnt_list (l := l) (top := mx l) (n := min (mx l) 2047 + 1) (by omega) (fun x hx => le_mx hx) hd
  rw [rmiss, if_neg hl, ← e0]
  have e4 : (l.filter (fun x => decide (mx l - x < min (mx l) 2047 + 1))) = l.filter (fun x => decide (mx l - x < 2048)) := by
    apply List.filter_congr
    intro x hx
    congr 1
    apply propext
    omega
  rw [e4] at e3
  omega

/-- What was taken of the first k counters. -/
def row (F E : Nat) : Nat → List Nat
  | 0 => []
  | k + 1 => if k % E = 1 then row F E k else row F E k ++ [F + k]

theorem row_mem {F E k c : Nat} : c ∈ row F E k ↔ F ≤ c ∧ c < F + k ∧ (c - F) % E ≠ 1 := by
  induction k with
  | zero => simp [row]; omega
  | succ k ih =>
    rw [row]
    by_cases h : k % E = 1
    · rw [if_pos h, ih]
      constructor
      · rintro ⟨a, b, q⟩; exact ⟨a, by omega, q⟩
      · rintro ⟨a, b, q⟩
        refine ⟨a, ?_, q⟩
        by_cases e : c - F = k
        · rw [e] at q; exact absurd h q
        · omega
    · rw [if_neg h, List.mem_append, ih]
      constructor
      · rintro (⟨a, b, q⟩ | q)
        · exact ⟨a, by omega, q⟩
        · have : c = F + k := by simpa using q
          subst this
          exact ⟨by omega, by omega, by rw [show F + k - F = k by omega]; exact h⟩
      · rintro ⟨a, b, q⟩
        by_cases e : c = F + k
        · right; simp [e]
        · left; exact ⟨a, by omega, q⟩

theorem row_nodup (F E k : Nat) : (row F E k).Nodup := by
  induction k with
  | zero => simp [row]
  | succ k ih =>
    rw [row]
    split
    · exact ih
    · rw [List.nodup_append]
      refine ⟨ih, by simp, ?_⟩
      intro a ha b hb e
      have := (row_mem.1 ha).2.1
      have : b = F + k := by simpa using hb
      omega

theorem mx_lt {l : List Nat} {c : Nat} (h : ∀ x ∈ l, x < c) (hl : l ≠ []) : mx l < c := by
  induction l with
  | nil => exact absurd rfl hl
  | cons x l ih =>
    rw [mx_cons]
    have h1 := h x (by simp)
    by_cases e : l = []
    · rw [e]; simp [mx]; omega
    · have := ih (fun y hy => h y (by simp [hy])) e
      omega

theorem mx_mem {l : List Nat} (hl : l ≠ []) : mx l ∈ l := by
  induction l with
  | nil => exact absurd rfl hl
  | cons x l ih =>
    rw [mx_cons]
    by_cases e : l = []
    · rw [e]; simp [mx]
    · have := ih e
      by_cases q : mx l ≤ x
      · rw [show max x (mx l) = x by omega]; simp
      · rw [show max x (mx l) = mx l by omega]; simp [this]

theorem row_fine {F E k : Nat} (hF : F + k < 18446744073709543423) : rwd (row F E k) (F + k) = 0 := by
  rw [rwd, if_neg (by omega), if_neg]
  rintro ⟨hl, q | q⟩
  · have := (row_mem.1 q).2.1; omega
  · have := mx_lt (c := F + k) (fun x hx => (row_mem.1 hx).2.1) hl; omega

theorem row_last {F E k : Nat} : mx (row F E k ++ [F + k]) = F + k := by
  rw [mx_snoc]
  by_cases hl : row F E k = []
  · rw [hl]; simp [mx]
  · have := mx_lt (c := F + k) (fun x hx => (row_mem.1 hx).2.1) hl; omega

theorem row_ne {F E k : Nat} (hk : 0 < k) (hE : 2 ≤ E) : row F E k ≠ [] := by
  intro e
  have : F ∈ row F E k := row_mem.2 ⟨Nat.le_refl _, by omega, by rw [Nat.sub_self, Nat.zero_mod]; decide⟩
  rw [e] at this
  simp at this


set_option maxRecDepth 100000 in
theorem early1 (F n E : Int) (w : World) (h1 : n < 1) : Calls Try.prog 9 #[.int .u64 F, .int .i64 n, .int .i64 E] w (numA.Told w (.bool true)) := by
  have A := awake_true w
  go_enter Try.func9, Try.ntmps9
  go_wp2_with fail
  refine A.mono ?_
  rintro e w1 ⟨rfl, o1⟩
  go_wp2_with fail
  go_ret
  exact ⟨rfl, o1⟩

set_option maxRecDepth 100000 in
theorem early2 (F n E : Int) (w : World) (h1 : ¬ n < 1) (h2 : 5000 < n) : Calls Try.prog 9 #[.int .u64 F, .int .i64 n, .int .i64 E] w (numA.Told w (.bool true)) := by
  have A := awake_true w
  go_enter Try.func9, Try.ntmps9
  go_wp2_with fail
  refine A.mono ?_
  rintro e w1 ⟨rfl, o1⟩
  go_wp2_with fail
  go_ret
  exact ⟨rfl, o1⟩

set_option maxRecDepth 100000 in
theorem early3 (F n E : Int) (w : World) (h1 : ¬ n < 1) (h2 : ¬ 5000 < n) (h3 : E < 2) : Calls Try.prog 9 #[.int .u64 F, .int .i64 n, .int .i64 E] w (numA.Told w (.bool true)) := by
  have A := awake_true w
  go_enter Try.func9, Try.ntmps9
  go_wp2_with fail
  refine A.mono ?_
  rintro e w1 ⟨rfl, o1⟩
  go_wp2_with fail
  go_ret
  exact ⟨rfl, o1⟩

set_option maxRecDepth 100000 in
theorem early4 (F n E : Int) (w : World) (h1 : ¬ n < 1) (h2 : ¬ 5000 < n) (h3 : ¬ E < 2) (h4 : 5000 < E) : Calls Try.prog 9 #[.int .u64 F, .int .i64 n, .int .i64 E] w (numA.Told w (.bool true)) := by
  have A := awake_true w
  go_enter Try.func9, Try.ntmps9
  go_wp2_with fail
  refine A.mono ?_
  rintro e w1 ⟨rfl, o1⟩
  go_wp2_with fail
  go_ret
  exact ⟨rfl, o1⟩

set_option maxRecDepth 100000 in
theorem early5 (F n E : Int) (w : World) (h1 : ¬ n < 1) (h2 : ¬ 5000 < n) (h3 : ¬ E < 2) (h4 : ¬ 5000 < E) (h5 : 18446744073709533423 < F) : Calls Try.prog 9 #[.int .u64 F, .int .i64 n, .int .i64 E] w (numA.Told w (.bool true)) := by
  have A := awake_true w
  go_enter Try.func9, Try.ntmps9
  go_wp2_with fail
  refine A.mono ?_
  rintro e w1 ⟨rfl, o1⟩
  go_wp2_with fail
  go_ret
  exact ⟨rfl, o1⟩

def miss2 (F E last : Nat) (i : Nat) : Bool := decide (last - i < F) || decide ((last - i - F) % E = 1)

theorem miss2_eq {F E n : Nat} (hn : 0 < n) (hE : 2 ≤ E) (last : Nat) (hl : last = mx (row F E n)) : rmiss (row F E n) = cnt (miss2 F E last) (min last 2047 + 1) := by
  have hne := row_ne (F := F) hn hE
  rw [rmiss_cnt hne (row_nodup F E n), ← hl]
  have hm := row_mem.1 (mx_mem hne)
  rw [← hl] at hm
  apply cnt_congr
  intro i hi
  rw [miss2]
  by_cases h1 : last - i < F
  · have : ¬ (last - i ∈ row F E n) := fun q => by have := (row_mem.1 q).1; omega
    simp [h1, this]
  · by_cases h2 : (last - i - F) % E = 1
    · have : ¬ (last - i ∈ row F E n) := fun q => (row_mem.1 q).2.2 h2
      simp [h2, this]
    · have : last - i ∈ row F E n := row_mem.2 ⟨by omega, by omega, h2⟩
      simp [h1, h2, this]

set_option maxRecDepth 100000 in
set_option maxHeartbeats 4000000 in
theorem row_any (F n E : Nat) (w : World) (h1 : 1 ≤ n) (h2 : n ≤ 5000) (h3 : 2 ≤ E) (h4 : E ≤ 5000) (h5 : F ≤ 18446744073709533423) : Calls Try.prog 9 #[.int .u64 F, .int .i64 n, .int .i64 E] w (numA.Told w (.bool true)) := by
  have HA := Lib.hid (awake_true w)
  have s1 : ¬ (n : Int) < 1 := by omega
  have s2 : ¬ 5000 < (n : Int) := by omega
  have s3 : ¬ (E : Int) < 2 := by omega
  have s4 : ¬ 5000 < (E : Int) := by omega
  have s5 : ¬ 18446744073709533423 < (F : Int) := by omega
  have s6 : ¬ (E = 0) := by omega
  go_enter Try.func9, Try.ntmps9
  go_wp2_with fail
  refine HA.out.mono ?_
  rintro e w1 ⟨rfl, o1⟩
  have N := new_at w1
  obtain ⟨B, hB⟩ : ∃ B, B = w1.heap.size := ⟨_, rfl⟩
  rw [← hB] at N
  have HB := Lib.hid (show w.heap.size ≤ B from hB ▸ o1.size)
  have O1 := Lib.hid o1
  clear o1 hB
  go_wp2_with fail
  refine N.mono ?_
  rintro e w2 ⟨rfl, hA2, o2⟩
  have O2 := Lib.hid (O1.out.trans o2)
  have A2 := Lib.hid hA2
  clear hA2 o2
  go_wp2_with fail
  go_loopw [8, 9] (fun v i wr => ∃ (k : Nat), k ≤ n ∧ i = .int .i64 k ∧ v = .int .u64 (mx (row F E k) : Nat) ∧ At wr B (row F E k) ∧ Only (fun _ => False) w wr) (fun _ i _ => n - (intOf i).toNat)
  case atStart => exact ⟨0, Nat.zero_le _, rfl, rfl, A2.out, O2.out⟩
  case round =>
    obtain ⟨k, hk, rfl, rfl, hA, o⟩ := hrel
    have HO := Lib.hid o
    have HA1 := Lib.hid hA
    clear o hA
    by_cases hlt : k < n
    · have k1 : (k : Int) < (n : Int) := by omega
      have k2 : ((k : Int)).tmod (E : Int) = ((k % E : Nat) : Int) := by rw [Int.tmod_eq_emod_of_nonneg (by omega)]; simp
      by_cases hc : k % E = 1
      · have k3 : (((k % E : Nat) : Int) == 1) = true := by rw [hc]; rfl
        have e1 : row F E (k + 1) = row F E k := by rw [row, if_pos hc]
        have HE := Lib.hid e1
        clear e1 hc
        generalize k % E = r at k2 k3
        generalize hm : mx (row F E k) = m
        have HM := Lib.hid hm
        clear hm
        go_wp2_with fail
        go_roundw
        case rel => exact ⟨k + 1, by omega, by go_num, by rw [HE.out, HM.out], by rw [HE.out]; exact HA1.out, HO.out⟩
        case measure => simp [intOf]; omega
      · have k3 : (((k % E : Nat) : Int) == 1) = false := by rw [beq_eq_false_iff_ne]; omega
        have e1 : row F E (k + 1) = row F E k ++ [F + k] := by rw [row, if_neg hc]
        have HE := Lib.hid e1
        have HT := take_at B (F + k) (row F E k) wr (by omega) HA1.out
        rw [row_fine (by omega), if_pos rfl] at HT
        clear e1 hc
        generalize k % E = r at k2 k3
        generalize mx (row F E k) = m
        have k4 : IntKind.u64.wrap ((F : Int) + (k : Int)) = ((F + k : Nat) : Int) := by
          have : (F : Int) + (k : Int) = ((F + k : Nat) : Int) := by omega
          rw [this]; exact IntWalk.u64_in _ (by omega)
        have k5 : IntKind.u64.wrap (k : Int) = (k : Int) := IntWalk.u64_in _ (by omega)
        have HL := Lib.hid (row_last (F := F) (E := E) (k := k))
        generalize F + k = x at k4 HT HE HL
        have HT := Lib.hid HT
        go_wp2_with fail
        refine HT.out.mono ?_
        rintro e w3 ⟨rfl, hA3, o3⟩
        have A3 := Lib.hid hA3
        have O3 := Lib.hid (Only.own HO.out o3 HB.out)
        clear hA3 o3
        go_wp2_with fail
        go_roundw
        case rel => exact ⟨k + 1, by omega, by go_num, by rw [HE.out, HL.out], by rw [HE.out]; exact A3.out, O3.out⟩
        case measure => simp [intOf]; omega
    · obtain rfl : k = n := by omega
      have hne := row_ne (F := F) (show 0 < k by omega) h3
      obtain ⟨last, hlast⟩ : ∃ last, last = mx (row F E k) := ⟨_, rfl⟩
      have hm := row_mem.1 (mx_mem hne)
      have HMI := Lib.hid (missing_at B _ wr HA1.out)
      have HTO := Lib.hid (fun (W : World) (h : At W B (row F E k)) => top_at B (row F E k) W h)
      have HMM := Lib.hid (fun (W : World) (h : At W B (row F E k)) => missing_at B (row F E k) W h)
      rw [miss2_eq (show 0 < k by omega) h3 last hlast] at HMM
      rw [← hlast] at hm HTO ⊢
      have hem : (row F E k).isEmpty = false := by
        cases hq : row F E k with
        | nil => exact absurd hq hne
        | cons => rfl
      rw [hem] at HTO
      have HM := Lib.hid hm
      clear hne hm hlast hem HMI
      go_wp2_with fail
      go_loop [10, 11] (fun v i => ∃ (j : Nat), j ≤ min last 2047 + 1 ∧ i = .int .i64 j ∧ v = .int .i64 (cnt (miss2 F E last) j : Nat)) (fun _ i => min last 2047 + 1 - (intOf i).toNat)
      case atStart => exact ⟨0, Nat.zero_le _, rfl, rfl⟩
      case round =>
        obtain ⟨j, hj, rfl, rfl⟩ := hrel
        by_cases hlt2 : j < min last 2047 + 1
        · have j1 : (j : Int) < 2048 := by omega
          have j2 : IntKind.u64.wrap (j : Int) = (j : Int) := IntWalk.u64_in _ (by omega)
          have j3 : (j : Int) ≤ (last : Int) := by omega
          have j3' : j ≤ last := by omega
          have hm := HM.out
          have j4 : IntKind.u64.wrap ((last : Int) - (j : Int)) = ((last - j : Nat) : Int) := by
            have : (last : Int) - (j : Int) = ((last - j : Nat) : Int) := by omega
            rw [this]; exact IntWalk.u64_in _ (by omega)
          have e1 : cnt (miss2 F E last) (j + 1) = cnt (miss2 F E last) j + if miss2 F E last j then 1 else 0 := rfl
          have hcl := cnt_le (miss2 F E last) j
          have j9 : IntKind.u64.wrap (E : Int) = (E : Int) := IntWalk.u64_in _ (by omega)
          by_cases c1 : last - j < F
          · have e2 : miss2 F E last j = true := by rw [miss2]; simp [c1]
            rw [e2] at e1
            have HE := Lib.hid e1
            have j5 : ((last - j : Nat) : Int) < (F : Int) := by omega
            generalize last - j = x at j4 j5 c1
            generalize cnt (miss2 F E last) j = q at HE hcl
            have j10 : IntKind.i64.wrap ((q : Int) + 1) = ((q + 1 : Nat) : Int) := by
              have : (q : Int) + 1 = ((q + 1 : Nat) : Int) := by omega
              rw [this]; exact IntWalk.i64_in _ (by omega)
            clear e1 e2 hm
            go_wp2_with fail
            go_round
            case rel =>
              refine ⟨j + 1, by omega, by go_num, ?_⟩
              rw [HE.out]
              simp
            case measure => simp [intOf]; omega
          · have j5 : ¬ ((last - j : Nat) : Int) < (F : Int) := by omega
            have j6 : IntKind.u64.wrap (((last - j : Nat) : Int) - (F : Int)) = ((last - j - F : Nat) : Int) := by
              have : ((last - j : Nat) : Int) - (F : Int) = ((last - j - F : Nat) : Int) := by omega
              rw [this]; exact IntWalk.u64_in _ (by omega)
            have j7 : (((last - j - F : Nat) : Int)).tmod (E : Int) = (((last - j - F) % E : Nat) : Int) := by rw [Int.tmod_eq_emod_of_nonneg (by omega)]; simp
            by_cases c2 : (last - j - F) % E = 1
            · have e2 : miss2 F E last j = true := by rw [miss2]; simp [c2]
              rw [e2] at e1
              have HE := Lib.hid e1
              have j8 : ((((last - j - F) % E : Nat) : Int) == 1) = true := by rw [c2]; rfl
              generalize (last - j - F) % E = r at j7 j8
              generalize last - j - F = y at j6 j7
              generalize last - j = x at j4 j5 j6 c1
              generalize cnt (miss2 F E last) j = q at HE hcl
              have j10 : IntKind.i64.wrap ((q : Int) + 1) = ((q + 1 : Nat) : Int) := by
                have : (q : Int) + 1 = ((q + 1 : Nat) : Int) := by omega
                rw [this]; exact IntWalk.i64_in _ (by omega)
              clear e1 e2 hm c2
              go_wp2_with fail
              go_round
              case rel =>
                refine ⟨j + 1, by omega, by go_num, ?_⟩
                rw [HE.out]
                simp
              case measure => simp [intOf]; omega
            · have e2 : miss2 F E last j = false := by rw [miss2]; simp [c1, c2]
              rw [e2] at e1
              have HE := Lib.hid e1
              have j8 : ((((last - j - F) % E : Nat) : Int) == 1) = false := by rw [beq_eq_false_iff_ne]; omega
              generalize (last - j - F) % E = r at j7 j8
              generalize last - j - F = y at j6 j7
              generalize last - j = x at j4 j5 j6 c1
              generalize cnt (miss2 F E last) j = q at HE hcl
              clear e1 e2 hm c2
              go_wp2_with fail
              go_round
              case rel =>
                refine ⟨j + 1, by omega, by go_num, ?_⟩
                rw [HE.out]
                simp
              case measure => simp [intOf]; omega
        · obtain ⟨J, hJ⟩ : ∃ J, J = min last 2047 + 1 := ⟨_, rfl⟩
          obtain rfl : j = J := by omega
          rw [← hJ] at HMM
          have j2 : IntKind.u64.wrap (j : Int) = (j : Int) := IntWalk.u64_in _ (by omega)
          have HTO2 := Lib.hid (HTO.out wr HA1.out)
          generalize cnt (miss2 F E last) j = q at HMM ⊢
          by_cases c1 : j = 2048
          · have j1 : ((j : Int) < 2048) = False := eq_false (by omega)
            clear hJ hlt2 hj c1
            go_wp2_with fail
            refine HTO2.out.mono ?_
            rintro e w3 ⟨rfl, o3⟩
            have O3 := Lib.hid (HO.out.trans o3)
            have HQ := Lib.hid (HMM.out w3 (HA1.out.keep o3 id))
            clear o3
            go_wp2_with fail
            refine HQ.out.mono ?_
            rintro e w4 ⟨rfl, o4⟩
            have O4 := Lib.hid (O3.out.trans o4)
            clear o4
            go_wp2_with fail
            go_ret
            exact ⟨rfl, O4.out⟩
          · have j1 : (j : Int) < 2048 := by omega
            have j1' : j < 2048 := by omega
            have j3 : ((j : Int) ≤ (last : Int)) = False := eq_false (by omega)
            clear hJ hlt2 hj
            go_wp2_with fail
            refine HTO2.out.mono ?_
            rintro e w3 ⟨rfl, o3⟩
            have O3 := Lib.hid (HO.out.trans o3)
            have HQ := Lib.hid (HMM.out w3 (HA1.out.keep o3 id))
            clear o3
            go_wp2_with fail
            refine HQ.out.mono ?_
            rintro e w4 ⟨rfl, o4⟩
            have O4 := Lib.hid (O3.out.trans o4)
            clear o4
            go_wp2_with fail
            go_ret
            exact ⟨rfl, O4.out⟩

variable {w : World}

theorem bounds_i64 {z : Int} (h : (Lit.int .i64 z).wf = true) : -9223372036854775808 ≤ z ∧ z ≤ 9223372036854775807 := by
  simp only [Lit.wf, Bool.and_eq_true, decide_eq_true_eq] at h
  have h1 := h.1
  have h2 := h.2
  have e1 : IntKind.i64.min = -9223372036854775808 := rfl
  have e2 : IntKind.i64.max = 9223372036854775807 := rfl
  omega

theorem row_walk (F : Int) (hF : (Lit.int IntKind.u64 F).wf = true) (n : Int) (hn : (Lit.int IntKind.i64 n).wf = true) (E : Int) (hE : (Lit.int IntKind.i64 E).wf = true) :
    Calls Try.prog 9 #[.int .u64 F, .int .i64 n, .int .i64 E] w fun e W' => e = .returned (.bool true) ∧ Below w.heap.size w W' := by
  have b := bounds_u64 hF
  have K : Calls Try.prog 9 #[.int .u64 F, .int .i64 n, .int .i64 E] w (numA.Told w (.bool true)) := by
    by_cases h1 : n < 1
    · exact early1 F n E w h1
    by_cases h2 : 5000 < n
    · exact early2 F n E w h1 h2
    by_cases h3 : E < 2
    · exact early3 F n E w h1 h2 h3
    by_cases h4 : 5000 < E
    · exact early4 F n E w h1 h2 h3 h4
    by_cases h5 : 18446744073709533423 < F
    · exact early5 F n E w h1 h2 h3 h4 h5
    obtain ⟨n, rfl⟩ : ∃ m : Nat, n = (m : Int) := ⟨n.toNat, by omega⟩
    obtain ⟨E, rfl⟩ : ∃ m : Nat, E = (m : Int) := ⟨E.toNat, by omega⟩
    obtain ⟨F, rfl⟩ : ∃ m : Nat, F = (m : Int) := ⟨F.toNat, by omega⟩
    exact row_any F n E w (by omega) (by omega) (by omega) (by omega) (by omega)
  exact K.mono fun e W' q => ⟨q.1, q.2.below (fun _ h => h.elim) (Nat.le_refl _)⟩
end Go.Proofs.Ytcocmabhbahiaaa.winJ
