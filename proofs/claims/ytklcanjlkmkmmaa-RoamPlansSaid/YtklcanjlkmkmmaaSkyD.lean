/- Loops of sky: the nearest. -/
import Derived.Test.YtklcanjlkmkmmaaSkyC
import Derived.BigQuiet
import Derived.Deep.RegionWith
namespace Go.Proofs.Ytklcanjlkmkmmaa.skyD
open Go.RowKit Go.Lib Go.Proofs.Ytklcanjlkmkmmaa.kit Go.Proofs.Ytklcanjlkmkmmaa.floA Go.Proofs.Ytklcanjlkmkmmaa.skyA Go.Proofs.Ytklcanjlkmkmmaa.skyB Go.Proofs.Ytklcanjlkmkmmaa.skyC
set_option linter.unusedVariables false
set_option linter.unusedSimpArgs false

theorem square_same (a b c d : Nat) (x y p q : Int) (h1 : Fl a x) (h2 : Fl b y) (h3 : Fl c p) (h4 : Fl d q) (mx : Mid x) (my : Mid y) (mp : Mid p) (mq : Mid q) :
    ∃ r, Fl r (far x y p q) ∧ ∀ w, Calls Try.prog 34 #[.complex .f64 a b, .complex .f64 c d] w fun e w' => e = .returned (.float .f64 r) ∧ w' = w := by
  obtain ⟨r, i, hs, fr, fi⟩ := sub_cx h1 h2 h3 h4 (by have := mx; have := mp; omega) (by have := my; have := mq; omega)
  obtain ⟨s, hr, fs⟩ := mul_fl fr fr (by have := sq_small mx mp; omega)
  obtain ⟨t, hi, ft⟩ := mul_fl fi fi (by have := sq_small my mq; omega)
  obtain ⟨u, hu, fu⟩ := add_fl fs ft (by have := sq_small mx mp; have := sq_small my mq; omega)
  refine ⟨u, fu, fun w => ?_⟩
  have e1 := fun w => run_complex_sum (P := Try.prog) w .sub (.inr rfl) 80 .f64 a b c d r i hs
  have e2 := fun w => run_float_arith (P := Try.prog) w .mul 86 .f64 r r s hr
  have e3 := fun w => run_float_arith (P := Try.prog) w .mul 86 .f64 i i t hi
  have e4 := fun w => run_float_arith (P := Try.prog) w .add 86 .f64 s t u hu
  clear h1 h2 h3 h4 mx my mp mq hs fr fi hr fs hi ft hu fu
  go_enter Try.func34, Try.ntmps34
  go_wp2_with fail
  go_ret
  exact ⟨rfl, rfl⟩

/-- The cells of points as complex numbers. -/
def Ns (w : World) (b o : Nat) (l : List (Int × Int)) : Prop := b < w.heap.size ∧ ∀ i, i < l.length → ∃ r s, w.cell? ⟨b, o + i, none⟩ = some (.complex .f64 r s) ∧ Fl r (px l i) ∧ Fl s (py l i)

theorem Ns.keep {w w' : World} {b o : Nat} {l : List (Int × Int)} (h : Ns w b o l) (k : Only (fun _ => False) w w') : Ns w' b o l :=
  ⟨Nat.lt_of_lt_of_le h.1 k.size, fun i hi => by
    obtain ⟨r, s, h0, h1⟩ := h.2 i hi
    exact ⟨r, s, (World.cell?_of_block (a := ⟨b, _, none⟩) (k.block b h.1 id)).trans h0, h1⟩⟩

/-- The first of the nearest among the first k. -/
def best (l : List (Int × Int)) (x y : Int) : Nat → Nat
  | 0 => 0
  | k + 1 => if far (px l k) (py l k) x y < far (px l (best l x y k)) (py l (best l x y k)) x y then k else best l x y k

theorem best_le (l : List (Int × Int)) (x y : Int) : ∀ k, best l x y k ≤ k - 1
  | 0 => Nat.le_refl _
  | k + 1 => by
    have := best_le l x y k
    unfold best
    split <;> omega

theorem best_one (l : List (Int × Int)) (x y : Int) : best l x y 1 = 0 := by
  unfold best
  split <;> rfl

theorem mid_of {l : List (Int × Int)} : ∀ {n k : Nat}, okTo l n = true → k < n → Mid (px l k) ∧ Mid (py l k)
  | 0, k, h, hk => absurd hk (Nat.not_lt_zero _)
  | n + 1, k, h, hk => by
    simp only [okTo, Bool.and_eq_true] at h
    rcases Nat.lt_or_ge k n with g | g
    · exact mid_of h.1 g
    · have : k = n := by omega
      subst this
      have := inP_iff.1 h.2
      exact ⟨⟨this.1, this.2.1⟩, this.2.2⟩

set_option maxHeartbeats 1600000 in
theorem nearest_any (b o cap : Nat) (l : List (Int × Int)) (c d : Nat) (x y : Int) (w : World) (h : Ns w b o l) (h1 : Fl c x) (h2 : Fl d y) (mx : Mid x) (my : Mid y) (hok : ok l = true) (hl : 1 ≤ l.length) (hn : l.length ≤ 64) :
    Calls Try.prog 28 #[.slice (some ⟨b, o, none⟩) l.length cap, .complex .f64 c d] w fun e w' => e = .returned (.int .i64 (best l x y l.length : Nat)) ∧ Only (fun _ => False) w w' := by
  have HP := Lib.hid h
  have HK := Lib.hid hok
  have HL := Lib.hid (And.intro hl hn)
  have HF := Lib.hid (And.intro h1 (And.intro h2 (And.intro mx my)))
  clear h hok hl hn h1 h2 mx my
  go_enter Try.func28, Try.ntmps28
  go_wp2_with fail
  go_loopw [5, 9] (fun v i wr => ∃ k : Nat, k ≤ l.length ∧ i = .int .i64 k ∧ v = .int .i64 (best l x y k : Nat) ∧ Only (fun _ => False) w wr) (fun _ i _ => l.length - (intOf i).toNat)
  case atStart => exact ⟨0, Nat.zero_le _, rfl, rfl, Only.refl _ w⟩
  case round =>
    obtain ⟨k, hk, rfl, rfl, ho⟩ := hrel
    have O := Lib.hid ho
    clear ho
    by_cases hlt : k < l.length
    · have k1 : ((k : Int) < (l.length : Int)) = True := eq_true (by omega)
      have k1n : ((k : Int) < (l.length : Int)) := by omega
      have k0n : (0 : Int) ≤ (k : Int) := by omega
      have wk : wrap64 ((k : Int) + 1) = (k : Int) + 1 := wrap_succ hlt (by have := HL.out; unfold maxLen; omega)
      obtain ⟨j, hj⟩ : ∃ j, j = best l x y k := ⟨_, rfl⟩
      have hb := best_le l x y k
      rw [← hj] at hb
      have jn : j < l.length := by omega
      obtain ⟨G, hG⟩ : ∃ G, G = decide (far (px l k) (py l k) x y < far (px l j) (py l j) x y) := ⟨_, rfl⟩
      have hnext : best l x y (k + 1) = if G = true then k else j := by rw [hG, hj]; simp only [decide_eq_true_eq]; rfl
      rw [← hj]
      have j1n : ((j : Int) < (l.length : Int)) := by omega
      have j0n : (0 : Int) ≤ (j : Int) := by omega
      obtain ⟨r, s, c0, f0, f1⟩ := (HP.out.keep O.out).2 k hlt
      obtain ⟨r', s', c1, f2, f3⟩ := (HP.out.keep O.out).2 j jn
      obtain ⟨n0, n1⟩ := mid_of HK.out hlt
      obtain ⟨n2, n3⟩ := mid_of HK.out jn
      obtain ⟨u, fu, C1⟩ := square_same r s c d _ _ x y f0 f1 HF.out.1 HF.out.2.1 n0 n1 HF.out.2.2.1 HF.out.2.2.2
      obtain ⟨t, ft, C2⟩ := square_same r' s' c d _ _ x y f2 f3 HF.out.1 HF.out.2.1 n2 n3 HF.out.2.2.1 HF.out.2.2.2
      have hord : (FloatKind.f64.format.order u t == some .lt) = G := by
        rw [hG]
        have e : FloatKind.f64.format.order u t = some (compare (far (px l k) (py l k) x y) (far (px l j) (py l j) x y)) := order_fl fu ft
        rw [e, Int.compare_eq_ite_lt]
        by_cases g : far (px l k) (py l k) x y < far (px l j) (py l j) x y
        · simp [g]
        · simp only [g, if_false, decide_false]
          split <;> rfl
      have C1' := Lib.hid C1
      have C2' := Lib.hid C2
      clear f0 f1 f2 f3 n0 n1 n2 n3 fu ft hj hb C1 C2 hG
      go_wp2_with fail
      go_quiet (first
        | (go_at_call_of 34 (Value.complex FloatKind.f64 r s); exact Calls.quiet_of_same (C1'.out _))
        | (go_at_call_of 34 (Value.complex FloatKind.f64 r' s'); exact Calls.quiet_of_same (C2'.out _)))
      cases G
      · rw [if_neg (by decide)] at hnext
        go_wp2_with fail
        go_roundw
        case rel => exact ⟨k + 1, by omega, by go_num, by rw [hnext], O.out.drewN _⟩
        case measure => exact meas wk hlt
      · rw [if_pos rfl] at hnext
        go_wp2_with fail
        go_roundw
        case rel => exact ⟨k + 1, by omega, by go_num, by rw [hnext], O.out.drewN _⟩
        case measure => exact meas wk hlt
    · have k1 : ((k : Int) < (l.length : Int)) = False := eq_false (by omega)
      have e : k = l.length := by omega
      subst e
      go_wp2_with fail
      go_ret
      exact ⟨rfl, O.out⟩
end Go.Proofs.Ytklcanjlkmkmmaa.skyD
