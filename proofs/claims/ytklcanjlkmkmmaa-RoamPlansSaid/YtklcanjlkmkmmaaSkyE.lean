/- Loops of sky: the document's nearest one; the masts as numbers. -/
import Derived.Test.YtklcanjlkmkmmaaSkyD
import Derived.Deep.RegionWith
import Derived.Deep.RegionHeld3
namespace Go.Proofs.Ytklcanjlkmkmmaa.skyE
open Go.RowKit Go.Lib Go.Proofs.Ytklcanjlkmkmmaa.kit Go.Proofs.Ytklcanjlkmkmmaa.floA Go.Proofs.Ytklcanjlkmkmmaa.skyA Go.Proofs.Ytklcanjlkmkmmaa.skyB Go.Proofs.Ytklcanjlkmkmmaa.skyC Go.Proofs.Ytklcanjlkmkmmaa.skyD
set_option linter.unusedVariables false
set_option linter.unusedSimpArgs false

theorem Pts.cells {w : World} {b o : Nat} {l : List (Int × Int)} (h : Pts w (some ⟨b, o, none⟩) l) {k : Nat} (hk : k < l.length) : w.cell? ⟨b, o + k * 2, none⟩ = some (.int .i64 (px l k)) ∧ w.cell? ⟨b, o + k * 2 + 1, none⟩ = some (.int .i64 (py l k)) := by
  obtain ⟨b', o', e, _, c0, c1⟩ := h.at hk
  injection e with e
  injection e with e1 e2
  subst e1 e2
  exact ⟨c0, c1⟩

/-- A block holds a point. -/
def Box (w : World) (B : Nat) (x y : Int) (t : TypeId) : Prop := w.heap[B]? = some (.cells #[.int .i64 x, .int .i64 y] t (0, 0))

theorem Box.cells {w : World} {B : Nat} {x y : Int} {t : TypeId} (h : Box w B x y t) : w.cell? ⟨B, 0, none⟩ = some (.int .i64 x) ∧ w.cell? ⟨B, 1, none⟩ = some (.int .i64 y) := ⟨cell_of h, cell_of h⟩

theorem Box.keep {w w' : World} {B : Nat} {x y : Int} {t : TypeId} (h : Box w B x y t) (o : Only (fun _ => False) w w') : Box w' B x y t := o.keep h id

theorem six {W1 w' : World} {b o B k j : Nat} {l : List (Int × Int)} {x y : Int} {t : TypeId} (h : Pts W1 (some ⟨b, o, none⟩) l) (hB : Box W1 B x y t) (r : Only (fun _ => False) W1 w') (hk : k < l.length) (hj : j < l.length) :
    w'.cell? ⟨b, o + k * 2, none⟩ = some (.int .i64 (px l k)) ∧ w'.cell? ⟨b, o + k * 2 + 1, none⟩ = some (.int .i64 (py l k)) ∧ w'.cell? ⟨b, o + j * 2, none⟩ = some (.int .i64 (px l j)) ∧ w'.cell? ⟨b, o + j * 2 + 1, none⟩ = some (.int .i64 (py l j)) ∧ w'.cell? ⟨B, 0, none⟩ = some (.int .i64 x) ∧ w'.cell? ⟨B, 1, none⟩ = some (.int .i64 y) := by
  obtain ⟨c0, c1⟩ := Pts.cells (h.keep r) hk
  obtain ⟨c2, c3⟩ := Pts.cells (h.keep r) hj
  obtain ⟨c4, c5⟩ := (hB.keep r).cells
  exact ⟨c0, c1, c2, c3, c4, c5⟩

set_option maxHeartbeats 1600000 in
theorem refnearest_any (a : Option Addr) (cap : Nat) (l : List (Int × Int)) (x y : Int) (w : World) (h : Pts w a l) (mx : Mid x) (my : Mid y) (hok : ok l = true) (hl : 1 ≤ l.length) (hn : l.length ≤ 64) :
    Calls Try.prog 22 #[.slice a l.length cap, pt x y] w fun e w' => e = .returned (.int .i64 (best l x y l.length : Nat)) ∧ Only (fun _ => False) w w' := by
  have HK := Lib.hid hok
  have HL := Lib.hid (And.intro hl hn)
  have HF := Lib.hid (And.intro mx my)
  obtain ⟨b, o, rfl, _⟩ := h.at (k := 0) (by omega)
  have o1 : Only (fun _ => False) w (w.alloc (.cells #[.int .i64 x, .int .i64 y] 54)) := (Only.refl _ w).alloc _
  have HP := Lib.hid (h.keep o1)
  have HB := Lib.hid (show Box (w.alloc (.cells #[.int .i64 x, .int .i64 y] 54)) w.heap.size x y 54 from heap_alloc_new w _)
  have O1 := Lib.hid o1
  clear h hok hl hn mx my o1
  go_enter Try.func22, Try.ntmps22
  go_wp2_with fail
  generalize w.alloc (.cells #[.int .i64 x, .int .i64 y] 54) = W1 at HP HB O1 ⊢
  generalize w.heap.size = B at HB ⊢
  go_loopw [5, 6] (fun v i wr => ∃ k : Nat, 1 ≤ k ∧ k ≤ l.length ∧ i = .int .i64 k ∧ v = .int .i64 (best l x y k : Nat) ∧ Only (fun _ => False) W1 wr) (fun _ i _ => l.length - (intOf i).toNat)
  case atStart => exact ⟨1, Nat.le_refl _, HL.out.1, rfl, by rw [best_one]; rfl, Only.refl _ _⟩
  case round =>
    obtain ⟨k, hk1, hk, rfl, rfl, ho⟩ := hrel
    have O := Lib.hid ho
    clear ho
    by_cases hlt : k < l.length
    · have k1 : ((k : Int) < (l.length : Int)) = True := eq_true (by omega)
      have k1n : ((k : Int) < (l.length : Int)) := by omega
      have k0n : (0 : Int) ≤ (k : Int) := by omega
      have wk : wrap64 ((k : Int) + 1) = (k : Int) + 1 := wrap_succ hlt (by have := HL.out; unfold maxLen; omega)
      obtain ⟨j, hj⟩ : ∃ j, j = best l x y k := ⟨_, rfl⟩
      have hb := best_le l x y k
      rw [← hj] at hb
      have jn : j < l.length := by omega
      obtain ⟨G, hG⟩ : ∃ G, G = decide (far (px l k) (py l k) x y < far (px l j) (py l j) x y) := ⟨_, rfl⟩
      have hnext : best l x y (k + 1) = if G = true then k else j := by rw [hG, hj]; simp only [decide_eq_true_eq]; rfl
      rw [← hj]
      have j1n : ((j : Int) < (l.length : Int)) := by omega
      have j0n : (0 : Int) ≤ (j : Int) := by omega
      obtain ⟨n0, n1⟩ := mid_of HK.out hlt
      obtain ⟨n2, n3⟩ := mid_of HK.out jn
      have C1 := Lib.hid (reffar_any (px l k) (py l k) x y n0 n1 HF.out.1 HF.out.2)
      have C2 := Lib.hid (reffar_any (px l j) (py l j) x y n2 n3 HF.out.1 HF.out.2)
      obtain ⟨X, hX⟩ : ∃ X, X = far (px l k) (py l k) x y := ⟨_, rfl⟩
      obtain ⟨Y, hY⟩ : ∃ Y, Y = far (px l j) (py l j) x y := ⟨_, rfl⟩
      rw [← hX] at C1 hG
      rw [← hY] at C2 hG
      have R := Lib.hid (O.out.drew)
      have J1 := Lib.hid hlt
      have J2 := Lib.hid jn
      have HN := Lib.hid (And.intro hnext hG)
      obtain ⟨c0, c1⟩ := Pts.cells (HP.out.keep O.out) hlt
      obtain ⟨c2, c3⟩ := Pts.cells (HP.out.keep O.out) jn
      obtain ⟨c4, c5⟩ := (HB.out.keep O.out).cells
      clear n0 n1 n2 n3 hj hb hX hY hG hnext
      go_wp2_with fail
      go_region_held3 (fun w' => w'.cell? ⟨b, o + k * 2, none⟩ = some (.int .i64 (px l k)) ∧ w'.cell? ⟨b, o + k * 2 + 1, none⟩ = some (.int .i64 (py l k)) ∧ w'.cell? ⟨b, o + j * 2, none⟩ = some (.int .i64 (px l j)) ∧ w'.cell? ⟨b, o + j * 2 + 1, none⟩ = some (.int .i64 (py l j)) ∧ w'.cell? ⟨B, 0, none⟩ = some (.int .i64 x) ∧ w'.cell? ⟨B, 1, none⟩ = some (.int .i64 y)) (first | exact six HP.out HB.out R.out J1.out J2.out)
        (first
          | (go_at_call_of 33 (px l k); (with_reducible refine Calls.mono (C1.out _) ?_); rintro e w7 ⟨rfl, o'⟩; have R := Lib.hid (R.out.trans o'); clear o')
          | (go_at_call_of 33 (px l j); (with_reducible refine Calls.mono (C2.out _) ?_); rintro e w7 ⟨rfl, o'⟩; have R := Lib.hid (R.out.trans o'); clear o'))
      all_goals
        obtain ⟨hnext, hG⟩ := HN.out
        by_cases g : X < Y
        · rw [decide_eq_true g] at hG
          rw [hG, if_pos rfl] at hnext
          have gb : (X < Y) = True := eq_true g
          go_wp2_with fail
          go_roundw
          case rel => exact ⟨k + 1, by omega, by omega, by go_num, by rw [hnext], R.out⟩
          case measure => exact meas wk hlt
        · rw [decide_eq_false g] at hG
          rw [hG, if_neg (by decide)] at hnext
          have gb : (X < Y) = False := eq_false g
          go_wp2_with fail
          go_roundw
          case rel => exact ⟨k + 1, by omega, by omega, by go_num, by rw [hnext], R.out⟩
          case measure => exact meas wk hlt
    · have k1 : ((k : Int) < (l.length : Int)) = False := eq_false (by omega)
      have e : k = l.length := by omega
      subst e
      go_wp2_with fail
      go_ret
      exact ⟨rfl, O1.out.trans O.out⟩
end Go.Proofs.Ytklcanjlkmkmmaa.skyE
