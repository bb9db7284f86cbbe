/- sky: the masts as numbers; Nearest, Far. -/
import Derived.Test.YtklcanjlkmkmmaaSkyE
namespace Go.Proofs.Ytklcanjlkmkmmaa.skyF
open Go.RowKit Go.Lib Go.Proofs.Ytklcanjlkmkmmaa.kit Go.Proofs.Ytklcanjlkmkmmaa.floA Go.Proofs.Ytklcanjlkmkmmaa.skyA Go.Proofs.Ytklcanjlkmkmmaa.skyB Go.Proofs.Ytklcanjlkmkmmaa.skyC Go.Proofs.Ytklcanjlkmkmmaa.skyD Go.Proofs.Ytklcanjlkmkmmaa.skyE
set_option linter.unusedVariables false
set_option linter.unusedSimpArgs false

abbrev fl (x : Int) : Nat := FloatKind.f64.nearest x

theorem number_det (x y : Int) (w : World) : Calls Try.prog 27 #[pt x y] w fun e w' => e = .returned (.complex .f64 (fl x) (fl y)) ∧ Only (fun _ => False) w w' := by
  go_enter Try.func27, Try.ntmps27
  go_wp2_with fail
  go_ret
  exact ⟨rfl, ((Only.refl _ w).alloc _)⟩

theorem fl_mid {x : Int} (h : Mid x) : Fl (fl x) x := of_int x (by have := h; omega)

/-- The cells of points as numbers. -/
def cxs (l : List (Int × Int)) : List Value := l.map fun p => .complex .f64 (fl p.1) (fl p.2)

theorem cxs_snoc (l : List (Int × Int)) (k : Nat) (h : k < l.length) : cxs (l.take (k + 1)) = cxs (l.take k) ++ [.complex .f64 (fl (px l k)) (fl (py l k))] := by
  rw [take_snoc l k h (0, 0), cxs, List.map_append]
  rfl

theorem cxs_get (l : List (Int × Int)) (i : Nat) (h : i < l.length) : (cxs l)[i]? = some (.complex .f64 (fl (px l i)) (fl (py l i))) := by
  simp [cxs, px, py, h]

theorem ns_of_owns {w : World} {base : Nat} {e : TypeId} {v : Value} {l : List (Int × Int)} (h : w.ownsRow base e 1 v l.length (cxs l)) (h0 : 1 ≤ l.length) (hok : ok l = true) : ∃ b cap, v = .slice (some ⟨b, 0, none⟩) l.length cap ∧ Ns w b 0 l := by
  rcases h.2 with ⟨rfl, h0⟩ | ⟨g, cap, cur, rfl, hb, hg, hn, hc, hs, ht⟩
  · omega
  · refine ⟨g, cap, rfl, lt_of hg, fun i hi => ?_⟩
    obtain ⟨m0, m1⟩ := mid_of hok hi
    refine ⟨_, _, ?_, fl_mid m0, fl_mid m1⟩
    rw [Nat.zero_add, cell_of hg, ← Array.getElem?_toList]
    exact take_get ht (cxs_get l i hi)

theorem numbers_bad (a : Option Addr) (cap : Nat) (l : List (Int × Int)) (w : World) (h : Pts w a l) (hlen : l.length ≤ 1000) (hg : good l = false) :
    Calls Try.prog 26 #[.slice a l.length cap] w fun e w' => e = .returned (.tuple #[.slice none 0 0, .bool false]) ∧ Only (fun _ => False) w w' := by
  have H := Lib.hid right_any
  have HN := Lib.hid number_det
  have HP := Lib.hid h
  have HL := Lib.hid hlen
  have HG := Lib.hid hg
  clear h hlen hg
  go_enter Try.func26, Try.ntmps26
  by_cases g1 : l.length < 1
  · have t1 : ((l.length : Int) < 1) = True := eq_true (by omega)
    go_wp2_with fail
    exact bodyPost_ret (v := .tuple #[.slice none 0 0, .bool false]) (by simp [results, Try.results26, go_sem]) rfl ⟨rfl, Only.refl _ w⟩
  have t1 : ((l.length : Int) < 1) = False := eq_false (by omega)
  by_cases g2 : 64 < l.length
  · have t2 : ((64 : Int) < (l.length : Int)) = True := eq_true (by omega)
    go_wp2_with fail
    exact bodyPost_ret (v := .tuple #[.slice none 0 0, .bool false]) (by simp [results, Try.results26, go_sem]) rfl ⟨rfl, Only.refl _ w⟩
  have t2 : ((64 : Int) < (l.length : Int)) = False := eq_false (by omega)
  have HB : Hid (ok l = false) := Lib.hid (by
    have := HG.out
    rw [good] at this
    cases q : ok l
    · rfl
    · rw [q] at this
      simp at this
      omega)
  go_wp2_with fail
  go_loopw [4, 17] (fun v i wr => ∃ k : Nat, k ≤ l.length ∧ i = .int .i64 k ∧ Only (fun _ => False) w wr ∧ okTo l k = true ∧ wr.ownsRow w.heap.size 80 1 v k (cxs (l.take k))) (fun _ i _ => l.length - (intOf i).toNat)
  case atStart => exact ⟨0, Nat.zero_le _, rfl, Only.refl _ w, rfl, World.ownsRow_nil w _ _ _⟩
  case round =>
    obtain ⟨k, hk, rfl, o, hok, hown⟩ := hrel
    have O := Lib.hid o
    have OW := Lib.hid hown
    have OK := Lib.hid hok
    clear o hown hok
    by_cases hlt : k < l.length
    · have k1 : ((k : Int) < (l.length : Int)) = True := eq_true (by omega)
      have k1n : ((k : Int) < (l.length : Int)) := by omega
      have wk : wrap64 ((k : Int) + 1) = (k : Int) + 1 := wrap_succ hlt (by have := HL.out; unfold maxLen; omega)
      obtain ⟨b, off, rfl, hb, c0, c1⟩ := (HP.out.keep O.out).at hlt
      go_wp2_with fail
      with_reducible refine (H.out _ _ _).mono ?_
      rintro e w5 ⟨rfl, o⟩
      have bx : Box w5 wr.heap.size (px l k) (py l k) 50 := o.keep (heap_alloc_new wr _) id
      have o5 := (O.out.alloc (.cells #[.int .i64 (px l k), .int .i64 (py l k)] 50)).trans o
      have own5 := owns_keep (OW.out.alloc (.cells #[.int .i64 (px l k), .int .i64 (py l k)] 50)) o
      obtain ⟨c2, c3⟩ := bx.cells
      have O5 := Lib.hid o5
      have OW5 := Lib.hid own5
      clear o c0 c1 bx o5 own5
      cases hr : inP 16777216 (px l k) (py l k)
      · go_wp2_with fail
        exact bodyPost_ret (v := .tuple #[.slice none 0 0, .bool false]) (by simp [results, Try.results26, go_sem]) rfl ⟨rfl, O5.out⟩
      · go_wp2_with fail
        with_reducible refine (HN.out _ _ _).mono ?_
        rintro e w6 ⟨rfl, o⟩
        have O6 := Lib.hid (O5.out.trans o)
        obtain ⟨v', w7, hrun, hown, o7⟩ := app (bytes := 16) (size := 1) Try.underlying77 info65 rfl (by decide) (by decide) (O5.out.trans o) (owns_keep OW5.out o) [.complex .f64 (fl (px l k)) (fl (py l k))] rfl (fun u hu => by simp at hu; subst hu; rfl) (by have := HL.out; omega)
        rw [← cxs_snoc l k hlt] at hown
        have OW' := Lib.hid hown
        have O7 := Lib.hid o7
        clear o c2 c3 hown o7
        go_wp2_with (first | (at_builtin; refine Lib.wpList_append_run _ rfl (.tmp 24) (.tmp 27) 77 77 rfl _ _ rfl rfl _ _ hrun ?_))
        go_roundw
        case rel => exact ⟨k + 1, by omega, by go_num, O7.out, by simp [okTo, hr, OK.out], OW'.out⟩
        case measure => first | exact meas wk hlt | exact meas rfl hlt
    · have e : k = l.length := by omega
      subst e
      exfalso
      have h1 := HB.out
      rw [ok, OK.out] at h1
      cases h1

theorem numbers_good (a : Option Addr) (cap : Nat) (l : List (Int × Int)) (w : World) (h : Pts w a l) (hg : good l = true) :
    Calls Try.prog 26 #[.slice a l.length cap] w fun e w' => (∃ b cap', e = .returned (.tuple #[.slice (some ⟨b, 0, none⟩) l.length cap', .bool true]) ∧ Ns w' b 0 l) ∧ Only (fun _ => False) w w' := by
  have H := Lib.hid right_any
  have HN := Lib.hid number_det
  have HP := Lib.hid h
  have hq : ok l = true ∧ 1 ≤ l.length ∧ l.length ≤ 64 := by
    simp [good] at hg
    exact ⟨hg.1, by omega, by omega⟩
  have HG := Lib.hid hq
  have HL := Lib.hid hq.2.2
  have t1 : ((l.length : Int) < 1) = False := eq_false (by omega)
  have t2 : ((64 : Int) < (l.length : Int)) = False := eq_false (by omega)
  clear h hg hq
  go_enter Try.func26, Try.ntmps26
  go_wp2_with fail
  go_loopw [4, 17] (fun v i wr => ∃ k : Nat, k ≤ l.length ∧ i = .int .i64 k ∧ Only (fun _ => False) w wr ∧ wr.ownsRow w.heap.size 80 1 v k (cxs (l.take k))) (fun _ i _ => l.length - (intOf i).toNat)
  case atStart => exact ⟨0, Nat.zero_le _, rfl, Only.refl _ w, World.ownsRow_nil w _ _ _⟩
  case round =>
    obtain ⟨k, hk, rfl, o, hown⟩ := hrel
    have O := Lib.hid o
    have OW := Lib.hid hown
    clear o hown
    by_cases hlt : k < l.length
    · have k1 : ((k : Int) < (l.length : Int)) = True := eq_true (by omega)
      have k1n : ((k : Int) < (l.length : Int)) := by omega
      have wk : wrap64 ((k : Int) + 1) = (k : Int) + 1 := wrap_succ hlt (by have := HL.out; unfold maxLen; omega)
      obtain ⟨b, off, rfl, hb, c0, c1⟩ := (HP.out.keep O.out).at hlt
      have hr : inP 16777216 (px l k) (py l k) = true := by
        have := okTo_le (k := k + 1) (n := l.length) HG.out.1 (by omega)
        simp [okTo] at this
        exact this.2
      go_wp2_with fail
      with_reducible refine (H.out _ _ _).mono ?_
      rintro e w5 ⟨rfl, o⟩
      have bx : Box w5 wr.heap.size (px l k) (py l k) 50 := o.keep (heap_alloc_new wr _) id
      have o5 := (O.out.alloc (.cells #[.int .i64 (px l k), .int .i64 (py l k)] 50)).trans o
      have own5 := owns_keep (OW.out.alloc (.cells #[.int .i64 (px l k), .int .i64 (py l k)] 50)) o
      obtain ⟨c2, c3⟩ := bx.cells
      have O5 := Lib.hid o5
      have OW5 := Lib.hid own5
      clear o c0 c1 bx o5 own5
      go_wp2_with fail
      with_reducible refine (HN.out _ _ _).mono ?_
      rintro e w6 ⟨rfl, o⟩
      have O6 := Lib.hid (O5.out.trans o)
      obtain ⟨v', w7, hrun, hown, o7⟩ := app (bytes := 16) (size := 1) Try.underlying77 info65 rfl (by decide) (by decide) (O5.out.trans o) (owns_keep OW5.out o) [.complex .f64 (fl (px l k)) (fl (py l k))] rfl (fun u hu => by simp at hu; subst hu; rfl) (by have := HL.out; omega)
      rw [← cxs_snoc l k hlt] at hown
      have OW' := Lib.hid hown
      have O7 := Lib.hid o7
      clear o c2 c3 hown o7
      go_wp2_with (first | (at_builtin; refine Lib.wpList_append_run _ rfl (.tmp 24) (.tmp 27) 77 77 rfl _ _ rfl rfl _ _ hrun ?_))
      go_roundw
      case rel => exact ⟨k + 1, by omega, by go_num, O7.out, OW'.out⟩
      case measure => first | exact meas wk hlt | exact meas rfl hlt
    · have k1 : ((k : Int) < (l.length : Int)) = False := eq_false (by omega)
      have e : k = l.length := by omega
      subst e
      have hown := OW.out
      rw [List.take_length] at hown
      obtain ⟨b', cap', rfl, hp⟩ := ns_of_owns hown HG.out.2.1 HG.out.1
      have HP' := Lib.hid hp
      clear hown hp
      go_wp2_with fail
      exact bodyPost_ret (v := .tuple #[.slice (some ⟨b', 0, none⟩) l.length cap', .bool true]) (by simp [results, Try.results26, go_sem]) rfl ⟨⟨_, _, rfl, HP'.out⟩, O.out⟩
end Go.Proofs.Ytklcanjlkmkmmaa.skyF
