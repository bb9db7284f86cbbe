/- The walks of NumReads and NumPrints. -/
import Derived.Test.YtcocmabhbahiaaaNumI
import Derived.Test.YtcocmabhbahiaaaArgs
namespace Go.Proofs.Ytcocmabhbahiaaa.numJ
open Go.RowKit Go.Proofs.Ytcocmabhbahiaaa.kit Go.Proofs.Ytcocmabhbahiaaa.args Go.Proofs.Ytcocmabhbahiaaa.numA Go.Proofs.Ytcocmabhbahiaaa.numB Go.Proofs.Ytcocmabhbahiaaa.numC Go.Proofs.Ytcocmabhbahiaaa.numE Go.Proofs.Ytcocmabhbahiaaa.numF Go.Proofs.Ytcocmabhbahiaaa.numG
set_option linter.unusedVariables false

theorem awake_any (w : World) : Calls Try.prog 14 #[] w (numA.Told w (.bool true)) := by
  have R := read_any ⟨#[48, 49]⟩ w (by decide)
  have hr : rd (ByteArray.mk #[48, 49]).data.toList = .tuple #[.int .u64 0, .int .i64 3] := by
    rw [rd, if_neg (by decide)]
  rw [hr] at R
  clear hr
  go_enter Try.func14, Try.ntmps14
  go_wp2_with fail
  refine R.mono ?_
  rintro e w1 ⟨rfl, o1⟩
  have L : Lst (w1.alloc (.cells #[.int .u8 10, .int .u8 255] 5)) 5 (fun _ => True) (.slice (some ⟨w1.heap.size, 0, none⟩) 2 2) (U8 [10, 255]) :=
    .inr ⟨w1.heap.size, 0, 2, rfl, trivial, by decide, by decide, _, _, heap_alloc_new w1 _, by simp, fun i hi => by
      match i, hi with
      | 0, _ => rfl
      | 1, _ => rfl⟩
  have H := numH.hex_any _ _ _ _ (Sl.of_lst L) (by decide)
  have hh : hexs [10, 255] = [48, 97, 102, 102] := by decide
  rw [hh] at H
  clear hh L
  go_wp2_with fail
  refine H.mono ?_
  rintro e w2 ⟨rfl, o2⟩
  go_wp2_with fail
  go_ret
  exact ⟨rfl, (o1.alloc _).trans o2⟩

def Done (w : World) (e : Ending) (w' : World) : Prop := e = .returned (.bool true) ∧ Below w.heap.size w w'

theorem done_of {w w' : World} (h : Only (fun _ => False) w w') : Below w.heap.size w w' := h.below (fun _ h => h.elim) (Nat.le_refl _)

theorem dec_rd (l : List UInt8) (h : isNum l = true) : (⟨(dec (val l)).toArray⟩ : ByteArray) = ⟨l.toArray⟩ := by rw [dec_val l.length l rfl h]

theorem bytes_mk (s : ByteArray) : (⟨s.data.toList.toArray⟩ : ByteArray) = s := ByteArray.ext (by simp)

def HexRes (w : World) (xs : List UInt8) (g : Int) (en : Ending) (w' : World) : Prop :=
  ∃ v, en = .returned (.tuple #[v, .int .i64 g]) ∧ Lst w' 5 (fun j => w.heap.size ≤ j) v (U8 xs) ∧ Only (fun _ => False) w w'

set_option maxRecDepth 100000 in
set_option maxHeartbeats 2000000 in
theorem reads_core (s : ByteArray) (w : World) (h5 : s.size ≤ 500) (u : Nat) (e : Int) (xs : List UInt8) (g : Int)
    (R1 : ∀ W, Calls Try.prog 15 #[.string s] W (numA.Told W (.tuple #[.int .u64 u, .int .i64 e]))) (R2 : ∀ W, Calls Try.prog 16 #[.string s] W (numA.Told W (.tuple #[.int .u64 u, .int .i64 e])))
    (X1 : ∀ W, Calls Try.prog 17 #[.string s] W (HexRes W xs g)) (X2 : ∀ W, Calls Try.prog 18 #[.string s] W (HexRes W xs g))
    (he : e = 0 → u ≤ most ∧ dec u = s.data.toList) (hg : g = 0 → xs.length ≤ 100000000 ∧ hexs xs = s.data.toList) : Calls Try.prog 3 #[.string s] w (Done w) := by
  have A := awake_any w
  by_cases e0 : e = 0
  · obtain ⟨hu, hdec⟩ := he e0
    subst e0
    clear he
    by_cases g0 : g = 0
    · obtain ⟨hxl, hhex⟩ := hg g0
      subst g0
      clear hg
      have HU := Lib.hid hu
      have HD := Lib.hid hdec
      have HXL := Lib.hid hxl
      have HHX := Lib.hid hhex
      clear hu hdec hxl hhex
      go_enter Try.func3, Try.ntmps3
      go_wp2_with fail
      refine A.mono ?_
      rintro en w1 ⟨rfl, o1⟩
      go_wp2_with fail
      refine (R1 _).mono ?_
      rintro en w2 ⟨rfl, o2⟩
      go_wp2_with fail
      refine (R2 _).mono ?_
      rintro en w3 ⟨rfl, o3⟩
      go_wp2_with fail
      refine (X1 _).mono ?_
      rintro en w4 ⟨b, rfl, lb, o4⟩
      go_wp2_with fail
      refine (X2 _).mono ?_
      rintro en w5 ⟨c, rfl, lc, o5⟩
      have lb5 := lb.keep o5 fun _ _ h => h
      have OO := Lib.hid ((((o1.trans o2).trans o3).trans o4).trans o5)
      have SM := same_true (Sl.of_lst lb5) (Sl.of_lst lc)
      clear lb o1 o2 o3 o4 o5
      go_wp2_with fail
      refine SM.mono ?_
      rintro en w6 ⟨rfl, rfl⟩
      have P := numD.print_any u w5 HU.out
      rw [HD.out, bytes_mk] at P
      go_wp2_with fail
      refine P.mono ?_
      rintro en w6 ⟨rfl, o6⟩
      have LB := lb5.keep o6 fun _ _ h => h
      have OO6 := Lib.hid (OO.out.trans o6)
      clear o6
      have H := numH.hex_any _ b xs w6 (Sl.of_lst LB) HXL.out
      rw [HHX.out, bytes_mk] at H
      go_wp2_with fail
      refine H.mono ?_
      rintro en w7 ⟨rfl, o7⟩
      go_wp2_with fail
      go_ret
      exact ⟨rfl, done_of (OO6.out.trans o7)⟩
    · have g1 : (g != 0) = true := by simpa using g0
      clear hg g0
      have HU := Lib.hid hu
      have HD := Lib.hid hdec
      clear hu hdec
      go_enter Try.func3, Try.ntmps3
      go_wp2_with fail
      refine A.mono ?_
      rintro en w1 ⟨rfl, o1⟩
      go_wp2_with fail
      refine (R1 _).mono ?_
      rintro en w2 ⟨rfl, o2⟩
      go_wp2_with fail
      refine (R2 _).mono ?_
      rintro en w3 ⟨rfl, o3⟩
      go_wp2_with fail
      refine (X1 _).mono ?_
      rintro en w4 ⟨b, rfl, lb, o4⟩
      go_wp2_with fail
      refine (X2 _).mono ?_
      rintro en w5 ⟨c, rfl, lc, o5⟩
      have lb5 := lb.keep o5 fun _ _ h => h
      have OO := Lib.hid ((((o1.trans o2).trans o3).trans o4).trans o5)
      have SM := same_true (Sl.of_lst lb5) (Sl.of_lst lc)
      clear lb o1 o2 o3 o4 o5
      go_wp2_with fail
      refine SM.mono ?_
      rintro en w6 ⟨rfl, rfl⟩
      have P := numD.print_any u w5 HU.out
      rw [HD.out, bytes_mk] at P
      go_wp2_with fail
      refine P.mono ?_
      rintro en w6 ⟨rfl, o6⟩
      go_wp2_with fail
      go_ret
      exact ⟨rfl, done_of (OO.out.trans o6)⟩
  · have e1 : (e != 0) = true := by simpa using e0
    clear he e0
    by_cases g0 : g = 0
    · obtain ⟨hxl, hhex⟩ := hg g0
      subst g0
      clear hg
      have HXL := Lib.hid hxl
      have HHX := Lib.hid hhex
      clear hxl hhex
      go_enter Try.func3, Try.ntmps3
      go_wp2_with fail
      refine A.mono ?_
      rintro en w1 ⟨rfl, o1⟩
      go_wp2_with fail
      refine (R1 _).mono ?_
      rintro en w2 ⟨rfl, o2⟩
      go_wp2_with fail
      refine (R2 _).mono ?_
      rintro en w3 ⟨rfl, o3⟩
      go_wp2_with fail
      refine (X1 _).mono ?_
      rintro en w4 ⟨b, rfl, lb, o4⟩
      go_wp2_with fail
      refine (X2 _).mono ?_
      rintro en w5 ⟨c, rfl, lc, o5⟩
      have lb5 := lb.keep o5 fun _ _ h => h
      have OO := Lib.hid ((((o1.trans o2).trans o3).trans o4).trans o5)
      have SM := same_true (Sl.of_lst lb5) (Sl.of_lst lc)
      clear lb o1 o2 o3 o4 o5
      go_wp2_with fail
      refine SM.mono ?_
      rintro en w6 ⟨rfl, rfl⟩
      have LB := lb5
      have H := numH.hex_any _ b xs w5 (Sl.of_lst LB) HXL.out
      rw [HHX.out, bytes_mk] at H
      go_wp2_with fail
      refine H.mono ?_
      rintro en w7 ⟨rfl, o7⟩
      go_wp2_with fail
      go_ret
      exact ⟨rfl, done_of (OO.out.trans o7)⟩
    · have g1 : (g != 0) = true := by simpa using g0
      clear hg g0
      go_enter Try.func3, Try.ntmps3
      go_wp2_with fail
      refine A.mono ?_
      rintro en w1 ⟨rfl, o1⟩
      go_wp2_with fail
      refine (R1 _).mono ?_
      rintro en w2 ⟨rfl, o2⟩
      go_wp2_with fail
      refine (R2 _).mono ?_
      rintro en w3 ⟨rfl, o3⟩
      go_wp2_with fail
      refine (X1 _).mono ?_
      rintro en w4 ⟨b, rfl, lb, o4⟩
      go_wp2_with fail
      refine (X2 _).mono ?_
      rintro en w5 ⟨c, rfl, lc, o5⟩
      have lb5 := lb.keep o5 fun _ _ h => h
      have OO := Lib.hid ((((o1.trans o2).trans o3).trans o4).trans o5)
      have SM := same_true (Sl.of_lst lb5) (Sl.of_lst lc)
      clear lb o1 o2 o3 o4 o5
      go_wp2_with fail
      refine SM.mono ?_
      rintro en w6 ⟨rfl, rfl⟩
      go_wp2_with fail
      go_ret
      exact ⟨rfl, done_of OO.out⟩

theorem hex_res {f : Nat} {s : ByteArray} (X : ∀ W, Calls Try.prog f #[.string s] W (HexPost W s.data.toList)) :
    ∀ W, Calls Try.prog f #[.string s] W (HexRes W (if s.data.toList.all isHex ∧ s.data.toList.length % 2 = 0 then unhex s.data.toList else []) (if s.data.toList.all isHex then (if s.data.toList.length % 2 = 0 then 0 else 4) else 3)) := by
  intro W
  refine (X W).mono ?_
  rintro e w' ⟨ho, ⟨h1, h2, v, he, hl⟩ | ⟨h1, h2, he⟩ | ⟨h1, he⟩⟩
  · refine ⟨v, ?_, ?_, ho⟩
    · rw [he, if_pos h1, if_pos h2]
    · rw [if_pos ⟨h1, h2⟩]; exact hl
  · refine ⟨_, ?_, .inl ⟨rfl, ?_⟩, ho⟩
    · rw [he, if_pos h1, if_neg (by omega)]
    · rw [if_neg (by omega)]; rfl
  · refine ⟨_, ?_, .inl ⟨rfl, ?_⟩, ho⟩
    · rw [he, if_neg (by rw [h1]; simp)]
    · rw [if_neg (by rw [h1]; simp)]; rfl

set_option maxRecDepth 100000 in
theorem reads (s : ByteArray) (hs : s.size ≤ maxLen) (w : World) : Calls Try.prog 3 #[.string s] w (Done w) := by
  have A := awake_any w
  unfold maxLen at hs
  by_cases h500 : 500 < s.size
  · go_enter Try.func3, Try.ntmps3
    go_wp2_with fail
    refine A.mono ?_
    rintro e w1 ⟨rfl, o1⟩
    go_wp2_with fail
    go_ret
    exact ⟨rfl, done_of o1⟩
  · have h5 : s.size ≤ 500 := by omega
    have R1 := fun W => read_any s W (by omega)
    have R2 := fun W => read_ref s W (by omega)
    have X1 := hex_res fun W => readHex_any s W (by omega)
    have X2 := hex_res fun W => numG.readHex_ref s W (by omega)
    have hlen : s.data.toList.length = s.size := by simp
    have hu := unhex_len _ s.data.toList (Nat.le_refl _)
    have hg : (if s.data.toList.all isHex then (if s.data.toList.length % 2 = 0 then (0 : Int) else 4) else 3) = 0 →
        (if s.data.toList.all isHex ∧ s.data.toList.length % 2 = 0 then unhex s.data.toList else []).length ≤ 100000000 ∧ hexs (if s.data.toList.all isHex ∧ s.data.toList.length % 2 = 0 then unhex s.data.toList else []) = s.data.toList := by
      intro h
      by_cases h1 : s.data.toList.all isHex = true
      · by_cases h2 : s.data.toList.length % 2 = 0
        · rw [if_pos ⟨h1, h2⟩]
          exact ⟨by omega, hexs_unhex _ _ (Nat.le_refl _) h1 h2⟩
        · rw [if_pos h1, if_neg h2] at h
          omega
      · rw [if_neg h1] at h
        omega
    by_cases n1 : isNum s.data.toList = true
    · by_cases n2 : val s.data.toList ≤ most
      · have hr : rd s.data.toList = .tuple #[.int .u64 (val s.data.toList : Nat), .int .i64 0] := by rw [rd, if_pos n1, if_pos n2]
        rw [hr] at R1 R2
        exact reads_core s w h5 _ _ _ _ R1 R2 X1 X2 (fun _ => ⟨n2, dec_val _ _ rfl n1⟩) hg
      · have hr : rd s.data.toList = .tuple #[.int .u64 (0 : Nat), .int .i64 5] := by rw [rd, if_pos n1, if_neg n2]; rfl
        rw [hr] at R1 R2
        exact reads_core s w h5 _ _ _ _ R1 R2 X1 X2 (fun h => by omega) hg
    · have hr : rd s.data.toList = .tuple #[.int .u64 (0 : Nat), .int .i64 3] := by rw [rd, if_neg n1]; rfl
      rw [hr] at R1 R2
      exact reads_core s w h5 _ _ _ _ R1 R2 X1 X2 (fun h => by omega) hg
end Go.Proofs.Ytcocmabhbahiaaa.numJ
