/- The chapter's example, and the document's Read, whole. -/
import Derived.Test.YtcocmabhbahiaaaPacI
import Derived.Test.YtcocmabhbahiaaaPacF
namespace Go.Proofs.Ytcocmabhbahiaaa.pacJ
open Go.RowKit Go.Lib Go.Proofs.Ytcocmabhbahiaaa.kit Go.Proofs.Ytcocmabhbahiaaa.numA Go.Proofs.Ytcocmabhbahiaaa.numF Go.Proofs.Ytcocmabhbahiaaa.numG Go.Proofs.Ytcocmabhbahiaaa.pacA Go.Proofs.Ytcocmabhbahiaaa.pacD Go.Proofs.Ytcocmabhbahiaaa.pacE Go.Proofs.Ytcocmabhbahiaaa.pacF Go.Proofs.Ytcocmabhbahiaaa.pacG Go.Proofs.Ytcocmabhbahiaaa.pacI
set_option linter.unusedVariables false
set_option linter.unusedSimpArgs false

theorem ref_bad (x : Value) (l : List UInt8) (w : World) (h : By w x l) (c : Int) (hc : c ≠ 0) (hk : lk l = .tuple #[form 0 0 0 0 0 0, .int .i64 c]) : Calls Try.prog 28 #[x] w (numA.Told w (No c)) := by
  have inj : ∀ a : Int, lk l = .tuple #[form 0 0 0 0 0 0, .int .i64 a] → a = c := by
    intro a ha
    rw [hk] at ha
    simpa using ha.symm
  have inj2 : ∀ a b d e f g : Int, lk l ≠ .tuple #[form a b d e f g, .int .i64 0] := by
    intro a b d e f g ha
    rw [hk] at ha
    simp at ha
    exact hc ha.2
  by_cases h0 : l = []
  · obtain rfl := inj 4 (by rw [lk, if_pos h0])
    subst h0
    exact ref_empty x w h
  have hl := List.length_pos_iff.2 h0
  by_cases q4 : bt l 0 / 16 = 4
  · have E : lk l = lk4 l := by rw [lk, if_neg h0, if_pos q4]
    rw [E, lk4] at inj
    rw [E, lk4] at inj2
    by_cases a1 : l.length < 20
    · obtain rfl := inj 4 (by rw [if_pos a1])
      exact ref4_short x l w h hl q4 a1
    rw [if_neg a1] at inj inj2
    by_cases a2 : 4 * (bt l 0 % 16) < 20
    · obtain rfl := inj 3 (by rw [if_pos (.inl a2)])
      exact ref4_form1 x l w h q4 (by omega) a2
    by_cases a3 : 256 * bt l 2 + bt l 3 < 4 * (bt l 0 % 16)
    · obtain rfl := inj 3 (by rw [if_pos (.inr a3)])
      exact ref4_form2 x l w h q4 (by omega) a2 a3
    rw [if_neg (by omega)] at inj inj2
    by_cases a4 : l.length < 256 * bt l 2 + bt l 3
    · obtain rfl := inj 4 (by rw [if_pos a4])
      by_cases a5 : l.length < 4 * (bt l 0 % 16)
      · exact ref4_long1 x l w h q4 (by omega) a2 a3 a5
      · exact ref4_long2 x l w h q4 (by omega) a2 a3 a5 a4
    · rw [if_neg a4] at inj2
      exact absurd rfl (inj2 _ _ _ _ _ _)
  · by_cases q6 : bt l 0 / 16 = 6
    · have E : lk l = lk6 l := by rw [lk, if_neg h0, if_neg q4, if_pos q6]
      rw [E, lk6] at inj
      rw [E, lk6] at inj2
      by_cases a1 : l.length < 40
      · obtain rfl := inj 4 (by rw [if_pos a1])
        exact ref6_short x l w h hl q6 a1
      rw [if_neg a1] at inj inj2
      by_cases a3 : l.length < 40 + (256 * bt l 4 + bt l 5)
      · obtain rfl := inj 4 (by rw [if_pos a3])
        exact ref6_long x l w h q6 (by omega) a3
      · rw [if_neg a3] at inj2
        exact absurd rfl (inj2 _ _ _ _ _ _)
    · obtain rfl := inj 3 (by rw [lk, if_neg h0, if_neg q4, if_neg q6])
      exact ref_form x l w h hl q4 q6

theorem ref_ok (x : Value) (l : List UInt8) (w : World) (h : By w x l) (v b wh s d z : Nat) (P : Pk l v b wh s d z) : Calls Try.prog 28 #[x] w (RefHead w v wh ((l.take (s + z)).drop s) ((l.take (d + z)).drop d) b) := by
  have b1 := P.b1
  have w1 := P.w1
  have s1 := P.s1
  rcases P.ver with ⟨rfl, q, hl, rfl, rfl, rfl, rfl⟩ | ⟨rfl, q, hl, rfl, rfl, rfl, rfl⟩
  · have d1 := P.d1
    subst s1
    exact ref4_ok x l w h q hl (by omega) (by omega) (by omega) (by omega)
  · subst s1
    exact ref6_ok x l w h q hl (by omega)

theorem by_block {W : World} {G n : Nat} {c : Array Value} (l : List UInt8) (hg : W.heap[G]? = some (.cells c 5 (0, 0))) (hc : c = (U8 l).toArray) (hn : l.length = n) (hm : n ≤ maxLen) : By W (.slice (some ⟨G, 0, none⟩) n n) l := by
  subst hc
  exact by_row hg hn hm

set_option maxRecDepth 100000 in
theorem awake_true (w : World) : Calls Try.prog 24 #[] w (numA.Told w (.bool true)) := by
  have O0 : Only (fun _ => False) w (((w.alloc (.cells #[.int .u8 10, .int .u8 0, .int .u8 0, .int .u8 1] 5)).alloc (.cells #[.int .u8 10, .int .u8 0, .int .u8 0, .int .u8 2] 5)).alloc (.cells #[.int .u8 7] 5)) := (((Only.refl _ w).alloc _).alloc _).alloc _
  have B1 : By (((w.alloc (.cells #[.int .u8 10, .int .u8 0, .int .u8 0, .int .u8 1] 5)).alloc (.cells #[.int .u8 10, .int .u8 0, .int .u8 0, .int .u8 2] 5)).alloc (.cells #[.int .u8 7] 5)) (.slice (some ⟨w.heap.size, 0, none⟩) 4 4) [10, 0, 0, 1] :=
    ((by_block [10, 0, 0, 1] (heap_alloc_new w _) rfl rfl (by unfold maxLen; decide)).keep ((Only.refl _ _).alloc _)).keep ((Only.refl _ _).alloc _)
  have B2 : By (((w.alloc (.cells #[.int .u8 10, .int .u8 0, .int .u8 0, .int .u8 1] 5)).alloc (.cells #[.int .u8 10, .int .u8 0, .int .u8 0, .int .u8 2] 5)).alloc (.cells #[.int .u8 7] 5)) (.slice (some ⟨w.heap.size + 1, 0, none⟩) 4 4) [10, 0, 0, 2] := by
    have := (by_block [10, 0, 0, 2] (heap_alloc_new (w.alloc (.cells #[.int .u8 10, .int .u8 0, .int .u8 0, .int .u8 1] 5)) (.cells #[.int .u8 10, .int .u8 0, .int .u8 0, .int .u8 2] 5)) rfl rfl (by unfold maxLen; decide)).keep ((Only.refl _ _).alloc (.cells #[.int .u8 7] 5))
    simpa using this
  have B3 : By (((w.alloc (.cells #[.int .u8 10, .int .u8 0, .int .u8 0, .int .u8 1] 5)).alloc (.cells #[.int .u8 10, .int .u8 0, .int .u8 0, .int .u8 2] 5)).alloc (.cells #[.int .u8 7] 5)) (.slice (some ⟨w.heap.size + 1 + 1, 0, none⟩) 1 1) [7] := by
    have := (by_block [7] (heap_alloc_new ((w.alloc (.cells #[.int .u8 10, .int .u8 0, .int .u8 0, .int .u8 1] 5)).alloc (.cells #[.int .u8 10, .int .u8 0, .int .u8 0, .int .u8 2] 5)) (.cells #[.int .u8 7] 5)) rfl rfl (by unfold maxLen; decide))
    simpa using this
  have M := make4 _ _ _ _ _ _ _ B1 B2 B3 rfl rfl (by decide)
  have HM := Lib.hid M
  have HO := Lib.hid O0
  clear M O0 B1 B2 B3
  go_enter Try.func24, Try.ntmps24
  go_wp2_with fail
  refine HM.out.mono ?_
  rintro e w3 ⟨r, rfl, hr, o3⟩
  obtain ⟨g, o, cap, rfl, hc, hm, hg, hcell⟩ := hr.some (by decide)
  have c3 : w3.cell? ⟨g, o + 3, none⟩ = some (.int .u8 21) := hcell 3 (by decide)
  have HO3 := Lib.hid (HO.out.trans o3)
  have hlen : ([69, 0, UInt8.ofNat ((20 + [(7 : UInt8)].length) / 256), UInt8.ofNat ((20 + [(7 : UInt8)].length) % 256), 0, 0, 0, 0, 0, 0, 0, 0] ++ [10, 0, 0, 1] ++ [10, 0, 0, 2] ++ [7] : List UInt8).length = 21 := rfl
  rw [hlen]
  clear hcell hr o3 hc hm hlen
  go_wp2_with fail
  go_ret
  exact ⟨rfl, HO3.out⟩
end Go.Proofs.Ytcocmabhbahiaaa.pacJ
