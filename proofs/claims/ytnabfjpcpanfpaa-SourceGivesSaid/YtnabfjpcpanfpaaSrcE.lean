/- The law SourceGives. -/
import Derived.Test.YtnabfjpcpanfpaaSrcD
import Derived.Test.YtnabfjpcpanfpaaArgs
import Derived.OpenShut
import Derived.Below
namespace Go.Proofs.Ytnabfjpcpanfpaa.srcE
open Go.RowKit Go.Proofs.Ytnabfjpcpanfpaa.kit Go.Proofs.Ytnabfjpcpanfpaa.args Go.Proofs.Ytnabfjpcpanfpaa.numA Go.Proofs.Ytnabfjpcpanfpaa.numB Go.Proofs.Ytnabfjpcpanfpaa.numC Go.Proofs.Ytnabfjpcpanfpaa.srcC Go.Proofs.Ytnabfjpcpanfpaa.srcD
set_option linter.unusedVariables false
set_option linter.unusedSimpArgs false

theorem bounds_u32 {z : Int} (h : (Lit.int .u32 z).wf = true) : 0 ≤ z ∧ z ≤ 4294967295 := by
  simp only [Lit.wf, Bool.and_eq_true, decide_eq_true_eq] at h
  have h1 := h.1
  have h2 := h.2
  have e1 : IntKind.u32.min = 0 := rfl
  have e2 : IntKind.u32.max = 4294967295 := rfl
  omega

theorem secret_top' (B a i s : Nat) (w : World) (e : a = 4294967295) (h : St w B 84 a i s) : Calls Try.prog 30 #[ptr B] w (Did w B 84 a i s (.tuple #[.string ⟨#[]⟩, .int .i64 10])) := by subst e; exact secret_top B i s w h
theorem rsecret_top' (B a i s : Nat) (w : World) (e : a = 4294967295) (h : St w B 56 a i s) : Calls Try.prog 31 #[ptr B] w (Did w B 56 a i s (.tuple #[.string ⟨#[]⟩, .int .i64 10])) := by subst e; exact rsecret_top B i s w h
theorem index_top' (B a i s : Nat) (w : World) (e : i = 4294967295) (h : St w B 84 a i s) : Calls Try.prog 32 #[ptr B] w (Did w B 84 a i s (.tuple #[.int .u32 0, .int .i64 10])) := by subst e; exact index_top B a s w h
theorem rindex_top' (B a i s : Nat) (w : World) (e : i = 4294967295) (h : St w B 56 a i s) : Calls Try.prog 33 #[ptr B] w (Did w B 56 a i s (.tuple #[.int .u32 0, .int .i64 10])) := by subst e; exact rindex_top B a s w h

/-- Both sources hold the same. -/
structure Both (w wr : World) (B C : Nat) (a i s : Nat) : Prop where
  one : St wr B 84 a i s
  two : St wr C 56 a i s
  only : Only (fun _ => False) w wr
  hB : w.heap.size ≤ B
  hC : w.heap.size ≤ C
  ne : B ≠ C

set_option maxRecDepth 100000 in
theorem gives_long (a i : Int) (x : Option Addr) (n cap : Nat) (w : World) (hl : 100 < n) : Calls Try.prog 7 #[.int .u32 a, .int .u32 i, .slice x n cap] w (numA.Told w (.bool true)) := by
  have A := awake_true w
  have t1 : (100 : Int) < (n : Int) := by omega
  go_enter Try.func7, Try.ntmps7
  go_wp2_with fail
  refine A.mono ?_
  rintro e w1 ⟨rfl, o1⟩
  go_wp2_with fail
  go_ret
  exact ⟨rfl, o1⟩

set_option maxRecDepth 100000 in
set_option maxHeartbeats 4000000 in
theorem gives (a0 i0 : Nat) (ad : Option Addr) (len cap : Nat) (w : World) (ha0 : a0 ≤ 4294967295) (hi0 : i0 ≤ 4294967295) (h : Pairs .u8 .i64 w ad len) (hl : len ≤ 100) :
    Calls Try.prog 7 #[.int .u32 a0, .int .u32 i0, .slice ad len cap] w (numA.Told w (.bool true)) := by
  have HA := Lib.hid (awake_true w)
  have t1 : ¬ ((100 : Int) < (len : Int)) := by omega
  have HP := Lib.hid h
  have HL := Lib.hid hl
  have HA0 := Lib.hid ha0
  have HI0 := Lib.hid hi0
  clear h hl ha0 hi0
  go_enter Try.func7, Try.ntmps7
  go_wp2_with fail
  refine HA.out.mono ?_
  rintro e w1 ⟨rfl, o1⟩
  have N := new_any a0 i0 w1
  obtain ⟨B, hB⟩ : ∃ B, B = w1.heap.size := ⟨_, rfl⟩
  rw [← hB] at N
  have HB := Lib.hid (show w.heap.size ≤ B from hB ▸ o1.size)
  have O1 := Lib.hid o1
  clear o1 hB
  go_wp2_with fail
  refine N.mono ?_
  rintro e w2 ⟨rfl, h2, o2⟩
  have R0 : Hid (Both w (w2.alloc (.cells #[.int .u32 a0, .int .u32 i0, .int .u64 0] 56)) B w2.heap.size a0 i0 0) := by
    have o3 := (Only.refl (fun _ => False) w2).alloc (.cells #[.int .u32 a0, .int .u32 i0, .int .u64 0] 56)
    have hlt := lt_of h2
    exact ⟨h2.keep o3 id, heap_alloc_new _ _, (O1.out.trans o2).trans o3, HB.out, (O1.out.trans o2).size, by omega⟩
  clear h2 o2 N
  go_wp2_with fail
  generalize w2.alloc (.cells #[.int .u32 a0, .int .u32 i0, .int .u64 0] 56) = W3 at R0 ⊢
  generalize w2.heap.size = C at R0 ⊢
  go_loopw [9, 10, 11] (fun lv fv iv wr => ∃ (k a i s last : Nat) (first : Bool), k ≤ len ∧ iv = .int .i64 k ∧ lv = .int .u64 last ∧ fv = .bool first ∧ Both w wr B C a i s ∧ a ≤ 4294967295 ∧ i ≤ 4294967295 ∧ s ≤ 1125899906842625 + k ∧ (first = false → last < s)) (fun _ _ iv _ => len - (intOf iv).toNat)
  case atStart => exact ⟨0, a0, i0, 0, 0, true, Nat.zero_le _, rfl, rfl, rfl, R0.out, HA0.out, HI0.out, by omega, fun e => by cases e⟩
  case round =>
    obtain ⟨k, a, i, s, last, first, hk, rfl, rfl, rfl, R, ha, hi, hs, hla⟩ := hrel
    have HR := Lib.hid R
    have HLA := Lib.hid hla
    have Ha := Lib.hid ha
    have Hi := Lib.hid hi
    have Hs := Lib.hid hs
    clear R hla ha hi hs
    by_cases hlt : k < len
    · have k1 : (k : Int) < (len : Int) := by omega
      have hlen := HL.out
      obtain ⟨g, o, rfl, hg, kd, tm, hcell⟩ : ∃ b o, ad = some ⟨b, o, none⟩ ∧ b < w.heap.size ∧ ∃ (k x : Nat → Int), ∀ i, i < len → w.cell? ⟨b, o + i * 2, none⟩ = some (.int .u8 (k i)) ∧ w.cell? ⟨b, o + i * 2 + 1, none⟩ = some (.int .i64 (x i)) ∧ (Lit.int .u8 (k i)).wf = true ∧ (Lit.int .i64 (x i)).wf = true := by
        rcases HP.out.2 with q | q
        · omega
        · exact q
      obtain ⟨c0, c1, -, -⟩ := hcell k hlt
      have HC0 := Lib.hid (fun (W : World) (q : Only (fun _ => False) w W) => (World.cell?_of_block (w := w) (a := ⟨g, o + k * 2, none⟩) (q.block g hg id)).trans c0)
      have HC1 := Lib.hid (fun (W : World) (q : Only (fun _ => False) w W) => (World.cell?_of_block (w := w) (a := ⟨g, o + k * 2 + 1, none⟩) (q.block g hg id)).trans c1)
      generalize kd k = kn at HC0 c0
      generalize tm k = tn at HC1 c1
      clear hcell c0 c1
      have hc0 := HC0.out wr HR.out.only
      have hc1 := HC1.out wr HR.out.only
      by_cases e0 : kn = 0
      · subst e0
        by_cases htop : a = 4294967295
        · have HAb := Ha
          have HXb := Hi
          have HSb : Hid (s ≤ 1125899906842625 + (k + 1)) := Nat.le_trans Hs.out (by omega)
          have S1 := Lib.hid (fun (W : World) (q : St W B 84 a i s) => secret_top' B a i s W htop q)
          have S2 := Lib.hid (fun (W : World) (q : St W C 56 a i s) => rsecret_top' C a i s W htop q)
          clear htop
          go_wp2_with fail
          refine (S1.out _ HR.out.one).mono ?_
          rintro e w3 ⟨rfl, h3, o3⟩
          have H3B := Lib.hid h3
          have H3C := Lib.hid (HR.out.two.keep o3 (fun e => HR.out.ne e.symm))
          have O3 := Lib.hid (Only.own HR.out.only o3 HR.out.hB)
          have hd3 := HC1.out w3 O3.out
          clear h3 o3
          go_wp2_with fail
          refine (S2.out _ H3C.out).mono ?_
          rintro e w4 ⟨rfl, h4, o4⟩
          have H4C := Lib.hid h4
          have H4B := Lib.hid (H3B.out.keep o4 HR.out.ne)
          have O4 := Lib.hid (Only.own O3.out o4 HR.out.hC)
          clear h4 o4
          have L := Lib.hid (left_src B a i s w4 HAb.out HXb.out H4B.out)
          have q1 : IntKind.u32.wrap (4294967295 - (a : Int)) = ((4294967295 - a : Nat) : Int) := by
            have := HAb.out
            have e : (4294967295 : Int) - (a : Int) = ((4294967295 - a : Nat) : Int) := by omega
            rw [e]; exact u32_in _ (by omega)
          have q2 : IntKind.u32.wrap (4294967295 - (i : Int)) = ((4294967295 - i : Nat) : Int) := by
            have := HXb.out
            have e : (4294967295 : Int) - (i : Int) = ((4294967295 - i : Nat) : Int) := by omega
            rw [e]; exact u32_in _ (by omega)
          generalize 4294967295 - a = ra at L q1
          generalize 4294967295 - i = rx at L q2
          go_wp2_with fail
          refine L.out.mono ?_
          rintro e w5 ⟨rfl, o5⟩
          have H5C := Lib.hid (H4C.out.keep o5 id)
          have H5B := Lib.hid (H4B.out.keep o5 id)
          have O5 := Lib.hid (O4.out.trans o5)
          have y0 : w5.cell? ⟨C, 0, none⟩ = some (.int .u32 a) := cell_of H5C.out
          have y1 : w5.cell? ⟨C, 1, none⟩ = some (.int .u32 i) := cell_of H5C.out
          clear o5
          go_wp2_with fail
          go_roundw
          case rel => exact ⟨k + 1, a, i, s, last, first, by omega, by go_num, rfl, rfl, ⟨H5B.out, H5C.out, O5.out, HR.out.hB, HR.out.hC, HR.out.ne⟩, HAb.out, HXb.out, HSb.out, HLA.out⟩
          case measure => simp [intOf]; omega
        · have hlt2 : a < 4294967295 := by have := Ha.out; omega
          obtain ⟨A, hA⟩ : ∃ A, A = a + 1 := ⟨_, rfl⟩
          have HAb : Hid (A ≤ 4294967295) := show A ≤ 4294967295 by omega
          have HXb := Hi
          have HSb : Hid (s ≤ 1125899906842625 + (k + 1)) := Nat.le_trans Hs.out (by omega)
          have S1 := Lib.hid (fun (W : World) (q : St W B 84 a i s) => secret_ok B a i s W hlt2 q)
          have S2 := Lib.hid (fun (W : World) (q : St W C 56 a i s) => rsecret_ok C a i s W hlt2 q)
          rw [← hA] at S1 S2
          unfold secret at S1 S2
          generalize (ByteArray.mk (97 :: dec a).toArray) = sv at S1 S2
          clear hA hlt2 htop
          go_wp2_with fail
          refine (S1.out _ HR.out.one).mono ?_
          rintro e w3 ⟨rfl, h3, o3⟩
          have H3B := Lib.hid h3
          have H3C := Lib.hid (HR.out.two.keep o3 (fun e => HR.out.ne e.symm))
          have O3 := Lib.hid (Only.own HR.out.only o3 HR.out.hB)
          have hd3 := HC1.out w3 O3.out
          clear h3 o3
          go_wp2_with fail
          refine (S2.out _ H3C.out).mono ?_
          rintro e w4 ⟨rfl, h4, o4⟩
          have H4C := Lib.hid h4
          have H4B := Lib.hid (H3B.out.keep o4 HR.out.ne)
          have O4 := Lib.hid (Only.own O3.out o4 HR.out.hC)
          clear h4 o4
          have L := Lib.hid (left_src B A i s w4 HAb.out HXb.out H4B.out)
          have q1 : IntKind.u32.wrap (4294967295 - (A : Int)) = ((4294967295 - A : Nat) : Int) := by
            have := HAb.out
            have e : (4294967295 : Int) - (A : Int) = ((4294967295 - A : Nat) : Int) := by omega
            rw [e]; exact u32_in _ (by omega)
          have q2 : IntKind.u32.wrap (4294967295 - (i : Int)) = ((4294967295 - i : Nat) : Int) := by
            have := HXb.out
            have e : (4294967295 : Int) - (i : Int) = ((4294967295 - i : Nat) : Int) := by omega
            rw [e]; exact u32_in _ (by omega)
          generalize 4294967295 - A = ra at L q1
          generalize 4294967295 - i = rx at L q2
          go_wp2_with fail
          refine L.out.mono ?_
          rintro e w5 ⟨rfl, o5⟩
          have H5C := Lib.hid (H4C.out.keep o5 id)
          have H5B := Lib.hid (H4B.out.keep o5 id)
          have O5 := Lib.hid (O4.out.trans o5)
          have y0 : w5.cell? ⟨C, 0, none⟩ = some (.int .u32 A) := cell_of H5C.out
          have y1 : w5.cell? ⟨C, 1, none⟩ = some (.int .u32 i) := cell_of H5C.out
          clear o5
          go_wp2_with fail
          go_roundw
          case rel => exact ⟨k + 1, A, i, s, last, first, by omega, by go_num, rfl, rfl, ⟨H5B.out, H5C.out, O5.out, HR.out.hB, HR.out.hC, HR.out.ne⟩, HAb.out, HXb.out, HSb.out, HLA.out⟩
          case measure => simp [intOf]; omega
      · have n0 : (kn == 0) = false := by rw [beq_eq_false_iff_ne]; exact e0
        by_cases e1 : kn = 1
        · subst e1
          by_cases htop : i = 4294967295
          · have HAb := Ha
            have HXb := Hi
            have HSb : Hid (s ≤ 1125899906842625 + (k + 1)) := Nat.le_trans Hs.out (by omega)
            have S1 := Lib.hid (fun (W : World) (q : St W B 84 a i s) => index_top' B a i s W htop q)
            have S2 := Lib.hid (fun (W : World) (q : St W C 56 a i s) => rindex_top' C a i s W htop q)
            clear htop
            go_wp2_with fail
            refine (S1.out _ HR.out.one).mono ?_
            rintro e w3 ⟨rfl, h3, o3⟩
            have H3B := Lib.hid h3
            have H3C := Lib.hid (HR.out.two.keep o3 (fun e => HR.out.ne e.symm))
            have O3 := Lib.hid (Only.own HR.out.only o3 HR.out.hB)
            have hd3 := HC1.out w3 O3.out
            clear h3 o3
            go_wp2_with fail
            refine (S2.out _ H3C.out).mono ?_
            rintro e w4 ⟨rfl, h4, o4⟩
            have H4C := Lib.hid h4
            have H4B := Lib.hid (H3B.out.keep o4 HR.out.ne)
            have O4 := Lib.hid (Only.own O3.out o4 HR.out.hC)
            clear h4 o4
            have L := Lib.hid (left_src B a i s w4 HAb.out HXb.out H4B.out)
            have q1 : IntKind.u32.wrap (4294967295 - (a : Int)) = ((4294967295 - a : Nat) : Int) := by
              have := HAb.out
              have e : (4294967295 : Int) - (a : Int) = ((4294967295 - a : Nat) : Int) := by omega
              rw [e]; exact u32_in _ (by omega)
            have q2 : IntKind.u32.wrap (4294967295 - (i : Int)) = ((4294967295 - i : Nat) : Int) := by
              have := HXb.out
              have e : (4294967295 : Int) - (i : Int) = ((4294967295 - i : Nat) : Int) := by omega
              rw [e]; exact u32_in _ (by omega)
            generalize 4294967295 - a = ra at L q1
            generalize 4294967295 - i = rx at L q2
            go_wp2_with fail
            refine L.out.mono ?_
            rintro e w5 ⟨rfl, o5⟩
            have H5C := Lib.hid (H4C.out.keep o5 id)
            have H5B := Lib.hid (H4B.out.keep o5 id)
            have O5 := Lib.hid (O4.out.trans o5)
            have y0 : w5.cell? ⟨C, 0, none⟩ = some (.int .u32 a) := cell_of H5C.out
            have y1 : w5.cell? ⟨C, 1, none⟩ = some (.int .u32 i) := cell_of H5C.out
            clear o5
            go_wp2_with fail
            go_roundw
            case rel => exact ⟨k + 1, a, i, s, last, first, by omega, by go_num, rfl, rfl, ⟨H5B.out, H5C.out, O5.out, HR.out.hB, HR.out.hC, HR.out.ne⟩, HAb.out, HXb.out, HSb.out, HLA.out⟩
            case measure => simp [intOf]; omega
          · have hlt2 : i < 4294967295 := by have := Hi.out; omega
            obtain ⟨X, hX⟩ : ∃ X, X = i + 1 := ⟨_, rfl⟩
            have HXb : Hid (X ≤ 4294967295) := show X ≤ 4294967295 by omega
            have HAb := Ha
            have HSb : Hid (s ≤ 1125899906842625 + (k + 1)) := Nat.le_trans Hs.out (by omega)
            have S1 := Lib.hid (fun (W : World) (q : St W B 84 a i s) => index_ok B a i s W hlt2 q)
            have S2 := Lib.hid (fun (W : World) (q : St W C 56 a i s) => rindex_ok C a i s W hlt2 q)
            rw [← hX] at S1 S2
            clear hX hlt2 htop
            go_wp2_with fail
            refine (S1.out _ HR.out.one).mono ?_
            rintro e w3 ⟨rfl, h3, o3⟩
            have H3B := Lib.hid h3
            have H3C := Lib.hid (HR.out.two.keep o3 (fun e => HR.out.ne e.symm))
            have O3 := Lib.hid (Only.own HR.out.only o3 HR.out.hB)
            have hd3 := HC1.out w3 O3.out
            clear h3 o3
            go_wp2_with fail
            refine (S2.out _ H3C.out).mono ?_
            rintro e w4 ⟨rfl, h4, o4⟩
            have H4C := Lib.hid h4
            have H4B := Lib.hid (H3B.out.keep o4 HR.out.ne)
            have O4 := Lib.hid (Only.own O3.out o4 HR.out.hC)
            clear h4 o4
            have L := Lib.hid (left_src B a X s w4 HAb.out HXb.out H4B.out)
            have q1 : IntKind.u32.wrap (4294967295 - (a : Int)) = ((4294967295 - a : Nat) : Int) := by
              have := HAb.out
              have e : (4294967295 : Int) - (a : Int) = ((4294967295 - a : Nat) : Int) := by omega
              rw [e]; exact u32_in _ (by omega)
            have q2 : IntKind.u32.wrap (4294967295 - (X : Int)) = ((4294967295 - X : Nat) : Int) := by
              have := HXb.out
              have e : (4294967295 : Int) - (X : Int) = ((4294967295 - X : Nat) : Int) := by omega
              rw [e]; exact u32_in _ (by omega)
            generalize 4294967295 - a = ra at L q1
            generalize 4294967295 - X = rx at L q2
            go_wp2_with fail
            refine L.out.mono ?_
            rintro e w5 ⟨rfl, o5⟩
            have H5C := Lib.hid (H4C.out.keep o5 id)
            have H5B := Lib.hid (H4B.out.keep o5 id)
            have O5 := Lib.hid (O4.out.trans o5)
            have y0 : w5.cell? ⟨C, 0, none⟩ = some (.int .u32 a) := cell_of H5C.out
            have y1 : w5.cell? ⟨C, 1, none⟩ = some (.int .u32 X) := cell_of H5C.out
            clear o5
            go_wp2_with fail
            go_roundw
            case rel => exact ⟨k + 1, a, X, s, last, first, by omega, by go_num, rfl, rfl, ⟨H5B.out, H5C.out, O5.out, HR.out.hB, HR.out.hC, HR.out.ne⟩, HAb.out, HXb.out, HSb.out, HLA.out⟩
            case measure => simp [intOf]; omega
        · have n1 : (kn == 1) = false := by rw [beq_eq_false_iff_ne]; exact e1
          by_cases e2 : kn = 2
          · subst e2
            by_cases hbad : tn < 0 ∨ 1125899906842624 < tn
            · have HAb := Ha
              have HXb := Hi
              have HSb : Hid (s ≤ 1125899906842625 + (k + 1)) := Nat.le_trans Hs.out (by omega)
              have S1 := Lib.hid (fun (W : World) (q : St W B 84 a i s) => stamp_bad B a i s tn W hbad q)
              have S2 := Lib.hid (fun (W : World) (q : St W C 56 a i s) => rstamp_bad C a i s tn W hbad q)
              clear hbad
              go_wp2_with fail
              refine (S1.out _ HR.out.one).mono ?_
              rintro e w3 ⟨rfl, h3, o3⟩
              have H3B := Lib.hid h3
              have H3C := Lib.hid (HR.out.two.keep o3 (fun e => HR.out.ne e.symm))
              have O3 := Lib.hid (Only.own HR.out.only o3 HR.out.hB)
              have hd3 := HC1.out w3 O3.out
              clear h3 o3
              go_wp2_with fail
              refine (S2.out _ H3C.out).mono ?_
              rintro e w4 ⟨rfl, h4, o4⟩
              have H4C := Lib.hid h4
              have H4B := Lib.hid (H3B.out.keep o4 HR.out.ne)
              have O4 := Lib.hid (Only.own O3.out o4 HR.out.hC)
              clear h4 o4
              have L := Lib.hid (left_src B a i s w4 HAb.out HXb.out H4B.out)
              have q1 : IntKind.u32.wrap (4294967295 - (a : Int)) = ((4294967295 - a : Nat) : Int) := by
                have := HAb.out
                have e : (4294967295 : Int) - (a : Int) = ((4294967295 - a : Nat) : Int) := by omega
                rw [e]; exact u32_in _ (by omega)
              have q2 : IntKind.u32.wrap (4294967295 - (i : Int)) = ((4294967295 - i : Nat) : Int) := by
                have := HXb.out
                have e : (4294967295 : Int) - (i : Int) = ((4294967295 - i : Nat) : Int) := by omega
                rw [e]; exact u32_in _ (by omega)
              generalize 4294967295 - a = ra at L q1
              generalize 4294967295 - i = rx at L q2
              go_wp2_with fail
              refine L.out.mono ?_
              rintro e w5 ⟨rfl, o5⟩
              have H5C := Lib.hid (H4C.out.keep o5 id)
              have H5B := Lib.hid (H4B.out.keep o5 id)
              have O5 := Lib.hid (O4.out.trans o5)
              have y0 : w5.cell? ⟨C, 0, none⟩ = some (.int .u32 a) := cell_of H5C.out
              have y1 : w5.cell? ⟨C, 1, none⟩ = some (.int .u32 i) := cell_of H5C.out
              clear o5
              go_wp2_with fail
              go_roundw
              case rel => exact ⟨k + 1, a, i, s, last, first, by omega, by go_num, rfl, rfl, ⟨H5B.out, H5C.out, O5.out, HR.out.hB, HR.out.hC, HR.out.ne⟩, HAb.out, HXb.out, HSb.out, HLA.out⟩
              case measure => simp [intOf]; omega
            · obtain ⟨now, rfl⟩ : ∃ n : Nat, tn = (n : Int) := ⟨tn.toNat, by omega⟩
              have hnow : now ≤ 1125899906842624 := by omega
              have hsm : s ≤ 9223372036854775807 := by have := Hs.out; omega
              obtain ⟨u, hu⟩ : ∃ u, u = max s now := ⟨_, rfl⟩
              obtain ⟨S, hS⟩ : ∃ S, S = u + 1 := ⟨_, rfl⟩
              have HAb := Ha
              have HXb := Hi
              have HSb : Hid (S ≤ 1125899906842625 + (k + 1)) := by have := Hs.out; exact (by omega : S ≤ 1125899906842625 + (k + 1))
              have HUS : Hid (u < S) := show u < S by omega
              have hup : first = false → last < u := fun e => by have := HLA.out e; omega
              cases first with
              | true =>
                have S1 := Lib.hid (fun (W : World) (q : St W B 84 a i s) => stamp_ok B a i s now W hnow hsm q)
                have S2 := Lib.hid (fun (W : World) (q : St W C 56 a i s) => rstamp_ok C a i s now W hnow hsm q)
                rw [← hu, ← hS] at S1 S2
                clear hu hS hnow hsm hbad hup
                go_wp2_with fail
                refine (S1.out _ HR.out.one).mono ?_
                rintro e w3 ⟨rfl, h3, o3⟩
                have H3B := Lib.hid h3
                have H3C := Lib.hid (HR.out.two.keep o3 (fun e => HR.out.ne e.symm))
                have O3 := Lib.hid (Only.own HR.out.only o3 HR.out.hB)
                have hd3 := HC1.out w3 O3.out
                clear h3 o3
                go_wp2_with fail
                refine (S2.out _ H3C.out).mono ?_
                rintro e w4 ⟨rfl, h4, o4⟩
                have H4C := Lib.hid h4
                have H4B := Lib.hid (H3B.out.keep o4 HR.out.ne)
                have O4 := Lib.hid (Only.own O3.out o4 HR.out.hC)
                clear h4 o4
                have L := Lib.hid (left_src B a i S w4 HAb.out HXb.out H4B.out)
                have q1 : IntKind.u32.wrap (4294967295 - (a : Int)) = ((4294967295 - a : Nat) : Int) := by
                  have := HAb.out
                  have e : (4294967295 : Int) - (a : Int) = ((4294967295 - a : Nat) : Int) := by omega
                  rw [e]; exact u32_in _ (by omega)
                have q2 : IntKind.u32.wrap (4294967295 - (i : Int)) = ((4294967295 - i : Nat) : Int) := by
                  have := HXb.out
                  have e : (4294967295 : Int) - (i : Int) = ((4294967295 - i : Nat) : Int) := by omega
                  rw [e]; exact u32_in _ (by omega)
                generalize 4294967295 - a = ra at L q1
                generalize 4294967295 - i = rx at L q2
                go_wp2_with fail
                refine L.out.mono ?_
                rintro e w5 ⟨rfl, o5⟩
                have H5C := Lib.hid (H4C.out.keep o5 id)
                have H5B := Lib.hid (H4B.out.keep o5 id)
                have O5 := Lib.hid (O4.out.trans o5)
                have y0 : w5.cell? ⟨C, 0, none⟩ = some (.int .u32 a) := cell_of H5C.out
                have y1 : w5.cell? ⟨C, 1, none⟩ = some (.int .u32 i) := cell_of H5C.out
                clear o5
                go_wp2_with fail
                go_roundw
                case rel => exact ⟨k + 1, a, i, S, u, false, by omega, by go_num, rfl, rfl, ⟨H5B.out, H5C.out, O5.out, HR.out.hB, HR.out.hC, HR.out.ne⟩, HAb.out, HXb.out, HSb.out, fun _ => HUS.out⟩
                case measure => simp [intOf]; omega
              | false =>
                have hup2 := hup rfl
                have b5 : ((u : Int) ≤ (last : Int)) = False := eq_false (by omega)
                have S1 := Lib.hid (fun (W : World) (q : St W B 84 a i s) => stamp_ok B a i s now W hnow hsm q)
                have S2 := Lib.hid (fun (W : World) (q : St W C 56 a i s) => rstamp_ok C a i s now W hnow hsm q)
                rw [← hu, ← hS] at S1 S2
                clear hu hS hnow hsm hbad hup hup2
                go_wp2_with fail
                refine (S1.out _ HR.out.one).mono ?_
                rintro e w3 ⟨rfl, h3, o3⟩
                have H3B := Lib.hid h3
                have H3C := Lib.hid (HR.out.two.keep o3 (fun e => HR.out.ne e.symm))
                have O3 := Lib.hid (Only.own HR.out.only o3 HR.out.hB)
                have hd3 := HC1.out w3 O3.out
                clear h3 o3
                go_wp2_with fail
                refine (S2.out _ H3C.out).mono ?_
                rintro e w4 ⟨rfl, h4, o4⟩
                have H4C := Lib.hid h4
                have H4B := Lib.hid (H3B.out.keep o4 HR.out.ne)
                have O4 := Lib.hid (Only.own O3.out o4 HR.out.hC)
                clear h4 o4
                have L := Lib.hid (left_src B a i S w4 HAb.out HXb.out H4B.out)
                have q1 : IntKind.u32.wrap (4294967295 - (a : Int)) = ((4294967295 - a : Nat) : Int) := by
                  have := HAb.out
                  have e : (4294967295 : Int) - (a : Int) = ((4294967295 - a : Nat) : Int) := by omega
                  rw [e]; exact u32_in _ (by omega)
                have q2 : IntKind.u32.wrap (4294967295 - (i : Int)) = ((4294967295 - i : Nat) : Int) := by
                  have := HXb.out
                  have e : (4294967295 : Int) - (i : Int) = ((4294967295 - i : Nat) : Int) := by omega
                  rw [e]; exact u32_in _ (by omega)
                generalize 4294967295 - a = ra at L q1
                generalize 4294967295 - i = rx at L q2
                go_wp2_with fail
                refine L.out.mono ?_
                rintro e w5 ⟨rfl, o5⟩
                have H5C := Lib.hid (H4C.out.keep o5 id)
                have H5B := Lib.hid (H4B.out.keep o5 id)
                have O5 := Lib.hid (O4.out.trans o5)
                have y0 : w5.cell? ⟨C, 0, none⟩ = some (.int .u32 a) := cell_of H5C.out
                have y1 : w5.cell? ⟨C, 1, none⟩ = some (.int .u32 i) := cell_of H5C.out
                clear o5
                go_wp2_with fail
                go_roundw
                case rel => exact ⟨k + 1, a, i, S, u, false, by omega, by go_num, rfl, rfl, ⟨H5B.out, H5C.out, O5.out, HR.out.hB, HR.out.hC, HR.out.ne⟩, HAb.out, HXb.out, HSb.out, fun _ => HUS.out⟩
                case measure => simp [intOf]; omega
          · have n2 : (kn == 2) = false := by rw [beq_eq_false_iff_ne]; exact e2
            have HAb := Ha
            have HXb := Hi
            have HSb : Hid (s ≤ 1125899906842625 + (k + 1)) := Nat.le_trans Hs.out (by omega)
            have L := Lib.hid (left_src B a i s wr HAb.out HXb.out HR.out.one)
            have q1 : IntKind.u32.wrap (4294967295 - (a : Int)) = ((4294967295 - a : Nat) : Int) := by
              have := HAb.out
              have e : (4294967295 : Int) - (a : Int) = ((4294967295 - a : Nat) : Int) := by omega
              rw [e]; exact u32_in _ (by omega)
            have q2 : IntKind.u32.wrap (4294967295 - (i : Int)) = ((4294967295 - i : Nat) : Int) := by
              have := HXb.out
              have e : (4294967295 : Int) - (i : Int) = ((4294967295 - i : Nat) : Int) := by omega
              rw [e]; exact u32_in _ (by omega)
            generalize 4294967295 - a = ra at L q1
            generalize 4294967295 - i = rx at L q2
            go_wp2_with fail
            refine L.out.mono ?_
            rintro e w5 ⟨rfl, o5⟩
            have H5C := Lib.hid (HR.out.two.keep o5 id)
            have H5B := Lib.hid (HR.out.one.keep o5 id)
            have O5 := Lib.hid (HR.out.only.trans o5)
            have y0 : w5.cell? ⟨C, 0, none⟩ = some (.int .u32 a) := cell_of H5C.out
            have y1 : w5.cell? ⟨C, 1, none⟩ = some (.int .u32 i) := cell_of H5C.out
            clear o5
            go_wp2_with fail
            go_roundw
            case rel => exact ⟨k + 1, a, i, s, last, first, by omega, by go_num, rfl, rfl, ⟨H5B.out, H5C.out, O5.out, HR.out.hB, HR.out.hC, HR.out.ne⟩, HAb.out, HXb.out, HSb.out, HLA.out⟩
            case measure => simp [intOf]; omega
    · obtain rfl : k = len := by omega
      go_wp2_with fail
      go_ret
      exact ⟨rfl, HR.out.only⟩

variable {w : World}

theorem gives_walk (a : Int) (ha : (Lit.int IntKind.u32 a).wf = true) (i : Int) (hi : (Lit.int IntKind.u32 i).wf = true) (x : Option Addr) (len cap : Nat) (h : Pairs .u8 .i64 w x len) :
    Calls Try.prog 7 #[.int .u32 a, .int .u32 i, .slice x len cap] w fun e W' => e = .returned (.bool true) ∧ Below w.heap.size w W' := by
  have b1 := bounds_u32 ha
  have b2 := bounds_u32 hi
  have K : Calls Try.prog 7 #[.int .u32 a, .int .u32 i, .slice x len cap] w (numA.Told w (.bool true)) := by
    by_cases hl : 100 < len
    · exact gives_long a i x len cap w hl
    · obtain ⟨a, rfl⟩ : ∃ n : Nat, a = (n : Int) := ⟨a.toNat, by omega⟩
      obtain ⟨i, rfl⟩ : ∃ n : Nat, i = (n : Int) := ⟨i.toNat, by omega⟩
      exact gives a i x len cap w (by omega) (by omega) h (by omega)
  exact K.mono fun e W' q => ⟨q.1, q.2.below (fun _ h => h.elim) (Nat.le_refl _)⟩
end Go.Proofs.Ytnabfjpcpanfpaa.srcE
