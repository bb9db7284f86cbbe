/- Term: the program's Bytes. -/
import Derived.Test.YtbjnejnjlidiaaaPrQ
import Derived.Test.YtbjnejnjlidiaaaNumFb
namespace Go.Proofs.Ytbjnejnjlidiaaa.prRb
open Go.RowKit kit numA numB numC numD numE numF numG tmA tmB tmC srcA trA trB trD trE trJ prA prQ prR
set_option linter.unusedVariables false
set_option linter.unusedSimpArgs false

def Bts (w : World) (t : Txt) (e : Ending) (w' : World) : Prop := Only (fun _ => False) w w' ∧ ∃ v, e = .returned (.tuple #[v, .bool ((ndOf t).k == 4)]) ∧ Sl w' (fun k => w.heap.size ≤ k) v (U8 (ndOf t).b)

theorem nd_b (t : Txt) (h : (ndOf t).k ≠ 4) : (ndOf t).b = [] := by
  unfold ndOf at h ⊢
  cases hr : rdT t with
  | none => rfl
  | some d =>
    rw [hr] at h
    obtain ⟨hT, _⟩ := rdT_iff.1 hr
    simp only [Option.getD_some] at h ⊢
    cases hT with
    | data b => exact absurd rfl h
    | _ => rfl

theorem nd_data (t : Txt) (h : (ndOf t).k = 4) : t = 120 :: hexs (ndOf t).b := by
  unfold ndOf at h ⊢
  cases hr : rdT t with
  | none => rw [hr] at h; cases h
  | some d =>
    rw [hr] at h
    obtain ⟨hT, _⟩ := rdT_iff.1 hr
    simp only [Option.getD_some] at h ⊢
    cases hT with
    | data b => rfl
    | node k n ps h5 => simp only at h; omega
    | _ => cases h

theorem bytes_any (s : ByteArray) (w : World) (hm : s.size ≤ 100000000) : Calls Try.prog 25 #[.string s] w (Bts w s.data.toList) := by
  have KA := Lib.hid (kind_any s w hm)
  obtain ⟨k, hk⟩ : ∃ k, k = (ndOf s.data.toList).k := ⟨_, rfl⟩
  have HK := Lib.hid hk
  rw [← hk] at KA
  by_cases h4 : k = 4
  · have hd := nd_data s.data.toList (by rw [← hk]; exact h4)
    obtain ⟨b, hb⟩ : ∃ b, b = (ndOf s.data.toList).b := ⟨_, rfl⟩
    rw [← hb] at hd
    have HB := Lib.hid hb
    have hsz : s.size = (hexs b).length + 1 := by rw [← tl_size, hd]; simp
    have hx : (s.extract 1 s.size).data.toList = hexs b := by
      rw [show (s.extract 1 s.size).data.toList = (s.data.toList.drop 1).take (s.size - 1) by simp [ByteArray.data_extract], hd, List.drop_succ_cons, List.drop_zero]
      exact List.take_of_length_le (by omega)
    have RH := Lib.hid (fun W => readHex_any (s.extract 1 s.size) W (by simp; omega))
    rw [hx] at RH
    have HE := Lib.hid (And.intro (hexs_all b) (And.intro (show (hexs b).length % 2 = 0 by rw [hexs_len]; omega) (unhex_hexs b)))
    have c4 : ((k : Int) != 4) = false := by rw [bne_eq_false_iff_eq]; omega
    have s1 : (1 : Int) ≤ (s.size : Int) := by omega
    have H4 := Lib.hid h4
    clear hk hb hd hx hm h4 hsz
    go_enter Try.func25, Try.ntmps25
    go_wp2_with fail
    (with_reducible refine KA.out.mono ?_)
    rintro e w2 ⟨rfl, o⟩
    have O := Lib.hid o
    clear o
    go_wp2_with fail
    (with_reducible refine (RH.out _).mono ?_)
    rintro e w3 ⟨o, hr⟩
    obtain ⟨hex, ev, une⟩ := HE.out
    rw [hex, une] at hr
    rcases hr with ⟨-, -, v, rfl, hl⟩ | ⟨-, q, -⟩ | ⟨q, -⟩
    · have O3 := Lib.hid (O.out.trans o)
      have SL := Lib.hid ((Sl.of_lst hl).mono (T := fun j => w.heap.size ≤ j) fun j hj => by have := O.out.size; omega)
      clear o hl hex ev une
      go_wp2_with fail
      go_ret2
      exact ⟨O3.out, _, by rw [← HK.out, H4.out]; rfl, by rw [← HB.out]; exact SL.out⟩
    · omega
    · cases q
  · have c4 : ((k : Int) != 4) = true := by rw [bne_iff_ne]; omega
    have HB := Lib.hid (nd_b s.data.toList (by rw [← hk]; exact h4))
    have H4 := Lib.hid h4
    clear hk hm h4
    go_enter Try.func25, Try.ntmps25
    go_wp2_with fail
    (with_reducible refine KA.out.mono ?_)
    rintro e w2 ⟨rfl, o⟩
    have O := Lib.hid o
    clear o
    go_wp2_with fail
    go_ret2
    exact ⟨O.out, _, by rw [← HK.out, beq_eq_false_iff_ne.2 H4.out]; rfl, by rw [HB.out]; exact sl_nil _ _⟩
end Go.Proofs.Ytbjnejnjlidiaaa.prRb
