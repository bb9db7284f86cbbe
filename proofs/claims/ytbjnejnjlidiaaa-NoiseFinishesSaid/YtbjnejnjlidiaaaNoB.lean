/- Noise: terms, publics. -/
import Derived.Test.YtbjnejnjlidiaaaNoA
namespace Go.Proofs.Ytbjnejnjlidiaaa.noB
open Go.RowKit kit numA numB numC numD numE tmA tmB tmC tmD tmE trA trB prR prS prW prX tsA tsB tsF tsI wrA wrB wrC wrD wrE wrF wrG wrH wrI wrJ mkA maA maB maC noA
set_option linter.unusedVariables false
set_option linter.unusedSimpArgs false

set_option maxRecDepth 100000 in
set_option maxHeartbeats 1600000 in
theorem terms_sl (ps : List Txt) (S : Nat → Prop) (a : Value) (w : World) (ha : Sl w S a (ps.map sv)) (hx : ps.length ≤ 1000) (hl : ∀ p ∈ ps, p.length ≤ 100000000) : Calls Try.prog 128 #[a] w (numA.Told w (.bool (ps.all isT))) := by
  obtain ⟨a', n, c, rfl⟩ : ∃ a' n c, a = .slice a' n c := by obtain ⟨_, a', c, h, _⟩ := ha; exact ⟨a', _, c, h⟩
  obtain rfl := sl_len ha
  have HS := Lib.hid ha
  have HX := Lib.hid hx
  have HL := Lib.hid hl
  have O0 := Lib.hid (Only.refl (fun _ => False) w)
  clear ha hx hl
  go_enter Try.func128, Try.ntmps128
  go_wp2_with fail
  go_loopw [4, 7] (fun _ i wr => ∃ j : Nat, i = .int .i64 j ∧ j ≤ ps.length ∧ (∀ q, q < j → isT (ps.getD q []) = true) ∧ Only (fun _ => False) w wr) (fun _ i _ => ps.length - (Lib.intOf i).toNat)
  case atStart => exact ⟨0, rfl, Nat.zero_le _, fun _ h => by omega, O0.out⟩
  case round =>
    obtain ⟨j, rfl, hj, hq, ho⟩ := hrel
    by_cases hlt : j < ps.length
    · have HR := Lib.hid ho
      obtain ⟨g, o, rfl, -, -, x0⟩ := sl_get (HS.out.keep ho fun _ _ h => h) j hlt
      unfold sv at x0
      obtain ⟨b, hb⟩ : ∃ b : ByteArray, b = ⟨(ps.getD j []).toArray⟩ := ⟨_, rfl⟩
      rw [← hb] at x0
      have hbt : b.data.toList = ps.getD j [] := by rw [hb]
      have HBT := Lib.hid hbt
      have bz : b.size ≤ 100000000 := by
        rw [sz_of hbt]
        exact HL.out _ (by rw [List.getD_eq_getElem?_getD, List.getElem?_eq_getElem hlt]; exact List.getElem_mem _)
      have KA := Lib.hid (fun W => prR.kind_any b W bz)
      obtain ⟨k, hk⟩ : ∃ k, (trJ.ndOf b.data.toList).k = k := ⟨_, rfl⟩
      rw [hk] at KA
      have k0 : (0 : Int) ≤ (j : Int) := by omega
      have k1 : (j : Int) < (ps.length : Int) := by omega
      have k1' : ((j : Int) < (ps.length : Int)) = True := eq_true k1
      have wj : wrap64 ((j : Int) + 1) = (j : Int) + 1 := IntWalk.wrap64_in _ (by have := HX.out; omega)
      have HJ := Lib.hid hlt
      have HQ := Lib.hid hq
      have HK := Lib.hid hk
      clear hj hlt hq ho hb hbt bz hk
      cases hp : isT b.data.toList
      · have kz : ((k : Int) == 0) = true := by
          rw [beq_iff_eq]
          have : (trJ.ndOf b.data.toList).k = 0 := Decidable.byContradiction fun q => by rw [(isT_kind _).2 q] at hp; cases hp
          have := HK.out
          omega
        have HB := Lib.hid (show ps.all isT = false from by
          rw [List.all_eq_false]
          refine ⟨ps.getD j [], by rw [List.getD_eq_getElem?_getD, List.getElem?_eq_getElem HJ.out]; exact List.getElem_mem _, ?_⟩
          rw [← HBT.out, hp]
          decide)
        clear hp
        go_wp2_with fail
        (with_reducible refine (KA.out _).mono ?_)
        rintro e w2 ⟨rfl, o'⟩
        have O2 := Lib.hid (HR.out.trans o')
        clear o'
        go_wp2_with fail
        go_ret
        exact ⟨by rw [HB.out]; rfl, O2.out⟩
      · have kz : ((k : Int) == 0) = false := by
          rw [beq_eq_false_iff_ne]
          have := (isT_kind _).1 hp
          have := HK.out
          omega
        have HP := Lib.hid hp
        clear hp
        go_wp2_with fail
        (with_reducible refine (KA.out _).mono ?_)
        rintro e w2 ⟨rfl, o'⟩
        have O2 := Lib.hid (HR.out.trans o')
        clear o'
        go_wp2_with fail
        go_roundw
        case rel =>
          refine ⟨j + 1, by rw [wj]; rfl, HJ.out, fun q h => ?_, O2.out⟩
          rcases Nat.lt_or_ge q j with h' | h'
          · exact HQ.out q h'
          · obtain rfl : q = j := by omega
            rw [← HBT.out]
            exact HP.out
        case measure =>
          rw [wj]
          have := HJ.out
          simp only [Lib.intOf]
          omega
    · obtain rfl : j = ps.length := by omega
      have k1 : ((ps.length : Int) < (ps.length : Int)) = False := eq_false (by omega)
      have HB := Lib.hid (show ps.all isT = true from by
        rw [List.all_eq_true]
        intro p hp
        obtain ⟨q, hql, hqe⟩ := List.mem_iff_getElem.1 hp
        have := hq q hql
        rwa [List.getD_eq_getElem?_getD, List.getElem?_eq_getElem hql, Option.getD_some, hqe] at this)
      have HR := Lib.hid ho
      clear hj hlt hq ho
      go_wp2_with fail
      go_ret
      exact ⟨by rw [HB.out]; rfl, HR.out⟩

theorem terms_blk (xs : List ByteArray) (r : Bool) (hr : xs.all (fun x => isT x.data.toList) = r) (hl : xs.length ≤ 1000) (hx : ∀ x ∈ xs, x.size ≤ 100000000) (W : World) (G : Nat) (h : W.heap[G]? = some (.cells (xs.map Value.string).toArray 9 (0, 0))) : Calls Try.prog 128 #[.slice (some ⟨G, 0, none⟩) xs.length xs.length] W (numA.Told W (.bool r)) := by
  have q := terms_sl (xs.map (·.data.toList)) _ _ W (sl_blk xs hl h) (by rw [List.length_map]; exact hl) (fun p hp => by
    obtain ⟨x, hx', rfl⟩ := List.mem_map.1 hp
    rw [tl_size]
    exact hx x hx')
  rw [List.all_map] at q
  rw [← hr]
  exact q

set_option maxRecDepth 100000 in
set_option maxHeartbeats 1600000 in
theorem publics_sl (ps : List Txt) (S : Nat → Prop) (a : Value) (w : World) (ha : Sl w S a (ps.map sv)) (hx : ps.length ≤ 1000) (hl : ∀ p ∈ ps, p.length ≤ 100000000) : Calls Try.prog 129 #[a] w (numA.Told w (.bool (ps.all pubB))) := by
  obtain ⟨a', n, c, rfl⟩ : ∃ a' n c, a = .slice a' n c := by obtain ⟨_, a', c, h, _⟩ := ha; exact ⟨a', _, c, h⟩
  obtain rfl := sl_len ha
  have HS := Lib.hid ha
  have HX := Lib.hid hx
  have HL := Lib.hid hl
  have O0 := Lib.hid (Only.refl (fun _ => False) w)
  clear ha hx hl
  go_enter Try.func129, Try.ntmps129
  go_wp2_with fail
  go_loopw [4, 7] (fun _ i wr => ∃ j : Nat, i = .int .i64 j ∧ j ≤ ps.length ∧ (∀ q, q < j → pubB (ps.getD q []) = true) ∧ Only (fun _ => False) w wr) (fun _ i _ => ps.length - (Lib.intOf i).toNat)
  case atStart => exact ⟨0, rfl, Nat.zero_le _, fun _ h => by omega, O0.out⟩
  case round =>
    obtain ⟨j, rfl, hj, hq, ho⟩ := hrel
    by_cases hlt : j < ps.length
    · have HR := Lib.hid ho
      obtain ⟨g, o, rfl, -, -, x0⟩ := sl_get (HS.out.keep ho fun _ _ h => h) j hlt
      unfold sv at x0
      obtain ⟨b, hb⟩ : ∃ b : ByteArray, b = ⟨(ps.getD j []).toArray⟩ := ⟨_, rfl⟩
      rw [← hb] at x0
      have hbt : b.data.toList = ps.getD j [] := by rw [hb]
      have HBT := Lib.hid hbt
      have bz : b.size ≤ 100000000 := by
        rw [sz_of hbt]
        exact HL.out _ (by rw [List.getD_eq_getElem?_getD, List.getElem?_eq_getElem hlt]; exact List.getElem_mem _)
      have KA := Lib.hid (fun W => prR.kind_any b W bz)
      obtain ⟨k, hk⟩ : ∃ k, (trJ.ndOf b.data.toList).k = k := ⟨_, rfl⟩
      rw [hk] at KA
      have k0 : (0 : Int) ≤ (j : Int) := by omega
      have k1 : (j : Int) < (ps.length : Int) := by omega
      have k1' : ((j : Int) < (ps.length : Int)) = True := eq_true k1
      have wj : wrap64 ((j : Int) + 1) = (j : Int) + 1 := IntWalk.wrap64_in _ (by have := HX.out; omega)
      have HJ := Lib.hid hlt
      have HQ := Lib.hid hq
      have HK := Lib.hid hk
      clear hj hlt hq ho hb hbt bz hk
      cases hp : pubB b.data.toList
      · have kz : ((k : Int) != 5) = true := by
          rw [bne_iff_ne]
          have h : ((trJ.ndOf b.data.toList).k == 5) = false := hp
          rw [beq_eq_false_iff_ne] at h
          have := HK.out
          omega
        have HB := Lib.hid (show ps.all pubB = false from by
          rw [List.all_eq_false]
          refine ⟨ps.getD j [], by rw [List.getD_eq_getElem?_getD, List.getElem?_eq_getElem HJ.out]; exact List.getElem_mem _, ?_⟩
          rw [← HBT.out, hp]
          decide)
        clear hp
        go_wp2_with fail
        (with_reducible refine (KA.out _).mono ?_)
        rintro e w2 ⟨rfl, o'⟩
        have O2 := Lib.hid (HR.out.trans o')
        clear o'
        go_wp2_with fail
        go_ret
        exact ⟨by rw [HB.out]; rfl, O2.out⟩
      · have kz : ((k : Int) != 5) = false := by
          rw [bne_eq_false_iff_eq]
          have h : ((trJ.ndOf b.data.toList).k == 5) = true := hp
          rw [beq_iff_eq] at h
          have := HK.out
          omega
        have HP := Lib.hid hp
        clear hp
        go_wp2_with fail
        (with_reducible refine (KA.out _).mono ?_)
        rintro e w2 ⟨rfl, o'⟩
        have O2 := Lib.hid (HR.out.trans o')
        clear o'
        go_wp2_with fail
        go_roundw
        case rel =>
          refine ⟨j + 1, by rw [wj]; rfl, HJ.out, fun q h => ?_, O2.out⟩
          rcases Nat.lt_or_ge q j with h' | h'
          · exact HQ.out q h'
          · obtain rfl : q = j := by omega
            rw [← HBT.out]
            exact HP.out
        case measure =>
          rw [wj]
          have := HJ.out
          simp only [Lib.intOf]
          omega
    · obtain rfl : j = ps.length := by omega
      have k1 : ((ps.length : Int) < (ps.length : Int)) = False := eq_false (by omega)
      have HB := Lib.hid (show ps.all pubB = true from by
        rw [List.all_eq_true]
        intro p hp
        obtain ⟨q, hql, hqe⟩ := List.mem_iff_getElem.1 hp
        have := hq q hql
        rwa [List.getD_eq_getElem?_getD, List.getElem?_eq_getElem hql, Option.getD_some, hqe] at this)
      have HR := Lib.hid ho
      clear hj hlt hq ho
      go_wp2_with fail
      go_ret
      exact ⟨by rw [HB.out]; rfl, HR.out⟩

theorem publics_blk (xs : List ByteArray) (r : Bool) (hr : xs.all (fun x => pubB x.data.toList) = r) (hl : xs.length ≤ 1000) (hx : ∀ x ∈ xs, x.size ≤ 100000000) (W : World) (G : Nat) (h : W.heap[G]? = some (.cells (xs.map Value.string).toArray 9 (0, 0))) : Calls Try.prog 129 #[.slice (some ⟨G, 0, none⟩) xs.length xs.length] W (numA.Told W (.bool r)) := by
  have q := publics_sl (xs.map (·.data.toList)) _ _ W (sl_blk xs hl h) (by rw [List.length_map]; exact hl) (fun p hp => by
    obtain ⟨x, hx', rfl⟩ := List.mem_map.1 hp
    rw [tl_size]
    exact hx x hx')
  rw [List.all_map] at q
  rw [← hr]
  exact q

end Go.Proofs.Ytbjnejnjlidiaaa.noB
