/- sky: the legs as the document's. -/
import Derived.Test.YtmkpdnjdengcfaaSkyP
import Derived.Deep.AppendLies
namespace Go.Proofs.Ytmkpdnjdengcfaa.skyS
open Go.RowKit Go.Lib Go.Proofs.Ytmkpdnjdengcfaa.kit Go.Proofs.Ytmkpdnjdengcfaa.floA Go.Proofs.Ytmkpdnjdengcfaa.skyA Go.Proofs.Ytmkpdnjdengcfaa.skyB Go.Proofs.Ytmkpdnjdengcfaa.skyC Go.Proofs.Ytmkpdnjdengcfaa.skyD Go.Proofs.Ytmkpdnjdengcfaa.skyE Go.Proofs.Ytmkpdnjdengcfaa.skyF Go.Proofs.Ytmkpdnjdengcfaa.skyG Go.Proofs.Ytmkpdnjdengcfaa.skyH Go.Proofs.Ytmkpdnjdengcfaa.skyP
set_option linter.unusedVariables false
set_option linter.unusedSimpArgs false

theorem info63 : (Try.prog.info? 63).map (fun i => (i.zero, i.size, i.bytes)) = some (some (.agg #[.int .i64 0, .int .i64 0, .int .i64 0]), 3, 24) := by kernel_rfl

/-- The cells of legs. -/
def flat3 (l : List Leg3) : List Value := l.flatMap fun p => [.int .i64 p.x, .int .i64 p.y, .int .i64 p.s]

theorem flat3_snoc (l : List Leg3) (k : Nat) (h : k < l.length) : flat3 (l.take (k + 1)) = flat3 (l.take k) ++ [.int .i64 (lx l k), .int .i64 (ly l k), .int .i64 (ls l k)] := by
  rw [take_snoc l k h nol, flat3, List.flatMap_append]
  simp [flat3, lx, ly, ls]

theorem flat3_get (l : List Leg3) : ∀ i, i < l.length → (flat3 l)[i * 3]? = some (.int .i64 (lx l i)) ∧ (flat3 l)[i * 3 + 1]? = some (.int .i64 (ly l i)) ∧ (flat3 l)[i * 3 + 2]? = some (.int .i64 (ls l i)) := by
  induction l with
  | nil => intro i hi; simp at hi
  | cons p l ih =>
    intro i hi
    cases i with
    | zero => simp [flat3, lx, ly, ls]
    | succ i =>
      have := ih i (by simpa using hi)
      have e : (i + 1) * 3 = i * 3 + 3 := by omega
      have e1 : i * 3 + 3 + 1 = (i * 3 + 1) + 3 := by omega
      have e2 : i * 3 + 3 + 2 = (i * 3 + 2) + 3 := by omega
      rw [e, e1, e2]
      simpa [flat3, lx, ly, ls] using this

theorem lgs_of_owns {w : World} {base : Nat} {e : TypeId} {v : Value} {l : List Leg3} (h : w.ownsRow base e 3 v l.length (flat3 l)) (hm : l.length ≤ maxLen) : ∃ a cap, v = .slice a l.length cap ∧ Lgs w a l := by
  rcases h.2 with ⟨rfl, h0⟩ | ⟨g, cap, cur, rfl, hb, hg, hn, hc, hs, ht⟩
  · exact ⟨none, 0, by rw [h0], hm, .inl h0⟩
  · refine ⟨_, cap, rfl, hm, .inr ⟨g, 0, rfl, lt_of hg, fun i hi => ?_⟩⟩
    obtain ⟨h0, h1, h2⟩ := flat3_get l i hi
    rw [Nat.zero_add, cell_of hg, cell_of hg, cell_of hg, ← Array.getElem?_toList, ← Array.getElem?_toList, ← Array.getElem?_toList]
    exact ⟨take_get ht h0, take_get ht h1, take_get ht h2⟩

set_option maxHeartbeats 1600000 in
theorem legs_any (x y : Int) (a : Option Addr) (cap : Nat) (l : List Leg3) (w : World) (h : Lgs w a l) (hlen : l.length ≤ 1000) :
    Calls Try.prog 7 #[rt x y a l.length cap] w fun e w' => (∃ a' cap', e = .returned (.slice a' l.length cap') ∧ Lgs w' a' l) ∧ Only (fun _ => False) w w' := by
  obtain ⟨i0, hi0, hz0, hz1, hz2⟩ := info_parts info63
  have o1 : Only (fun _ => False) w (w.alloc (.cells #[.int .i64 x, .int .i64 y, .slice a l.length cap] 26)) := (Only.refl _ w).alloc _
  have hB := heap_alloc_new w (.cells #[.int .i64 x, .int .i64 y, .slice a l.length cap] 26)
  have s1 : (w.alloc (.cells #[.int .i64 x, .int .i64 y, .slice a l.length cap] 26)).heap.size = w.heap.size + 1 := World.size_alloc _ _
  have own0 : ((w.alloc (.cells #[.int .i64 x, .int .i64 y, .slice a l.length cap] 26)).alloc (.cells #[] 63)).ownsRow (w.heap.size + 1) 63 3 (.slice (some ⟨w.heap.size + 1, 0, none⟩) 0 0) 0 (flat3 (l.take 0)) := by
    have := heap_alloc_new (w.alloc (.cells #[.int .i64 x, .int .i64 y, .slice a l.length cap] 26)) (.cells #[] 63)
    rw [s1] at this
    exact ⟨rfl, .inr ⟨_, 0, _, rfl, Nat.le_refl _, this, Nat.le_refl _, by decide, rfl, rfl⟩⟩
  have HP := Lib.hid (h.keep o1)
  have HL := Lib.hid hlen
  have HB := Lib.hid (show BoxR _ w.heap.size x y (.slice a l.length cap) from hB)
  have O1 := Lib.hid o1
  have R0 := Lib.hid own0
  have S1 := Lib.hid s1
  clear h hlen own0 o1 hB s1
  go_enter Try.func7, Try.ntmps7
  go_wp2_with fail
  generalize w.alloc (.cells #[.int .i64 x, .int .i64 y, .slice a l.length cap] 26) = W1 at HP HB O1 R0 S1 ⊢
  generalize w.heap.size = B at HB R0 S1 ⊢
  have R1 : Hid (∃ g n, (Value.slice (some ⟨B + 1, 0, none⟩) 0 0 : Value) = .slice (some ⟨g, 0, none⟩) 0 n) := Lib.hid ⟨_, _, rfl⟩
  go_loopw [3, 4] (fun v i wr => ∃ (k g n : Nat), k ≤ l.length ∧ i = .int .i64 k ∧ v = .slice (some ⟨g, 0, none⟩) k n ∧ Only (fun _ => False) W1 wr ∧ wr.ownsRow (B + 1) 63 3 v k (flat3 (l.take k))) (fun _ i _ => l.length - (intOf i).toNat)
  case atStart => exact ⟨0, B + 1, 0, Nat.zero_le _, rfl, rfl, (Only.refl _ W1).alloc _, R0.out⟩
  case round =>
    obtain ⟨k, g, n, hk, rfl, rfl, o, hown⟩ := hrel
    have O := Lib.hid o
    have OW := Lib.hid hown
    clear o hown R0 R1
    obtain ⟨d0, d1, d2⟩ := (HB.out.keep O.out).cells
    by_cases hlt : k < l.length
    · have k1 : ((k : Int) < (l.length : Int)) = True := eq_true (by omega)
      have k1n : ((k : Int) < (l.length : Int)) := by omega
      have k0n : (0 : Int) ≤ (k : Int) := by omega
      have WK := Lib.hid (wrap_succ hlt (by have := HL.out; unfold maxLen; omega))
      obtain ⟨b, off, rfl, hb, c0, c1, c2⟩ := (HP.out.keep O.out).at hlt
      have S4 := Lib.hid (fun (w' : World) (o : Only (fun _ => False) W1 w') => (⟨(HB.out.keep o).cells.2.2, by
        obtain ⟨b', o', e, _, q0, q1, q2⟩ := (HP.out.keep o).at hlt
        injection e with e
        injection e with e1 e2
        subst e1 e2
        exact ⟨q0, q1, q2⟩⟩ : w'.cell? ⟨B, 2, none⟩ = some (.slice (some ⟨b, off, none⟩) l.length cap) ∧ w'.cell? ⟨b, off + k * 3, none⟩ = some (.int .i64 (lx l k)) ∧ w'.cell? ⟨b, off + k * 3 + 1, none⟩ = some (.int .i64 (ly l k)) ∧ w'.cell? ⟨b, off + k * 3 + 2, none⟩ = some (.int .i64 (ls l k))))
      have own2 := OW.out
      have hsz : B + 1 ≤ wr.heap.size := by have := O.out.size; have := S1.out; omega
      have hkk : k ≤ 1000 := by have := HL.out; omega
      have RR := Lib.hid O.out.drew
      have R := Lib.hid (Only.alloc O.out.drew (.cells #[.int .i64 (lx l k), .int .i64 (ly l k), .int .i64 (ls l k)] 63))
      have RD := Lib.hid (Only.drew (Only.alloc O.out (.cells #[.int .i64 (lx l k), .int .i64 (ly l k), .int .i64 (ls l k)] 63)))
      go_wp2_with fail
      go_region_held3 (fun w' => w'.cell? ⟨B, 2, none⟩ = some (.slice (some ⟨b, off, none⟩) l.length cap) ∧ w'.cell? ⟨b, off + k * 3, none⟩ = some (.int .i64 (lx l k)) ∧ w'.cell? ⟨b, off + k * 3 + 1, none⟩ = some (.int .i64 (ly l k)) ∧ w'.cell? ⟨b, off + k * 3 + 2, none⟩ = some (.int .i64 (ls l k)))
        (first | exact S4.out _ RR.out | exact S4.out _ R.out | exact S4.out _ RD.out)
        (first | (refine step_append_lies _ (by rfl) _ _ _ (by rfl) (B + 1) 63 i0 _ 3 24 Try.underlying28 hi0 hz0 hz1 hz2 rfl (by omega) (.slice (some ⟨g, 0, none⟩) k n) k (flat3 (l.take k)) (by rfl) ((own2.alloc _).drew) ⟨wr.heap.size, 0, none⟩ 1 1 [.int .i64 (lx l k), .int .i64 (ly l k), .int .i64 (ls l k)] (by rfl) (by rfl) (World.news_of_block (cs := #[.int .i64 (lx l k), .int .i64 (ly l k), .int .i64 (ls l k)]) (t := 63) (fr := (0, 0)) (heap_alloc_new wr _)) (by simp [Value.oneCell']) (by omega) (by unfold maxLen; omega) (by omega) (by simp; omega) (wr.heap.size + 1) (by simp) ?_; intro g' cap' w3 hown3 hgrow3 hat3 _; have R := Lib.hid (Only.grownNew RD.out hgrow3 fun kk hkk2 => by have := S1.out; cases hkk2; exact Nat.le_trans (Nat.le_of_eq S1.out) (own2.lt _ rfl).1)))
      all_goals
        rw [← flat3_snoc l k hlt] at hown3
        have OW3 := Lib.hid hown3
        have hwk := WK.out
        clear hown3 hgrow3 own2
        go_wp2_with fail
        clear hwk
        go_roundw
        case rel => exact ⟨k + 1, g', cap', by omega, by first | (rw [WK.out]; go_num) | go_num, rfl, R.out, OW3.out⟩
        case measure => first | exact meas WK.out hlt | exact meas rfl hlt
    · have k1 : ((k : Int) < (l.length : Int)) = False := eq_false (by omega)
      have e : k = l.length := by omega
      subst e
      have hown := OW.out
      rw [List.take_length] at hown
      obtain ⟨a', cap', he, hp⟩ := lgs_of_owns hown (by have := HL.out; unfold maxLen; omega)
      have HP' := Lib.hid hp
      have HE := Lib.hid he
      clear hown hp he
      go_wp2_with fail
      go_ret
      exact ⟨⟨_, _, by rw [← HE.out]; rfl, HP'.out⟩, O1.out.trans O.out⟩
end Go.Proofs.Ytmkpdnjdengcfaa.skyS
