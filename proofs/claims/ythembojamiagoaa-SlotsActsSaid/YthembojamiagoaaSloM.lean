/- SlotsActs' walk. -/
import Derived.Test.YthembojamiagoaaSloJ
import Derived.Test.YthembojamiagoaaSloK
import Derived.Test.YthembojamiagoaaSloL
import Derived.Lib.AppendZeros
import Derived.LoopTactic
namespace Go.Proofs.Ythembojamiagoaa.sloM
open Go.RowKit Go.Lib Go.Proofs.Ythembojamiagoaa.kit Go.Proofs.Ythembojamiagoaa.sloA Go.Proofs.Ythembojamiagoaa.sloB Go.Proofs.Ythembojamiagoaa.sloC Go.Proofs.Ythembojamiagoaa.sloD Go.Proofs.Ythembojamiagoaa.sloF Go.Proofs.Ythembojamiagoaa.sloI Go.Proofs.Ythembojamiagoaa.sloJ Go.Proofs.Ythembojamiagoaa.sloK Go.Proofs.Ythembojamiagoaa.sloL
set_option linter.unusedVariables false
set_option linter.unusedSimpArgs false

set_option maxRecDepth 100000 in
theorem acts_long (a : Option Addr) (n cap : Nat) (l now : Int) (w : World) (hl : 60 < n) : Calls Try.prog 3 #[.slice a n cap, .int .u32 l, .int .i64 now] w fun e w' => e = .returned (.bool true) ∧ Only (fun _ => False) w w' := by
  have A := Lib.hid (awake_true w)
  have t1 : (60 : Int) < (n : Int) := by omega
  go_enter Try.func3, Try.ntmps3
  go_wp2_with fail
  with_reducible refine A.out.mono ?_
  rintro e w1 ⟨rfl, o⟩
  have O := Lib.hid o
  clear o
  go_wp2_with fail
  go_ret
  exact ⟨rfl, O.out⟩

/-- The cells of an act. -/
def Cells (w : World) (a : Option Addr) (len : Nat) (z : Nat → Act4) : Prop := ∀ i, i < len → ∃ b o, a = some ⟨b, o, none⟩ ∧ b < w.heap.size ∧
    w.cell? ⟨b, o + i * 4, none⟩ = some (.int .u8 (z i).k) ∧ w.cell? ⟨b, o + i * 4 + 1, none⟩ = some (.int .u32 (z i).l) ∧ w.cell? ⟨b, o + i * 4 + 2, none⟩ = some (.int .i64 (z i).m) ∧ w.cell? ⟨b, o + i * 4 + 3, none⟩ = some (.int .u16 (z i).n) ∧
    (Lit.int .u8 (z i).k).wf = true ∧ (Lit.int .u32 (z i).l).wf = true ∧ (Lit.int .i64 (z i).m).wf = true ∧ (Lit.int .u16 (z i).n).wf = true

theorem Acts.cells {w : World} {a : Option Addr} {len : Nat} {z : Nat → Act4} (h : Acts w a len z) : Cells w a len z := fun i hi => by
  rcases h.2 with h | ⟨b, o, ha, hb, hc⟩
  · omega
  · exact ⟨b, o, ha, hb, hc i hi⟩

theorem Cells.keep {w w' : World} {a : Option Addr} {len : Nat} {z : Nat → Act4} (h : Cells w a len z) (k : Only (fun _ => False) w w') : Cells w' a len z := fun i hi => by
  obtain ⟨b, o, ha, hb, c0, c1, c2, c3, r⟩ := h i hi
  have e := k.block b hb id
  exact ⟨b, o, ha, Nat.lt_of_lt_of_le hb k.size, (World.cell?_of_block (a := ⟨b, _, none⟩) e).trans c0, (World.cell?_of_block (a := ⟨b, _, none⟩) e).trans c1, (World.cell?_of_block (a := ⟨b, _, none⟩) e).trans c2, (World.cell?_of_block (a := ⟨b, _, none⟩) e).trans c3, r⟩

theorem St.start {w0 w1 w2 : World} {S : Nat} (hs : SlotsAt w1 S none none none) (o : Only (fun _ => False) w0 w1) (hS : w0.heap.size ≤ S) :
    St w0 ((w1.alloc (.cells #[.int .i64 (-1), .int .i64 (-1), .int .i64 (-1)] 28)).alloc (.cells #[] 33)) S w1.heap.size (.slice (some ⟨w1.heap.size + 1, 0, none⟩) 0 0) [] (-1) (-1) (-1) none none none := by
  have o2 : Only (fun _ => False) w1 ((w1.alloc (.cells #[.int .i64 (-1), .int .i64 (-1), .int .i64 (-1)] 28)).alloc (.cells #[] 33)) := ((Only.refl _ _).alloc _).alloc _
  have h1 := heap_alloc_new w1 (.cells #[.int .i64 (-1), .int .i64 (-1), .int .i64 (-1)] 28)
  have h2 := heap_alloc_new (w1.alloc (.cells #[.int .i64 (-1), .int .i64 (-1), .int .i64 (-1)] 28)) (.cells #[] 33)
  rw [World.size_alloc] at h2
  refine ⟨o.trans o2, hS, o.size, o2.keep hs id, (Below.heap_alloc _ _ _ (lt_of h1)).trans h1, ⟨rfl, .inr ⟨_, 0, _, rfl, by have := o.size; omega, h2, Nat.le_refl _, by decide, rfl, rfl⟩⟩, (by intro h; cases h), fun k hk => absurd hk (Nat.not_lt_zero _), fun j k hj => absurd hj (Nat.not_lt_zero _)⟩

theorem has_neg : has (-1) = 0 := by decide
theorem has_k (k : Nat) : has (k : Int) = 1 := if_pos (by omega)
theorem one_has {ids : List Pr} {q : Int} {p : Option Addr} (h : Sd ids q p) : one p = has q := by
  rcases h with ⟨rfl, rfl⟩ | ⟨k, rfl, _, rfl⟩
  · rfl
  · rw [has_k]; rfl
theorem cnt_eq {ids : List Pr} {q1 q2 q3 : Int} {p1 p2 p3 : Option Addr} (s1 : Sd ids q1 p1) (s2 : Sd ids q2 p2) (s3 : Sd ids q3 p3) : cnt p1 p2 p3 = cn q1 q2 q3 := by
  rw [cnt, cn, one_has s1, one_has s2, one_has s3]

theorem meas {n k : Nat} {x : Int} (hx : x = (k : Int) + 1) (h : k < n) : n - (intOf (.int .i64 x)).toNat < n - (intOf (.int .i64 (k : Int))).toNat := by
  subst hx
  simp [intOf]
  omega

/-- The loop's state at round k. -/
def Round (w0 w : World) (S Mb : Nat) (v : Value) (k : Nat) : Prop := ∃ (ids : List Pr) (q1 q2 q3 : Int) (p1 p2 p3 : Option Addr), St w0 w S Mb v ids q1 q2 q3 p1 p2 p3 ∧ Sd ids q1 p1 ∧ Sd ids q2 p2 ∧ Sd ids q3 p3 ∧ ids.length ≤ k

set_option maxRecDepth 100000 in
set_option maxHeartbeats 4000000 in
theorem acts_true (a : Option Addr) (n cap : Nat) (z : Nat → Act4) (l now : Int) (w : World) (h : Cells w a n z) (hn : n ≤ 60) : Calls Try.prog 3 #[.slice a n cap, .int .u32 l, .int .i64 now] w fun e w' => e = .returned (.bool true) ∧ Only (fun _ => False) w w' := by
  have A := Lib.hid (awake_true w)
  have HN := Lib.hid new_any
  have HC := Lib.hid h
  have Hn := Lib.hid hn
  have t1 : ((60 : Int) < (n : Int)) = False := eq_false (by omega)
  clear h hn
  go_enter Try.func3, Try.ntmps3
  go_wp2_with fail
  with_reducible refine A.out.mono ?_
  rintro e w1 ⟨rfl, o1⟩
  have O1 := Lib.hid o1
  clear o1
  go_wp2_with fail
  with_reducible refine (HN.out _).mono ?_
  rintro e w2 ⟨rfl, hs, o2⟩
  have R0 := Lib.hid (St.start (w2 := w2) hs (O1.out.trans o2) O1.out.size)
  clear hs o2 HN A
  generalize w1.heap.size = S at R0 ⊢
  go_wp2_with fail
  generalize ((w2.alloc (.cells #[.int .i64 (-1), .int .i64 (-1), .int .i64 (-1)] 28)).alloc (.cells #[] 33)) = W3 at R0 ⊢
  generalize w2.heap.size = Mb at R0 ⊢
  go_loopw [9, 10] (fun v i wr => ∃ k : Nat, k ≤ n ∧ i = .int .i64 k ∧ Round w wr S Mb v k) (fun _ i _ => n - (intOf i).toNat)
  case atStart => exact ⟨0, Nat.zero_le _, rfl, [], -1, -1, -1, none, none, none, R0.out, .inl ⟨rfl, rfl⟩, .inl ⟨rfl, rfl⟩, .inl ⟨rfl, rfl⟩, Nat.le_refl _⟩
  case round =>
    obtain ⟨k, hk, rfl, ids, q1, q2, q3, p1, p2, p3, R, s1, s2, s3, hids⟩ := hrel
    have HR := Lib.hid R
    have Hs := Lib.hid (And.intro s1 (And.intro s2 s3))
    have Hi := Lib.hid hids
    obtain ⟨g, cp, hv, ha⟩ := R.all (by have := Hn.out; omega)
    have HA := Lib.hid ha
    clear R s1 s2 s3 hids ha R0
    by_cases hlt : k < n
    · have k1 : ((k : Int) < (n : Int)) = True := eq_true (by omega)
      have k1n : ((k : Int) < (n : Int)) := by omega
      have wk : wrap64 ((k : Int) + 1) = (k : Int) + 1 := IntWalk.wrap64_in _ (by have := Hn.out; omega)
      obtain ⟨ab, ao, rfl, hab, z0, z1, z2, z3, w0, w1, w2, w3⟩ := HC.out k hlt
      obtain ⟨K, hK⟩ : ∃ K, K = (z k).k := ⟨_, rfl⟩
      obtain ⟨L, hL⟩ : ∃ L, L = (z k).l := ⟨_, rfl⟩
      obtain ⟨M, hM⟩ : ∃ M, M = (z k).m := ⟨_, rfl⟩
      obtain ⟨N, hN⟩ : ∃ N, N = (z k).n := ⟨_, rfl⟩
      rw [← hK] at z0 w0
      rw [← hL] at z1 w1
      rw [← hM] at z2 w2
      rw [← hN] at z3 w3
      have WM := Lib.hid w2
      have WN := Lib.hid w3
      have ZK := Lib.hid (fun (w' : World) (o : Only (fun _ => False) w w') => (⟨(World.cell?_of_block (a := ⟨ab, ao + k * 4, none⟩) (o.block ab hab id)).trans z0, (World.cell?_of_block (a := ⟨ab, ao + k * 4 + 1, none⟩) (o.block ab hab id)).trans z1, (World.cell?_of_block (a := ⟨ab, ao + k * 4 + 2, none⟩) (o.block ab hab id)).trans z2, (World.cell?_of_block (a := ⟨ab, ao + k * 4 + 3, none⟩) (o.block ab hab id)).trans z3⟩ : w'.cell? ⟨ab, ao + k * 4, none⟩ = some (.int .u8 K) ∧ w'.cell? ⟨ab, ao + k * 4 + 1, none⟩ = some (.int .u32 L) ∧ w'.cell? ⟨ab, ao + k * 4 + 2, none⟩ = some (.int .i64 M) ∧ w'.cell? ⟨ab, ao + k * 4 + 3, none⟩ = some (.int .u16 N)))
      clear hK hL hM hN w0 w1 w2 w3 hab z0 z1 z2 z3
      obtain ⟨_, _, z2, _⟩ := ZK.out wr HR.out.only
      subst hv
      go_upto_if 39 with fail
      go_cut [11] (fun u wx => wx = wr ∧ ∃ m : Int, u = .int .i64 m ∧ 0 ≤ m ∧ m ≤ 1000000)
      case first =>
        have b0 := Int.tmod_lt_of_pos M (show (0 : Int) < 1000000 by decide)
        have b1 : -1000000 < M.tmod 1000000 := by
          have := Int.tmod_lt_of_pos (-M) (show (0 : Int) < 1000000 by decide)
          rw [Int.neg_tmod] at this
          omega
        generalize M.tmod 1000000 = r at b0 b1 ⊢
        have BB := Lib.hid (And.intro b0 b1)
        clear b0 b1 z2
        go_wp2_with fail
        all_goals
          go_meet
          first
            | (have c : r < 0 := by assumption
               have wr' : wrap64 (-r) = -r := IntWalk.wrap64_in _ (by have := BB.out; omega)
               exact ⟨rfl, -r, by rw [wr'], by have := BB.out; omega, by have := BB.out; omega⟩)
            | (have c : ¬ r < 0 := by first | assumption | omega
               exact ⟨rfl, r, rfl, by have := BB.out; omega, by have := BB.out; omega⟩)
      case rest =>
        obtain ⟨rfl, m, rfl, m0, m1⟩ := hcut
        have Hm := Lib.hid (And.intro m0 m1)
        clear m0 m1 z2
        obtain ⟨z0, _, _, _⟩ := ZK.out _ HR.out.only
        go_upto_block 2 with fail
        go_cut [9, 12, 13, 14, 47, 87, 124] (fun v a b c d e f wx => Round w wx S Mb v (k + 1))
        case first =>
          have HF := Lib.hid fresh_any
          have HBn := Lib.hid begun_next
          have HB0 := Lib.hid begun_none3
          have HH := Lib.hid heard_any
          have HRn := Lib.hid ref_begun_next
          have HR0 := Lib.hid ref_begun_none
          obtain ⟨s1, s2, s3⟩ := Hs.out
          clear Hs
          by_cases e0 : K = 0
          ·
            as_aux_lemma =>
            subst e0
            rcases s3 with ⟨rfl, rfl⟩ | ⟨k3, rfl, h3, rfl⟩
            ·
              have s3 : Sd ids (-1) none := .inl ⟨rfl, rfl⟩
              obtain ⟨_, y1, _, _⟩ := ZK.out _ HR.out.only
              go_wp2_with fail
              with_reducible refine Calls.mono (HF.out L m _ Hm.out.1 (by have := Hm.out; omega)) ?_
              rintro e w5 ⟨b, rfl, hb, hp, o⟩
              have hap : ∀ j, j < ids.length → blk ids j ≠ b := fun j hj => by
                obtain ⟨c, hc⟩ := (HR.out.pairs j hj).1
                have := lt_of hc
                omega
              obtain ⟨v', w6, hr, R⟩ := (HR.out.step o).append (by have := Hi.out; have := Hn.out; omega) b L m hp Hm.out.1 Hm.out.2 hap
              obtain ⟨ids', hids⟩ : ∃ ids', ids' = ids ++ [(b, L, m)] := ⟨_, rfl⟩
              have t1 := Sd.app (x := (b, L, m)) s1
              have t2 := Sd.app (x := (b, L, m)) s2
              have t3 := Sd.app (x := (b, L, m)) s3
              have tn := Sd.new ids (b, L, m)
              have hl : ids'.length = ids.length + 1 := by rw [hids]; simp
              rw [← hids] at R t1 t2 t3 tn
              have hle : ids'.length ≤ k + 1 := by have := Hi.out; omega
              obtain ⟨g', cp', hv', ha'⟩ := R.all (by have := Hi.out; have := Hn.out; omega)
              subst hv'
              have R6 := Lib.hid R
              obtain ⟨x0, _, _, _⟩ := ZK.out w6 R.only
              have wl : IntKind.i64.wrap ((ids'.length : Int) - 1) = (ids.length : Int) := (IntWalk.i64_in _ (by have := Hi.out; have := Hn.out; omega)).trans (by omega)
              have D := Lib.hid (And.intro t1 (And.intro t2 (And.intro t3 (And.intro tn hle))))
              clear hap hb hp o hids t1 t2 t3 tn hle R ha' y1 hl
              go_wp2_with (first | (at_builtin; refine Lib.wpList_append_run _ rfl (.tmp 60) (.tmp 62) 29 29 rfl _ _ rfl rfl _ _ hr ?_))
              with_reducible refine Calls.mono (HB0.out S _ _ _ _ R6.out.slots) ?_
              rintro e w7 ⟨rfl, hs, o⟩
              have R7 := Lib.hid (R6.out.ofSlots hs o)
              obtain ⟨c0, c1, c2, _, _, _⟩ := R7.out.mcell
              clear hs o
              go_wp2_with fail
              with_reducible refine Calls.mono (HR0.out _ _ _ _ _ (by omega)) ?_
              rintro e w8 ⟨rfl, o⟩
              have R8 := Lib.hid (R7.out.step o)
              clear c0 c1 c2 o
              obtain ⟨c0, c1, c2, f0, f1, f2⟩ := R8.out.mcell
              go_wp2_with fail
              go_meet
              exact ⟨ids', _, _, _, _, _, _, R8.out.store, D.out.2.1, D.out.2.2.2.1, .inl ⟨rfl, rfl⟩, D.out.2.2.2.2⟩
            ·
              have s3 : Sd ids (k3 : Int) (some ⟨blk ids k3, 0, none⟩) := .inr ⟨k3, rfl, h3, rfl⟩
              obtain ⟨_, y1, _, _⟩ := ZK.out _ HR.out.only
              go_wp2_with fail
              with_reducible refine Calls.mono (HF.out L m _ Hm.out.1 (by have := Hm.out; omega)) ?_
              rintro e w5 ⟨b, rfl, hb, hp, o⟩
              have hap : ∀ j, j < ids.length → blk ids j ≠ b := fun j hj => by
                obtain ⟨c, hc⟩ := (HR.out.pairs j hj).1
                have := lt_of hc
                omega
              obtain ⟨v', w6, hr, R⟩ := (HR.out.step o).append (by have := Hi.out; have := Hn.out; omega) b L m hp Hm.out.1 Hm.out.2 hap
              obtain ⟨ids', hids⟩ : ∃ ids', ids' = ids ++ [(b, L, m)] := ⟨_, rfl⟩
              have t1 := Sd.app (x := (b, L, m)) s1
              have t2 := Sd.app (x := (b, L, m)) s2
              have t3 := Sd.app (x := (b, L, m)) s3
              have tn := Sd.new ids (b, L, m)
              have hl : ids'.length = ids.length + 1 := by rw [hids]; simp
              rw [← hids] at R t1 t2 t3 tn
              have hle : ids'.length ≤ k + 1 := by have := Hi.out; omega
              obtain ⟨g', cp', hv', ha'⟩ := R.all (by have := Hi.out; have := Hn.out; omega)
              subst hv'
              have R6 := Lib.hid R
              obtain ⟨x0, _, _, _⟩ := ZK.out w6 R.only
              have wl : IntKind.i64.wrap ((ids'.length : Int) - 1) = (ids.length : Int) := (IntWalk.i64_in _ (by have := Hi.out; have := Hn.out; omega)).trans (by omega)
              have D := Lib.hid (And.intro t1 (And.intro t2 (And.intro t3 (And.intro tn hle))))
              clear hap hb hp o hids t1 t2 t3 tn hle R ha' y1 hl
              go_wp2_with (first | (at_builtin; refine Lib.wpList_append_run _ rfl (.tmp 60) (.tmp 62) 29 29 rfl _ _ rfl rfl _ _ hr ?_))
              with_reducible refine Calls.mono (HBn.out S _ _ _ _ _ R6.out.slots) ?_
              rintro e w7 ⟨rfl, hs, o⟩
              have R7 := Lib.hid (R6.out.ofSlots hs o)
              obtain ⟨c0, c1, c2, _, _, _⟩ := R7.out.mcell
              clear hs o
              go_wp2_with fail
              with_reducible refine Calls.mono (HRn.out _ _ _ _ _ (by omega)) ?_
              rintro e w8 ⟨rfl, o⟩
              have R8 := Lib.hid (R7.out.step o)
              clear c0 c1 c2 o
              obtain ⟨c0, c1, c2, f0, f1, f2⟩ := R8.out.mcell
              go_wp2_with fail
              go_meet
              exact ⟨ids', _, _, _, _, _, _, R8.out.store, D.out.2.2.1, D.out.2.2.2.1, .inl ⟨rfl, rfl⟩, D.out.2.2.2.2⟩
          by_cases e1 : K = 1
          ·
            as_aux_lemma =>
            subst e1
            obtain ⟨_, y1, _, _⟩ := ZK.out _ HR.out.only
            go_wp2_with fail
            with_reducible refine Calls.mono (HF.out L m _ Hm.out.1 (by have := Hm.out; omega)) ?_
            rintro e w5 ⟨b, rfl, hb, hp, o⟩
            have hap : ∀ j, j < ids.length → blk ids j ≠ b := fun j hj => by
              obtain ⟨c, hc⟩ := (HR.out.pairs j hj).1
              have := lt_of hc
              omega
            obtain ⟨v', w6, hr, R⟩ := (HR.out.step o).append (by have := Hi.out; have := Hn.out; omega) b L m hp Hm.out.1 Hm.out.2 hap
            obtain ⟨ids', hids⟩ : ∃ ids', ids' = ids ++ [(b, L, m)] := ⟨_, rfl⟩
            have t1 := Sd.app (x := (b, L, m)) s1
            have t2 := Sd.app (x := (b, L, m)) s2
            have t3 := Sd.app (x := (b, L, m)) s3
            have tn := Sd.new ids (b, L, m)
            have hl : ids'.length = ids.length + 1 := by rw [hids]; simp
            rw [← hids] at R t1 t2 t3 tn
            have hle : ids'.length ≤ k + 1 := by have := Hi.out; omega
            obtain ⟨g', cp', hv', ha'⟩ := R.all (by have := Hi.out; have := Hn.out; omega)
            subst hv'
            have R6 := Lib.hid R
            obtain ⟨x0, _, _, _⟩ := ZK.out w6 R.only
            have wl : IntKind.i64.wrap ((ids'.length : Int) - 1) = (ids.length : Int) := (IntWalk.i64_in _ (by have := Hi.out; have := Hn.out; omega)).trans (by omega)
            have D := Lib.hid (And.intro t1 (And.intro t2 (And.intro t3 (And.intro tn hle))))
            clear hap hb hp o hids t1 t2 t3 tn hle R ha' y1 hl
            go_wp2_with (first | (at_builtin; refine Lib.wpList_append_run _ rfl (.tmp 60) (.tmp 62) 29 29 rfl _ _ rfl rfl _ _ hr ?_))
            with_reducible refine Calls.mono (HH.out S _ _ _ _ _ R6.out.slots) ?_
            rintro e w7 ⟨rfl, hs, o⟩
            have R7 := Lib.hid (R6.out.ofSlots hs o)
            obtain ⟨_, _, c2, _, _, f2⟩ := R7.out.mcell
            clear hs o
            go_wp2_with fail
            go_meet
            exact ⟨ids', _, _, _, _, _, _, R7.out.store2, D.out.1, D.out.2.1, D.out.2.2.2.1, D.out.2.2.2.2⟩
          by_cases e2 : K = 2
          ·
            as_aux_lemma =>
            subst e2
            obtain ⟨_, y1, _, _⟩ := ZK.out _ HR.out.only
            go_wp2_with fail
            with_reducible refine Calls.mono (HF.out L m _ Hm.out.1 (by have := Hm.out; omega)) ?_
            rintro e w5 ⟨b, rfl, hb, hp, o⟩
            have hap : ∀ j, j < ids.length → blk ids j ≠ b := fun j hj => by
              obtain ⟨c, hc⟩ := (HR.out.pairs j hj).1
              have := lt_of hc
              omega
            obtain ⟨v', w6, hr, R⟩ := (HR.out.step o).append (by have := Hi.out; have := Hn.out; omega) b L m hp Hm.out.1 Hm.out.2 hap
            obtain ⟨ids', hids⟩ : ∃ ids', ids' = ids ++ [(b, L, m)] := ⟨_, rfl⟩
            have t1 := Sd.app (x := (b, L, m)) s1
            have t2 := Sd.app (x := (b, L, m)) s2
            have t3 := Sd.app (x := (b, L, m)) s3
            have tn := Sd.new ids (b, L, m)
            have hl : ids'.length = ids.length + 1 := by rw [hids]; simp
            rw [← hids] at R t1 t2 t3 tn
            have hle : ids'.length ≤ k + 1 := by have := Hi.out; omega
            obtain ⟨g', cp', hv', ha'⟩ := R.all (by have := Hi.out; have := Hn.out; omega)
            subst hv'
            have R6 := Lib.hid R
            obtain ⟨x0, _, _, _⟩ := ZK.out w6 R.only
            have wl : IntKind.i64.wrap ((ids'.length : Int) - 1) = (ids.length : Int) := (IntWalk.i64_in _ (by have := Hi.out; have := Hn.out; omega)).trans (by omega)
            have D := Lib.hid (And.intro t1 (And.intro t2 (And.intro t3 (And.intro tn hle))))
            clear hap hb hp o hids t1 t2 t3 tn hle R ha' y1 hl
            go_wp2_with (first | (at_builtin; refine Lib.wpList_append_run _ rfl (.tmp 60) (.tmp 62) 29 29 rfl _ _ rfl rfl _ _ hr ?_))
            with_reducible refine Calls.mono (HH.out S _ _ _ _ _ R6.out.slots) ?_
            rintro e w7 ⟨rfl, hs, o⟩
            have R7 := Lib.hid (R6.out.ofSlots hs o)
            obtain ⟨_, _, c2, _, _, f2⟩ := R7.out.mcell
            clear hs o
            go_wp2_with fail
            go_meet
            exact ⟨ids', _, _, _, _, _, _, R7.out.store2, D.out.1, D.out.2.1, D.out.2.2.2.1, D.out.2.2.2.2⟩
          by_cases e3 : K = 3
          ·
            as_aux_lemma =>
            subst e3
            have HCn := Lib.hid confirm_none
            have HCy := Lib.hid confirm_yes
            have HCo := Lib.hid confirm_no
            have HSh := Lib.hid ref_shift
            by_cases hid : ids.length = 0
            · have eb : ((ids.length : Int) == 0) = true := by simp [hid]
              have H0 := Lib.hid hid
              clear hid
              go_wp2_with fail
              with_reducible refine Calls.mono (HCn.out _ _) ?_
              rintro e w5 ⟨rfl, o⟩
              have R5 := Lib.hid (HR.out.step o)
              clear o
              go_wp2_with fail
              go_roundw
              case rel => exact ⟨k + 1, by omega, by go_num, ids, _, _, _, _, _, _, R5.out, s1, s2, s3, by have := Hi.out; omega⟩
              case measure => exact meas wk hlt
            · have wn := WN.out
              simp only [Lit.wf, IntKind.min, IntKind.max, IntKind.signed, IntKind.bits, Bool.and_eq_true, decide_eq_true_eq] at wn
              have wn0 : 0 ≤ N := by have := wn.1; simpa using this
              have hl : ids.length ≤ 60 := by have := Hi.out; have := Hn.out; omega
              have r0 := Int.tmod_nonneg (ids.length : Int) wn0
              have r1 := Int.tmod_lt_of_pos N (show (0 : Int) < (ids.length : Int) by omega)
              have wN : IntKind.i64.wrap N = N := IntWalk.i64_in _ (by have := wn.2; constructor <;> (simp at this; omega))
              obtain ⟨j, hj⟩ : ∃ j : Nat, (j : Int) = (ids.length : Int) - 1 - N.tmod (ids.length : Int) := ⟨((ids.length : Int) - 1 - N.tmod (ids.length : Int)).toNat, by omega⟩
              have hjl : j < ids.length := by omega
              have wl : IntKind.i64.wrap ((ids.length : Int) - 1) = (ids.length : Int) - 1 := IntWalk.i64_in _ (by omega)
              have wj : IntKind.i64.wrap ((ids.length : Int) - 1 - N.tmod (ids.length : Int)) = (j : Int) := (IntWalk.i64_in _ (by omega)).trans hj.symm
              have wr3 : IntKind.i64.wrap (N.tmod (ids.length : Int)) = N.tmod (ids.length : Int) := IntWalk.i64_in _ (by omega)
              have eb : ((ids.length : Int) == 0) = false := by simp [hid]
              have eb2 : ¬ (ids.length : Int) = 0 := by omega
              have eb3 : ¬ ids.length = 0 := hid
              have y := HA.out.cell j hjl
              rw [Nat.zero_add] at y
              have hki : (j : Int) < (ids.length : Int) := by omega
              have hk0 : (0 ≤ (j : Int)) = True := eq_true (by omega)
              have pj := Lib.hid (HA.out.pairs j hjl).1
              obtain ⟨c0, c1, c2, _, _, _⟩ := HR.out.mcell
              obtain ⟨_, _, _, y3⟩ := ZK.out _ HR.out.only
              clear wn wn0 r0 r1 hj hl hid
              by_cases hq : q3 = (j : Int)
              · subst hq
                have ep := sd_ptr s3
                subst ep
                go_wp2_with fail
                with_reducible refine Calls.mono (HCy.out S _ _ _ _ HR.out.slots) ?_
                rintro e w5 ⟨rfl, hs, o⟩
                have R5 := Lib.hid (HR.out.ofSlots hs o)
                clear hs o c0 c1 c2
                obtain ⟨c0, c1, c2, _, _, _⟩ := R5.out.mcell
                go_wp2_with fail
                with_reducible refine Calls.mono (HSh.out _ _ _ _ _) ?_
                rintro e w6 ⟨rfl, o⟩
                have R6 := Lib.hid (R5.out.step o)
                clear o c0 c1 c2
                obtain ⟨c0, c1, c2, f0, f1, f2⟩ := R6.out.mcell
                go_wp2_with fail
                go_meet
                exact ⟨ids, _, _, _, _, _, _, R6.out.store, s2, s3, .inl ⟨rfl, rfl⟩, by have := Hi.out; omega⟩
              · have hqb : (q3 == (j : Int)) = false := beq_false_of_ne hq
                have hp3 : IsPair wc p3 := fun a ea => by
                  rcases s3 with ⟨_, rfl⟩ | ⟨i, _, hi, rfl⟩
                  · cases ea
                  · injection ea with ea
                    exact ⟨_, _, _, ea.symm, (HA.out.pairs i hi).1⟩
                have hn3 : p3 ≠ some ⟨blk ids j, 0, none⟩ := fun ea => by
                  rcases s3 with ⟨_, rfl⟩ | ⟨i, rfl, hi, rfl⟩
                  · cases ea
                  · injection ea with ea
                    injection ea with ea
                    exact hq (by rw [HR.out.apart i j hi hjl ea])
                have T := Lib.hid (confirm_no S p1 p2 p3 _ _ _ wc HR.out.slots hp3 pj.out hn3)
                clear hp3 hn3 hq
                go_wp2_with fail
                with_reducible refine T.out.mono ?_
                rintro e w5 ⟨rfl, o⟩
                have R5 := Lib.hid (HR.out.step o)
                clear o
                go_wp2_with fail
                go_meet
                exact ⟨ids, _, _, _, _, _, _, R5.out, s1, s2, s3, by have := Hi.out; omega⟩
          by_cases e4 : K = 4
          ·
            as_aux_lemma =>
            subst e4
            have HCn := Lib.hid confirm_none
            have HCy := Lib.hid confirm_yes
            have HCo := Lib.hid confirm_no
            have HSh := Lib.hid ref_shift
            by_cases hid : ids.length = 0
            · have eb : ((ids.length : Int) == 0) = true := by simp [hid]
              have H0 := Lib.hid hid
              clear hid
              go_wp2_with fail
              with_reducible refine Calls.mono (HCn.out _ _) ?_
              rintro e w5 ⟨rfl, o⟩
              have R5 := Lib.hid (HR.out.step o)
              clear o
              go_wp2_with fail
              go_roundw
              case rel => exact ⟨k + 1, by omega, by go_num, ids, _, _, _, _, _, _, R5.out, s1, s2, s3, by have := Hi.out; omega⟩
              case measure => exact meas wk hlt
            · have wn := WN.out
              simp only [Lit.wf, IntKind.min, IntKind.max, IntKind.signed, IntKind.bits, Bool.and_eq_true, decide_eq_true_eq] at wn
              have wn0 : 0 ≤ N := by have := wn.1; simpa using this
              have hl : ids.length ≤ 60 := by have := Hi.out; have := Hn.out; omega
              have r0 := Int.tmod_nonneg (ids.length : Int) wn0
              have r1 := Int.tmod_lt_of_pos N (show (0 : Int) < (ids.length : Int) by omega)
              have wN : IntKind.i64.wrap N = N := IntWalk.i64_in _ (by have := wn.2; constructor <;> (simp at this; omega))
              obtain ⟨j, hj⟩ : ∃ j : Nat, (j : Int) = (ids.length : Int) - 1 - N.tmod (ids.length : Int) := ⟨((ids.length : Int) - 1 - N.tmod (ids.length : Int)).toNat, by omega⟩
              have hjl : j < ids.length := by omega
              have wl : IntKind.i64.wrap ((ids.length : Int) - 1) = (ids.length : Int) - 1 := IntWalk.i64_in _ (by omega)
              have wj : IntKind.i64.wrap ((ids.length : Int) - 1 - N.tmod (ids.length : Int)) = (j : Int) := (IntWalk.i64_in _ (by omega)).trans hj.symm
              have wr3 : IntKind.i64.wrap (N.tmod (ids.length : Int)) = N.tmod (ids.length : Int) := IntWalk.i64_in _ (by omega)
              have eb : ((ids.length : Int) == 0) = false := by simp [hid]
              have eb2 : ¬ (ids.length : Int) = 0 := by omega
              have eb3 : ¬ ids.length = 0 := hid
              have y := HA.out.cell j hjl
              rw [Nat.zero_add] at y
              have hki : (j : Int) < (ids.length : Int) := by omega
              have hk0 : (0 ≤ (j : Int)) = True := eq_true (by omega)
              have pj := Lib.hid (HA.out.pairs j hjl).1
              obtain ⟨c0, c1, c2, _, _, _⟩ := HR.out.mcell
              obtain ⟨_, _, _, y3⟩ := ZK.out _ HR.out.only
              clear wn wn0 r0 r1 hj hl hid
              by_cases hq : q3 = (j : Int)
              · subst hq
                have ep := sd_ptr s3
                subst ep
                go_wp2_with fail
                with_reducible refine Calls.mono (HCy.out S _ _ _ _ HR.out.slots) ?_
                rintro e w5 ⟨rfl, hs, o⟩
                have R5 := Lib.hid (HR.out.ofSlots hs o)
                clear hs o c0 c1 c2
                obtain ⟨c0, c1, c2, _, _, _⟩ := R5.out.mcell
                go_wp2_with fail
                with_reducible refine Calls.mono (HSh.out _ _ _ _ _) ?_
                rintro e w6 ⟨rfl, o⟩
                have R6 := Lib.hid (R5.out.step o)
                clear o c0 c1 c2
                obtain ⟨c0, c1, c2, f0, f1, f2⟩ := R6.out.mcell
                go_wp2_with fail
                go_meet
                exact ⟨ids, _, _, _, _, _, _, R6.out.store, s2, s3, .inl ⟨rfl, rfl⟩, by have := Hi.out; omega⟩
              · have hqb : (q3 == (j : Int)) = false := beq_false_of_ne hq
                have hp3 : IsPair wc p3 := fun a ea => by
                  rcases s3 with ⟨_, rfl⟩ | ⟨i, _, hi, rfl⟩
                  · cases ea
                  · injection ea with ea
                    exact ⟨_, _, _, ea.symm, (HA.out.pairs i hi).1⟩
                have hn3 : p3 ≠ some ⟨blk ids j, 0, none⟩ := fun ea => by
                  rcases s3 with ⟨_, rfl⟩ | ⟨i, rfl, hi, rfl⟩
                  · cases ea
                  · injection ea with ea
                    injection ea with ea
                    exact hq (by rw [HR.out.apart i j hi hjl ea])
                have T := Lib.hid (confirm_no S p1 p2 p3 _ _ _ wc HR.out.slots hp3 pj.out hn3)
                clear hp3 hn3 hq
                go_wp2_with fail
                with_reducible refine T.out.mono ?_
                rintro e w5 ⟨rfl, o⟩
                have R5 := Lib.hid (HR.out.step o)
                clear o
                go_wp2_with fail
                go_meet
                exact ⟨ids, _, _, _, _, _, _, R5.out, s1, s2, s3, by have := Hi.out; omega⟩
          by_cases e5 : K = 5
          ·
            as_aux_lemma =>
            subst e5
            have hcn : cnt p1 p2 p3 = cn q1 q2 q3 := cnt_eq s1 s2 s3
            have HE := Lib.hid erase_any
            have HK := Lib.hid (ref_count q1 q2 q3)
            have R := Lib.hid (HR.out.step (Only.refl _ wc).drew)
            obtain ⟨c0, c1, c2, _, _, _⟩ := HR.out.mcell
            go_wp2_with fail
            go_region_with (first
              | (go_at_call 13; (with_reducible refine Calls.mono (HE.out S _ _ _ _ R.out.slots) ?_); rintro e w7 ⟨rfl, hs, o⟩; have R := Lib.hid (R.out.ofSlots hs o); obtain ⟨c0, c1, c2, _, _, _⟩ := R.out.mcell; clear hs o)
              | (go_at_call 14; (with_reducible refine Calls.mono (HK.out _) ?_); rintro e w8 ⟨rfl, o⟩; have R := Lib.hid (R.out.step o); clear o))
            all_goals
              obtain ⟨d0, d1, d2, f0, f1, f2⟩ := R.out.mcell
              go_wp2_with fail
              go_meet
              exact ⟨ids, _, _, _, _, _, _, R.out.store, .inl ⟨rfl, rfl⟩, .inl ⟨rfl, rfl⟩, .inl ⟨rfl, rfl⟩, by have := Hi.out; omega⟩
          have b0 : (K == 0) = false := beq_false_of_ne e0
          have b1 : (K == 1) = false := beq_false_of_ne e1
          have b2 : (K == 2) = false := beq_false_of_ne e2
          have b3 : (K == 3) = false := beq_false_of_ne e3
          have b4 : (K == 4) = false := beq_false_of_ne e4
          have b5 : (K == 5) = false := beq_false_of_ne e5
          go_wp2_with fail
          go_meet
          exact ⟨ids, _, _, _, _, _, _, HR.out, s1, s2, s3, by have := Hi.out; omega⟩
        case rest =>
          obtain ⟨ids, q1, q2, q3, p1, p2, p3, R, s1, s2, s3, hids⟩ := hcut
          have HR := Lib.hid R
          have Hs := Lib.hid (And.intro s1 (And.intro s2 s3))
          have Hi := Lib.hid hids
          obtain ⟨g, cp, hv, ha⟩ := R.all (by have := Hn.out; omega)
          subst hv
          have HA := Lib.hid ha
          clear R hids ha
          have R0 := Lib.hid ref_at0
          have R1 := Lib.hid ref_at1
          have R2 := Lib.hid ref_at2
          have R3 := Lib.hid ref_at3
          have R4 := Lib.hid ref_at4
          have T0 := Lib.hid at_low
          have T4 := Lib.hid at_high
          have T1 := Lib.hid at_one
          have T2 := Lib.hid at_two
          have T3 := Lib.hid at_three
          have hne := neq_same
          have O := Lib.hid (Only.refl (fun _ => False) wc)
          go_wp2_with fail
          refine wp_loop_rounds 6 ?_
          rw [rounds_succ]
          go_wp2_with fail
          with_reducible refine Calls.mono (T0.out S 0 _ (by omega)) ?_
          rintro e w' ⟨rfl, o'⟩
          have O := Lib.hid (O.out.trans o')
          clear o'
          obtain ⟨e0, e1, e2, _, _, _⟩ := (HR.out.step O.out).mcell
          go_wp2_with fail
          with_reducible refine (R0.out _ _ _ _).mono ?_
          rintro e w'' ⟨rfl, o'⟩
          have O := Lib.hid (O.out.trans o')
          clear o' e0 e1 e2
          go_wp2_with fail
          rcases id s1 with ⟨rfl, rfl⟩ | ⟨k1, rfl, h1, rfl⟩
          ·
            as_aux_lemma =>
            rw [rounds_succ]
            go_wp2_with fail
            with_reducible refine Calls.mono (T1.out S _ _ _ _ (HR.out.step O.out).slots) ?_
            rintro e w' ⟨rfl, o'⟩
            have O := Lib.hid (O.out.trans o')
            clear o'
            obtain ⟨e0, e1, e2, _, _, _⟩ := (HR.out.step O.out).mcell
            go_wp2_with fail
            with_reducible refine (R1.out _ _ _ _).mono ?_
            rintro e w'' ⟨rfl, o'⟩
            have O := Lib.hid (O.out.trans o')
            clear o' e0 e1 e2
            go_wp2_with fail
            rcases id s2 with ⟨rfl, rfl⟩ | ⟨k2, rfl, h2, rfl⟩
            ·
              as_aux_lemma =>
              rw [rounds_succ]
              go_wp2_with fail
              with_reducible refine Calls.mono (T2.out S _ _ _ _ (HR.out.step O.out).slots) ?_
              rintro e w' ⟨rfl, o'⟩
              have O := Lib.hid (O.out.trans o')
              clear o'
              obtain ⟨e0, e1, e2, _, _, _⟩ := (HR.out.step O.out).mcell
              go_wp2_with fail
              with_reducible refine (R2.out _ _ _ _).mono ?_
              rintro e w'' ⟨rfl, o'⟩
              have O := Lib.hid (O.out.trans o')
              clear o' e0 e1 e2
              go_wp2_with fail
              rcases id s3 with ⟨rfl, rfl⟩ | ⟨k3, rfl, h3, rfl⟩
              ·
                rw [rounds_succ]
                go_wp2_with fail
                with_reducible refine Calls.mono (T3.out S _ _ _ _ (HR.out.step O.out).slots) ?_
                rintro e w' ⟨rfl, o'⟩
                have O := Lib.hid (O.out.trans o')
                clear o'
                obtain ⟨e0, e1, e2, _, _, _⟩ := (HR.out.step O.out).mcell
                go_wp2_with fail
                with_reducible refine (R3.out _ _ _ _).mono ?_
                rintro e w'' ⟨rfl, o'⟩
                have O := Lib.hid (O.out.trans o')
                clear o' e0 e1 e2
                go_wp2_with fail
                rw [rounds_succ]
                go_wp2_with fail
                with_reducible refine Calls.mono (T4.out S 4 _ (by omega)) ?_
                rintro e w' ⟨rfl, o'⟩
                have O := Lib.hid (O.out.trans o')
                clear o'
                obtain ⟨e0, e1, e2, _, _, _⟩ := (HR.out.step O.out).mcell
                go_wp2_with fail
                with_reducible refine (R4.out _ _ _ _).mono ?_
                rintro e w'' ⟨rfl, o'⟩
                have O := Lib.hid (O.out.trans o')
                clear o' e0 e1 e2
                go_wp2_with fail
                rw [rounds_succ]
                go_wp2_with fail
                go_roundw
                case rel => exact ⟨k + 1, by omega, by go_num, ids, _, _, _, _, _, _, HR.out.step O.out, s1, s2, s3, Hi.out⟩
                case measure => exact meas wk hlt
              ·
                rw [rounds_succ]
                go_wp2_with fail
                with_reducible refine Calls.mono (T3.out S _ _ _ _ (HR.out.step O.out).slots) ?_
                rintro e w' ⟨rfl, o'⟩
                have O := Lib.hid (O.out.trans o')
                clear o'
                obtain ⟨e0, e1, e2, _, _, _⟩ := (HR.out.step O.out).mcell
                go_wp2_with fail
                with_reducible refine (R3.out _ _ _ _).mono ?_
                rintro e w'' ⟨rfl, o'⟩
                have O := Lib.hid (O.out.trans o')
                clear o' e0 e1 e2
                have aa := HA.out.keep O.out
                have y := aa.cell k3 h3
                rw [Nat.zero_add] at y
                have hkn : k3 < ids.length := h3
                have hki : (k3 : Int) < (ids.length : Int) := by omega
                have hk0 : (0 ≤ (k3 : Int)) = True := eq_true (by omega)
                have hk1 : ((k3 : Int) < 0) = False := eq_false (by omega)
                clear aa
                go_wp2_with fail
                rw [rounds_succ]
                go_wp2_with fail
                with_reducible refine Calls.mono (T4.out S 4 _ (by omega)) ?_
                rintro e w' ⟨rfl, o'⟩
                have O := Lib.hid (O.out.trans o')
                clear o'
                obtain ⟨e0, e1, e2, _, _, _⟩ := (HR.out.step O.out).mcell
                go_wp2_with fail
                with_reducible refine (R4.out _ _ _ _).mono ?_
                rintro e w'' ⟨rfl, o'⟩
                have O := Lib.hid (O.out.trans o')
                clear o' e0 e1 e2
                go_wp2_with fail
                rw [rounds_succ]
                go_wp2_with fail
                go_roundw
                case rel => exact ⟨k + 1, by omega, by go_num, ids, _, _, _, _, _, _, HR.out.step O.out, s1, s2, s3, Hi.out⟩
                case measure => exact meas wk hlt
            ·
              as_aux_lemma =>
              rw [rounds_succ]
              go_wp2_with fail
              with_reducible refine Calls.mono (T2.out S _ _ _ _ (HR.out.step O.out).slots) ?_
              rintro e w' ⟨rfl, o'⟩
              have O := Lib.hid (O.out.trans o')
              clear o'
              obtain ⟨e0, e1, e2, _, _, _⟩ := (HR.out.step O.out).mcell
              go_wp2_with fail
              with_reducible refine (R2.out _ _ _ _).mono ?_
              rintro e w'' ⟨rfl, o'⟩
              have O := Lib.hid (O.out.trans o')
              clear o' e0 e1 e2
              have aa := HA.out.keep O.out
              have y := aa.cell k2 h2
              rw [Nat.zero_add] at y
              have hkn : k2 < ids.length := h2
              have hki : (k2 : Int) < (ids.length : Int) := by omega
              have hk0 : (0 ≤ (k2 : Int)) = True := eq_true (by omega)
              have hk1 : ((k2 : Int) < 0) = False := eq_false (by omega)
              clear aa
              go_wp2_with fail
              rcases id s3 with ⟨rfl, rfl⟩ | ⟨k3, rfl, h3, rfl⟩
              ·
                rw [rounds_succ]
                go_wp2_with fail
                with_reducible refine Calls.mono (T3.out S _ _ _ _ (HR.out.step O.out).slots) ?_
                rintro e w' ⟨rfl, o'⟩
                have O := Lib.hid (O.out.trans o')
                clear o'
                obtain ⟨e0, e1, e2, _, _, _⟩ := (HR.out.step O.out).mcell
                go_wp2_with fail
                with_reducible refine (R3.out _ _ _ _).mono ?_
                rintro e w'' ⟨rfl, o'⟩
                have O := Lib.hid (O.out.trans o')
                clear o' e0 e1 e2
                go_wp2_with fail
                rw [rounds_succ]
                go_wp2_with fail
                with_reducible refine Calls.mono (T4.out S 4 _ (by omega)) ?_
                rintro e w' ⟨rfl, o'⟩
                have O := Lib.hid (O.out.trans o')
                clear o'
                obtain ⟨e0, e1, e2, _, _, _⟩ := (HR.out.step O.out).mcell
                go_wp2_with fail
                with_reducible refine (R4.out _ _ _ _).mono ?_
                rintro e w'' ⟨rfl, o'⟩
                have O := Lib.hid (O.out.trans o')
                clear o' e0 e1 e2
                go_wp2_with fail
                rw [rounds_succ]
                go_wp2_with fail
                go_roundw
                case rel => exact ⟨k + 1, by omega, by go_num, ids, _, _, _, _, _, _, HR.out.step O.out, s1, s2, s3, Hi.out⟩
                case measure => exact meas wk hlt
              ·
                rw [rounds_succ]
                go_wp2_with fail
                with_reducible refine Calls.mono (T3.out S _ _ _ _ (HR.out.step O.out).slots) ?_
                rintro e w' ⟨rfl, o'⟩
                have O := Lib.hid (O.out.trans o')
                clear o'
                obtain ⟨e0, e1, e2, _, _, _⟩ := (HR.out.step O.out).mcell
                go_wp2_with fail
                with_reducible refine (R3.out _ _ _ _).mono ?_
                rintro e w'' ⟨rfl, o'⟩
                have O := Lib.hid (O.out.trans o')
                clear o' e0 e1 e2
                have aa := HA.out.keep O.out
                have y := aa.cell k3 h3
                rw [Nat.zero_add] at y
                have hkn : k3 < ids.length := h3
                have hki : (k3 : Int) < (ids.length : Int) := by omega
                have hk0 : (0 ≤ (k3 : Int)) = True := eq_true (by omega)
                have hk1 : ((k3 : Int) < 0) = False := eq_false (by omega)
                clear aa
                go_wp2_with fail
                rw [rounds_succ]
                go_wp2_with fail
                with_reducible refine Calls.mono (T4.out S 4 _ (by omega)) ?_
                rintro e w' ⟨rfl, o'⟩
                have O := Lib.hid (O.out.trans o')
                clear o'
                obtain ⟨e0, e1, e2, _, _, _⟩ := (HR.out.step O.out).mcell
                go_wp2_with fail
                with_reducible refine (R4.out _ _ _ _).mono ?_
                rintro e w'' ⟨rfl, o'⟩
                have O := Lib.hid (O.out.trans o')
                clear o' e0 e1 e2
                go_wp2_with fail
                rw [rounds_succ]
                go_wp2_with fail
                go_roundw
                case rel => exact ⟨k + 1, by omega, by go_num, ids, _, _, _, _, _, _, HR.out.step O.out, s1, s2, s3, Hi.out⟩
                case measure => exact meas wk hlt
          ·
            as_aux_lemma =>
            rw [rounds_succ]
            go_wp2_with fail
            with_reducible refine Calls.mono (T1.out S _ _ _ _ (HR.out.step O.out).slots) ?_
            rintro e w' ⟨rfl, o'⟩
            have O := Lib.hid (O.out.trans o')
            clear o'
            obtain ⟨e0, e1, e2, _, _, _⟩ := (HR.out.step O.out).mcell
            go_wp2_with fail
            with_reducible refine (R1.out _ _ _ _).mono ?_
            rintro e w'' ⟨rfl, o'⟩
            have O := Lib.hid (O.out.trans o')
            clear o' e0 e1 e2
            have aa := HA.out.keep O.out
            have y := aa.cell k1 h1
            rw [Nat.zero_add] at y
            have hkn : k1 < ids.length := h1
            have hki : (k1 : Int) < (ids.length : Int) := by omega
            have hk0 : (0 ≤ (k1 : Int)) = True := eq_true (by omega)
            have hk1 : ((k1 : Int) < 0) = False := eq_false (by omega)
            clear aa
            go_wp2_with fail
            rcases id s2 with ⟨rfl, rfl⟩ | ⟨k2, rfl, h2, rfl⟩
            ·
              as_aux_lemma =>
              rw [rounds_succ]
              go_wp2_with fail
              with_reducible refine Calls.mono (T2.out S _ _ _ _ (HR.out.step O.out).slots) ?_
              rintro e w' ⟨rfl, o'⟩
              have O := Lib.hid (O.out.trans o')
              clear o'
              obtain ⟨e0, e1, e2, _, _, _⟩ := (HR.out.step O.out).mcell
              go_wp2_with fail
              with_reducible refine (R2.out _ _ _ _).mono ?_
              rintro e w'' ⟨rfl, o'⟩
              have O := Lib.hid (O.out.trans o')
              clear o' e0 e1 e2
              go_wp2_with fail
              rcases id s3 with ⟨rfl, rfl⟩ | ⟨k3, rfl, h3, rfl⟩
              ·
                rw [rounds_succ]
                go_wp2_with fail
                with_reducible refine Calls.mono (T3.out S _ _ _ _ (HR.out.step O.out).slots) ?_
                rintro e w' ⟨rfl, o'⟩
                have O := Lib.hid (O.out.trans o')
                clear o'
                obtain ⟨e0, e1, e2, _, _, _⟩ := (HR.out.step O.out).mcell
                go_wp2_with fail
                with_reducible refine (R3.out _ _ _ _).mono ?_
                rintro e w'' ⟨rfl, o'⟩
                have O := Lib.hid (O.out.trans o')
                clear o' e0 e1 e2
                go_wp2_with fail
                rw [rounds_succ]
                go_wp2_with fail
                with_reducible refine Calls.mono (T4.out S 4 _ (by omega)) ?_
                rintro e w' ⟨rfl, o'⟩
                have O := Lib.hid (O.out.trans o')
                clear o'
                obtain ⟨e0, e1, e2, _, _, _⟩ := (HR.out.step O.out).mcell
                go_wp2_with fail
                with_reducible refine (R4.out _ _ _ _).mono ?_
                rintro e w'' ⟨rfl, o'⟩
                have O := Lib.hid (O.out.trans o')
                clear o' e0 e1 e2
                go_wp2_with fail
                rw [rounds_succ]
                go_wp2_with fail
                go_roundw
                case rel => exact ⟨k + 1, by omega, by go_num, ids, _, _, _, _, _, _, HR.out.step O.out, s1, s2, s3, Hi.out⟩
                case measure => exact meas wk hlt
              ·
                rw [rounds_succ]
                go_wp2_with fail
                with_reducible refine Calls.mono (T3.out S _ _ _ _ (HR.out.step O.out).slots) ?_
                rintro e w' ⟨rfl, o'⟩
                have O := Lib.hid (O.out.trans o')
                clear o'
                obtain ⟨e0, e1, e2, _, _, _⟩ := (HR.out.step O.out).mcell
                go_wp2_with fail
                with_reducible refine (R3.out _ _ _ _).mono ?_
                rintro e w'' ⟨rfl, o'⟩
                have O := Lib.hid (O.out.trans o')
                clear o' e0 e1 e2
                have aa := HA.out.keep O.out
                have y := aa.cell k3 h3
                rw [Nat.zero_add] at y
                have hkn : k3 < ids.length := h3
                have hki : (k3 : Int) < (ids.length : Int) := by omega
                have hk0 : (0 ≤ (k3 : Int)) = True := eq_true (by omega)
                have hk1 : ((k3 : Int) < 0) = False := eq_false (by omega)
                clear aa
                go_wp2_with fail
                rw [rounds_succ]
                go_wp2_with fail
                with_reducible refine Calls.mono (T4.out S 4 _ (by omega)) ?_
                rintro e w' ⟨rfl, o'⟩
                have O := Lib.hid (O.out.trans o')
                clear o'
                obtain ⟨e0, e1, e2, _, _, _⟩ := (HR.out.step O.out).mcell
                go_wp2_with fail
                with_reducible refine (R4.out _ _ _ _).mono ?_
                rintro e w'' ⟨rfl, o'⟩
                have O := Lib.hid (O.out.trans o')
                clear o' e0 e1 e2
                go_wp2_with fail
                rw [rounds_succ]
                go_wp2_with fail
                go_roundw
                case rel => exact ⟨k + 1, by omega, by go_num, ids, _, _, _, _, _, _, HR.out.step O.out, s1, s2, s3, Hi.out⟩
                case measure => exact meas wk hlt
            ·
              as_aux_lemma =>
              rw [rounds_succ]
              go_wp2_with fail
              with_reducible refine Calls.mono (T2.out S _ _ _ _ (HR.out.step O.out).slots) ?_
              rintro e w' ⟨rfl, o'⟩
              have O := Lib.hid (O.out.trans o')
              clear o'
              obtain ⟨e0, e1, e2, _, _, _⟩ := (HR.out.step O.out).mcell
              go_wp2_with fail
              with_reducible refine (R2.out _ _ _ _).mono ?_
              rintro e w'' ⟨rfl, o'⟩
              have O := Lib.hid (O.out.trans o')
              clear o' e0 e1 e2
              have aa := HA.out.keep O.out
              have y := aa.cell k2 h2
              rw [Nat.zero_add] at y
              have hkn : k2 < ids.length := h2
              have hki : (k2 : Int) < (ids.length : Int) := by omega
              have hk0 : (0 ≤ (k2 : Int)) = True := eq_true (by omega)
              have hk1 : ((k2 : Int) < 0) = False := eq_false (by omega)
              clear aa
              go_wp2_with fail
              rcases id s3 with ⟨rfl, rfl⟩ | ⟨k3, rfl, h3, rfl⟩
              ·
                rw [rounds_succ]
                go_wp2_with fail
                with_reducible refine Calls.mono (T3.out S _ _ _ _ (HR.out.step O.out).slots) ?_
                rintro e w' ⟨rfl, o'⟩
                have O := Lib.hid (O.out.trans o')
                clear o'
                obtain ⟨e0, e1, e2, _, _, _⟩ := (HR.out.step O.out).mcell
                go_wp2_with fail
                with_reducible refine (R3.out _ _ _ _).mono ?_
                rintro e w'' ⟨rfl, o'⟩
                have O := Lib.hid (O.out.trans o')
                clear o' e0 e1 e2
                go_wp2_with fail
                rw [rounds_succ]
                go_wp2_with fail
                with_reducible refine Calls.mono (T4.out S 4 _ (by omega)) ?_
                rintro e w' ⟨rfl, o'⟩
                have O := Lib.hid (O.out.trans o')
                clear o'
                obtain ⟨e0, e1, e2, _, _, _⟩ := (HR.out.step O.out).mcell
                go_wp2_with fail
                with_reducible refine (R4.out _ _ _ _).mono ?_
                rintro e w'' ⟨rfl, o'⟩
                have O := Lib.hid (O.out.trans o')
                clear o' e0 e1 e2
                go_wp2_with fail
                rw [rounds_succ]
                go_wp2_with fail
                go_roundw
                case rel => exact ⟨k + 1, by omega, by go_num, ids, _, _, _, _, _, _, HR.out.step O.out, s1, s2, s3, Hi.out⟩
                case measure => exact meas wk hlt
              ·
                rw [rounds_succ]
                go_wp2_with fail
                with_reducible refine Calls.mono (T3.out S _ _ _ _ (HR.out.step O.out).slots) ?_
                rintro e w' ⟨rfl, o'⟩
                have O := Lib.hid (O.out.trans o')
                clear o'
                obtain ⟨e0, e1, e2, _, _, _⟩ := (HR.out.step O.out).mcell
                go_wp2_with fail
                with_reducible refine (R3.out _ _ _ _).mono ?_
                rintro e w'' ⟨rfl, o'⟩
                have O := Lib.hid (O.out.trans o')
                clear o' e0 e1 e2
                have aa := HA.out.keep O.out
                have y := aa.cell k3 h3
                rw [Nat.zero_add] at y
                have hkn : k3 < ids.length := h3
                have hki : (k3 : Int) < (ids.length : Int) := by omega
                have hk0 : (0 ≤ (k3 : Int)) = True := eq_true (by omega)
                have hk1 : ((k3 : Int) < 0) = False := eq_false (by omega)
                clear aa
                go_wp2_with fail
                rw [rounds_succ]
                go_wp2_with fail
                with_reducible refine Calls.mono (T4.out S 4 _ (by omega)) ?_
                rintro e w' ⟨rfl, o'⟩
                have O := Lib.hid (O.out.trans o')
                clear o'
                obtain ⟨e0, e1, e2, _, _, _⟩ := (HR.out.step O.out).mcell
                go_wp2_with fail
                with_reducible refine (R4.out _ _ _ _).mono ?_
                rintro e w'' ⟨rfl, o'⟩
                have O := Lib.hid (O.out.trans o')
                clear o' e0 e1 e2
                go_wp2_with fail
                rw [rounds_succ]
                go_wp2_with fail
                go_roundw
                case rel => exact ⟨k + 1, by omega, by go_num, ids, _, _, _, _, _, _, HR.out.step O.out, s1, s2, s3, Hi.out⟩
                case measure => exact meas wk hlt
    · have k1 : ((k : Int) < (n : Int)) = False := eq_false (by omega)
      have hv0 := hv
      subst hv0
      have T := Lib.hid (asked_true S p1 p2 p3 q1 q2 q3 l now wr g 0 ids.length cp ids HR.out.slots HA.out Hs.out.1 Hs.out.2.1 Hs.out.2.2)
      obtain ⟨m0, m1, m2, _, _, _⟩ := HR.out.mcell
      go_wp2_with fail
      with_reducible refine T.out.mono ?_
      rintro e w5 ⟨rfl, o⟩
      have O := Lib.hid (HR.out.only.trans o)
      clear o
      go_wp2_with fail
      go_ret
      exact ⟨rfl, O.out⟩

variable {w : World}

theorem acts_walk (a : Option Addr) (len cap : Nat) (z : Nat → Act4) (h : Acts w a len z) (l : Int) (hl : (Lit.int .u32 l).wf = true) (now : Int) (hn : (Lit.int .i64 now).wf = true) :
    Calls Try.prog 3 #[.slice a len cap, .int .u32 l, .int .i64 now] w fun e W' => e = .returned (.bool true) ∧ Below w.heap.size w W' := by
  have K : Calls Try.prog 3 #[.slice a len cap, .int .u32 l, .int .i64 now] w fun e w' => e = .returned (.bool true) ∧ Only (fun _ => False) w w' := by
    by_cases h60 : 60 < len
    · exact acts_long a len cap l now w h60
    · exact acts_true a len cap z l now w (Acts.cells h) (by omega)
  exact K.mono fun e W' q => ⟨q.1, q.2.below (fun _ h => h.elim) (Nat.le_refl _)⟩
end Go.Proofs.Ythembojamiagoaa.sloM
