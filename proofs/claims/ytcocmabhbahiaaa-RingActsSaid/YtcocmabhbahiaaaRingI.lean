/- The walk of RingActs: of any room, whatever is done, the law's function returns true, and nothing that was there is written. -/
import Derived.Test.YtcocmabhbahiaaaRingH
import Derived.Deep.DeepCutAuto
namespace Go.Proofs.Ytcocmabhbahiaaa.ringI
open Go.RowKit Go.Proofs.Ytcocmabhbahiaaa.kit Go.Proofs.Ytcocmabhbahiaaa.ringB Go.Proofs.Ytcocmabhbahiaaa.ringF
set_option linter.unusedVariables false

/-- What the walk is told of the acts. -/
def Acts (w : World) (a : Option Addr) (len : Nat) : Prop :=
  len = 0 ∨ ∃ b o, a = some ⟨b, o, none⟩ ∧ b < w.heap.size ∧ ∃ (k x : Nat → Int), ∀ i, i < len → w.cell? ⟨b, o + i * 2, none⟩ = some (.int .u8 (k i)) ∧ w.cell? ⟨b, o + i * 2 + 1, none⟩ = some (.int .u64 (x i))

def Done (w : World) (e : Ending) (w' : World) : Prop := e = .returned (.bool true) ∧ Below w.heap.size w w'

/-- What holds at each act: the ring, the list that the law keeps, old memory. -/
structure Rel (w : World) (room B R : Nat) (v : Value) (xs : List Int) (f : Nat) (wr : World) : Prop where
  ring : RingAt wr B R room f xs
  list : Lst wr 23 (fun j => w.heap.size ≤ j ∧ j ≠ B ∧ j ≠ R) v (U xs)
  old : Only (fun _ => False) w wr
  hB : w.heap.size ≤ B
  hR : w.heap.size ≤ R

theorem U_len (xs : List Int) : (U xs).length = xs.length := by simp [U]

theorem lst_form {w : World} {S : Nat → Prop} {v : Value} {xs : List Int} (h : Lst w 23 S v (U xs)) : ∃ a cap, v = .slice a xs.length cap := by
  rcases h with ⟨h, hx⟩ | ⟨g, o, cap, h, _⟩
  · have : xs.length = 0 := by rw [← U_len, hx]; rfl
    exact ⟨none, 0, by rw [h, this]⟩
  · exact ⟨_, cap, by rw [h, U_len]⟩

theorem lst_some {w : World} {S : Nat → Prop} {v : Value} {xs : List Int} (h : Lst w 23 S v (U xs)) (hn : 0 < xs.length) :
    ∃ g o cap, v = .slice (some ⟨g, o, none⟩) xs.length cap ∧ xs.length ≤ cap ∧ cap ≤ maxLen ∧ S g ∧ ∀ i, i < xs.length → w.cell? ⟨g, o + i, none⟩ = some (.int .u64 (xs.getD i 0)) := by
  have h' := h
  rcases h with ⟨h, hx⟩ | ⟨g, o, cap, rfl, hS, hc, hm, _⟩
  · have : xs.length = 0 := by rw [← U_len, hx]; rfl
    omega
  · rw [U_len] at hc
    exact ⟨g, o, cap, by rw [U_len], hc, hm, hS, fun i hi => by rw [h'.cell (by rw [U_len]; exact hi), U_get xs i hi]⟩

theorem lst_tail {w : World} {S : Nat → Prop} {g o n cap : Nat} {x : Int} {xs : List Int} (h : Lst w 23 S (.slice (some ⟨g, o, none⟩) n cap) (U (x :: xs))) (hn : n = xs.length + 1) :
    Lst w 23 S (.slice (some ⟨g, o + 1, none⟩) xs.length (cap - 1)) (U xs) := by
  rcases h with ⟨h, hx⟩ | ⟨g', o', cap', h1, h2, h3, h4, c, fr, h5, h6, h7⟩
  · cases h
  · injection h1 with q1 q2 q3
    injection q1 with q1
    injection q1 with q1 q4
    subst q1 q4 q3
    simp only [U_len, List.length_cons] at h3 h7
    exact .inr ⟨g, o + 1, cap - 1, by rw [U_len], h2, by rw [U_len]; omega, by omega, c, fr, h5, by omega, fun i hi => by
      rw [U_len] at hi
      rw [show o + 1 + i = o + (i + 1) by omega, h7 (i + 1) (by omega)]
      simp [U]⟩

theorem lst_tail1 {w : World} {S : Nat → Prop} {g o : Nat} {x : Int} (h : Lst w 23 S (.slice (some ⟨g, o, none⟩) 1 1) (U [x])) :
    Lst w 23 S (.slice (some ⟨g, o, none⟩) 0 0) (U []) := by
  rcases h with ⟨h, hx⟩ | ⟨g', o', cap', h1, h2, h3, h4, c, fr, h5, h6, h7⟩
  · cases h
  · injection h1 with q1 q2 q3
    injection q1 with q1
    injection q1 with q1 q4
    subst q1 q4 q3
    exact .inr ⟨g, o, 0, rfl, h2, by simp [U], by decide, c, fr, h5, by omega, fun i hi => by simp [U] at hi⟩

theorem lst_front {w : World} {S : Nat → Prop} {g o n cap : Nat} {x : Int} {xs : List Int} (h : Lst w 23 S (.slice (some ⟨g, o, none⟩) n cap) (U (xs ++ [x]))) :
    Lst w 23 S (.slice (some ⟨g, o, none⟩) xs.length cap) (U xs) := by
  rcases h with ⟨h, hx⟩ | ⟨g', o', cap', h1, h2, h3, h4, c, fr, h5, h6, h7⟩
  · cases h
  · injection h1 with q1 q2 q3
    injection q1 with q1
    injection q1 with q1 q4
    subst q1 q4 q3
    simp only [U_len, List.length_append, List.length_cons, List.length_nil] at h3 h7
    exact .inr ⟨g, o, cap, by rw [U_len], h2, by rw [U_len]; omega, h4, c, fr, h5, h6, fun i hi => by
      rw [U_len] at hi
      rw [h7 i (by omega), U_get _ i (by simp; omega), U_get _ i hi]
      simp only [List.getD_eq_getElem?_getD]
      rw [List.getElem?_append_left hi]⟩

theorem Rel.next {w wr W1 W2 : World} {rm B R f f' : Nat} {v v' : Value} {xs xs' : List Int} (hR : Rel w rm B R v xs f wr) (o1 : Only (fun _ => False) wr W1) (o2 : Only (S2 B R) W1 W2) (ring : RingAt W2 B R rm f' xs')
    (list : Lst W1 23 (fun j => w.heap.size ≤ j ∧ j ≠ B ∧ j ≠ R) v' (U xs')) : Rel w rm B R v' xs' f' W2 :=
  ⟨ring, list.keep o2 fun i h k => by rcases k with k | k; exact h.2.1 k; exact h.2.2 k,
    ringH.Only.since (hR.old.trans o1) o2 fun j h => by rcases h with rfl | rfl; exact hR.hB; exact hR.hR, hR.hB, hR.hR⟩

theorem Rel.mem {w wr : World} {rm B R f : Nat} {v : Value} {xs : List Int} (hR : Rel w rm B R v xs f wr) : B < wr.heap.size ∧ R < wr.heap.size := by
  refine ⟨lt_of hR.ring.head, ?_⟩
  obtain ⟨g, a, _⟩ := hR.ring.row
  exact a.lt

set_option maxRecDepth 100000 in
set_option maxHeartbeats 2000000 in
theorem walk (room : Int) (a : Option Addr) (len cap : Nat) (w : World) (hl : Acts w a len) (hm : len ≤ maxLen) :
    Calls Try.prog 10 #[.int .i64 room, .slice a len cap] w (Done w) := by
  have A := ringH.awake_any w
  unfold maxLen at hm
  by_cases hlen : 200 < len
  · clear hl
    go_enter Try.func10, Try.ntmps10
    go_wp2_with fail
    refine A.mono ?_
    rintro e w1 ⟨rfl, o1⟩
    go_wp2_with fail
    go_ret
    exact ⟨rfl, o1.below (fun _ h => h.elim) (Nat.le_refl _)⟩
  · have hlen' : len ≤ 200 := by omega
    clear hlen
    by_cases hroom : room < 1 ∨ 4096 < room
    · clear hl
      have N := fun W => ringD.new_bad room W hroom
      by_cases hr1 : room < 1
      · clear hroom
        go_enter Try.func10, Try.ntmps10
        go_wp2_with fail
        refine A.mono ?_
        rintro e w1 ⟨rfl, o1⟩
        go_wp2_with fail
        refine (N _).mono ?_
        rintro e w2 ⟨rfl, rfl⟩
        go_wp2_with fail
        go_ret
        exact ⟨rfl, o1.below (fun _ h => h.elim) (Nat.le_refl _)⟩
      · have hr2 : 4096 < room := by omega
        clear hroom
        go_enter Try.func10, Try.ntmps10
        go_wp2_with fail
        refine A.mono ?_
        rintro e w1 ⟨rfl, o1⟩
        go_wp2_with fail
        refine (N _).mono ?_
        rintro e w2 ⟨rfl, rfl⟩
        go_wp2_with fail
        go_ret
        exact ⟨rfl, o1.below (fun _ h => h.elim) (Nat.le_refl _)⟩
    · obtain ⟨rm, rfl⟩ := Int.eq_ofNat_of_zero_le (by omega : 0 ≤ room)
      have r1 : 1 ≤ rm := by omega
      have r2 : rm ≤ 4096 := by omega
      have q1 : ¬ ((rm : Int) < 1) := by omega
      have q2 : ¬ ((4096 : Int) < rm) := by omega
      clear hroom
      have N := fun W => ringD.new_ok rm W r1 r2
      have HL := Lib.hid hl
      clear hl
      go_enter Try.func10, Try.ntmps10
      go_wp2_with fail
      refine A.mono ?_
      rintro e w1 ⟨rfl, o1⟩
      go_wp2_with fail
      refine (N _).mono ?_
      rintro e w2 ⟨rfl, ring2, o2, z2⟩
      have z1 := o1.size
      have L0 : Lst (w2.alloc (.cells #[] 23)) 23 (fun j => w.heap.size ≤ j ∧ j ≠ w1.heap.size + 1 ∧ j ≠ w1.heap.size) (.slice (some ⟨w2.heap.size, 0, none⟩) 0 0) (U []) :=
        .inr ⟨w2.heap.size, 0, 0, rfl, by omega, by simp [U], by decide, _, _, heap_alloc_new w2 _, by simp, fun i hi => by simp [U] at hi⟩
      have R0 : Rel w rm (w1.heap.size + 1) w1.heap.size (.slice (some ⟨w2.heap.size, 0, none⟩) 0 0) [] 0 (w2.alloc (.cells #[] 23)) :=
        ⟨RingAt.of w2 _ _ _ _ _ _ ring2 (Below.heap_alloc _ _ _ (by omega)) (Below.heap_alloc _ _ _ (by omega)), L0, (o1.trans o2).alloc _, by omega, z1⟩
      clear ring2 o1 o2 z2 z1 L0
      generalize hBB : w1.heap.size + 1 = B at *
      generalize hRR : w1.heap.size = R at *
      clear hBB hRR
      go_wp2_with fail
      go_loopw [7, 8] (fun v i wr => ∃ (k f : Nat) (xs : List Int), k ≤ len ∧ i = .int .i64 k ∧ Rel w rm B R v xs f wr) (fun _ i _ => len - (intOf i).toNat)
      case atStart => exact ⟨0, 0, [], Nat.zero_le _, rfl, R0⟩
      case round =>
        obtain ⟨k, f, xs, hk, rfl, hR⟩ := hrel
        clear R0 A N
        by_cases hlt : k < len
        · obtain ⟨b, o, rfl, hbw, ks, ys, hc⟩ : ∃ b o, a = some ⟨b, o, none⟩ ∧ b < w.heap.size ∧ ∃ (k x : Nat → Int), ∀ i, i < len → w.cell? ⟨b, o + i * 2, none⟩ = some (.int .u8 (k i)) ∧ w.cell? ⟨b, o + i * 2 + 1, none⟩ = some (.int .u64 (x i)) := by
            rcases HL.out with h | h
            · omega
            · exact h
          have hbb := hR.old.block b hbw id
          have c0 := (World.cell?_of_block (w := w) (a := ⟨b, o + k * 2, none⟩) hbb).trans (hc k hlt).1
          have c1 := (World.cell?_of_block (w := w) (a := ⟨b, o + k * 2 + 1, none⟩) hbb).trans (hc k hlt).2
          generalize ks k = kk at c0
          generalize ys k = y at c1
          clear hc hbb
          have hkl : (k : Int) < (len : Int) := by omega
          go_wp2_with fail
          · have hX := World.block_lt_of_cell? wr _ c1
            rcases Nat.lt_or_ge xs.length rm with hlx | hlx
            · have P1 := ringG.push_room _ u7 xs rm y wr hR.list (by omega) r2
              refine P1.mono ?_
              rintro e w1 ⟨v1, rfl, l1, o1⟩
              have c1' := (World.cell?_of_block (w := wr) (a := ⟨b, o + k * 2 + 1, none⟩) (w' := w1) (o1.block b hX id)).trans c1
              have P2 := ringC.push_room B R rm f y xs w1 (RingAt.of wr w1 _ _ _ _ _ hR.ring (o1.block B hR.mem.1 id) (o1.block R hR.mem.2 id)) hlx
              obtain ⟨va, vc, rfl⟩ := lst_form l1
              have HR := Lib.hid hR
              have HL1 := Lib.hid (l1.mono (T := fun j => w.heap.size ≤ j ∧ j ≠ B ∧ j ≠ R) fun j hj => by have := hR.mem; have := hR.old.size; omega)
              have HO1 := Lib.hid o1
              clear hR l1 o1 P1 c0 c1 hlx
              go_wp2_with fail
              refine P2.mono ?_
              rintro e w2 ⟨rfl, ring2, o2⟩
              have NX := HR.out.next HO1.out o2 ring2 HL1.out
              clear ring2 o2 P2 HR HL1 HO1 c1'
              obtain ⟨H0, -, H2, -, -, -, -⟩ := NX.ring.facts
              simp only [List.length_append, List.length_cons, List.length_nil, Nat.zero_add] at H2 NX ⊢
              go_wp2_with (first | (go_at_call 51; (with_reducible refine (ringA.len_any B _ _ H2).mono ?_); rintro e w' ⟨rfl, rfl⟩) | (go_at_call 52; (with_reducible refine (ringA.room_any B R rm _ H0).mono ?_); rintro e w' ⟨rfl, rfl⟩))
              go_roundw
              case rel => exact ⟨k + 1, _, _, by omega, by go_num, NX⟩
              case measure => simp [intOf]; omega
            · obtain ⟨y0, ys1, rfl⟩ : ∃ y0 ys1, xs = y0 :: ys1 := by
                cases xs with
                | nil => simp at hlx; omega
                | cons p q => exact ⟨p, q, rfl⟩
              have hl2 := hR.ring.l2
              have hle : ys1.length + 1 = rm := by simp at hlx hl2; omega
              have P1 := ringG.push_full _ u7 y0 ys1 rm y wr hR.list hle r2
              refine P1.mono ?_
              rintro e w1 ⟨v1, rfl, l1, o1⟩
              have c1' := (World.cell?_of_block (w := wr) (a := ⟨b, o + k * 2 + 1, none⟩) (w' := w1) (o1.block b hX id)).trans c1
              have P2 := ringC.push_full B R rm f y y0 ys1 w1 (RingAt.of wr w1 _ _ _ _ _ hR.ring (o1.block B hR.mem.1 id) (o1.block R hR.mem.2 id)) hle
              obtain ⟨va, vc, rfl⟩ := lst_form l1
              have HR := Lib.hid hR
              have HL1 := Lib.hid (l1.mono (T := fun j => w.heap.size ≤ j ∧ j ≠ B ∧ j ≠ R) fun j hj => by have := hR.mem; have := hR.old.size; omega)
              have HO1 := Lib.hid o1
              clear hR l1 o1 P1 c0 c1 hlx hl2 hle
              go_wp2_with fail
              refine P2.mono ?_
              rintro e w2 ⟨rfl, ring2, o2⟩
              have NX := HR.out.next HO1.out o2 ring2 HL1.out
              clear ring2 o2 P2 HR HL1 HO1 c1'
              obtain ⟨H0, -, H2, -, -, -, -⟩ := NX.ring.facts
              simp only [List.length_append, List.length_cons, List.length_nil, Nat.zero_add] at H2 NX ⊢
              go_wp2_with (first | (go_at_call 51; (with_reducible refine (ringA.len_any B _ _ H2).mono ?_); rintro e w' ⟨rfl, rfl⟩) | (go_at_call 52; (with_reducible refine (ringA.room_any B R rm _ H0).mono ?_); rintro e w' ⟨rfl, rfl⟩))
              go_roundw
              case rel => exact ⟨k + 1, _, _, by omega, by go_num, NX⟩
              case measure => simp [intOf]; omega
          · have hX := World.block_lt_of_cell? wr _ c1
            rcases Nat.lt_or_ge xs.length rm with hlx | hlx
            · have P1 := ringG.push_room _ u7 xs rm y wr hR.list (by omega) r2
              refine P1.mono ?_
              rintro e w1 ⟨v1, rfl, l1, o1⟩
              have c1' := (World.cell?_of_block (w := wr) (a := ⟨b, o + k * 2 + 1, none⟩) (w' := w1) (o1.block b hX id)).trans c1
              have P2 := ringC.push_room B R rm f y xs w1 (RingAt.of wr w1 _ _ _ _ _ hR.ring (o1.block B hR.mem.1 id) (o1.block R hR.mem.2 id)) hlx
              obtain ⟨va, vc, rfl⟩ := lst_form l1
              have HR := Lib.hid hR
              have HL1 := Lib.hid (l1.mono (T := fun j => w.heap.size ≤ j ∧ j ≠ B ∧ j ≠ R) fun j hj => by have := hR.mem; have := hR.old.size; omega)
              have HO1 := Lib.hid o1
              clear hR l1 o1 P1 c0 c1 hlx
              go_wp2_with fail
              refine P2.mono ?_
              rintro e w2 ⟨rfl, ring2, o2⟩
              have NX := HR.out.next HO1.out o2 ring2 HL1.out
              clear ring2 o2 P2 HR HL1 HO1 c1'
              obtain ⟨H0, -, H2, -, -, -, -⟩ := NX.ring.facts
              simp only [List.length_append, List.length_cons, List.length_nil, Nat.zero_add] at H2 NX ⊢
              go_wp2_with (first | (go_at_call 51; (with_reducible refine (ringA.len_any B _ _ H2).mono ?_); rintro e w' ⟨rfl, rfl⟩) | (go_at_call 52; (with_reducible refine (ringA.room_any B R rm _ H0).mono ?_); rintro e w' ⟨rfl, rfl⟩))
              go_roundw
              case rel => exact ⟨k + 1, _, _, by omega, by go_num, NX⟩
              case measure => simp [intOf]; omega
            · obtain ⟨y0, ys1, rfl⟩ : ∃ y0 ys1, xs = y0 :: ys1 := by
                cases xs with
                | nil => simp at hlx; omega
                | cons p q => exact ⟨p, q, rfl⟩
              have hl2 := hR.ring.l2
              have hle : ys1.length + 1 = rm := by simp at hlx hl2; omega
              have P1 := ringG.push_full _ u7 y0 ys1 rm y wr hR.list hle r2
              refine P1.mono ?_
              rintro e w1 ⟨v1, rfl, l1, o1⟩
              have c1' := (World.cell?_of_block (w := wr) (a := ⟨b, o + k * 2 + 1, none⟩) (w' := w1) (o1.block b hX id)).trans c1
              have P2 := ringC.push_full B R rm f y y0 ys1 w1 (RingAt.of wr w1 _ _ _ _ _ hR.ring (o1.block B hR.mem.1 id) (o1.block R hR.mem.2 id)) hle
              obtain ⟨va, vc, rfl⟩ := lst_form l1
              have HR := Lib.hid hR
              have HL1 := Lib.hid (l1.mono (T := fun j => w.heap.size ≤ j ∧ j ≠ B ∧ j ≠ R) fun j hj => by have := hR.mem; have := hR.old.size; omega)
              have HO1 := Lib.hid o1
              clear hR l1 o1 P1 c0 c1 hlx hl2 hle
              go_wp2_with fail
              refine P2.mono ?_
              rintro e w2 ⟨rfl, ring2, o2⟩
              have NX := HR.out.next HO1.out o2 ring2 HL1.out
              clear ring2 o2 P2 HR HL1 HO1 c1'
              obtain ⟨H0, -, H2, -, -, -, -⟩ := NX.ring.facts
              simp only [List.length_append, List.length_cons, List.length_nil, Nat.zero_add] at H2 NX ⊢
              go_wp2_with (first | (go_at_call 51; (with_reducible refine (ringA.len_any B _ _ H2).mono ?_); rintro e w' ⟨rfl, rfl⟩) | (go_at_call 52; (with_reducible refine (ringA.room_any B R rm _ H0).mono ?_); rintro e w' ⟨rfl, rfl⟩))
              go_roundw
              case rel => exact ⟨k + 1, _, _, by omega, by go_num, NX⟩
              case measure => simp [intOf]; omega
          · have hX := World.block_lt_of_cell? wr _ c1
            rcases Nat.lt_or_ge xs.length rm with hlx | hlx
            · have P1 := ringG.push_room _ u7 xs rm y wr hR.list (by omega) r2
              refine P1.mono ?_
              rintro e w1 ⟨v1, rfl, l1, o1⟩
              have c1' := (World.cell?_of_block (w := wr) (a := ⟨b, o + k * 2 + 1, none⟩) (w' := w1) (o1.block b hX id)).trans c1
              have P2 := ringC.push_room B R rm f y xs w1 (RingAt.of wr w1 _ _ _ _ _ hR.ring (o1.block B hR.mem.1 id) (o1.block R hR.mem.2 id)) hlx
              obtain ⟨va, vc, rfl⟩ := lst_form l1
              have HR := Lib.hid hR
              have HL1 := Lib.hid (l1.mono (T := fun j => w.heap.size ≤ j ∧ j ≠ B ∧ j ≠ R) fun j hj => by have := hR.mem; have := hR.old.size; omega)
              have HO1 := Lib.hid o1
              clear hR l1 o1 P1 c0 c1 hlx
              go_wp2_with fail
              refine P2.mono ?_
              rintro e w2 ⟨rfl, ring2, o2⟩
              have NX := HR.out.next HO1.out o2 ring2 HL1.out
              clear ring2 o2 P2 HR HL1 HO1 c1'
              obtain ⟨H0, -, H2, -, -, -, -⟩ := NX.ring.facts
              simp only [List.length_append, List.length_cons, List.length_nil, Nat.zero_add] at H2 NX ⊢
              go_wp2_with (first | (go_at_call 51; (with_reducible refine (ringA.len_any B _ _ H2).mono ?_); rintro e w' ⟨rfl, rfl⟩) | (go_at_call 52; (with_reducible refine (ringA.room_any B R rm _ H0).mono ?_); rintro e w' ⟨rfl, rfl⟩))
              go_roundw
              case rel => exact ⟨k + 1, _, _, by omega, by go_num, NX⟩
              case measure => simp [intOf]; omega
            · obtain ⟨y0, ys1, rfl⟩ : ∃ y0 ys1, xs = y0 :: ys1 := by
                cases xs with
                | nil => simp at hlx; omega
                | cons p q => exact ⟨p, q, rfl⟩
              have hl2 := hR.ring.l2
              have hle : ys1.length + 1 = rm := by simp at hlx hl2; omega
              have P1 := ringG.push_full _ u7 y0 ys1 rm y wr hR.list hle r2
              refine P1.mono ?_
              rintro e w1 ⟨v1, rfl, l1, o1⟩
              have c1' := (World.cell?_of_block (w := wr) (a := ⟨b, o + k * 2 + 1, none⟩) (w' := w1) (o1.block b hX id)).trans c1
              have P2 := ringC.push_full B R rm f y y0 ys1 w1 (RingAt.of wr w1 _ _ _ _ _ hR.ring (o1.block B hR.mem.1 id) (o1.block R hR.mem.2 id)) hle
              obtain ⟨va, vc, rfl⟩ := lst_form l1
              have HR := Lib.hid hR
              have HL1 := Lib.hid (l1.mono (T := fun j => w.heap.size ≤ j ∧ j ≠ B ∧ j ≠ R) fun j hj => by have := hR.mem; have := hR.old.size; omega)
              have HO1 := Lib.hid o1
              clear hR l1 o1 P1 c0 c1 hlx hl2 hle
              go_wp2_with fail
              refine P2.mono ?_
              rintro e w2 ⟨rfl, ring2, o2⟩
              have NX := HR.out.next HO1.out o2 ring2 HL1.out
              clear ring2 o2 P2 HR HL1 HO1 c1'
              obtain ⟨H0, -, H2, -, -, -, -⟩ := NX.ring.facts
              simp only [List.length_append, List.length_cons, List.length_nil, Nat.zero_add] at H2 NX ⊢
              go_wp2_with (first | (go_at_call 51; (with_reducible refine (ringA.len_any B _ _ H2).mono ?_); rintro e w' ⟨rfl, rfl⟩) | (go_at_call 52; (with_reducible refine (ringA.room_any B R rm _ H0).mono ?_); rintro e w' ⟨rfl, rfl⟩))
              go_roundw
              case rel => exact ⟨k + 1, _, _, by omega, by go_num, NX⟩
              case measure => simp [intOf]; omega
          · cases xs with
            | nil =>
              have P := ringB.pop_none B R rm f wr hR.ring
              obtain ⟨va, vc, rfl⟩ := lst_form hR.list
              refine P.mono ?_
              rintro e w1 ⟨rfl, rfl⟩
              have NX := hR
              clear hR P c0 c1
              obtain ⟨H0, -, H2, -, -, -, -⟩ := NX.ring.facts
              go_wp2_with (first | (go_at_call 51; (with_reducible refine (ringA.len_any B _ _ H2).mono ?_); rintro e w' ⟨rfl, rfl⟩) | (go_at_call 52; (with_reducible refine (ringA.room_any B R rm _ H0).mono ?_); rintro e w' ⟨rfl, rfl⟩))
              go_roundw
              case rel => exact ⟨k + 1, _, _, by omega, by go_num, NX⟩
              case measure => simp [intOf]; omega
            | cons x rest =>
              have P := ringB.pop_some B R rm f x rest wr hR.ring
              obtain ⟨g, o', vc, rfl, hv1, hv2, hS, hcell⟩ := lst_some hR.list (by simp)
              have hx := hcell 0 (by simp)
              have hcl : ∀ W : World, Only (S2 B R) wr W → W.cell? ⟨g, o', none⟩ = some (.int .u64 x) := fun W q =>
                (World.cell?_of_block (w := wr) (w' := W) (a := ⟨g, o', none⟩) (q.block g (World.block_lt_of_cell? wr _ hx) fun t => by rcases t with t | t; exact hS.2.1 t; exact hS.2.2 t)).trans (by simpa using hx)
              simp only [List.length_cons] at hv1
              unfold maxLen at hv2
              rcases Nat.lt_or_ge 1 vc with hv3 | hv3
              · refine P.mono ?_
                rintro e w1 ⟨rfl, ring1, o1⟩
                have hy := hcl w1 o1
                have NX := hR.next (Only.refl _ _) o1 ring1 (lst_tail hR.list rfl)
                clear hR P ring1 o1 c0 c1 hx hcell hcl
                obtain ⟨H0, -, H2, -, -, -, -⟩ := NX.ring.facts
                have hv4 : (1 : Int) < (vc : Int) := by omega
                go_wp2_with (first | (go_at_call 51; (with_reducible refine (ringA.len_any B _ _ H2).mono ?_); rintro e w' ⟨rfl, rfl⟩) | (go_at_call 52; (with_reducible refine (ringA.room_any B R rm _ H0).mono ?_); rintro e w' ⟨rfl, rfl⟩))
                go_roundw
                case rel => exact ⟨k + 1, _, _, by omega, by go_num, NX⟩
                case measure => simp [intOf]; omega
              · obtain rfl : vc = 1 := by omega
                obtain rfl : rest = [] := List.eq_nil_of_length_eq_zero (by omega)
                refine P.mono ?_
                rintro e w1 ⟨rfl, ring1, o1⟩
                have hy := hcl w1 o1
                have NX := hR.next (Only.refl _ _) o1 ring1 (lst_tail1 hR.list)
                clear hR P ring1 o1 c0 c1 hx hcell hcl
                obtain ⟨H0, -, H2, -, -, -, -⟩ := NX.ring.facts
                go_wp2_with (first | (go_at_call 51; (with_reducible refine (ringA.len_any B _ _ H2).mono ?_); rintro e w' ⟨rfl, rfl⟩) | (go_at_call 52; (with_reducible refine (ringA.room_any B R rm _ H0).mono ?_); rintro e w' ⟨rfl, rfl⟩))
                go_roundw
                case rel => exact ⟨k + 1, _, _, by omega, by go_num, NX⟩
                case measure => simp [intOf]; omega
          · rcases xs.eq_nil_or_concat with rfl | ⟨ys1, x, hxx⟩
            · have P := ringD.back_none B R rm f wr hR.ring
              obtain ⟨va, vc, rfl⟩ := lst_form hR.list
              refine P.mono ?_
              rintro e w1 ⟨rfl, rfl⟩
              have NX := hR
              clear hR P c0 c1
              obtain ⟨H0, -, H2, -, -, -, -⟩ := NX.ring.facts
              go_wp2_with (first | (go_at_call 51; (with_reducible refine (ringA.len_any B _ _ H2).mono ?_); rintro e w' ⟨rfl, rfl⟩) | (go_at_call 52; (with_reducible refine (ringA.room_any B R rm _ H0).mono ?_); rintro e w' ⟨rfl, rfl⟩))
              go_roundw
              case rel => exact ⟨k + 1, _, _, by omega, by go_num, NX⟩
              case measure => simp [intOf]; omega
            · rw [List.concat_eq_append] at hxx
              subst hxx
              have P := ringD.back_some B R rm f x ys1 wr hR.ring
              obtain ⟨g, o', vc, rfl, hv1, hv2, hS, hcell⟩ := lst_some hR.list (by simp)
              have hx := hcell ys1.length (by simp)
              have hcl : ∀ W : World, Only (S2 B R) wr W → W.cell? ⟨g, o' + ys1.length, none⟩ = some (.int .u64 x) := fun W q =>
                (World.cell?_of_block (w := wr) (w' := W) (a := ⟨g, o' + ys1.length, none⟩) (q.block g (World.block_lt_of_cell? wr _ hx) fun t => by rcases t with t | t; exact hS.2.1 t; exact hS.2.2 t)).trans (by simpa using hx)
              simp only [List.length_append, List.length_cons, List.length_nil, Nat.zero_add] at hv1 ⊢
              unfold maxLen at hv2
              refine P.mono ?_
              rintro e w1 ⟨rfl, ring1, o1⟩
              have hy := hcl w1 o1
              have NX := hR.next (Only.refl _ _) o1 ring1 (lst_front hR.list)
              clear hR P ring1 o1 c0 c1 hx hcell hcl
              obtain ⟨H0, -, H2, -, -, -, -⟩ := NX.ring.facts
              go_wp2_with (first | (go_at_call 51; (with_reducible refine (ringA.len_any B _ _ H2).mono ?_); rintro e w' ⟨rfl, rfl⟩) | (go_at_call 52; (with_reducible refine (ringA.room_any B R rm _ H0).mono ?_); rintro e w' ⟨rfl, rfl⟩))
              go_roundw
              case rel => exact ⟨k + 1, _, _, by omega, by go_num, NX⟩
              case measure => simp [intOf]; omega
          · have P := ringE.clear_any B R rm f xs wr hR.ring
            obtain ⟨va, vc, rfl⟩ := lst_form hR.list
            refine P.mono ?_
            rintro e w1 ⟨rfl, f1, ring1, o1⟩
            have NX := hR.next (Only.refl _ _) o1 ring1 (v' := .slice none 0 0) (.inl ⟨rfl, rfl⟩)
            clear hR P ring1 o1 c0 c1
            obtain ⟨H0, -, H2, -, -, -, -⟩ := NX.ring.facts
            go_wp2_with (first | (go_at_call 51; (with_reducible refine (ringA.len_any B _ _ H2).mono ?_); rintro e w' ⟨rfl, rfl⟩) | (go_at_call 52; (with_reducible refine (ringA.room_any B R rm _ H0).mono ?_); rintro e w' ⟨rfl, rfl⟩))
            go_roundw
            case rel => exact ⟨k + 1, _, _, by omega, by go_num, NX⟩
            case measure => simp [intOf]; omega
          · obtain ⟨va, vc, rfl⟩ := lst_form hR.list
            have NX := hR
            clear hR c0 c1
            obtain ⟨H0, -, H2, -, -, -, -⟩ := NX.ring.facts
            refine (ringA.len_any B _ _ H2).mono ?_
            rintro e w' ⟨rfl, rfl⟩
            go_wp2_with (first | (go_at_call 52; (with_reducible refine (ringA.room_any B R rm _ H0).mono ?_); rintro e w' ⟨rfl, rfl⟩))
            go_roundw
            case rel => exact ⟨k + 1, _, _, by omega, by go_num, NX⟩
            case measure => simp [intOf]; omega
        · obtain rfl : k = len := by omega
          have ALL := ringE.all_any B R rm f xs wr hR.ring
          obtain ⟨va, vc, hva⟩ := lst_form hR.list
          have HR := Lib.hid hR
          clear hR hva
          go_wp2_with fail
          refine ALL.mono ?_
          rintro e w1 ⟨v1, rfl, l1, o1⟩
          have SM := ringF.same_true _ _ v1 u7 xs w1 (Lst.of_owns l1) (HR.out.list.keep o1 fun _ _ h => h)
          have OO := HR.out.old.trans o1
          clear l1 o1 ALL HR
          go_wp2_with fail
          refine SM.mono ?_
          rintro e w2 ⟨rfl, n, rfl⟩
          go_wp2_with fail
          go_ret
          exact ⟨rfl, (OO.drewN n).below (fun _ h => h.elim) (Nat.le_refl _)⟩
end Go.Proofs.Ytcocmabhbahiaaa.ringI
