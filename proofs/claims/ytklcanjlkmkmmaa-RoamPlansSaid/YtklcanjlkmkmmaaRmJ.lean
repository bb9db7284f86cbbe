/- Roam: a host's changes, one after another: memory. -/
import Derived.Test.YtklcanjlkmkmmaaRmG
import Derived.Laws.MakeOwn
namespace Go.Proofs.Ytklcanjlkmkmmaa.rmJ
open Go.RowKit Go.Proofs.Ytklcanjlkmkmmaa.kit Go.Proofs.Ytklcanjlkmkmmaa.skyB Go.Proofs.Ytklcanjlkmkmmaa.skyC Go.Proofs.Ytklcanjlkmkmmaa.skyG Go.Proofs.Ytklcanjlkmkmmaa.skyP Go.Proofs.Ytklcanjlkmkmmaa.rmA Go.Proofs.Ytklcanjlkmkmmaa.rmD Go.Proofs.Ytklcanjlkmkmmaa.rmE Go.Proofs.Ytklcanjlkmkmmaa.rmG
set_option linter.unusedVariables false
set_option linter.unusedSimpArgs false

theorem pts_keepP {P : Nat → Prop} {w w' : World} {a : Option Addr} {l : List (Int × Int)} (h : Pts w a l) (o : Only P w w') (hp : ∀ b o, a = some ⟨b, o, none⟩ → ¬ P b) : Pts w' a l := by
  refine ⟨h.1, ?_⟩
  rcases h.2 with h0 | ⟨b, off, rfl, hb, hc⟩
  · exact .inl h0
  · refine .inr ⟨b, off, rfl, Nat.lt_of_lt_of_le hb o.size, fun i hi => ?_⟩
    have e := o.block b hb (hp b off rfl)
    exact ⟨(World.cell?_of_block (a := ⟨b, _, none⟩) e).trans (hc i hi).1, (World.cell?_of_block (a := ⟨b, _, none⟩) e).trans (hc i hi).2⟩

theorem only_grownMix {S : Nat → Prop} {a w w' : World} {row : Option Nat} (h : Only S a w) (g : w.grownBy w' row) (hr : ∀ k, row = some k → S k ∨ a.heap.size ≤ k) : Only S a w' :=
  ⟨g.os.trans h.os, g.tape.trans h.tape, g.output.trans h.output, Nat.le_trans h.size g.size, fun k hk hs => (g.block k (Nat.lt_of_lt_of_le hk h.size) fun e => by
    rcases hr k e.symm with q | q
    · exact hs q
    · omega).trans (h.block k hk hs)⟩

/-- What is held while a host's changes are laid out. -/
structure Inn (W1 w4 w5 : World) (Mb U : Nat) (vs : Nat → Value) (f : Nat → List Ac) (wr : World) : Prop where
  o1 : Only (fun _ => False) W1 wr
  o5 : Only (fun b => b < w4.heap.size) w5 wr
  mvs : Mvs wr Mb U vs f
  new : ∀ s, s ≤ U → ∀ b, (vs s).ownBlock = some b → b < w4.heap.size ∨ w5.heap.size ≤ b

theorem Inn.same {W1 w4 w5 wr : World} {Mb U : Nat} {vs : Nat → Value} {f f' : Nat → List Ac} (h : Inn W1 w4 w5 Mb U vs f wr) (e : ∀ s, s ≤ U → f' s = f s) : Inn W1 w4 w5 Mb U vs f' wr := ⟨h.o1, h.o5, h.mvs.same e, h.new⟩

theorem Inn.keep {W1 w4 w5 wr W : World} {Mb U : Nat} {vs : Nat → Value} {f : Nat → List Ac} (h : Inn W1 w4 w5 Mb U vs f wr) (o : Only (fun _ => False) wr W) : Inn W1 w4 w5 Mb U vs f W :=
  ⟨h.o1.trans o, h.o5.trans (o.mono fun _ q => q.elim), h.mvs.keep o, h.new⟩

theorem Inn.start {W1 w4 w5 : World} {Mb U : Nat} {vs : Nat → Value} {f : Nat → List Ac} (o1 : Only (fun _ => False) W1 w4) (h : Mvs w4 Mb U vs f) (o : Only (fun _ => False) w4 w5) : Inn W1 w4 w5 Mb U vs f w5 :=
  ⟨o1.trans o, Only.refl _ _, h.keep o, fun s hs b hb => .inl ((h.rows s hs).lt b hb).2⟩

theorem Inn.put {W1 w4 w5 W w9 : World} {Mb U : Nat} {vs : Nat → Value} {f f' : Nat → List Ac} (h : Inn W1 w4 w5 Mb U vs f W) (hM : W1.heap.size ≤ Mb) (hM4 : Mb < w4.heap.size) {s0 : Nat} (h0 : s0 ≤ U) (g : W.grownBy w9 (vs s0).ownBlock) {gb n cap : Nat}
    (hown : w9.ownsRow (Mb + 1) 45 5 (.slice (some ⟨gb, 0, none⟩) n cap) n (flatA (f' s0))) (hn : n = (f' s0).length) (hat : (vs s0).ownBlock = some gb ∨ gb = W.heap.size) (hf : ∀ s, s ≤ U → s ≠ s0 → f' s = f s) :
    Inn W1 w4 w5 Mb U (upd vs s0 (.slice (some ⟨gb, 0, none⟩) n cap)) f' (w9.setCell ⟨Mb, s0, none⟩ (.slice (some ⟨gb, 0, none⟩) n cap)) := by
  refine ⟨only_setNew (Only.grownNew h.o1 g fun b e => ?_) hM, Only.set (only_grownMix h.o5 g fun b e => h.new s0 h0 b e) hM4, h.mvs.put h0 g hown hn hat hf, fun s hs b hb => ?_⟩
  · have := ((h.mvs.rows s0 h0).lt b e).1
    omega
  · unfold upd at hb
    by_cases e : s = s0
    · rw [if_pos e] at hb
      injection hb with hb
      subst hb
      rcases hat with q | q
      · exact h.new s0 h0 _ q
      · exact .inr (by show w5.heap.size ≤ gb; have := h.o5.size; omega)
    · rw [if_neg e] at hb
      exact h.new s hs b hb

/-- The cells that are made. -/
def mk (U : Nat) : Array Value := madeCells #[.slice none 0 0] (U + 1)

theorem mk_get {U s : Nat} (h : s ≤ U) : (mk U)[s]? = some (.slice none 0 0) := by
  have : s < U + 1 := by omega
  simp [mk, madeCells, this, Nat.mod_one]

theorem info33 : (Try.prog.info? 33).map (fun i => (i.zero, i.size, i.bytes)) = some (some (.slice none 0 0), 1, 24) := by kernel_rfl

theorem run_mk (U : Nat) (hU : U ≤ 1000) (w : World) : (Instr.makeSlice 64 (.int .i64 ((U : Int) + 1)) (.int .i64 ((U : Int) + 1))).run Try.prog w = .ok (.slice (some ⟨w.heap.size, 0, none⟩) (U + 1) (U + 1)) (w.alloc (.cells (mk U) 33)) := by
  obtain ⟨i0, hi0, hz0, hz1, hz2⟩ := info_parts info33
  have h := run_makeSlice (P := Try.prog) w 64 33 i0 _ Try.underlying64 hi0 hz0 .i64 .i64 ((U : Int) + 1) ((U : Int) + 1) (by omega) (Int.le_refl _) (by rw [hz1]; omega) (by rw [hz2]; omega) (by omega)
  rw [h, hz1]
  have e : ((U : Int) + 1).toNat = U + 1 := by omega
  rw [e]
  simp [mk, Value.cells]
end Go.Proofs.Ytklcanjlkmkmmaa.rmJ
