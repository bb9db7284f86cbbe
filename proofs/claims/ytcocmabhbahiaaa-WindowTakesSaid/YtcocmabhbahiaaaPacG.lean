/- Contract of packet.Read, of a packet. -/
import Derived.Test.YtcocmabhbahiaaaPacF
import Derived.Deep.RegionHeld3
namespace Go.Proofs.Ytcocmabhbahiaaa.pacG
open Go.RowKit Go.Lib Go.Proofs.Ytcocmabhbahiaaa.kit Go.Proofs.Ytcocmabhbahiaaa.numA Go.Proofs.Ytcocmabhbahiaaa.numF Go.Proofs.Ytcocmabhbahiaaa.numG Go.Proofs.Ytcocmabhbahiaaa.pacA Go.Proofs.Ytcocmabhbahiaaa.pacD Go.Proofs.Ytcocmabhbahiaaa.pacE
set_option linter.unusedVariables false

/-- The same, in a block from b0 on, if there is any byte. -/
def ByN (w : World) (b0 : Nat) (v : Value) (l : List UInt8) : Prop := By w v l ∧ (l = [] ∨ ∀ g o n c, v = .slice (some ⟨g, o, none⟩) n c → b0 ≤ g)

theorem ByN.only {w w' : World} {b0 : Nat} {v : Value} {l : List UInt8} {S : Nat → Prop} (h : ByN w b0 v l) (k : Only S w w') (d : ∀ g, b0 ≤ g → ¬ S g) : ByN w' b0 v l := by
  obtain ⟨⟨a, cap, hv, hc, hm, h1⟩, h2⟩ := h
  refine ⟨⟨a, cap, hv, hc, hm, ?_⟩, h2⟩
  rcases h1 with rfl | ⟨g, o, rfl, hg, hcell⟩
  · exact .inl rfl
  · rcases h2 with h2 | h2
    · exact .inl h2
    · have hb := h2 g o _ _ hv
      exact .inr ⟨g, o, rfl, Nat.lt_of_lt_of_le hg k.size, fun i hi => (World.cell?_of_block (w := w) (a := ⟨g, o + i, none⟩) (k.block g hg (d g hb))).trans (hcell i hi)⟩

def ClonedN (w : World) (l : List UInt8) (e : Ending) (w' : World) : Prop := ∃ v, e = .returned v ∧ ByN w' w.heap.size v l ∧ Only (fun _ => False) w w'

set_option maxRecDepth 100000 in
theorem clone_new (v : Value) (l : List UInt8) (w : World) (h : By w v l) (hl : l.length ≤ 100000000) : Calls Try.prog 74 #[v] w (ClonedN w l) := by
  obtain ⟨i0, hi0, hz0, hz1, hz2⟩ := info_parts info5
  have h' := h
  obtain ⟨a, cap, rfl, hc, hm, h⟩ := h
  have hr := fun (W : World) => Lib.run_eql_slice_nil (P := Try.prog) W 27 5 a l.length cap 0 0 Try.underlying27
  cases a with
  | none =>
    have : l = [] := by
      rcases h with h | ⟨g, o, ha, _⟩
      · exact h
      · cases ha
    subst this
    clear h h' hc
    simp only [List.length_nil, Option.isNone_none] at hr
    go_enter Try.func74, Try.ntmps74
    go_wp2
    go_ret
    exact ⟨_, rfl, ⟨By.empty none 0 (Nat.zero_le _), .inl rfl⟩, Only.refl _ _⟩
  | some x =>
    have O0 : Only (fun _ => False) w (w.alloc (.cells #[] 5)) := (Only.refl _ w).alloc _
    have HN := Lib.hid (h'.news O0)
    have hown0 := World.ownsRow_made (e := 5) (size := 1) w #[] 0 (Nat.le_refl _) (by decide) rfl
    have HO := Lib.hid O0
    unfold maxLen at hm
    clear h h' O0
    go_enter Try.func74, Try.ntmps74
    go_wp2_with (at_builtin; refine wpList_append_own _ rfl (.tmp 5) (.tmp 6) 27 rfl w.heap.size 5 i0 (.int .u8 0) 1 1 Try.underlying27 hi0 hz0 hz1 hz2 rfl (by decide) _ _ _ rfl hown0 x l.length cap (U8 l) rfl (by simp [U8]) HN.out (one_U8 l) (by unfold maxLen; omega) (by omega) (by simp) ?_; intro v1 w1 hown1 hgrow1 _; simp only [Nat.zero_add, List.nil_append] at hown1)
    exact bodyPost_ret (v := v1) (by simp [results, Try.results74, go_sem]) rfl ⟨v1, rfl, ⟨By.of_owns hown1, .inr fun g o n c hv => (hown1.lt g (by rw [hv]; rfl)).1⟩, Only.grownNew HO.out hgrow1 fun j hj => (hown0.lt j hj).1⟩

/-- What a cell holds, behind a name. -/
def cellv (w : World) (a : Addr) : Value := (w.cell? a).getD undef

theorem cellv_some {w : World} {a : Addr} {u : Value} (h : w.cell? a = some u) : w.cell? a = some (cellv w a) := by
  rw [cellv, h]
  rfl
end Go.Proofs.Ytcocmabhbahiaaa.pacG
