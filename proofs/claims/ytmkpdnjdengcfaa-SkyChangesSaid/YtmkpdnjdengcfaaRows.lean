/-
  No cell of these rows narrows 'for every input' (looked for: loops, veiled, ifaces, maps, wideKeys, modest, calm, conditions, laid).
  DERIVED. THE GIVEN ROWS OF THIS SEAT. 3 by the template 'for every input the law returns true; each argument reads behind the call as it read before'; 0 by the template 'total and deterministic' (their statements: YtmkpdnjdengcfaaTotals.lean).
  GIVEN WITH THE SEED: the statements are not yours to turn. If you find one false, say at which input.
  Laid BY PROGRAM, IN A SANDBOX (cutbox-rows.mjs): the forced cells as the released guide's own fill.sh prints them over the translation 1ca57dac7c9eda3b… (all of the seat's roots in one cut). By AI agents, Wed Nov 11 2026. No macro, syntax, notation, axiom, sorry.
-/
import Derived.Test.YtmkpdnjdengcfaaChecked
import GoSem.Claim
import GoSem.ClaimJoined
import GoSem.ClaimMapViews
import Derived.JoinedTies
import Derived.KernelRfl
namespace Go.Proofs.Ytmkpdnjdengcfaa
/- THE CELL 'sum', in the pinned program and in every row, IS THE sha256 OF THE DUMP (.gsa) THAT YtmkpdnjdengcfaaProg.lean LOADS. Nothing in Lean hashes anything: it is a label: what it is worth is what the hold of that sum in a sandbox is worth. -/
noncomputable def Try.pinned : Pinned := { name := "ytmkpdnjdengcfaa", sum := "1ca57dac7c9eda3b4597e213c31aefa27048ee4689baf5768edefea905f184a8", checked := Try.checked }
namespace Rows
def none {H : Type} : Left H := { results := [], args := [] }

/-- 'snicketlaw21.SkyAt': WHATEVER THE INPUT: true; the input reads as it did. -/
def skyAtSpec : ChangeSpec := { name := "skyAt", fn := fun _ => fun
  | [d1, d2, d3] => { results := [.lit (.bool true)], args := [d1, d2, d3] }
  | _ => none }
def skyAtRow : OpenClaim := { program := "ytmkpdnjdengcfaa", sum := "1ca57dac7c9eda3b4597e213c31aefa27048ee4689baf5768edefea905f184a8", func := "snicket/snicketlaw21.SkyAt", spec := "skyAt", apart := false }
def SkyAtSaid : Prop := skyAtRow.holds Try.pinned (OpenSpec.ofChange skyAtSpec)

/-- ITS FALSE NEIGHBOUR: 'it returns false'. Refute it at one input. -/
def skyAtWrong : ChangeSpec := { name := "skyAt", fn := fun _ => fun
  | [d1, d2, d3] => { results := [.lit (.bool false)], args := [d1, d2, d3] }
  | _ => none }
def SkyAtWrongFalsely : Prop := skyAtRow.holds Try.pinned (OpenSpec.ofChange skyAtWrong)

/-- 'snicketlaw21.SkyNearest': WHATEVER THE INPUT: true; the input reads as it did. -/
def skyNearestSpec : ChangeSpec := { name := "skyNearest", fn := fun _ => fun
  | [d1, d2, d3] => { results := [.lit (.bool true)], args := [d1, d2, d3] }
  | _ => none }
def skyNearestRow : OpenClaim := { program := "ytmkpdnjdengcfaa", sum := "1ca57dac7c9eda3b4597e213c31aefa27048ee4689baf5768edefea905f184a8", func := "snicket/snicketlaw21.SkyNearest", spec := "skyNearest", apart := false }
def SkyNearestSaid : Prop := skyNearestRow.holds Try.pinned (OpenSpec.ofChange skyNearestSpec)

/-- ITS FALSE NEIGHBOUR: 'it returns false'. Refute it at one input. -/
def skyNearestWrong : ChangeSpec := { name := "skyNearest", fn := fun _ => fun
  | [d1, d2, d3] => { results := [.lit (.bool false)], args := [d1, d2, d3] }
  | _ => none }
def SkyNearestWrongFalsely : Prop := skyNearestRow.holds Try.pinned (OpenSpec.ofChange skyNearestWrong)

/-- 'snicketlaw21.SkyChanges': WHATEVER THE INPUT: true; the input reads as it did. -/
def skyChangesSpec : ChangeSpec := { name := "skyChanges", fn := fun _ => fun
  | [d1, d2, d3, d4] => { results := [.lit (.bool true)], args := [d1, d2, d3, d4] }
  | _ => none }
def skyChangesRow : OpenClaim := { program := "ytmkpdnjdengcfaa", sum := "1ca57dac7c9eda3b4597e213c31aefa27048ee4689baf5768edefea905f184a8", func := "snicket/snicketlaw21.SkyChanges", spec := "skyChanges", apart := false }
def SkyChangesSaid : Prop := skyChangesRow.holds Try.pinned (OpenSpec.ofChange skyChangesSpec)

/-- ITS FALSE NEIGHBOUR: 'it returns false'. Refute it at one input. -/
def skyChangesWrong : ChangeSpec := { name := "skyChanges", fn := fun _ => fun
  | [d1, d2, d3, d4] => { results := [.lit (.bool false)], args := [d1, d2, d3, d4] }
  | _ => none }
def SkyChangesWrongFalsely : Prop := skyChangesRow.holds Try.pinned (OpenSpec.ofChange skyChangesWrong)

/- THE SECOND FORM. 'bulk': how many values and letters a reading holds, each counted each time it is reached (what is shared counts as often as it is met; a slice's spare places count too). A statement '..UptoSaid' is the law's where the arguments, and the package variables that the reading takes, are together of bulk at most 1048576: NARROWER than '..Said'. Prove '..Said' where nothing that the law and all that it calls make is longer than what came in: it says more and counts as full. Else prove '..UptoSaid'. A law counts once. -/
mutual
def uptoBulk {H : Type} : DataW H → Nat
  | .lit (.string bytes) => bytes.length + 1
  | .lit _ => 1
  | .nil => 1
  | .ptr d => uptoBulk d + 1
  | .slice elems spare => uptoBulkAll elems + uptoBulkAll spare + 1
  | .agg parts => uptoBulkAll parts + 1
  | .iface _ d => uptoBulk d + 1
  | .map entries => uptoBulkEntries entries + 1
  | .held _ => 1
def uptoBulkAll {H : Type} : List (DataW H) → Nat
  | [] => 0
  | d :: r => uptoBulk d + uptoBulkAll r
def uptoBulkEntries {H : Type} : List (Lit × DataW H) → Nat
  | [] => 0
  | x :: r => uptoBulkEntry x + uptoBulkEntries r
def uptoBulkEntry {H : Type} : Lit × DataW H → Nat
  | (.string bytes, d) => bytes.length + uptoBulk d + 1
  | (_, d) => uptoBulk d + 1
 end
def uptoSmall : (H : Type) → List (DataW H) → Bool := fun _ ds => decide (uptoBulkAll ds ≤ 1048576)
def OpenSpec.upto (s : _root_.Go.ChangeSpec) : _root_.Go.OpenSpec := { _root_.Go.OpenSpec.ofChange s with cond := some uptoSmall }

/-- 'snicketlaw21.SkyAt', WHERE WHAT IT READS IS OF BULK AT MOST 1048576: true; the input reads as it did. -/
def skyAtUptoRow : OpenClaim := { program := "ytmkpdnjdengcfaa", sum := "1ca57dac7c9eda3b4597e213c31aefa27048ee4689baf5768edefea905f184a8", func := "snicket/snicketlaw21.SkyAt", spec := "skyAt", apart := false, narrowed := true }
def SkyAtUptoSaid : Prop := skyAtUptoRow.holds Try.pinned (OpenSpec.upto skyAtSpec)

/-- 'snicketlaw21.SkyNearest', WHERE WHAT IT READS IS OF BULK AT MOST 1048576: true; the input reads as it did. -/
def skyNearestUptoRow : OpenClaim := { program := "ytmkpdnjdengcfaa", sum := "1ca57dac7c9eda3b4597e213c31aefa27048ee4689baf5768edefea905f184a8", func := "snicket/snicketlaw21.SkyNearest", spec := "skyNearest", apart := false, narrowed := true }
def SkyNearestUptoSaid : Prop := skyNearestUptoRow.holds Try.pinned (OpenSpec.upto skyNearestSpec)

/-- 'snicketlaw21.SkyChanges', WHERE WHAT IT READS IS OF BULK AT MOST 1048576: true; the input reads as it did. -/
def skyChangesUptoRow : OpenClaim := { program := "ytmkpdnjdengcfaa", sum := "1ca57dac7c9eda3b4597e213c31aefa27048ee4689baf5768edefea905f184a8", func := "snicket/snicketlaw21.SkyChanges", spec := "skyChanges", apart := false, narrowed := true }
def SkyChangesUptoSaid : Prop := skyChangesUptoRow.holds Try.pinned (OpenSpec.upto skyChangesSpec)

end Rows
end Go.Proofs.Ytmkpdnjdengcfaa
