/-
  No cell of these rows narrows 'for every input' (looked for: loops, veiled, ifaces, maps, wideKeys, modest, calm, conditions, laid).
  DERIVED. THE GIVEN ROWS OF THIS SEAT. 11 by the template 'for every input the law returns true; each argument reads behind the call as it read before'; 0 by the template 'total and deterministic' (their statements: YtcocmabhbahiaaaTotals.lean).
  GIVEN WITH THE SEED: the statements are not yours to turn. If you find one false, say at which input.
  Laid BY PROGRAM, IN A SANDBOX (cutbox-rows.mjs): the forced cells as the released guide's own fill.sh prints them over the translation d0835b8980665108… (all of the seat's roots in one cut). By AI agents, Wed Nov 11 2026. No macro, syntax, notation, axiom, sorry.
-/
import Derived.Test.YtcocmabhbahiaaaChecked
import GoSem.Claim
import GoSem.ClaimJoined
import GoSem.ClaimMapViews
import Derived.JoinedTies
import Derived.KernelRfl
namespace Go.Proofs.Ytcocmabhbahiaaa
/- THE CELL 'sum', in the pinned program and in every row, IS THE sha256 OF THE DUMP (.gsa) THAT YtcocmabhbahiaaaProg.lean LOADS. Nothing in Lean hashes anything: it is a label: what it is worth is what the hold of that sum in a sandbox is worth. -/
noncomputable def Try.pinned : Pinned := { name := "ytcocmabhbahiaaa", sum := "d0835b8980665108334a21dc041aa2d2e07aa6ec0ec0a345b49dfc1198834efa", checked := Try.checked }
namespace Rows
def none {H : Type} : Left H := { results := [], args := [] }

/-- 'snicketlaw01.NumReads': WHATEVER THE INPUT: true; the input reads as it did. -/
def numReadsSpec : ChangeSpec := { name := "numReads", fn := fun _ => fun
  | [d] => { results := [.lit (.bool true)], args := [d] }
  | _ => none }
def numReadsRow : OpenClaim := { program := "ytcocmabhbahiaaa", sum := "d0835b8980665108334a21dc041aa2d2e07aa6ec0ec0a345b49dfc1198834efa", func := "snicket/snicketlaw01.NumReads", spec := "numReads", plainKeys := false, apart := false }
def NumReadsSaid : Prop := numReadsRow.holds Try.pinned (OpenSpec.ofChange numReadsSpec)

/-- ITS FALSE NEIGHBOUR: 'it returns false'. Refute it at one input. -/
def numReadsWrong : ChangeSpec := { name := "numReads", fn := fun _ => fun
  | [d] => { results := [.lit (.bool false)], args := [d] }
  | _ => none }
def NumReadsWrongFalsely : Prop := numReadsRow.holds Try.pinned (OpenSpec.ofChange numReadsWrong)

/-- 'snicketlaw01.NumPrints': WHATEVER THE INPUT: true; the input reads as it did. -/
def numPrintsSpec : ChangeSpec := { name := "numPrints", fn := fun _ => fun
  | [d1, d2] => { results := [.lit (.bool true)], args := [d1, d2] }
  | _ => none }
def numPrintsRow : OpenClaim := { program := "ytcocmabhbahiaaa", sum := "d0835b8980665108334a21dc041aa2d2e07aa6ec0ec0a345b49dfc1198834efa", func := "snicket/snicketlaw01.NumPrints", spec := "numPrints", plainKeys := false, apart := false }
def NumPrintsSaid : Prop := numPrintsRow.holds Try.pinned (OpenSpec.ofChange numPrintsSpec)

/-- ITS FALSE NEIGHBOUR: 'it returns false'. Refute it at one input. -/
def numPrintsWrong : ChangeSpec := { name := "numPrints", fn := fun _ => fun
  | [d1, d2] => { results := [.lit (.bool false)], args := [d1, d2] }
  | _ => none }
def NumPrintsWrongFalsely : Prop := numPrintsRow.holds Try.pinned (OpenSpec.ofChange numPrintsWrong)

/-- 'snicketlaw05.PacketReads': WHATEVER THE INPUT: true; the input reads as it did. -/
def packetReadsSpec : ChangeSpec := { name := "packetReads", fn := fun _ => fun
  | [d] => { results := [.lit (.bool true)], args := [d] }
  | _ => none }
def packetReadsRow : OpenClaim := { program := "ytcocmabhbahiaaa", sum := "d0835b8980665108334a21dc041aa2d2e07aa6ec0ec0a345b49dfc1198834efa", func := "snicket/snicketlaw05.PacketReads", spec := "packetReads", plainKeys := false, apart := false }
def PacketReadsSaid : Prop := packetReadsRow.holds Try.pinned (OpenSpec.ofChange packetReadsSpec)

/-- ITS FALSE NEIGHBOUR: 'it returns false'. Refute it at one input. -/
def packetReadsWrong : ChangeSpec := { name := "packetReads", fn := fun _ => fun
  | [d] => { results := [.lit (.bool false)], args := [d] }
  | _ => none }
def PacketReadsWrongFalsely : Prop := packetReadsRow.holds Try.pinned (OpenSpec.ofChange packetReadsWrong)

/-- 'snicketlaw05.PacketMakes': WHATEVER THE INPUT: true; the input reads as it did. -/
def packetMakesSpec : ChangeSpec := { name := "packetMakes", fn := fun _ => fun
  | [d1, d2, d3, d4] => { results := [.lit (.bool true)], args := [d1, d2, d3, d4] }
  | _ => none }
def packetMakesRow : OpenClaim := { program := "ytcocmabhbahiaaa", sum := "d0835b8980665108334a21dc041aa2d2e07aa6ec0ec0a345b49dfc1198834efa", func := "snicket/snicketlaw05.PacketMakes", spec := "packetMakes", plainKeys := false, apart := false }
def PacketMakesSaid : Prop := packetMakesRow.holds Try.pinned (OpenSpec.ofChange packetMakesSpec)

/-- ITS FALSE NEIGHBOUR: 'it returns false'. Refute it at one input. -/
def packetMakesWrong : ChangeSpec := { name := "packetMakes", fn := fun _ => fun
  | [d1, d2, d3, d4] => { results := [.lit (.bool false)], args := [d1, d2, d3, d4] }
  | _ => none }
def PacketMakesWrongFalsely : Prop := packetMakesRow.holds Try.pinned (OpenSpec.ofChange packetMakesWrong)

/-- 'snicketlaw07.WindowTakes': WHATEVER THE INPUT: true; the input reads as it did. -/
def windowTakesSpec : ChangeSpec := { name := "windowTakes", fn := fun _ => fun
  | [d1, d2] => { results := [.lit (.bool true)], args := [d1, d2] }
  | _ => none }
def windowTakesRow : OpenClaim := { program := "ytcocmabhbahiaaa", sum := "d0835b8980665108334a21dc041aa2d2e07aa6ec0ec0a345b49dfc1198834efa", func := "snicket/snicketlaw07.WindowTakes", spec := "windowTakes", plainKeys := false, apart := false }
def WindowTakesSaid : Prop := windowTakesRow.holds Try.pinned (OpenSpec.ofChange windowTakesSpec)

/-- ITS FALSE NEIGHBOUR: 'it returns false'. Refute it at one input. -/
def windowTakesWrong : ChangeSpec := { name := "windowTakes", fn := fun _ => fun
  | [d1, d2] => { results := [.lit (.bool false)], args := [d1, d2] }
  | _ => none }
def WindowTakesWrongFalsely : Prop := windowTakesRow.holds Try.pinned (OpenSpec.ofChange windowTakesWrong)

/-- 'snicketlaw07.WindowNever': WHATEVER THE INPUT: true; the input reads as it did. -/
def windowNeverSpec : ChangeSpec := { name := "windowNever", fn := fun _ => fun
  | [d1, d2] => { results := [.lit (.bool true)], args := [d1, d2] }
  | _ => none }
def windowNeverRow : OpenClaim := { program := "ytcocmabhbahiaaa", sum := "d0835b8980665108334a21dc041aa2d2e07aa6ec0ec0a345b49dfc1198834efa", func := "snicket/snicketlaw07.WindowNever", spec := "windowNever", plainKeys := false, apart := false }
def WindowNeverSaid : Prop := windowNeverRow.holds Try.pinned (OpenSpec.ofChange windowNeverSpec)

/-- ITS FALSE NEIGHBOUR: 'it returns false'. Refute it at one input. -/
def windowNeverWrong : ChangeSpec := { name := "windowNever", fn := fun _ => fun
  | [d1, d2] => { results := [.lit (.bool false)], args := [d1, d2] }
  | _ => none }
def WindowNeverWrongFalsely : Prop := windowNeverRow.holds Try.pinned (OpenSpec.ofChange windowNeverWrong)

/-- 'snicketlaw07.WindowRow': WHATEVER THE INPUT: true; the input reads as it did. -/
def windowRowSpec : ChangeSpec := { name := "windowRow", fn := fun _ => fun
  | [d1, d2, d3] => { results := [.lit (.bool true)], args := [d1, d2, d3] }
  | _ => none }
def windowRowRow : OpenClaim := { program := "ytcocmabhbahiaaa", sum := "d0835b8980665108334a21dc041aa2d2e07aa6ec0ec0a345b49dfc1198834efa", func := "snicket/snicketlaw07.WindowRow", spec := "windowRow", plainKeys := false, apart := false }
def WindowRowSaid : Prop := windowRowRow.holds Try.pinned (OpenSpec.ofChange windowRowSpec)

/-- ITS FALSE NEIGHBOUR: 'it returns false'. Refute it at one input. -/
def windowRowWrong : ChangeSpec := { name := "windowRow", fn := fun _ => fun
  | [d1, d2, d3] => { results := [.lit (.bool false)], args := [d1, d2, d3] }
  | _ => none }
def WindowRowWrongFalsely : Prop := windowRowRow.holds Try.pinned (OpenSpec.ofChange windowRowWrong)

/-- 'snicketlaw09.RingActs': WHATEVER THE INPUT: true; the input reads as it did. -/
def ringActsSpec : ChangeSpec := { name := "ringActs", fn := fun _ => fun
  | [d1, d2] => { results := [.lit (.bool true)], args := [d1, d2] }
  | _ => none }
def ringActsRow : OpenClaim := { program := "ytcocmabhbahiaaa", sum := "d0835b8980665108334a21dc041aa2d2e07aa6ec0ec0a345b49dfc1198834efa", func := "snicket/snicketlaw09.RingActs", spec := "ringActs", plainKeys := false, apart := false }
def RingActsSaid : Prop := ringActsRow.holds Try.pinned (OpenSpec.ofChange ringActsSpec)

/-- ITS FALSE NEIGHBOUR: 'it returns false'. Refute it at one input. -/
def ringActsWrong : ChangeSpec := { name := "ringActs", fn := fun _ => fun
  | [d1, d2] => { results := [.lit (.bool false)], args := [d1, d2] }
  | _ => none }
def RingActsWrongFalsely : Prop := ringActsRow.holds Try.pinned (OpenSpec.ofChange ringActsWrong)

/-- 'snicketlaw09.RingNil': WHATEVER THE INPUT: true; the input reads as it did. -/
def ringNilSpec : ChangeSpec := { name := "ringNil", fn := fun _ => fun
  | [d] => { results := [.lit (.bool true)], args := [d] }
  | _ => none }
def ringNilRow : OpenClaim := { program := "ytcocmabhbahiaaa", sum := "d0835b8980665108334a21dc041aa2d2e07aa6ec0ec0a345b49dfc1198834efa", func := "snicket/snicketlaw09.RingNil", spec := "ringNil", plainKeys := false, apart := false }
def RingNilSaid : Prop := ringNilRow.holds Try.pinned (OpenSpec.ofChange ringNilSpec)

/-- ITS FALSE NEIGHBOUR: 'it returns false'. Refute it at one input. -/
def ringNilWrong : ChangeSpec := { name := "ringNil", fn := fun _ => fun
  | [d] => { results := [.lit (.bool false)], args := [d] }
  | _ => none }
def RingNilWrongFalsely : Prop := ringNilRow.holds Try.pinned (OpenSpec.ofChange ringNilWrong)

/-- 'snicketlaw19.BooksMatch': WHATEVER THE INPUT: true; the input reads as it did. -/
def booksMatchSpec : ChangeSpec := { name := "booksMatch", fn := fun _ => fun
  | [d1, d2, d3] => { results := [.lit (.bool true)], args := [d1, d2, d3] }
  | _ => none }
def booksMatchRow : OpenClaim := { program := "ytcocmabhbahiaaa", sum := "d0835b8980665108334a21dc041aa2d2e07aa6ec0ec0a345b49dfc1198834efa", func := "snicket/snicketlaw19.BooksMatch", spec := "booksMatch", plainKeys := false, apart := false }
def BooksMatchSaid : Prop := booksMatchRow.holds Try.pinned (OpenSpec.ofChange booksMatchSpec)

/-- ITS FALSE NEIGHBOUR: 'it returns false'. Refute it at one input. -/
def booksMatchWrong : ChangeSpec := { name := "booksMatch", fn := fun _ => fun
  | [d1, d2, d3] => { results := [.lit (.bool false)], args := [d1, d2, d3] }
  | _ => none }
def BooksMatchWrongFalsely : Prop := booksMatchRow.holds Try.pinned (OpenSpec.ofChange booksMatchWrong)

/-- 'snicketlaw22.RoamAddresses': WHATEVER THE INPUT: true; the input reads as it did. -/
def roamAddressesSpec : ChangeSpec := { name := "roamAddresses", fn := fun _ => fun
  | [d1, d2, d3] => { results := [.lit (.bool true)], args := [d1, d2, d3] }
  | _ => none }
def roamAddressesRow : OpenClaim := { program := "ytcocmabhbahiaaa", sum := "d0835b8980665108334a21dc041aa2d2e07aa6ec0ec0a345b49dfc1198834efa", func := "snicket/snicketlaw22.RoamAddresses", spec := "roamAddresses", plainKeys := false, apart := false }
def RoamAddressesSaid : Prop := roamAddressesRow.holds Try.pinned (OpenSpec.ofChange roamAddressesSpec)

/-- ITS FALSE NEIGHBOUR: 'it returns false'. Refute it at one input. -/
def roamAddressesWrong : ChangeSpec := { name := "roamAddresses", fn := fun _ => fun
  | [d1, d2, d3] => { results := [.lit (.bool false)], args := [d1, d2, d3] }
  | _ => none }
def RoamAddressesWrongFalsely : Prop := roamAddressesRow.holds Try.pinned (OpenSpec.ofChange roamAddressesWrong)

/- THE SECOND FORM. 'bulk': how many values and letters a reading holds, each counted each time it is reached (what is shared counts as often as it is met; a slice's spare places count too). A statement '..UptoSaid' is the law's where the arguments, and the package variables that the reading takes, are together of bulk at most 1048576: NARROWER than '..Said'. Prove '..Said' where nothing that the law and all that it calls make is longer than what came in: it says more and counts as full. Else prove '..UptoSaid'. A law counts once. -/
mutual
def uptoBulk {H : Type} : DataW H → Nat
  | .lit (.string bytes) => bytes.length + 1
  | .lit _ => 1
  | .nil => 1
  | .ptr d => uptoBulk d + 1
  | .slice elems spare => uptoBulkAll elems + uptoBulkAll spare + 1
  | .agg parts => uptoBulkAll parts + 1
  | .iface _ d => uptoBulk d + 1
  | .map entries => uptoBulkEntries entries + 1
  | .held _ => 1
def uptoBulkAll {H : Type} : List (DataW H) → Nat
  | [] => 0
  | d :: r => uptoBulk d + uptoBulkAll r
def uptoBulkEntries {H : Type} : List (Lit × DataW H) → Nat
  | [] => 0
  | x :: r => uptoBulkEntry x + uptoBulkEntries r
def uptoBulkEntry {H : Type} : Lit × DataW H → Nat
  | (.string bytes, d) => bytes.length + uptoBulk d + 1
  | (_, d) => uptoBulk d + 1
 end
def uptoSmall : (H : Type) → List (DataW H) → Bool := fun _ ds => decide (uptoBulkAll ds ≤ 1048576)
def OpenSpec.upto (s : _root_.Go.ChangeSpec) : _root_.Go.OpenSpec := { _root_.Go.OpenSpec.ofChange s with cond := some uptoSmall }

/-- 'snicketlaw01.NumReads', WHERE WHAT IT READS IS OF BULK AT MOST 1048576: true; the input reads as it did. -/
def numReadsUptoRow : OpenClaim := { program := "ytcocmabhbahiaaa", sum := "d0835b8980665108334a21dc041aa2d2e07aa6ec0ec0a345b49dfc1198834efa", func := "snicket/snicketlaw01.NumReads", spec := "numReads", plainKeys := false, apart := false, narrowed := true }
def NumReadsUptoSaid : Prop := numReadsUptoRow.holds Try.pinned (OpenSpec.upto numReadsSpec)

/-- 'snicketlaw01.NumPrints', WHERE WHAT IT READS IS OF BULK AT MOST 1048576: true; the input reads as it did. -/
def numPrintsUptoRow : OpenClaim := { program := "ytcocmabhbahiaaa", sum := "d0835b8980665108334a21dc041aa2d2e07aa6ec0ec0a345b49dfc1198834efa", func := "snicket/snicketlaw01.NumPrints", spec := "numPrints", plainKeys := false, apart := false, narrowed := true }
def NumPrintsUptoSaid : Prop := numPrintsUptoRow.holds Try.pinned (OpenSpec.upto numPrintsSpec)

/-- 'snicketlaw05.PacketReads', WHERE WHAT IT READS IS OF BULK AT MOST 1048576: true; the input reads as it did. -/
def packetReadsUptoRow : OpenClaim := { program := "ytcocmabhbahiaaa", sum := "d0835b8980665108334a21dc041aa2d2e07aa6ec0ec0a345b49dfc1198834efa", func := "snicket/snicketlaw05.PacketReads", spec := "packetReads", plainKeys := false, apart := false, narrowed := true }
def PacketReadsUptoSaid : Prop := packetReadsUptoRow.holds Try.pinned (OpenSpec.upto packetReadsSpec)

/-- 'snicketlaw05.PacketMakes', WHERE WHAT IT READS IS OF BULK AT MOST 1048576: true; the input reads as it did. -/
def packetMakesUptoRow : OpenClaim := { program := "ytcocmabhbahiaaa", sum := "d0835b8980665108334a21dc041aa2d2e07aa6ec0ec0a345b49dfc1198834efa", func := "snicket/snicketlaw05.PacketMakes", spec := "packetMakes", plainKeys := false, apart := false, narrowed := true }
def PacketMakesUptoSaid : Prop := packetMakesUptoRow.holds Try.pinned (OpenSpec.upto packetMakesSpec)

/-- 'snicketlaw07.WindowTakes', WHERE WHAT IT READS IS OF BULK AT MOST 1048576: true; the input reads as it did. -/
def windowTakesUptoRow : OpenClaim := { program := "ytcocmabhbahiaaa", sum := "d0835b8980665108334a21dc041aa2d2e07aa6ec0ec0a345b49dfc1198834efa", func := "snicket/snicketlaw07.WindowTakes", spec := "windowTakes", plainKeys := false, apart := false, narrowed := true }
def WindowTakesUptoSaid : Prop := windowTakesUptoRow.holds Try.pinned (OpenSpec.upto windowTakesSpec)

/-- 'snicketlaw07.WindowNever', WHERE WHAT IT READS IS OF BULK AT MOST 1048576: true; the input reads as it did. -/
def windowNeverUptoRow : OpenClaim := { program := "ytcocmabhbahiaaa", sum := "d0835b8980665108334a21dc041aa2d2e07aa6ec0ec0a345b49dfc1198834efa", func := "snicket/snicketlaw07.WindowNever", spec := "windowNever", plainKeys := false, apart := false, narrowed := true }
def WindowNeverUptoSaid : Prop := windowNeverUptoRow.holds Try.pinned (OpenSpec.upto windowNeverSpec)

/-- 'snicketlaw07.WindowRow', WHERE WHAT IT READS IS OF BULK AT MOST 1048576: true; the input reads as it did. -/
def windowRowUptoRow : OpenClaim := { program := "ytcocmabhbahiaaa", sum := "d0835b8980665108334a21dc041aa2d2e07aa6ec0ec0a345b49dfc1198834efa", func := "snicket/snicketlaw07.WindowRow", spec := "windowRow", plainKeys := false, apart := false, narrowed := true }
def WindowRowUptoSaid : Prop := windowRowUptoRow.holds Try.pinned (OpenSpec.upto windowRowSpec)

/-- 'snicketlaw09.RingActs', WHERE WHAT IT READS IS OF BULK AT MOST 1048576: true; the input reads as it did. -/
def ringActsUptoRow : OpenClaim := { program := "ytcocmabhbahiaaa", sum := "d0835b8980665108334a21dc041aa2d2e07aa6ec0ec0a345b49dfc1198834efa", func := "snicket/snicketlaw09.RingActs", spec := "ringActs", plainKeys := false, apart := false, narrowed := true }
def RingActsUptoSaid : Prop := ringActsUptoRow.holds Try.pinned (OpenSpec.upto ringActsSpec)

/-- 'snicketlaw09.RingNil', WHERE WHAT IT READS IS OF BULK AT MOST 1048576: true; the input reads as it did. -/
def ringNilUptoRow : OpenClaim := { program := "ytcocmabhbahiaaa", sum := "d0835b8980665108334a21dc041aa2d2e07aa6ec0ec0a345b49dfc1198834efa", func := "snicket/snicketlaw09.RingNil", spec := "ringNil", plainKeys := false, apart := false, narrowed := true }
def RingNilUptoSaid : Prop := ringNilUptoRow.holds Try.pinned (OpenSpec.upto ringNilSpec)

/-- 'snicketlaw19.BooksMatch', WHERE WHAT IT READS IS OF BULK AT MOST 1048576: true; the input reads as it did. -/
def booksMatchUptoRow : OpenClaim := { program := "ytcocmabhbahiaaa", sum := "d0835b8980665108334a21dc041aa2d2e07aa6ec0ec0a345b49dfc1198834efa", func := "snicket/snicketlaw19.BooksMatch", spec := "booksMatch", plainKeys := false, apart := false, narrowed := true }
def BooksMatchUptoSaid : Prop := booksMatchUptoRow.holds Try.pinned (OpenSpec.upto booksMatchSpec)

/-- 'snicketlaw22.RoamAddresses', WHERE WHAT IT READS IS OF BULK AT MOST 1048576: true; the input reads as it did. -/
def roamAddressesUptoRow : OpenClaim := { program := "ytcocmabhbahiaaa", sum := "d0835b8980665108334a21dc041aa2d2e07aa6ec0ec0a345b49dfc1198834efa", func := "snicket/snicketlaw22.RoamAddresses", spec := "roamAddresses", plainKeys := false, apart := false, narrowed := true }
def RoamAddressesUptoSaid : Prop := roamAddressesUptoRow.holds Try.pinned (OpenSpec.upto roamAddressesSpec)

end Rows
end Go.Proofs.Ytcocmabhbahiaaa
