/-
  No cell of these rows narrows 'for every input' (looked for: loops, veiled, ifaces, maps, wideKeys, modest, calm, conditions, laid).
  DERIVED. THE GIVEN ROWS OF THIS SEAT. 19 by the template 'for every input the law returns true; each argument reads behind the call as it read before'; 0 by the template 'total and deterministic' (their statements: YtbjnejnjlidiaaaTotals.lean).
  GIVEN WITH THE SEED: the statements are not yours to turn. If you find one false, say at which input.
  Laid BY PROGRAM, IN A SANDBOX (cutbox-rows.mjs): the forced cells as the released guide's own fill.sh prints them over the translation 41b786dc5fc93a4e… (all of the seat's roots in one cut). By AI agents, Wed Nov 11 2026. No macro, syntax, notation, axiom, sorry.
-/
import Derived.Test.YtbjnejnjlidiaaaChecked
import GoSem.Claim
import GoSem.ClaimJoined
import GoSem.ClaimMapViews
import Derived.JoinedTies
import Derived.KernelRfl
namespace Go.Proofs.Ytbjnejnjlidiaaa
/- THE CELL 'sum', in the pinned program and in every row, IS THE sha256 OF THE DUMP (.gsa) THAT YtbjnejnjlidiaaaProg.lean LOADS. Nothing in Lean hashes anything: it is a label: what it is worth is what the hold of that sum in a sandbox is worth. -/
noncomputable def Try.pinned : Pinned := { name := "ytbjnejnjlidiaaa", sum := "41b786dc5fc93a4e5020358df5b41b044dfc3fc3ddc54a92e4094111cb9ff1dc", checked := Try.checked }
namespace Rows
def none {H : Type} : Left H := { results := [], args := [] }

/-- 'snicketlaw02.TermReads': WHATEVER THE INPUT: true; the input reads as it did. -/
def termReadsSpec : ChangeSpec := { name := "termReads", fn := fun _ => fun
  | [d] => { results := [.lit (.bool true)], args := [d] }
  | _ => none }
def termReadsRow : OpenClaim := { program := "ytbjnejnjlidiaaa", sum := "41b786dc5fc93a4e5020358df5b41b044dfc3fc3ddc54a92e4094111cb9ff1dc", func := "snicket/snicketlaw02.TermReads", spec := "termReads", inPlace := ["internal/bytealg.IndexByteString", "internal/abi.NoEscape", "internal/bytealg.MakeNoZero"], unfollowed := true, recurses := true, apart := false }
def TermReadsSaid : Prop := termReadsRow.holds Try.pinned (OpenSpec.ofChange termReadsSpec)

/-- ITS FALSE NEIGHBOUR: 'it returns false'. Refute it at one input. -/
def termReadsWrong : ChangeSpec := { name := "termReads", fn := fun _ => fun
  | [d] => { results := [.lit (.bool false)], args := [d] }
  | _ => none }
def TermReadsWrongFalsely : Prop := termReadsRow.holds Try.pinned (OpenSpec.ofChange termReadsWrong)

/-- 'snicketlaw02.TermMakes': WHATEVER THE INPUT: true; the input reads as it did. -/
def termMakesSpec : ChangeSpec := { name := "termMakes", fn := fun _ => fun
  | [d1, d2, d3, d4] => { results := [.lit (.bool true)], args := [d1, d2, d3, d4] }
  | _ => none }
def termMakesRow : OpenClaim := { program := "ytbjnejnjlidiaaa", sum := "41b786dc5fc93a4e5020358df5b41b044dfc3fc3ddc54a92e4094111cb9ff1dc", func := "snicket/snicketlaw02.TermMakes", spec := "termMakes", inPlace := ["internal/bytealg.IndexByteString", "internal/abi.NoEscape", "internal/bytealg.MakeNoZero"], unfollowed := true, recurses := true, apart := false }
def TermMakesSaid : Prop := termMakesRow.holds Try.pinned (OpenSpec.ofChange termMakesSpec)

/-- ITS FALSE NEIGHBOUR: 'it returns false'. Refute it at one input. -/
def termMakesWrong : ChangeSpec := { name := "termMakes", fn := fun _ => fun
  | [d1, d2, d3, d4] => { results := [.lit (.bool false)], args := [d1, d2, d3, d4] }
  | _ => none }
def TermMakesWrongFalsely : Prop := termMakesRow.holds Try.pinned (OpenSpec.ofChange termMakesWrong)

/-- 'snicketlaw02.TermOpens': WHATEVER THE INPUT: true; the input reads as it did. -/
def termOpensSpec : ChangeSpec := { name := "termOpens", fn := fun _ => fun
  | [d1, d2, d3, d4, d5, d6] => { results := [.lit (.bool true)], args := [d1, d2, d3, d4, d5, d6] }
  | _ => none }
def termOpensRow : OpenClaim := { program := "ytbjnejnjlidiaaa", sum := "41b786dc5fc93a4e5020358df5b41b044dfc3fc3ddc54a92e4094111cb9ff1dc", func := "snicket/snicketlaw02.TermOpens", spec := "termOpens", inPlace := ["internal/bytealg.IndexByteString", "internal/abi.NoEscape", "internal/bytealg.MakeNoZero"], unfollowed := true, recurses := true, apart := false }
def TermOpensSaid : Prop := termOpensRow.holds Try.pinned (OpenSpec.ofChange termOpensSpec)

/-- ITS FALSE NEIGHBOUR: 'it returns false'. Refute it at one input. -/
def termOpensWrong : ChangeSpec := { name := "termOpens", fn := fun _ => fun
  | [d1, d2, d3, d4, d5, d6] => { results := [.lit (.bool false)], args := [d1, d2, d3, d4, d5, d6] }
  | _ => none }
def TermOpensWrongFalsely : Prop := termOpensRow.holds Try.pinned (OpenSpec.ofChange termOpensWrong)

/-- 'snicketlaw02.TermAgrees': WHATEVER THE INPUT: true; the input reads as it did. -/
def termAgreesSpec : ChangeSpec := { name := "termAgrees", fn := fun _ => fun
  | [d1, d2, d3] => { results := [.lit (.bool true)], args := [d1, d2, d3] }
  | _ => none }
def termAgreesRow : OpenClaim := { program := "ytbjnejnjlidiaaa", sum := "41b786dc5fc93a4e5020358df5b41b044dfc3fc3ddc54a92e4094111cb9ff1dc", func := "snicket/snicketlaw02.TermAgrees", spec := "termAgrees", inPlace := ["internal/bytealg.IndexByteString", "internal/abi.NoEscape", "internal/bytealg.MakeNoZero"], unfollowed := true, recurses := true, apart := false }
def TermAgreesSaid : Prop := termAgreesRow.holds Try.pinned (OpenSpec.ofChange termAgreesSpec)

/-- ITS FALSE NEIGHBOUR: 'it returns false'. Refute it at one input. -/
def termAgreesWrong : ChangeSpec := { name := "termAgrees", fn := fun _ => fun
  | [d1, d2, d3] => { results := [.lit (.bool false)], args := [d1, d2, d3] }
  | _ => none }
def TermAgreesWrongFalsely : Prop := termAgreesRow.holds Try.pinned (OpenSpec.ofChange termAgreesWrong)

/-- 'snicketlaw03.KnowCan': WHATEVER THE INPUT: true; the input reads as it did. -/
def knowCanSpec : ChangeSpec := { name := "knowCan", fn := fun _ => fun
  | [d1, d2] => { results := [.lit (.bool true)], args := [d1, d2] }
  | _ => none }
def knowCanRow : OpenClaim := { program := "ytbjnejnjlidiaaa", sum := "41b786dc5fc93a4e5020358df5b41b044dfc3fc3ddc54a92e4094111cb9ff1dc", func := "snicket/snicketlaw03.KnowCan", spec := "knowCan", inPlace := ["internal/bytealg.IndexByteString", "internal/abi.NoEscape", "internal/bytealg.MakeNoZero"], unfollowed := true, recurses := true, apart := false }
def KnowCanSaid : Prop := knowCanRow.holds Try.pinned (OpenSpec.ofChange knowCanSpec)

/-- ITS FALSE NEIGHBOUR: 'it returns false'. Refute it at one input. -/
def knowCanWrong : ChangeSpec := { name := "knowCan", fn := fun _ => fun
  | [d1, d2] => { results := [.lit (.bool false)], args := [d1, d2] }
  | _ => none }
def KnowCanWrongFalsely : Prop := knowCanRow.holds Try.pinned (OpenSpec.ofChange knowCanWrong)

/-- 'snicketlaw03.KnowOrder': WHATEVER THE INPUT: true; the input reads as it did. -/
def knowOrderSpec : ChangeSpec := { name := "knowOrder", fn := fun _ => fun
  | [d1, d2, d3] => { results := [.lit (.bool true)], args := [d1, d2, d3] }
  | _ => none }
def knowOrderRow : OpenClaim := { program := "ytbjnejnjlidiaaa", sum := "41b786dc5fc93a4e5020358df5b41b044dfc3fc3ddc54a92e4094111cb9ff1dc", func := "snicket/snicketlaw03.KnowOrder", spec := "knowOrder", inPlace := ["internal/bytealg.IndexByteString", "internal/abi.NoEscape", "internal/bytealg.MakeNoZero"], unfollowed := true, recurses := true, apart := false }
def KnowOrderSaid : Prop := knowOrderRow.holds Try.pinned (OpenSpec.ofChange knowOrderSpec)

/-- ITS FALSE NEIGHBOUR: 'it returns false'. Refute it at one input. -/
def knowOrderWrong : ChangeSpec := { name := "knowOrder", fn := fun _ => fun
  | [d1, d2, d3] => { results := [.lit (.bool false)], args := [d1, d2, d3] }
  | _ => none }
def KnowOrderWrongFalsely : Prop := knowOrderRow.holds Try.pinned (OpenSpec.ofChange knowOrderWrong)

/-- 'snicketlaw03.KnowNil': WHATEVER THE INPUT: true; the input reads as it did. -/
def knowNilSpec : ChangeSpec := { name := "knowNil", fn := fun _ => fun
  | [d] => { results := [.lit (.bool true)], args := [d] }
  | _ => none }
def knowNilRow : OpenClaim := { program := "ytbjnejnjlidiaaa", sum := "41b786dc5fc93a4e5020358df5b41b044dfc3fc3ddc54a92e4094111cb9ff1dc", func := "snicket/snicketlaw03.KnowNil", spec := "knowNil", inPlace := ["internal/bytealg.IndexByteString", "internal/abi.NoEscape", "internal/bytealg.MakeNoZero"], unfollowed := true, recurses := true, apart := false }
def KnowNilSaid : Prop := knowNilRow.holds Try.pinned (OpenSpec.ofChange knowNilSpec)

/-- ITS FALSE NEIGHBOUR: 'it returns false'. Refute it at one input. -/
def knowNilWrong : ChangeSpec := { name := "knowNil", fn := fun _ => fun
  | [d] => { results := [.lit (.bool false)], args := [d] }
  | _ => none }
def KnowNilWrongFalsely : Prop := knowNilRow.holds Try.pinned (OpenSpec.ofChange knowNilWrong)

/-- 'snicketlaw06.WirePrints': WHATEVER THE INPUT: true; the input reads as it did. -/
def wirePrintsSpec : ChangeSpec := { name := "wirePrints", fn := fun _ => fun
  | [d] => { results := [.lit (.bool true)], args := [d] }
  | _ => none }
def wirePrintsRow : OpenClaim := { program := "ytbjnejnjlidiaaa", sum := "41b786dc5fc93a4e5020358df5b41b044dfc3fc3ddc54a92e4094111cb9ff1dc", func := "snicket/snicketlaw06.WirePrints", spec := "wirePrints", inPlace := ["internal/bytealg.IndexByteString", "internal/abi.NoEscape", "internal/bytealg.MakeNoZero"], unfollowed := true, recurses := true, apart := false }
def WirePrintsSaid : Prop := wirePrintsRow.holds Try.pinned (OpenSpec.ofChange wirePrintsSpec)

/-- ITS FALSE NEIGHBOUR: 'it returns false'. Refute it at one input. -/
def wirePrintsWrong : ChangeSpec := { name := "wirePrints", fn := fun _ => fun
  | [d] => { results := [.lit (.bool false)], args := [d] }
  | _ => none }
def WirePrintsWrongFalsely : Prop := wirePrintsRow.holds Try.pinned (OpenSpec.ofChange wirePrintsWrong)

/-- 'snicketlaw06.WireReads': WHATEVER THE INPUT: true; the input reads as it did. -/
def wireReadsSpec : ChangeSpec := { name := "wireReads", fn := fun _ => fun
  | [d] => { results := [.lit (.bool true)], args := [d] }
  | _ => none }
def wireReadsRow : OpenClaim := { program := "ytbjnejnjlidiaaa", sum := "41b786dc5fc93a4e5020358df5b41b044dfc3fc3ddc54a92e4094111cb9ff1dc", func := "snicket/snicketlaw06.WireReads", spec := "wireReads", inPlace := ["internal/bytealg.IndexByteString"], unfollowed := true, recurses := true, apart := false }
def WireReadsSaid : Prop := wireReadsRow.holds Try.pinned (OpenSpec.ofChange wireReadsSpec)

/-- ITS FALSE NEIGHBOUR: 'it returns false'. Refute it at one input. -/
def wireReadsWrong : ChangeSpec := { name := "wireReads", fn := fun _ => fun
  | [d] => { results := [.lit (.bool false)], args := [d] }
  | _ => none }
def WireReadsWrongFalsely : Prop := wireReadsRow.holds Try.pinned (OpenSpec.ofChange wireReadsWrong)

/-- 'snicketlaw10.NoiseBegins': WHATEVER THE INPUT: true; the input reads as it did. -/
def noiseBeginsSpec : ChangeSpec := { name := "noiseBegins", fn := fun _ => fun
  | [d1, d2, d3, d4, d5, d6] => { results := [.lit (.bool true)], args := [d1, d2, d3, d4, d5, d6] }
  | _ => none }
def noiseBeginsRow : OpenClaim := { program := "ytbjnejnjlidiaaa", sum := "41b786dc5fc93a4e5020358df5b41b044dfc3fc3ddc54a92e4094111cb9ff1dc", func := "snicket/snicketlaw10.NoiseBegins", spec := "noiseBegins", inPlace := ["internal/bytealg.IndexByteString", "internal/abi.NoEscape", "internal/bytealg.MakeNoZero"], unfollowed := true, recurses := true, apart := false }
def NoiseBeginsSaid : Prop := noiseBeginsRow.holds Try.pinned (OpenSpec.ofChange noiseBeginsSpec)

/-- ITS FALSE NEIGHBOUR: 'it returns false'. Refute it at one input. -/
def noiseBeginsWrong : ChangeSpec := { name := "noiseBegins", fn := fun _ => fun
  | [d1, d2, d3, d4, d5, d6] => { results := [.lit (.bool false)], args := [d1, d2, d3, d4, d5, d6] }
  | _ => none }
def NoiseBeginsWrongFalsely : Prop := noiseBeginsRow.holds Try.pinned (OpenSpec.ofChange noiseBeginsWrong)

/-- 'snicketlaw10.NoiseHears': WHATEVER THE INPUT: true; the input reads as it did. -/
def noiseHearsSpec : ChangeSpec := { name := "noiseHears", fn := fun _ => fun
  | [d1, d2] => { results := [.lit (.bool true)], args := [d1, d2] }
  | _ => none }
def noiseHearsRow : OpenClaim := { program := "ytbjnejnjlidiaaa", sum := "41b786dc5fc93a4e5020358df5b41b044dfc3fc3ddc54a92e4094111cb9ff1dc", func := "snicket/snicketlaw10.NoiseHears", spec := "noiseHears", inPlace := ["internal/bytealg.IndexByteString", "internal/abi.NoEscape", "internal/bytealg.MakeNoZero"], unfollowed := true, recurses := true, apart := false }
def NoiseHearsSaid : Prop := noiseHearsRow.holds Try.pinned (OpenSpec.ofChange noiseHearsSpec)

/-- ITS FALSE NEIGHBOUR: 'it returns false'. Refute it at one input. -/
def noiseHearsWrong : ChangeSpec := { name := "noiseHears", fn := fun _ => fun
  | [d1, d2] => { results := [.lit (.bool false)], args := [d1, d2] }
  | _ => none }
def NoiseHearsWrongFalsely : Prop := noiseHearsRow.holds Try.pinned (OpenSpec.ofChange noiseHearsWrong)

/-- 'snicketlaw10.NoiseAgrees': WHATEVER THE INPUT: true; the input reads as it did. -/
def noiseAgreesSpec : ChangeSpec := { name := "noiseAgrees", fn := fun _ => fun
  | [d1, d2, d3, d4, d5, d6, d7, d8] => { results := [.lit (.bool true)], args := [d1, d2, d3, d4, d5, d6, d7, d8] }
  | _ => none }
def noiseAgreesRow : OpenClaim := { program := "ytbjnejnjlidiaaa", sum := "41b786dc5fc93a4e5020358df5b41b044dfc3fc3ddc54a92e4094111cb9ff1dc", func := "snicket/snicketlaw10.NoiseAgrees", spec := "noiseAgrees", inPlace := ["internal/bytealg.IndexByteString", "internal/abi.NoEscape", "internal/bytealg.MakeNoZero"], unfollowed := true, recurses := true, apart := false }
def NoiseAgreesSaid : Prop := noiseAgreesRow.holds Try.pinned (OpenSpec.ofChange noiseAgreesSpec)

/-- ITS FALSE NEIGHBOUR: 'it returns false'. Refute it at one input. -/
def noiseAgreesWrong : ChangeSpec := { name := "noiseAgrees", fn := fun _ => fun
  | [d1, d2, d3, d4, d5, d6, d7, d8] => { results := [.lit (.bool false)], args := [d1, d2, d3, d4, d5, d6, d7, d8] }
  | _ => none }
def NoiseAgreesWrongFalsely : Prop := noiseAgreesRow.holds Try.pinned (OpenSpec.ofChange noiseAgreesWrong)

/-- 'snicketlaw10.NoiseFinishes': WHATEVER THE INPUT: true; the input reads as it did. -/
def noiseFinishesSpec : ChangeSpec := { name := "noiseFinishes", fn := fun _ => fun
  | [d1, d2, d3, d4, d5] => { results := [.lit (.bool true)], args := [d1, d2, d3, d4, d5] }
  | _ => none }
def noiseFinishesRow : OpenClaim := { program := "ytbjnejnjlidiaaa", sum := "41b786dc5fc93a4e5020358df5b41b044dfc3fc3ddc54a92e4094111cb9ff1dc", func := "snicket/snicketlaw10.NoiseFinishes", spec := "noiseFinishes", inPlace := ["internal/bytealg.IndexByteString", "internal/abi.NoEscape", "internal/bytealg.MakeNoZero"], unfollowed := true, recurses := true, apart := false }
def NoiseFinishesSaid : Prop := noiseFinishesRow.holds Try.pinned (OpenSpec.ofChange noiseFinishesSpec)

/-- ITS FALSE NEIGHBOUR: 'it returns false'. Refute it at one input. -/
def noiseFinishesWrong : ChangeSpec := { name := "noiseFinishes", fn := fun _ => fun
  | [d1, d2, d3, d4, d5] => { results := [.lit (.bool false)], args := [d1, d2, d3, d4, d5] }
  | _ => none }
def NoiseFinishesWrongFalsely : Prop := noiseFinishesRow.holds Try.pinned (OpenSpec.ofChange noiseFinishesWrong)

/-- 'snicketlaw10.NoiseSecret': WHATEVER THE INPUT: true; the input reads as it did. -/
def noiseSecretSpec : ChangeSpec := { name := "noiseSecret", fn := fun _ => fun
  | [d1, d2] => { results := [.lit (.bool true)], args := [d1, d2] }
  | _ => none }
def noiseSecretRow : OpenClaim := { program := "ytbjnejnjlidiaaa", sum := "41b786dc5fc93a4e5020358df5b41b044dfc3fc3ddc54a92e4094111cb9ff1dc", func := "snicket/snicketlaw10.NoiseSecret", spec := "noiseSecret", inPlace := ["internal/bytealg.IndexByteString", "internal/abi.NoEscape", "internal/bytealg.MakeNoZero"], unfollowed := true, recurses := true, apart := false }
def NoiseSecretSaid : Prop := noiseSecretRow.holds Try.pinned (OpenSpec.ofChange noiseSecretSpec)

/-- ITS FALSE NEIGHBOUR: 'it returns false'. Refute it at one input. -/
def noiseSecretWrong : ChangeSpec := { name := "noiseSecret", fn := fun _ => fun
  | [d1, d2] => { results := [.lit (.bool false)], args := [d1, d2] }
  | _ => none }
def NoiseSecretWrongFalsely : Prop := noiseSecretRow.holds Try.pinned (OpenSpec.ofChange noiseSecretWrong)

/-- 'snicketlaw11.MacsSign': WHATEVER THE INPUT: true; the input reads as it did. -/
def macsSignSpec : ChangeSpec := { name := "macsSign", fn := fun _ => fun
  | [d1, d2, d3, d4] => { results := [.lit (.bool true)], args := [d1, d2, d3, d4] }
  | _ => none }
def macsSignRow : OpenClaim := { program := "ytbjnejnjlidiaaa", sum := "41b786dc5fc93a4e5020358df5b41b044dfc3fc3ddc54a92e4094111cb9ff1dc", func := "snicket/snicketlaw11.MacsSign", spec := "macsSign", inPlace := ["internal/bytealg.IndexByteString", "internal/abi.NoEscape", "internal/bytealg.MakeNoZero"], unfollowed := true, recurses := true, apart := false }
def MacsSignSaid : Prop := macsSignRow.holds Try.pinned (OpenSpec.ofChange macsSignSpec)

/-- ITS FALSE NEIGHBOUR: 'it returns false'. Refute it at one input. -/
def macsSignWrong : ChangeSpec := { name := "macsSign", fn := fun _ => fun
  | [d1, d2, d3, d4] => { results := [.lit (.bool false)], args := [d1, d2, d3, d4] }
  | _ => none }
def MacsSignWrongFalsely : Prop := macsSignRow.holds Try.pinned (OpenSpec.ofChange macsSignWrong)

/-- 'snicketlaw11.MacsRefuse': WHATEVER THE INPUT: true; the input reads as it did. -/
def macsRefuseSpec : ChangeSpec := { name := "macsRefuse", fn := fun _ => fun
  | [d1, d2, d3, d4, d5] => { results := [.lit (.bool true)], args := [d1, d2, d3, d4, d5] }
  | _ => none }
def macsRefuseRow : OpenClaim := { program := "ytbjnejnjlidiaaa", sum := "41b786dc5fc93a4e5020358df5b41b044dfc3fc3ddc54a92e4094111cb9ff1dc", func := "snicket/snicketlaw11.MacsRefuse", spec := "macsRefuse", inPlace := ["internal/bytealg.IndexByteString", "internal/abi.NoEscape", "internal/bytealg.MakeNoZero"], unfollowed := true, recurses := true, apart := false }
def MacsRefuseSaid : Prop := macsRefuseRow.holds Try.pinned (OpenSpec.ofChange macsRefuseSpec)

/-- ITS FALSE NEIGHBOUR: 'it returns false'. Refute it at one input. -/
def macsRefuseWrong : ChangeSpec := { name := "macsRefuse", fn := fun _ => fun
  | [d1, d2, d3, d4, d5] => { results := [.lit (.bool false)], args := [d1, d2, d3, d4, d5] }
  | _ => none }
def MacsRefuseWrongFalsely : Prop := macsRefuseRow.holds Try.pinned (OpenSpec.ofChange macsRefuseWrong)

/-- 'snicketlaw11.MacsCookies': WHATEVER THE INPUT: true; the input reads as it did. -/
def macsCookiesSpec : ChangeSpec := { name := "macsCookies", fn := fun _ => fun
  | [d1, d2, d3, d4] => { results := [.lit (.bool true)], args := [d1, d2, d3, d4] }
  | _ => none }
def macsCookiesRow : OpenClaim := { program := "ytbjnejnjlidiaaa", sum := "41b786dc5fc93a4e5020358df5b41b044dfc3fc3ddc54a92e4094111cb9ff1dc", func := "snicket/snicketlaw11.MacsCookies", spec := "macsCookies", inPlace := ["internal/bytealg.IndexByteString", "internal/abi.NoEscape", "internal/bytealg.MakeNoZero"], unfollowed := true, recurses := true, apart := false }
def MacsCookiesSaid : Prop := macsCookiesRow.holds Try.pinned (OpenSpec.ofChange macsCookiesSpec)

/-- ITS FALSE NEIGHBOUR: 'it returns false'. Refute it at one input. -/
def macsCookiesWrong : ChangeSpec := { name := "macsCookies", fn := fun _ => fun
  | [d1, d2, d3, d4] => { results := [.lit (.bool false)], args := [d1, d2, d3, d4] }
  | _ => none }
def MacsCookiesWrongFalsely : Prop := macsCookiesRow.holds Try.pinned (OpenSpec.ofChange macsCookiesWrong)

/-- 'snicketlaw12.PairLimits': WHATEVER THE INPUT: true; the input reads as it did. -/
def pairLimitsSpec : ChangeSpec := { name := "pairLimits", fn := fun _ => fun
  | [d1, d2, d3] => { results := [.lit (.bool true)], args := [d1, d2, d3] }
  | _ => none }
def pairLimitsRow : OpenClaim := { program := "ytbjnejnjlidiaaa", sum := "41b786dc5fc93a4e5020358df5b41b044dfc3fc3ddc54a92e4094111cb9ff1dc", func := "snicket/snicketlaw12.PairLimits", spec := "pairLimits", inPlace := ["internal/bytealg.IndexByteString", "internal/abi.NoEscape", "internal/bytealg.MakeNoZero"], unfollowed := true, recurses := true, apart := false }
def PairLimitsSaid : Prop := pairLimitsRow.holds Try.pinned (OpenSpec.ofChange pairLimitsSpec)

/-- ITS FALSE NEIGHBOUR: 'it returns false'. Refute it at one input. -/
def pairLimitsWrong : ChangeSpec := { name := "pairLimits", fn := fun _ => fun
  | [d1, d2, d3] => { results := [.lit (.bool false)], args := [d1, d2, d3] }
  | _ => none }
def PairLimitsWrongFalsely : Prop := pairLimitsRow.holds Try.pinned (OpenSpec.ofChange pairLimitsWrong)

/-- 'snicketlaw12.PairNil': WHATEVER THE INPUT: true; the input reads as it did. -/
def pairNilSpec : ChangeSpec := { name := "pairNil", fn := fun _ => fun
  | [d1, d2] => { results := [.lit (.bool true)], args := [d1, d2] }
  | _ => none }
def pairNilRow : OpenClaim := { program := "ytbjnejnjlidiaaa", sum := "41b786dc5fc93a4e5020358df5b41b044dfc3fc3ddc54a92e4094111cb9ff1dc", func := "snicket/snicketlaw12.PairNil", spec := "pairNil", inPlace := ["internal/bytealg.IndexByteString", "internal/abi.NoEscape", "internal/bytealg.MakeNoZero"], unfollowed := true, recurses := true, apart := false }
def PairNilSaid : Prop := pairNilRow.holds Try.pinned (OpenSpec.ofChange pairNilSpec)

/-- ITS FALSE NEIGHBOUR: 'it returns false'. Refute it at one input. -/
def pairNilWrong : ChangeSpec := { name := "pairNil", fn := fun _ => fun
  | [d1, d2] => { results := [.lit (.bool false)], args := [d1, d2] }
  | _ => none }
def PairNilWrongFalsely : Prop := pairNilRow.holds Try.pinned (OpenSpec.ofChange pairNilWrong)

/- THE SECOND FORM. 'bulk': how many values and letters a reading holds, each counted each time it is reached (what is shared counts as often as it is met; a slice's spare places count too). A statement '..UptoSaid' is the law's where the arguments, and the package variables that the reading takes, are together of bulk at most 1048576: NARROWER than '..Said'. Prove '..Said' where nothing that the law and all that it calls make is longer than what came in: it says more and counts as full. Else prove '..UptoSaid'. A law counts once. -/
mutual
def uptoBulk {H : Type} : DataW H → Nat
  | .lit (.string bytes) => bytes.length + 1
  | .lit _ => 1
  | .nil => 1
  | .ptr d => uptoBulk d + 1
  | .slice elems spare => uptoBulkAll elems + uptoBulkAll spare + 1
  | .agg parts => uptoBulkAll parts + 1
  | .iface _ d => uptoBulk d + 1
  | .map entries => uptoBulkEntries entries + 1
  | .held _ => 1
def uptoBulkAll {H : Type} : List (DataW H) → Nat
  | [] => 0
  | d :: r => uptoBulk d + uptoBulkAll r
def uptoBulkEntries {H : Type} : List (Lit × DataW H) → Nat
  | [] => 0
  | x :: r => uptoBulkEntry x + uptoBulkEntries r
def uptoBulkEntry {H : Type} : Lit × DataW H → Nat
  | (.string bytes, d) => bytes.length + uptoBulk d + 1
  | (_, d) => uptoBulk d + 1
 end
def uptoSmall : (H : Type) → List (DataW H) → Bool := fun _ ds => decide (uptoBulkAll ds ≤ 1048576)
def OpenSpec.upto (s : _root_.Go.ChangeSpec) : _root_.Go.OpenSpec := { _root_.Go.OpenSpec.ofChange s with cond := some uptoSmall }

/-- 'snicketlaw02.TermReads', WHERE WHAT IT READS IS OF BULK AT MOST 1048576: true; the input reads as it did. -/
def termReadsUptoRow : OpenClaim := { program := "ytbjnejnjlidiaaa", sum := "41b786dc5fc93a4e5020358df5b41b044dfc3fc3ddc54a92e4094111cb9ff1dc", func := "snicket/snicketlaw02.TermReads", spec := "termReads", inPlace := ["internal/bytealg.IndexByteString", "internal/abi.NoEscape", "internal/bytealg.MakeNoZero"], unfollowed := true, recurses := true, apart := false, narrowed := true }
def TermReadsUptoSaid : Prop := termReadsUptoRow.holds Try.pinned (OpenSpec.upto termReadsSpec)

/-- 'snicketlaw02.TermMakes', WHERE WHAT IT READS IS OF BULK AT MOST 1048576: true; the input reads as it did. -/
def termMakesUptoRow : OpenClaim := { program := "ytbjnejnjlidiaaa", sum := "41b786dc5fc93a4e5020358df5b41b044dfc3fc3ddc54a92e4094111cb9ff1dc", func := "snicket/snicketlaw02.TermMakes", spec := "termMakes", inPlace := ["internal/bytealg.IndexByteString", "internal/abi.NoEscape", "internal/bytealg.MakeNoZero"], unfollowed := true, recurses := true, apart := false, narrowed := true }
def TermMakesUptoSaid : Prop := termMakesUptoRow.holds Try.pinned (OpenSpec.upto termMakesSpec)

/-- 'snicketlaw02.TermOpens', WHERE WHAT IT READS IS OF BULK AT MOST 1048576: true; the input reads as it did. -/
def termOpensUptoRow : OpenClaim := { program := "ytbjnejnjlidiaaa", sum := "41b786dc5fc93a4e5020358df5b41b044dfc3fc3ddc54a92e4094111cb9ff1dc", func := "snicket/snicketlaw02.TermOpens", spec := "termOpens", inPlace := ["internal/bytealg.IndexByteString", "internal/abi.NoEscape", "internal/bytealg.MakeNoZero"], unfollowed := true, recurses := true, apart := false, narrowed := true }
def TermOpensUptoSaid : Prop := termOpensUptoRow.holds Try.pinned (OpenSpec.upto termOpensSpec)

/-- 'snicketlaw02.TermAgrees', WHERE WHAT IT READS IS OF BULK AT MOST 1048576: true; the input reads as it did. -/
def termAgreesUptoRow : OpenClaim := { program := "ytbjnejnjlidiaaa", sum := "41b786dc5fc93a4e5020358df5b41b044dfc3fc3ddc54a92e4094111cb9ff1dc", func := "snicket/snicketlaw02.TermAgrees", spec := "termAgrees", inPlace := ["internal/bytealg.IndexByteString", "internal/abi.NoEscape", "internal/bytealg.MakeNoZero"], unfollowed := true, recurses := true, apart := false, narrowed := true }
def TermAgreesUptoSaid : Prop := termAgreesUptoRow.holds Try.pinned (OpenSpec.upto termAgreesSpec)

/-- 'snicketlaw03.KnowCan', WHERE WHAT IT READS IS OF BULK AT MOST 1048576: true; the input reads as it did. -/
def knowCanUptoRow : OpenClaim := { program := "ytbjnejnjlidiaaa", sum := "41b786dc5fc93a4e5020358df5b41b044dfc3fc3ddc54a92e4094111cb9ff1dc", func := "snicket/snicketlaw03.KnowCan", spec := "knowCan", inPlace := ["internal/bytealg.IndexByteString", "internal/abi.NoEscape", "internal/bytealg.MakeNoZero"], unfollowed := true, recurses := true, apart := false, narrowed := true }
def KnowCanUptoSaid : Prop := knowCanUptoRow.holds Try.pinned (OpenSpec.upto knowCanSpec)

/-- 'snicketlaw03.KnowOrder', WHERE WHAT IT READS IS OF BULK AT MOST 1048576: true; the input reads as it did. -/
def knowOrderUptoRow : OpenClaim := { program := "ytbjnejnjlidiaaa", sum := "41b786dc5fc93a4e5020358df5b41b044dfc3fc3ddc54a92e4094111cb9ff1dc", func := "snicket/snicketlaw03.KnowOrder", spec := "knowOrder", inPlace := ["internal/bytealg.IndexByteString", "internal/abi.NoEscape", "internal/bytealg.MakeNoZero"], unfollowed := true, recurses := true, apart := false, narrowed := true }
def KnowOrderUptoSaid : Prop := knowOrderUptoRow.holds Try.pinned (OpenSpec.upto knowOrderSpec)

/-- 'snicketlaw03.KnowNil', WHERE WHAT IT READS IS OF BULK AT MOST 1048576: true; the input reads as it did. -/
def knowNilUptoRow : OpenClaim := { program := "ytbjnejnjlidiaaa", sum := "41b786dc5fc93a4e5020358df5b41b044dfc3fc3ddc54a92e4094111cb9ff1dc", func := "snicket/snicketlaw03.KnowNil", spec := "knowNil", inPlace := ["internal/bytealg.IndexByteString", "internal/abi.NoEscape", "internal/bytealg.MakeNoZero"], unfollowed := true, recurses := true, apart := false, narrowed := true }
def KnowNilUptoSaid : Prop := knowNilUptoRow.holds Try.pinned (OpenSpec.upto knowNilSpec)

/-- 'snicketlaw06.WirePrints', WHERE WHAT IT READS IS OF BULK AT MOST 1048576: true; the input reads as it did. -/
def wirePrintsUptoRow : OpenClaim := { program := "ytbjnejnjlidiaaa", sum := "41b786dc5fc93a4e5020358df5b41b044dfc3fc3ddc54a92e4094111cb9ff1dc", func := "snicket/snicketlaw06.WirePrints", spec := "wirePrints", inPlace := ["internal/bytealg.IndexByteString", "internal/abi.NoEscape", "internal/bytealg.MakeNoZero"], unfollowed := true, recurses := true, apart := false, narrowed := true }
def WirePrintsUptoSaid : Prop := wirePrintsUptoRow.holds Try.pinned (OpenSpec.upto wirePrintsSpec)

/-- 'snicketlaw06.WireReads', WHERE WHAT IT READS IS OF BULK AT MOST 1048576: true; the input reads as it did. -/
def wireReadsUptoRow : OpenClaim := { program := "ytbjnejnjlidiaaa", sum := "41b786dc5fc93a4e5020358df5b41b044dfc3fc3ddc54a92e4094111cb9ff1dc", func := "snicket/snicketlaw06.WireReads", spec := "wireReads", inPlace := ["internal/bytealg.IndexByteString"], unfollowed := true, recurses := true, apart := false, narrowed := true }
def WireReadsUptoSaid : Prop := wireReadsUptoRow.holds Try.pinned (OpenSpec.upto wireReadsSpec)

/-- 'snicketlaw10.NoiseBegins', WHERE WHAT IT READS IS OF BULK AT MOST 1048576: true; the input reads as it did. -/
def noiseBeginsUptoRow : OpenClaim := { program := "ytbjnejnjlidiaaa", sum := "41b786dc5fc93a4e5020358df5b41b044dfc3fc3ddc54a92e4094111cb9ff1dc", func := "snicket/snicketlaw10.NoiseBegins", spec := "noiseBegins", inPlace := ["internal/bytealg.IndexByteString", "internal/abi.NoEscape", "internal/bytealg.MakeNoZero"], unfollowed := true, recurses := true, apart := false, narrowed := true }
def NoiseBeginsUptoSaid : Prop := noiseBeginsUptoRow.holds Try.pinned (OpenSpec.upto noiseBeginsSpec)

/-- 'snicketlaw10.NoiseHears', WHERE WHAT IT READS IS OF BULK AT MOST 1048576: true; the input reads as it did. -/
def noiseHearsUptoRow : OpenClaim := { program := "ytbjnejnjlidiaaa", sum := "41b786dc5fc93a4e5020358df5b41b044dfc3fc3ddc54a92e4094111cb9ff1dc", func := "snicket/snicketlaw10.NoiseHears", spec := "noiseHears", inPlace := ["internal/bytealg.IndexByteString", "internal/abi.NoEscape", "internal/bytealg.MakeNoZero"], unfollowed := true, recurses := true, apart := false, narrowed := true }
def NoiseHearsUptoSaid : Prop := noiseHearsUptoRow.holds Try.pinned (OpenSpec.upto noiseHearsSpec)

/-- 'snicketlaw10.NoiseAgrees', WHERE WHAT IT READS IS OF BULK AT MOST 1048576: true; the input reads as it did. -/
def noiseAgreesUptoRow : OpenClaim := { program := "ytbjnejnjlidiaaa", sum := "41b786dc5fc93a4e5020358df5b41b044dfc3fc3ddc54a92e4094111cb9ff1dc", func := "snicket/snicketlaw10.NoiseAgrees", spec := "noiseAgrees", inPlace := ["internal/bytealg.IndexByteString", "internal/abi.NoEscape", "internal/bytealg.MakeNoZero"], unfollowed := true, recurses := true, apart := false, narrowed := true }
def NoiseAgreesUptoSaid : Prop := noiseAgreesUptoRow.holds Try.pinned (OpenSpec.upto noiseAgreesSpec)

/-- 'snicketlaw10.NoiseFinishes', WHERE WHAT IT READS IS OF BULK AT MOST 1048576: true; the input reads as it did. -/
def noiseFinishesUptoRow : OpenClaim := { program := "ytbjnejnjlidiaaa", sum := "41b786dc5fc93a4e5020358df5b41b044dfc3fc3ddc54a92e4094111cb9ff1dc", func := "snicket/snicketlaw10.NoiseFinishes", spec := "noiseFinishes", inPlace := ["internal/bytealg.IndexByteString", "internal/abi.NoEscape", "internal/bytealg.MakeNoZero"], unfollowed := true, recurses := true, apart := false, narrowed := true }
def NoiseFinishesUptoSaid : Prop := noiseFinishesUptoRow.holds Try.pinned (OpenSpec.upto noiseFinishesSpec)

/-- 'snicketlaw10.NoiseSecret', WHERE WHAT IT READS IS OF BULK AT MOST 1048576: true; the input reads as it did. -/
def noiseSecretUptoRow : OpenClaim := { program := "ytbjnejnjlidiaaa", sum := "41b786dc5fc93a4e5020358df5b41b044dfc3fc3ddc54a92e4094111cb9ff1dc", func := "snicket/snicketlaw10.NoiseSecret", spec := "noiseSecret", inPlace := ["internal/bytealg.IndexByteString", "internal/abi.NoEscape", "internal/bytealg.MakeNoZero"], unfollowed := true, recurses := true, apart := false, narrowed := true }
def NoiseSecretUptoSaid : Prop := noiseSecretUptoRow.holds Try.pinned (OpenSpec.upto noiseSecretSpec)

/-- 'snicketlaw11.MacsSign', WHERE WHAT IT READS IS OF BULK AT MOST 1048576: true; the input reads as it did. -/
def macsSignUptoRow : OpenClaim := { program := "ytbjnejnjlidiaaa", sum := "41b786dc5fc93a4e5020358df5b41b044dfc3fc3ddc54a92e4094111cb9ff1dc", func := "snicket/snicketlaw11.MacsSign", spec := "macsSign", inPlace := ["internal/bytealg.IndexByteString", "internal/abi.NoEscape", "internal/bytealg.MakeNoZero"], unfollowed := true, recurses := true, apart := false, narrowed := true }
def MacsSignUptoSaid : Prop := macsSignUptoRow.holds Try.pinned (OpenSpec.upto macsSignSpec)

/-- 'snicketlaw11.MacsRefuse', WHERE WHAT IT READS IS OF BULK AT MOST 1048576: true; the input reads as it did. -/
def macsRefuseUptoRow : OpenClaim := { program := "ytbjnejnjlidiaaa", sum := "41b786dc5fc93a4e5020358df5b41b044dfc3fc3ddc54a92e4094111cb9ff1dc", func := "snicket/snicketlaw11.MacsRefuse", spec := "macsRefuse", inPlace := ["internal/bytealg.IndexByteString", "internal/abi.NoEscape", "internal/bytealg.MakeNoZero"], unfollowed := true, recurses := true, apart := false, narrowed := true }
def MacsRefuseUptoSaid : Prop := macsRefuseUptoRow.holds Try.pinned (OpenSpec.upto macsRefuseSpec)

/-- 'snicketlaw11.MacsCookies', WHERE WHAT IT READS IS OF BULK AT MOST 1048576: true; the input reads as it did. -/
def macsCookiesUptoRow : OpenClaim := { program := "ytbjnejnjlidiaaa", sum := "41b786dc5fc93a4e5020358df5b41b044dfc3fc3ddc54a92e4094111cb9ff1dc", func := "snicket/snicketlaw11.MacsCookies", spec := "macsCookies", inPlace := ["internal/bytealg.IndexByteString", "internal/abi.NoEscape", "internal/bytealg.MakeNoZero"], unfollowed := true, recurses := true, apart := false, narrowed := true }
def MacsCookiesUptoSaid : Prop := macsCookiesUptoRow.holds Try.pinned (OpenSpec.upto macsCookiesSpec)

/-- 'snicketlaw12.PairLimits', WHERE WHAT IT READS IS OF BULK AT MOST 1048576: true; the input reads as it did. -/
def pairLimitsUptoRow : OpenClaim := { program := "ytbjnejnjlidiaaa", sum := "41b786dc5fc93a4e5020358df5b41b044dfc3fc3ddc54a92e4094111cb9ff1dc", func := "snicket/snicketlaw12.PairLimits", spec := "pairLimits", inPlace := ["internal/bytealg.IndexByteString", "internal/abi.NoEscape", "internal/bytealg.MakeNoZero"], unfollowed := true, recurses := true, apart := false, narrowed := true }
def PairLimitsUptoSaid : Prop := pairLimitsUptoRow.holds Try.pinned (OpenSpec.upto pairLimitsSpec)

/-- 'snicketlaw12.PairNil', WHERE WHAT IT READS IS OF BULK AT MOST 1048576: true; the input reads as it did. -/
def pairNilUptoRow : OpenClaim := { program := "ytbjnejnjlidiaaa", sum := "41b786dc5fc93a4e5020358df5b41b044dfc3fc3ddc54a92e4094111cb9ff1dc", func := "snicket/snicketlaw12.PairNil", spec := "pairNil", inPlace := ["internal/bytealg.IndexByteString", "internal/abi.NoEscape", "internal/bytealg.MakeNoZero"], unfollowed := true, recurses := true, apart := false, narrowed := true }
def PairNilUptoSaid : Prop := pairNilUptoRow.holds Try.pinned (OpenSpec.upto pairNilSpec)

end Rows
end Go.Proofs.Ytbjnejnjlidiaaa
