/- The walk of RingActs, told of its arguments as the frame tells them. -/
import Derived.Test.YtcocmabhbahiaaaRingI
import Derived.Test.YtcocmabhbahiaaaArgs
namespace Go.Proofs.Ytcocmabhbahiaaa.ringJ
open Go.RowKit Go.Proofs.Ytcocmabhbahiaaa.args

theorem walk (room : Int) (_w0 : (Lit.int .i64 room).wf = true) (a : Option Addr) (len cap : Nat) {w : World} (h : Pairs .u8 .u64 w a len) :
    Calls Try.prog 10 #[.int .i64 room, .slice a len cap] w fun e w' => e = .returned (.bool true) ∧ Below w.heap.size w w' :=
  ringI.walk room a len cap w (by
    rcases h.2 with h | ⟨b, o, ha, hb, k, x, hc⟩
    · exact .inl h
    · exact .inr ⟨b, o, ha, hb, k, x, fun i hi => ⟨(hc i hi).1, (hc i hi).2.1⟩⟩) h.1
end Go.Proofs.Ytcocmabhbahiaaa.ringJ
