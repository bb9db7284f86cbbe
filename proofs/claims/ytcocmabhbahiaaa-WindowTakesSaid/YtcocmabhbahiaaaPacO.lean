/- Two bytes as a number: the higher one's bits are none of the lower one's. -/
import Derived.Test.YtcocmabhbahiaaaKit
namespace Go.Proofs.Ytcocmabhbahiaaa.pacO
theorem or_two : ∀ a b : Fin 256, Go.bits BinOp.or IntKind.i64 (((a.val : Nat) : Int) * 256) ((b.val : Nat) : Int) = ((256 * a.val + b.val : Nat) : Int) := by decide +kernel

end Go.Proofs.Ytcocmabhbahiaaa.pacO
