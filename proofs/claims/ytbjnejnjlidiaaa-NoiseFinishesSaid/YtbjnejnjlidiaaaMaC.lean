/- Macs: the document's small functions. -/
import Derived.Test.YtbjnejnjlidiaaaMaB
import Derived.Deep.RegionHeld3
namespace Go.Proofs.Ytbjnejnjlidiaaa.maC
open Go.RowKit kit numA numB numC numD numE tmA tmB tmC tmD tmE trA trB prR prS prW prX tsA tsB tsF tsI wrA wrB wrC wrD wrE wrF wrG wrH wrI wrJ wrK wrL mkA maA maB
set_option linter.unusedVariables false
set_option linter.unusedSimpArgs false

theorem u_le {t : Txt} {b : ByteArray} (hb : b.data.toList = t) {n : Nat} (h : t.length ≤ n) : b.size ≤ n := by rw [sz_of hb]; exact h

set_option maxRecDepth 100000 in
theorem refhash_any (x y b : ByteArray) (w : World) (hb : b.data.toList = mkT 7 0 [] [x.data.toList, y.data.toList]) (h1 : x.size ≤ 10000000) (h2 : y.size ≤ 10000000) (G : Nat) (hG : w.heap.size = G) : Calls Try.prog 148 #[.slice (some ⟨G, 0, none⟩) 2 2] (w.alloc (.cells #[.string x, .string y] 9)) (numA.Told w (.string b)) := by
  have C := Lib.hid (told_str (b := b) (by rw [hb]; rfl) (refmake2 7 0 0 rfl (by decide) x y w h1 h2))
  rw [hG] at C
  clear hb h1 h2 hG
  go_enter Try.func148, Try.ntmps148
  go_wp2_with fail
  (with_reducible refine C.out.mono ?_)
  rintro e wx ⟨rfl, o⟩
  have O := Lib.hid o
  clear o
  go_wp2_with fail
  go_ret
  exact ⟨rfl, O.out⟩

end Go.Proofs.Ytbjnejnjlidiaaa.maC
