/- Parts of the proof. -/
import Derived.Test.YtnafjlhohbhcoaaGreatDoorQ20
import Derived.Deep.QuietTactic
import Derived.BigQuiet
namespace Go.Proofs.YtnafjlhohbhcoaaGreatDoor
set_option linter.unusedVariables false
open Go.RowKit
theorem W9 {t : ByteArray} {k q r : Nat} (hq : k / 8 = q) (hr : k % 8 = r) (h : q < t.size) : Ee t.data.toList k = t[q].toNat.testBit r:=by
 unfold Ee
 rw [hq,hr]
 have : t.data.toList.getD q 0 = t[q]:=by
  have h' : q < t.data.toList.length:=by simpa using h
  simp only [List.getD,List.getElem?_eq_getElem h',Option.getD_some]
  simp
  rfl
 rw [this]
theorem Aan (w : World) (n : Nat) : Below w.heap.size w (w.drewN n):=below_drewN (Below.refl _ w) n
end Go.Proofs.YtnafjlhohbhcoaaGreatDoor
