/- Parts of the proof. -/
import Derived.Test.YtnafjlhohbhcoaaGreatDoorQ07
import Derived.Test.YtnafjlhohbhcoaaGreatDoorQ16
import Derived.WalkArith
import Derived.WalkKit
import Derived.Laws.BitsAllLaws
import Derived.Lib.Hide
import Derived.Deep.WholeRow
import Derived.IntWalk
namespace Go.Proofs.YtnafjlhohbhcoaaGreatDoor
set_option linter.unusedVariables false
section
open Go.RowKit
theorem Abv (a : Nat) (h : a < 4294967296) : IntKind.u32.wrap (a : Int) = (a : Int):=by
 rw [IntKind.wrap_u32]; omega
end
section
open Go.RowKit
def TU (f : Nat -> Nat) (i j : Nat) : Nat:=if j < i then f j else 0
theorem Cr {w : World} {b i k : Nat} {v : Value} (e : k ≠ b) : (w.setCell ⟨b,i,none⟩ v).heap[k]? = w.heap[k]?:=Below.heap_setCell _ _ _ _ (fun e2 => e (by first | exact e2 | exact e2.symm))
end
end Go.Proofs.YtnafjlhohbhcoaaGreatDoor
