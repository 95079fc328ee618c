/- The listed variable: TrailingZeros64's table out of the row's list; a world that holds it. -/
import Derived.Test.YtmmamgnbonpkiaaDoorW05
import Derived.Test.YtmmamgnbonpkiaaDoorRows
import Derived.Lib.LaidTab
import Derived.ProofKit
namespace Go.Proofs.YtmmamgnbonpkiaaDoor
open Go.RowKit
set_option linter.unusedVariables false

theorem cellsTab64 : Tryd.prog.cellsOf 71 = 64 := by kernel_rfl
theorem cellsU8 : Tryd.prog.cellsOf 5 = 1 := by kernel_rfl
theorem tab64Type : (Tryd.prog.globals[0]?).map (·.type) = some 71 := by kernel_rfl
theorem tab_of_laid {W : World} (h : laidMet Tryd.prog [("math/bits.deBruijn64tab", Rows.laid_math_bits_deBruijn64tab)] W) : Tab64 W :=
  Lib.tabIs_of_head (rest := []) tab64_named tab64Type Tryd.underlying71 Tryd.underlying5 cellsU8 cellsTab64 h

/-- A world for the witnesses: the settled one, with the table as its initialiser lays it. -/
def putCells (h : Array Obj) (g : Nat) (cs : List Value) : Array Obj := h.modify g fun
  | .cells _ t frozen => .cells cs.toArray t frozen
  | o => o
def litsOf (d : DataW Unit) : List Value := match d with
  | .agg ds => ds.filterMap fun
    | .lit (.int k n) => some (.int k n)
    | _ => none
  | _ => []
noncomputable def laidWorld (os : Os) : World :=
  { World.holding Tryd.prog os ⟨#[], #[], []⟩ with heap := putCells (World.holding Tryd.prog os ⟨#[], #[], []⟩).heap 0 (litsOf Rows.laid_math_bits_deBruijn64tab) }
end Go.Proofs.YtmmamgnbonpkiaaDoor
