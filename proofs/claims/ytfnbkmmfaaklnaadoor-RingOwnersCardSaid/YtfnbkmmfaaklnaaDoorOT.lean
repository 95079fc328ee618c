/- The listed variables: the table of powers of ten out of the row's list; a world that holds them. -/
import Derived.Test.YtfnbkmmfaaklnaaDoorWTab
import Derived.Test.YtfnbkmmfaaklnaaDoorRows
import Derived.Lib.LaidTab
import Derived.ProofKit
namespace Go.Proofs.YtfnbkmmfaaklnaaDoor
open Go.RowKit
set_option linter.unusedVariables false

theorem laid_tail {P : Program} {x : String × DataW Unit} {r : List (String × DataW Unit)} {w : World} (h : laidMet P (x :: r) w) : laidMet P r w := by
  obtain ⟨ps, hv, hnd, hr⟩ := h
  obtain ⟨n, d⟩ := x
  obtain ⟨g, t, cs, fuel, p, q, _, _, _, _, hq, rfl⟩ := hv
  exact ⟨q, hq, (List.nodup_append.1 hnd).2.1, fun b off hm => hr b off (List.mem_append_right _ hm)⟩
theorem cellsTab : Tryd.prog.cellsOf 63 = 20 := by kernel_rfl
theorem cellsU64 : Tryd.prog.cellsOf 46 = 1 := by kernel_rfl
theorem tabType : (Tryd.prog.globals[1]?).map (·.type) = some 63 := by kernel_rfl
theorem tab_of_laid {W : World} (h : laidMet Tryd.prog [("math/bits.deBruijn32tab", Rows.laid_math_bits_deBruijn32tab), ("math/bits.deBruijn64tab", Rows.laid_math_bits_deBruijn64tab), ("internal/strconv.uint64pow10", Rows.laid_internal_strconv_uint64pow10)] W) : Tab W :=
  Lib.tabIs_of_head (rest := []) tab_named tabType Tryd.underlying63 Tryd.underlying46 cellsU64 cellsTab (laid_tail (laid_tail h))

/-- A world for the witnesses: the settled one, with the three tables as their initialisers lay them. -/
def putCells (h : Array Obj) (g : Nat) (cs : List Value) : Array Obj := h.modify g fun
  | .cells _ t frozen => .cells cs.toArray t frozen
  | o => o
def litsOf (d : DataW Unit) : List Value := match d with
  | .agg ds => ds.filterMap fun
    | .lit (.int k n) => some (.int k n)
    | _ => none
  | _ => []
noncomputable def laidWorld (os : Os) : World :=
  { World.holding Tryd.prog os ⟨#[], #[], []⟩ with heap := putCells (putCells (putCells (World.holding Tryd.prog os ⟨#[], #[], []⟩).heap 1 (litsOf Rows.laid_internal_strconv_uint64pow10)) 2 (litsOf Rows.laid_math_bits_deBruijn32tab)) 3 (litsOf Rows.laid_math_bits_deBruijn64tab) }
end Go.Proofs.YtfnbkmmfaaklnaaDoor
