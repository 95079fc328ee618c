/- The table of powers of ten that Itoa reads. -/
import Derived.Test.YtfnbkmmfaaklnaaDoorWT
import Derived.Test.YtfnbkmmfaaklnaaDoorShelf
import Derived.Lib.AppendIntMem
namespace Go.Proofs.YtfnbkmmfaaklnaaDoor
open Go.RowKit
set_option linter.unusedVariables false

/-- The table of powers of ten that Itoa reads. -/
def Tab (w : World) : Prop := Lib.TabIs Tryd.prog w "internal/strconv.uint64pow10" .u64 Lib.pow10Tab
theorem Tab.below {w w' : World} (h : Tab w) (hb : Below w.heap.size w w') : Tab w' := Lib.tabBelow_of_tabIs h w' hb
theorem tab_named : Tryd.prog.globalNamed "internal/strconv.uint64pow10" = some 1 := by kernel_rfl
theorem Tab.turn {F : Nat → Prop} {w w' : World} (h : Tab w) (t : Turn F w w') (hF : ¬ F 1) : Tab w' := by
  unfold Tab Lib.TabIs World.var? at *
  rw [tab_named] at h ⊢
  simp only [Option.bind_some] at h ⊢
  have hlt : 1 < w.heap.size := by
    rcases Nat.lt_or_ge 1 w.heap.size with h' | h'
    · exact h'
    · rw [Array.getElem?_eq_none h'] at h; simp at h
  rw [t.block _ hlt hF]
  exact h
theorem Tab.lt {w : World} (h : Tab w) : 1 < w.heap.size := by
  unfold Tab Lib.TabIs World.var? at h
  rw [tab_named] at h
  simp only [Option.bind_some] at h
  rcases Nat.lt_or_ge 1 w.heap.size with h' | h'
  · exact h'
  · rw [Array.getElem?_eq_none h'] at h; simp at h
end Go.Proofs.YtfnbkmmfaaklnaaDoor
