/- Layer 12: the contract of the program's stepBytes. -/
import Derived.Test.YthliofijioghkaaW12b
namespace Go.Proofs.Ythliofijioghkaa
open Go.RowKit
set_option linter.unusedVariables false

theorem text_small {s : ByteArray} (h : s.size ≤ 16) : (bx (textL s)).size ≤ 18 := by
  have := putL_small (n := s.size) (by omega)
  have e : s.data.toList.length = s.size := by simp
  rw [bx_size]; unfold textL; rw [List.length_append]; omega

end Go.Proofs.Ythliofijioghkaa
