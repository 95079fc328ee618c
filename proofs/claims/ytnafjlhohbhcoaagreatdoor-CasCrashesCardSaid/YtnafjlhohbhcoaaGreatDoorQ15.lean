/- Parts of the proof. -/
import Derived.Test.YtnafjlhohbhcoaaGreatDoorQ02
import Derived.Lib.Bytealg
namespace Go.Proofs.YtnafjlhohbhcoaaGreatDoor
set_option linter.unusedVariables false
open Go.RowKit Go.Maps Go.Sort
theorem PY {a b : Key} (h : bytesBefore a b = true) : bytesBefore b a = false:=by
 cases h2 : bytesBefore b a with
 | false => rfl
 | true => exact absurd (List.lt_trans ((before_lt a b).1 h) ((before_lt b a).1 h2)) (List.lt_irrefl a)
theorem QN {a b : Key} (h : a ≠ b) (h2 : bytesBefore a b = false) : bytesBefore b a = true:=by
 rw [before_lt]
 have h3 : ¬ a < b:=fun hl => by rw [(before_lt a b).2 hl] at h2; cases h2
 rcases Classical.em (b < a) with h4 | h4
 · exact h4
 · exact absurd (List.le_antisymm (List.not_lt.1 h4) (List.not_lt.1 h3)) h
section
variable {α : Type} {n : Key} {l : List (Key × α)}
end
end Go.Proofs.YtnafjlhohbhcoaaGreatDoor
