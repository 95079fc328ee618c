/- Layer 1: the contract of the reference's Int. -/
import Derived.Test.YtefgnigbppfgfaaR01
import Derived.Deep.QuietTactic
import Derived.BigQuiet
import Derived.Deep.RegionWith
namespace Go.Proofs.Ytefgnigbppfgfaa
open Go.RowKit
set_option linter.unusedVariables false

set_option maxHeartbeats 400000 in
set_option maxRecDepth 100000 in
theorem rint_any (a : Nat) (ha : a ≤ 9223372036854775807) (w : World) :
    Calls Try.prog 20 #[.int .i64 (a : Int)] w fun e w' => e = .returned (.string ⟨(putL a).toArray⟩) ∧ Below w.heap.size w w' := by
  have h1 : U64 a := by unfold U64; omega
  go_enter Try.func20, Try.ntmps20
  go_wp2_with (go_at_call 34; refine (rput_any _ h1 _).mono ?_; rintro e w' ⟨rfl, hb⟩)
  go_ret
  exact ⟨rfl, hb⟩
end Go.Proofs.Ytefgnigbppfgfaa
