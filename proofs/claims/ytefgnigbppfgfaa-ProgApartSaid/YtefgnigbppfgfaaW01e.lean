/- Layer 1: contracts of Text and of the reference's, awake. -/
import Derived.Test.YtefgnigbppfgfaaW01c
import Derived.Test.YtefgnigbppfgfaaR01c
import Derived.Test.YtefgnigbppfgfaaR01i
namespace Go.Proofs.Ytefgnigbppfgfaa
open Go.RowKit
set_option linter.unusedVariables false

set_option maxHeartbeats 400000 in
set_option maxRecDepth 100000 in
theorem text_any (s : ByteArray) (hs : s.size ≤ 140737488355328) (w : World) :
    Calls Try.prog 31 #[.string s] w fun e w' => e = .returned (.string ⟨(putL s.size ++ s.data.toList).toArray⟩) ∧ Below w.heap.size w w' := by
  have hl := putL_len10 (n := s.size) (by show _ < _; omega)
  go_enter Try.func31, Try.ntmps31
  go_wp2_with (go_at_call 30; refine (put_any _ (by show _ < _; omega) _).mono ?_; rintro e w' ⟨rfl, hb⟩)
  go_ret
  refine ⟨?_, hb⟩
  rw [text_form]
  rfl

set_option maxHeartbeats 400000 in
set_option maxRecDepth 100000 in
theorem rtext_any (s : ByteArray) (hs : s.size ≤ 140737488355328) (w : World) :
    Calls Try.prog 21 #[.string s] w fun e w' => e = .returned (.string ⟨(putL s.size ++ s.data.toList).toArray⟩) ∧ Below w.heap.size w w' := by
  have hl := putL_len10 (n := s.size) (by unfold U64; omega)
  go_enter Try.func21, Try.ntmps21
  go_wp2_with (go_at_call 20; refine (rint_any _ (by omega) _).mono ?_; rintro e w' ⟨rfl, hb⟩)
  go_ret
  refine ⟨?_, hb⟩
  rw [text_form]
  rfl

theorem put_300 (w : World) : Calls Try.prog 30 #[.int .u64 300] w fun e w' => e = .returned (.string ⟨#[172, 2]⟩) ∧ Below w.heap.size w w' := by
  have h := put_any 300 (by unfold U64; omega) w
  rw [show putL 300 = [172, 2] by rw [putL_ge (by omega), putL_lt (by omega)]; rfl] at h
  exact h

theorem text_ab (w : World) : Calls Try.prog 31 #[.string ⟨#[97, 98]⟩] w fun e w' => e = .returned (.string ⟨#[2, 97, 98]⟩) ∧ Below w.heap.size w w' := by
  have h := text_any ⟨#[97, 98]⟩ (by decide) w
  rw [show putL (ByteArray.size ⟨#[97, 98]⟩) = [2] from putL_lt (by decide)] at h
  exact h

end Go.Proofs.Ytefgnigbppfgfaa
