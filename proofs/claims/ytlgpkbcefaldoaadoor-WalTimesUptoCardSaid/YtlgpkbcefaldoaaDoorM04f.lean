/- Layer 4, plain facts: what is left of the records, as a beginning of them. -/
import Derived.Test.YtlgpkbcefaldoaaDoorM04d
namespace Go.Proofs.YtlgpkbcefaldoaaDoor
set_option linter.unusedVariables false

theorem left_take {fs : List FileS} {last : List (List UInt8)} {ss : List ByteArray} {m j : Nat} (h : scans fs ++ last = bytesOf (ss.take m)) (hj : j ≤ last.length) (hm : m ≤ ss.length) :
    scans fs ++ last.take j = (bytesOf ss).take ((scans fs).length + j) ∧ (scans fs).length + j ≤ m := by
  have hl : (scans fs).length + last.length = m := by
    have := congrArg List.length h
    rw [List.length_append, bytesOf_len, List.length_take] at this
    omega
  refine ⟨?_, by omega⟩
  have e : bytesOf (ss.take m) = (bytesOf ss).take m := by simp [bytesOf]
  have h2 := congrArg (List.take ((scans fs).length + j)) h
  rw [e, List.take_take, Nat.min_eq_left (show (scans fs).length + j ≤ m by omega)] at h2
  have h3 : (scans fs ++ last).take ((scans fs).length + j) = scans fs ++ last.take j := by
    rw [List.take_append, List.take_of_length_le (by omega)]
    simp
  rw [← h3, h2]
theorem scans_snoc {fs : List FileS} {last : List (List UInt8)} (h : ∀ l ∈ last, l.length ≤ 1048576) (k : Nat) : scans (fs ++ [⟨framesL last, k⟩]) = scans fs ++ last := by
  rw [scans_append]
  congr 1
  show scan1 _ ++ [] = _
  rw [List.append_nil]
  exact scan1_frames h k
end Go.Proofs.YtlgpkbcefaldoaaDoor
