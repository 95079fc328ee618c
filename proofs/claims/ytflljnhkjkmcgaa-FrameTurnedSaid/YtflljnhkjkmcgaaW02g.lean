/- Layer 2: the walks of FrameWraps and FrameShorts. -/
import Derived.Test.YtflljnhkjkmcgaaW02f
namespace Go.Proofs.Ytflljnhkjkmcgaa
open Go.RowKit
set_option linter.unusedVariables false

set_option maxHeartbeats 400000 in
set_option maxRecDepth 100000 in
theorem wraps_walk (s : ByteArray) (hs : s.size ≤ 140737488351232) (w : World) :
    Calls Try.prog 3 #[.string s] w fun e w' => e = .returned (.bool true) ∧ Below w.heap.size w w' := by
  by_cases hl : s.size ≤ 1048576
  · go_enter Try.func3, Try.ntmps3
    go_wp2_with fail
    refine (awake_any _).mono ?_
    rintro e w1 ⟨rfl, hb1⟩
    go_wp2_with fail
    refine (wrap_any _ hl _).mono ?_
    rintro e w2 ⟨rfl, hb2⟩
    go_wp2_with fail
    refine (rwrap_any _ hl _).mono ?_
    rintro e w3 ⟨rfl, hb3⟩
    go_wp2_with fail
    refine (sum_any _ (by unfold maxLen; omega) _).mono ?_
    rintro e w4 ⟨rfl, rfl⟩
    go_wp2_with fail
    refine (rsum_any _ (by unfold maxLen; omega) _).mono ?_
    rintro e w4 ⟨rfl, rfl⟩
    go_wp2
    go_ret
    exact ⟨rfl, below_next (below_next hb1 (Nat.le_refl _) hb2) (Nat.le_refl _) hb3⟩
  · go_enter Try.func3, Try.ntmps3
    go_wp2_with fail
    refine (awake_any _).mono ?_
    rintro e w1 ⟨rfl, hb1⟩
    go_wp2_with fail
    refine (wrap_long _ hl _).mono ?_
    rintro e w2 ⟨rfl, rfl⟩
    go_wp2_with fail
    refine (rwrap_long _ hl _).mono ?_
    rintro e w2 ⟨rfl, rfl⟩
    go_wp2_with fail
    refine (sum_any _ (by unfold maxLen; omega) _).mono ?_
    rintro e w4 ⟨rfl, rfl⟩
    go_wp2_with fail
    refine (rsum_any _ (by unfold maxLen; omega) _).mono ?_
    rintro e w4 ⟨rfl, rfl⟩
    go_wp2
    go_ret
    exact ⟨rfl, hb1⟩

theorem next_part (s : ByteArray) (hs : s.size ≤ 1048576) (k : Nat) (hk : k < (frameL s.data.toList).length) (t : ByteArray) (ht : t.data.toList = (frameL s.data.toList).take k) (w : World) :
    Calls Try.prog 13 #[.string t] w fun e w' => e = .returned (.tuple #[.string ⟨#[]⟩, .string ⟨#[]⟩, .int .i64 20]) ∧ Below w.heap.size w w' := by
  have hl : s.data.toList.length ≤ 1048576 := by simpa using hs
  have hn := nextL_part hl hk
  have hle := frameL_le hl
  have hts := congrArg List.length ht
  rw [List.length_take] at hts
  simp only [Array.length_toList] at hts hle
  have e1 : t.data.size = t.size := rfl
  have e2 : s.data.size = s.size := rfl
  refine (next_any t (by omega) w).mono ?_
  rintro e w1 ⟨he, hb⟩
  refine ⟨?_, hb⟩
  rw [← ht] at hn
  rcases he with ⟨a, r, h, rfl⟩ | ⟨k, hk, h, rfl⟩
  · have h2 := h.symm.trans hn
    simp at h2
  · have h2 := h.symm.trans hn
    simp only [Prod.mk.injEq, and_true] at h2
    rw [h2]; rfl

set_option maxHeartbeats 400000 in
set_option maxRecDepth 100000 in
theorem shorts_walk (s : ByteArray) (hs : s.size ≤ 140737488351232) (c : Int) (hc : (Lit.int .i64 c).wf = true) (w : World) :
    Calls Try.prog 7 #[.string s, .int .i64 c] w fun e w' => e = .returned (.bool true) ∧ Below w.heap.size w w' := by
  have hcb := bounds_i64 hc
  clear hc
  by_cases hl : s.size ≤ 1048576
  · have hle := frameL_le (l := s.data.toList) (by simpa using hl)
    have hpart := Lib.hid (next_part s hl)
    simp only [Array.length_toList] at hle
    have e2 : s.data.size = s.size := rfl
    generalize hF : frameL s.data.toList = F at *
    go_enter Try.func7, Try.ntmps7
    go_wp2_with fail
    refine (awake_any _).mono ?_
    rintro e w1 ⟨rfl, hb1⟩
    go_wp2_with fail
    refine (wrap_any _ hl _).mono ?_
    rintro e w2 ⟨rfl, hb2⟩
    have hb3 := below_next hb1 (Nat.le_refl _) hb2
    rw [hF]
    clear hF hb1 hb2
    by_cases h0 : c < 0
    · go_wp2
      go_ret
      exact ⟨rfl, hb3⟩
    · obtain ⟨k, rfl⟩ := Int.eq_ofNat_of_zero_le (show 0 ≤ c by omega)
      by_cases hk : k < F.length
      · go_wp2_with fail
        refine (hpart.out k hk _ (extract_take _ _) _).mono ?_
        rintro e w3 ⟨rfl, hb4⟩
        go_wp2
        go_ret
        exact ⟨rfl, below_next hb3 (Nat.le_refl _) hb4⟩
      · go_wp2
        go_ret
        exact ⟨rfl, hb3⟩
  · go_enter Try.func7, Try.ntmps7
    go_wp2_with fail
    refine (awake_any _).mono ?_
    rintro e w1 ⟨rfl, hb1⟩
    go_wp2_with fail
    refine (wrap_long _ hl _).mono ?_
    rintro e w2 ⟨rfl, rfl⟩
    go_wp2
    go_ret
    exact ⟨rfl, hb1⟩
end Go.Proofs.Ytflljnhkjkmcgaa
