/- Layer 2: the contract of Next. -/
import Derived.Test.YtlgpkbcefaldoaaDoorW02b
namespace Go.Proofs.YtlgpkbcefaldoaaDoor
open Go.RowKit
set_option linter.unusedVariables false

/-- How Next ends. -/
def NextEnd (s : ByteArray) (e : Ending) : Prop :=
  (∃ a r : ByteArray, nextL s.data.toList = (0, a.data.toList, r.data.toList) ∧ e = .returned (.tuple #[.string a, .string r, .int .i64 0])) ∨
  (∃ k : Nat, (k = 20 ∨ k = 21) ∧ nextL s.data.toList = (k, [], []) ∧ e = .returned (.tuple #[.string ⟨#[]⟩, .string ⟨#[]⟩, .int .i64 (k : Int)]))

theorem next_bad {s : ByteArray} {k : Nat} (hk : k = 20 ∨ k = 21) (h : nextL s.data.toList = (k, [], [])) : NextEnd s (.returned (.tuple #[.string ⟨#[]⟩, .string ⟨#[]⟩, .int .i64 (k : Int)])) := .inr ⟨k, hk, h, rfl⟩

theorem ext_data (t : ByteArray) (i j : Nat) : (t.extract i j).data.toList = (t.data.toList.take j).drop i := by
  rw [Lib.extract_data, List.drop_take]

set_option maxHeartbeats 1000000 in
set_option maxRecDepth 100000 in
theorem next_any (s : ByteArray) (hs : s.size ≤ 140737488355328) (w : World) :
    Calls Tryd.prog 44 #[.string s] w fun e w' => NextEnd s e ∧ Below w.heap.size w w' := by
  by_cases hc : isCut s.data.toList = true
  · have H := next_bad (.inl rfl) (nextL_cut hc)
    go_enter Tryd.func44, Tryd.ntmps44
    go_wp2_with fail
    refine (cut_any _ (by unfold maxLen; omega) _).mono ?_
    rintro e w' ⟨rfl, rfl⟩
    go_wp2
    go_ret3
    exact ⟨H, Below.refl _ _⟩
  · have hc : isCut s.data.toList = false := by simpa using hc
    have HC := Lib.hid hc
    go_enter Tryd.func44, Tryd.ntmps44
    go_wp2_with fail
    refine (cut_any _ (by unfold maxLen; omega) _).mono ?_
    rintro e w' ⟨rfl, rfl⟩
    go_wp2_with fail
    refine (get_any _ (by unfold maxLen; omega) _).mono ?_
    rintro e w1 ⟨he, nq, rfl⟩
    have hb1 : Below w.heap.size w (w.drewN nq) := below_drewN (Below.refl _ w) nq
    rcases he with ⟨n, k, t, hg, ht, rfl⟩ | ⟨hg, rfl⟩
    · have hts := congrArg List.length ht
      have hk := getL_pos hg
      rw [List.length_drop] at hts
      simp only [Array.length_toList] at hts hk
      by_cases hn : 1048576 < n
      · have H := next_bad (.inr rfl) (nextL_great hc hg hn)
        clear hc hg ht hts hk
        have hd : decide ((1048576 : Int) < (n : Int)) = true := by simp; omega
        go_wp2
        go_ret3
        exact ⟨H, hb1⟩
      · have hd : decide ((1048576 : Int) < (n : Int)) = false := by simp; omega
        have hw : IntKind.i64.wrap (n : Int) = (n : Int) := IntWalk.i64_in _ ⟨by omega, by omega⟩
        have e1 : s.data.size = s.size := rfl
        have e2 : t.data.size = t.size := rfl
        by_cases hl : t.size < 4 + n
        · have H := next_bad (.inl rfl) (nextL_short hc hg hn (by rw [Array.length_toList]; omega))
          clear hc hg ht hts hk
          go_wp2
          go_ret3
          exact ⟨H, hb1⟩
        · have hct : (t.extract 4 (4 + n)).data.toList = ((s.data.toList.drop k).take (4 + n)).drop 4 := by rw [ext_data, ht]
          have hcs : (t.extract 4 (4 + n)).size ≤ 140737488355328 := by
            have := congrArg List.length hct
            simp only [Array.length_toList, List.length_drop, List.length_take] at this
            show (t.extract 4 (4 + n)).data.size ≤ _
            omega
          have h4 : (t.extract 0 4).data.toList = (s.data.toList.drop k).take 4 := by rw [ext_data, ht]; simp
          have hnl : ¬ s.data.toList.length - k < 4 + n := by rw [Array.length_toList]; omega
          have q1 : ((4 : Int) + (n : Int)).toNat = 4 + n := by omega
          have q2 : (0 : Int) ≤ 4 + (n : Int) := by omega
          have q3 : (4 : Int) + (n : Int) ≤ (t.size : Int) := by omega
          have q4 : 4 + n ≤ t.size := by omega
          have q5 : (4 : Int) ≤ 4 + (n : Int) := by omega
          have q6 : 4 ≤ 4 + n := by omega
          have q7 : 4 ≤ t.size := by omega
          have q8 : (4 : Int) ≤ (t.size : Int) := by omega
          have hsp : sumL (List.take n (List.drop 4 t.data.toList)) = sumL (((s.data.toList.drop k).take (4 + n)).drop 4) := by
            rw [ht, List.drop_take]; congr 2; omega
          by_cases hsum : (s.data.toList.drop k).take 4 = sumL (((s.data.toList.drop k).take (4 + n)).drop 4)
          · have HN : NextEnd s (.returned (.tuple #[.string (t.extract 4 (4 + n)), .string (t.extract (4 + n) t.size), .int .i64 0])) := by
              refine .inl ⟨_, _, ?_, rfl⟩
              rw [nextL_ok hc hg hn hnl hsum, hct, extract_drop, ht]
            have hcmp : ((t.extract 0 4).toList == sumL (List.take n (List.drop 4 t.data.toList))) = true := by
              rw [Lib.toList_data, h4, hsp, hsum]; exact beq_self_eq_true _
            clear hc hg ht hts hk hsum h4 hct hnl hsp
            go_wp2_with fail
            go_region_with (go_at_call 37; refine (sumText_any _ (by unfold maxLen; omega) _).mono ?_; rintro e w2 ⟨rfl, hb2⟩)
            all_goals go_wp2
            all_goals go_quiet (fail)
            all_goals go_wp2
            all_goals go_ret3
            all_goals exact ⟨HN, below_drewN ((below_drewN (Below.refl _ w) _).trans hb2) _⟩
          · have HN := next_bad (.inr rfl) (nextL_wrong hc hg hn hnl hsum)
            have hcmp : ((t.extract 0 4).toList == sumL (List.take n (List.drop 4 t.data.toList))) = false := by
              rw [Lib.toList_data, h4, hsp]; simpa using hsum
            clear hc hg ht hts hk hsum h4 hct hnl hsp
            go_wp2_with fail
            go_region_with (go_at_call 37; refine (sumText_any _ (by unfold maxLen; omega) _).mono ?_; rintro e w2 ⟨rfl, hb2⟩)
            all_goals go_wp2
            all_goals go_ret3
            all_goals exact ⟨HN, (below_drewN (Below.refl _ w) _).trans hb2⟩
    · have H := next_bad (.inr rfl) (nextL_none hc hg)
      clear hc hg
      go_wp2
      go_ret3
      exact ⟨H, hb1⟩
end Go.Proofs.YtlgpkbcefaldoaaDoor
