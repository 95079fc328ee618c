/- Layer 2: the contract of the reference's Next. -/
import Derived.Test.YtflljnhkjkmcgaaW02c
import Derived.Deep.CutBlock
import Derived.Deep.DeepCutAuto
namespace Go.Proofs.Ytflljnhkjkmcgaa
open Go.RowKit
set_option linter.unusedVariables false

/-- What the reference's test has come to behind k bytes. -/
def cutTo (s : ByteArray) (k : Nat) : Bool := decide (s.size < 10) && highTo s.data.toList k
theorem cutTo_zero (s : ByteArray) : cutTo s 0 = decide (s.size < 10) := by simp [cutTo, highTo_zero]
theorem cutTo_next {s : ByteArray} {k : Nat} (h : k < s.size) : cutTo s (k + 1) = (cutTo s k && decide (128 ≤ (s[k].toNat : Int))) := by
  unfold cutTo
  rw [highTo_next (by simpa using h), Bool.and_assoc]
  congr 2
  rw [decide_eq_decide]
  show 128 ≤ s[k].toNat ↔ _
  omega
theorem cutTo_end {s : ByteArray} {k : Nat} (h : k ≤ s.size) (h2 : ¬ k < s.size ∨ ¬ k < 10) : cutTo s k = isCut s.data.toList := by
  by_cases h10 : s.size < 10
  · obtain rfl : k = s.size := by omega
    rw [cutTo, decide_eq_true h10, Bool.true_and, isCut_high (by simpa using h10)]
    simp
  · rw [cutTo, decide_eq_false h10, Bool.false_and, isCut_long (by simpa using h10)]

set_option maxHeartbeats 1000000 in
set_option maxRecDepth 100000 in
theorem rnext_any (s : ByteArray) (hs : s.size ≤ 140737488355328) (w : World) :
    Calls Try.prog 14 #[.string s] w fun e w' => NextEnd s e ∧ Below w.heap.size w w' := by
  go_enter Try.func14, Try.ntmps14
  have hz : Hid (decide (s.size < 10) = cutTo s 0) := (cutTo_zero s).symm
  go_upto_block 0 with (fail)
  go_cut [5] (fun b wx => b = .bool (isCut s.data.toList) ∧ wx = w)
  case first =>
    go_wp2_with fail
    go_loop [5, 6] (fun b i => ∃ (k : Nat), k ≤ s.size ∧ k ≤ 10 ∧ i = .int .i64 (k : Int) ∧ b = .bool (cutTo s k)) (fun _ i => 10 - (intOf i).toNat)
    case atStart =>
      refine ⟨0, by omega, by omega, rfl, ?_⟩
      rw [← hz.out]
      congr 1
      simp; omega
    case round =>
      obtain ⟨k, hk, hk10, rfl, rfl⟩ := hrel
      by_cases hlt : k < s.size
      · by_cases h10 : k < 10
        · have hn := cutTo_next hlt
          by_cases hc : cutTo s k = true
          · rw [hc, Bool.true_and] at hn
            have HN := Lib.hid hn
            clear hn
            go_wp2
            go_round
            case rel => exact ⟨k + 1, by omega, by omega, by go_num, by rw [HN.out]⟩
            case measure => simp [intOf]; omega
          · have hc : cutTo s k = false := by simpa using hc
            rw [hc, Bool.false_and] at hn
            have HN := Lib.hid hn
            clear hn
            go_wp2
            go_round
            case rel => exact ⟨k + 1, by omega, by omega, by go_num, by rw [HN.out]⟩
            case measure => simp [intOf]; omega
        · have he := Lib.hid (cutTo_end hk (.inr h10))
          go_wp2_with fail
          go_meet
          exact ⟨by rw [he.out], rfl⟩
      · have he := Lib.hid (cutTo_end hk (.inl hlt))
        go_wp2_with fail
        go_meet
        exact ⟨by rw [he.out], rfl⟩
  case rest =>
    obtain ⟨hcut, rfl⟩ := hcut
    by_cases hc : isCut s.data.toList = true
    · have H := next_bad (.inl rfl) (nextL_cut hc)
      rw [hc] at hcut
      subst hcut
      clear hz
      go_wp2
      go_ret3
      exact ⟨H, Below.refl _ _⟩
    · have hc : isCut s.data.toList = false := by simpa using hc
      rw [hc] at hcut
      subst hcut
      clear hz
      go_wp2_with fail
      refine (rget_any _ (by unfold maxLen; omega) _).mono ?_
      rintro e w1 ⟨he, hb1⟩
      rcases he with ⟨n, k, hg, rfl⟩ | ⟨hg, rfl⟩
      · have hk := getL_pos hg
        simp only [Array.length_toList] at hk
        have e1 : s.data.size = s.size := rfl
        have hk0 : ((k : Int) == 0) = false := by simp; omega
        by_cases hn : 1048576 < n
        · have H := next_bad (.inr rfl) (nextL_great hc hg hn)
          clear hc hg hk
          have hd : decide ((1048576 : Int) < (n : Int)) = true := by simp; omega
          go_wp2
          go_ret3
          exact ⟨H, hb1⟩
        · have hd : decide ((1048576 : Int) < (n : Int)) = false := by simp; omega
          have hw : IntKind.i64.wrap (n : Int) = (n : Int) := IntWalk.i64_in _ ⟨by omega, by omega⟩
          have ht : (s.extract k s.size).data.toList = s.data.toList.drop k := extract_drop s k
          have htz : (s.extract k s.size).size = s.size - k := by
            have := congrArg List.length ht
            simp only [Array.length_toList, List.length_drop] at this
            exact this
          have hks : k ≤ s.size := by omega
          by_cases hl : s.size - k < 4 + n
          · have H := next_bad (.inl rfl) (nextL_short hc hg hn (by rw [Array.length_toList]; exact hl))
            clear hc hg ht htz
            by_cases hl4 : s.size - k < 4
            · go_wp2
              go_ret3
              exact ⟨H, hb1⟩
            · have hd4 : decide (((s.size - k : Nat) : Int) < 4) = false := by simp; omega
              have hd5 : decide (((s.size - k : Nat) : Int) - 4 < (n : Int)) = true := by simp; omega
              go_wp2
              go_ret3
              exact ⟨H, hb1⟩
          · have hct : ((s.extract k s.size).extract 4 (4 + n)).data.toList = ((s.data.toList.drop k).take (4 + n)).drop 4 := by rw [ext_data, ht]
            have hcs : ((s.extract k s.size).extract 4 (4 + n)).size ≤ 140737488355328 := by
              have := congrArg List.length hct
              simp only [Array.length_toList, List.length_drop, List.length_take] at this
              show ((s.extract k s.size).extract 4 (4 + n)).data.size ≤ _
              omega
            have h4 : ((s.extract k s.size).extract 0 4).data.toList = (s.data.toList.drop k).take 4 := by rw [ext_data, ht]; simp
            have hnl : ¬ s.data.toList.length - k < 4 + n := by rw [Array.length_toList]; exact hl
            have hrd : ((s.extract k s.size).extract (4 + n) (s.extract k s.size).size).data.toList = (s.data.toList.drop k).drop (4 + n) := by rw [extract_drop, ht]
            have q1 : ((4 : Int) + (n : Int)).toNat = 4 + n := by omega
            have q2 : (0 : Int) ≤ 4 + (n : Int) := by omega
            have q3 : (4 : Int) + (n : Int) ≤ ((s.size - k : Nat) : Int) := by omega
            have q4 : 4 + n ≤ s.size - k := by omega
            have q5 : (4 : Int) ≤ 4 + (n : Int) := by omega
            have q6 : 4 ≤ 4 + n := by omega
            have q7 : 4 ≤ s.size - k := by omega
            have q8 : (4 : Int) ≤ ((s.size - k : Nat) : Int) := by omega
            have hd4 : decide (((s.size - k : Nat) : Int) < 4) = false := by simp; omega
            have hd5 : decide (((s.size - k : Nat) : Int) - 4 < (n : Int)) = false := by simp; omega
            have hsp : sumL (List.take n (List.drop 4 (s.extract k s.size).data.toList)) = sumL (((s.data.toList.drop k).take (4 + n)).drop 4) := by
              rw [ht, List.drop_take]; congr 2; omega
            by_cases hsum : (s.data.toList.drop k).take 4 = sumL (((s.data.toList.drop k).take (4 + n)).drop 4)
            · have HN : NextEnd s (.returned (.tuple #[.string ((s.extract k s.size).extract 4 (4 + n)), .string ((s.extract k s.size).extract (4 + n) (s.extract k s.size).size), .int .i64 0])) := by
                refine .inl ⟨_, _, ?_, rfl⟩
                rw [nextL_ok hc hg hn hnl hsum, hct, hrd]
              have hcmp : (sumL (List.take n (List.drop 4 (s.extract k s.size).data.toList)) == ((s.extract k s.size).extract 0 4).toList) = true := by
                rw [Lib.toList_data, h4, hsp, hsum]; exact beq_self_eq_true _
              clear hc hg hsum h4 hct hnl hrd hsp
              go_upto_region 15 with (fail)
              generalize s.extract k s.size = t at *
              have p1 : 4 + n ≤ t.size := by omega
              have p2 : (4 : Int) + (n : Int) ≤ (t.size : Int) := by omega
              have p3 : 4 ≤ t.size := by omega
              have p4 : (4 : Int) ≤ (t.size : Int) := by omega
              clear ht htz
              go_region_with (go_at_call 21; refine (four_any _ (by unfold maxLen; omega) _).mono ?_; rintro e w2 ⟨rfl, hb2⟩)
              all_goals go_wp2
              all_goals have p5 : IntKind.i64.wrap (4 + (n : Int)) = 4 + (n : Int) := IntWalk.i64_in _ ⟨by omega, by omega⟩
              all_goals go_quiet (fail)
              all_goals go_wp2
              all_goals go_ret3
              all_goals exact ⟨HN, below_drewN (below_next (below_drewN hb1 1) (Nat.le_refl _) hb2) _⟩
            · have HN := next_bad (.inr rfl) (nextL_wrong hc hg hn hnl hsum)
              have hcmp : (sumL (List.take n (List.drop 4 (s.extract k s.size).data.toList)) == ((s.extract k s.size).extract 0 4).toList) = false := by
                rw [Lib.toList_data, h4, hsp]
                simpa using fun e => hsum e.symm
              clear hc hg hsum h4 hct hnl hrd hsp
              go_upto_region 15 with (fail)
              generalize s.extract k s.size = t at *
              have p1 : 4 + n ≤ t.size := by omega
              have p2 : (4 : Int) + (n : Int) ≤ (t.size : Int) := by omega
              have p3 : 4 ≤ t.size := by omega
              have p4 : (4 : Int) ≤ (t.size : Int) := by omega
              clear ht htz
              go_region_with (go_at_call 21; refine (four_any _ (by unfold maxLen; omega) _).mono ?_; rintro e w2 ⟨rfl, hb2⟩)
              all_goals go_wp2
              all_goals go_ret3
              all_goals exact ⟨HN, below_next (below_drewN hb1 1) (Nat.le_refl _) hb2⟩
      · have H := next_bad (.inr rfl) (nextL_none hc hg)
        clear hc hg
        go_wp2
        go_ret3
        exact ⟨H, hb1⟩
end Go.Proofs.Ytflljnhkjkmcgaa
