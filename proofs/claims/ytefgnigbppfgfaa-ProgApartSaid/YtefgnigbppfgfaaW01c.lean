/- Layer 1: contracts of mayBeLast and Get. -/
import Derived.Test.YtefgnigbppfgfaaW01b
import Derived.Deep.QuietTactic
import Derived.BigQuiet
import Derived.Deep.RegionWith
namespace Go.Proofs.Ytefgnigbppfgfaa
open Go.RowKit
set_option linter.unusedVariables false

set_option maxHeartbeats 400000 in
set_option maxRecDepth 100000 in
theorem last_any (i : Nat) (c : UInt8) (w : World) :
    Calls Try.prog 48 #[.int .i64 (i : Int), .int .u8 (c.toNat : Int)] w fun e w' => e = .returned (.bool (mayLast i c)) ∧ w = w' := by
  by_cases h9 : i = 9
  · subst h9
    go_enter Try.func48, Try.ntmps48
    go_wp2
    go_ret
    exact ⟨by rw [mayLast_9]; rfl, rfl⟩
  · have h9' : ((i : Int) == 9) = false := by simp; omega
    by_cases h0 : i = 0
    · subst h0
      go_enter Try.func48, Try.ntmps48
      go_wp2
      go_ret
      exact ⟨by simp [mayLast], rfl⟩
    · have h0' : ((i : Int) == 0) = false := by simp; omega
      go_enter Try.func48, Try.ntmps48
      go_wp2
      go_ret
      exact ⟨by rw [mayLast_m h0 h9]; rfl, rfl⟩

set_option maxHeartbeats 400000 in
set_option maxRecDepth 100000 in
theorem get_any (s : ByteArray) (hs : s.size ≤ maxLen) (w : World) :
    Calls Try.prog 45 #[.string s] w fun e w' => GetEnd s e ∧ ∃ n, w' = w.drewN n := by
  unfold maxLen at hs
  go_enter Try.func45, Try.ntmps45
  go_wp2
  go_loop [5, 6] (fun n i => ∃ (k : Nat) (A : Int), k ≤ 10 ∧ k ≤ s.size ∧ i = .int .i64 (k : Int) ∧ n = .int .u64 A ∧ GetRel s k A) (fun _ i => 10 - (intOf i).toNat)
  case atStart => exact ⟨0, 0, by omega, by omega, rfl, rfl, getRel_zero s⟩
  case round =>
    obtain ⟨k, A, hk, hks, rfl, rfl, hr⟩ := hrel
    by_cases hlt : k < s.size
    · by_cases h10 : k < 10
      · obtain ⟨acc, rfl, hacc⟩ := hr.yes h10
        by_cases h128 : s[k].toNat < 128
        · by_cases hm : mayLast k s[k] = true
          · have hor := get_or (mayLast_small hm h10) hacc.1
            have hg := get_hit hlt h10 h128 hm hacc.2
            have HO := Lib.hid hor
            have HG := Lib.hid hg
            clear hor hg hacc hr
            go_wp2_with (go_at_call 48; refine (last_any _ _ _).mono ?_; rintro e w' ⟨rfl, rfl⟩)
            go_quiet (fail)
            go_wp2
            go_ret3
            exact ⟨.inl ⟨_, _, _, HG.out, extract_drop _ _, by rw [HO.out]; rfl⟩, _, rfl⟩
          · have hm' : mayLast k s[k] = false := by simpa using hm
            have hg := get_not hlt h10 h128 hm' hacc.2
            have HG := Lib.hid hg
            clear hm hg hacc hr
            go_wp2_with (go_at_call 48; refine (last_any _ _ _).mono ?_; rintro e w' ⟨rfl, rfl⟩)
            go_ret3
            exact ⟨.inr ⟨HG.out, rfl⟩, 0, rfl⟩
        · have hn := get_next hlt h10 h128 hacc.1 hacc.2
          clear hacc hr
          go_wp2
          go_round
          case rel => exact ⟨k + 1, _, by omega, by omega, by go_num, rfl, hn⟩
          case measure => simp [intOf]; omega
      · have HG := Lib.hid (hr.no h10)
        clear hr
        go_wp2
        go_ret3
        exact ⟨.inr ⟨HG.out, rfl⟩, 0, rfl⟩
    · by_cases h10 : k < 10
      · obtain ⟨acc, rfl, hacc⟩ := hr.yes h10
        have HG := Lib.hid (get_end hlt h10 hacc.2)
        clear hr hacc
        go_wp2
        go_ret3
        exact ⟨.inr ⟨HG.out, rfl⟩, 0, rfl⟩
      · have HG := Lib.hid (hr.no h10)
        clear hr
        go_wp2
        go_ret3
        exact ⟨.inr ⟨HG.out, rfl⟩, 0, rfl⟩
end Go.Proofs.Ytefgnigbppfgfaa
