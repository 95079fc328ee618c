/- Joined: R01 R01i W01b W01c R01c W01e. -/
import Derived.Test.YtlkfpeefjpmmfaaJ07
import Derived.Deep.QuietTactic
import Derived.BigQuiet
import Derived.Deep.RegionWith

namespace Go.Proofs.Ytlkfpeefjpmmfaa
open Go.RowKit
set_option linter.unusedVariables false

set_option maxHeartbeats 400000 in
set_option maxRecDepth 100000 in
theorem rput_any (a : Nat) (h1 : U64 a) (w : World) :
    Calls Try.prog 98 #[.int .u64 (a : Int)] w fun e w' => e = .returned (.string ⟨(putL a).toArray⟩) ∧ Below w.heap.size w w' := by
  obtain ⟨i0, hi, hz0, hz1, hz2⟩ := info_parts infoU8
  go_enter Try.func98, Try.ntmps98
  go_wp2
  go_loopw [0, 3] (fun n v wr => ∃ (m : Nat) (l : List UInt8), U64 m ∧ n = .int .u64 m ∧ wr.ownsRow w.heap.size 5 1 v l.length (l.map bv) ∧ Hid (l ++ putL m = putL a) ∧ Below w.heap.size w wr)
    (fun n _ _ => (intOf n).toNat)
  case atStart => exact ⟨a, [], h1, rfl, World.ownsRow_nil _ _ _ _, rfl, Below.refl _ _⟩
  case round =>
    obtain ⟨m, l, hm, rfl, hown, hl, hb⟩ := hrel
    have hlen : l.length ≤ 9 := by
      have h2 := putL_len10 h1
      have h3 := congrArg List.length hl.out
      have h4 := putL_pos m
      rw [List.length_append] at h3
      omega
    have hsz := hb.size
    by_cases h128 : m < 128
    · go_wp2_with (first
        | (at_builtin; refine wpList_append_own _ rfl (.tmp 6) (.tmp 9) 134 rfl w.heap.size 5 i0 (.int .u8 0) 1 1 Try.underlying134 hi hz0 hz1 hz2 rfl (by decide) _ _ _ rfl (hown.alloc _) ⟨wr.heap.size, 0, none⟩ 1 1 [.int .u8 m] rfl rfl ?c1 ?c2 ?c3 ?c4 ?c5 ?_))
      case c1 => exact new_one _ _ _
      case c2 => exact one_new
      case c3 => unfold maxLen; omega
      case c4 => omega
      case c5 => simp; omega
      intro v' w1 hown' hgrow _
      have hown2 : w1.ownsRow w.heap.size 5 1 v' (l ++ putL m).length ((l ++ putL m).map bv) := by
        rw [putL_lt h128]
        simpa [bv, Nat.mod_eq_of_lt (show m < 256 by omega)] using hown'
      rw [hl.out] at hown2
      have hcv := conv_own hown2
      have hb1 := (hb.alloc hsz _).grown hgrow (by simp; omega) (fun k hk => (hown.lt k hk).1)
      clear hown hown' hown2 hgrow hb hi
      go_wp2
      go_ret
      exact ⟨rfl, hb1⟩
    · have hw := div_wrap hm
      go_wp2_with (first
        | (at_builtin; refine wpList_append_own _ rfl (.tmp 12) (.tmp 17) 134 rfl w.heap.size 5 i0 (.int .u8 0) 1 1 Try.underlying134 hi hz0 hz1 hz2 rfl (by decide) _ _ _ rfl (hown.alloc _) ⟨wr.heap.size, 0, none⟩ 1 1 [.int .u8 (↑m % 128 + 128)] rfl rfl ?d1 ?d2 ?d3 ?d4 ?d5 ?_))
      case d1 => exact new_one _ _ _
      case d2 => exact one_new
      case d3 => unfold maxLen; omega
      case d4 => omega
      case d5 => simp; omega
      intro v' w1 hown' hgrow _
      have hown2 : w1.ownsRow w.heap.size 5 1 v' (l ++ [UInt8.ofNat (m % 128 + 128)]).length ((l ++ [UInt8.ofNat (m % 128 + 128)]).map bv) := by
        have e : ((m : Int) % 128 + 128) = ((UInt8.ofNat (m % 128 + 128)).toNat : Int) := by rw [u8_toNat (by omega)]; omega
        rw [e] at hown'
        simpa [bv] using hown'
      have hl2 : Hid ((l ++ [UInt8.ofNat (m % 128 + 128)]) ++ putL (m / 128) = putL a) := by
        have := hl.out
        rw [putL_ge (by omega)] at this
        show _ = _
        rw [← this]; simp
      have hb1 := (hb.alloc hsz _).grown hgrow (by simp; omega) (fun k hk => (hown.lt k hk).1)
      clear hown hown' hgrow hb hi hl
      go_wp2
      go_roundw
      case rel => exact ⟨m / 128, _, hm.le (by omega), by simp, hown2, hl2, hb1⟩
      case measure => simp [intOf]; omega

end Go.Proofs.Ytlkfpeefjpmmfaa

namespace Go.Proofs.Ytlkfpeefjpmmfaa
open Go.RowKit
set_option linter.unusedVariables false

set_option maxHeartbeats 400000 in
set_option maxRecDepth 100000 in
theorem rint_any (a : Nat) (ha : a ≤ 9223372036854775807) (w : World) :
    Calls Try.prog 87 #[.int .i64 (a : Int)] w fun e w' => e = .returned (.string ⟨(putL a).toArray⟩) ∧ Below w.heap.size w w' := by
  have h1 : U64 a := by unfold U64; omega
  go_enter Try.func87, Try.ntmps87
  go_wp2_with (go_at_call 98; refine (rput_any _ h1 _).mono ?_; rintro e w' ⟨rfl, hb⟩)
  go_ret
  exact ⟨rfl, hb⟩
end Go.Proofs.Ytlkfpeefjpmmfaa

namespace Go.Proofs.Ytlkfpeefjpmmfaa
open Go.RowKit
set_option linter.unusedVariables false

end Go.Proofs.Ytlkfpeefjpmmfaa

namespace Go.Proofs.Ytlkfpeefjpmmfaa
open Go.RowKit
set_option linter.unusedVariables false

set_option maxHeartbeats 400000 in
set_option maxRecDepth 100000 in
theorem last_any (i : Nat) (c : UInt8) (w : World) :
    Calls Try.prog 99 #[.int .i64 (i : Int), .int .u8 (c.toNat : Int)] w fun e w' => e = .returned (.bool (mayLast i c)) ∧ w = w' := by
  by_cases h9 : i = 9
  · subst h9
    go_enter Try.func99, Try.ntmps99
    go_wp2
    go_ret
    exact ⟨by rw [mayLast_9]; rfl, rfl⟩
  · have h9' : ((i : Int) == 9) = false := by simp; omega
    by_cases h0 : i = 0
    · subst h0
      go_enter Try.func99, Try.ntmps99
      go_wp2
      go_ret
      exact ⟨by simp [mayLast], rfl⟩
    · have h0' : ((i : Int) == 0) = false := by simp; omega
      go_enter Try.func99, Try.ntmps99
      go_wp2
      go_ret
      exact ⟨by rw [mayLast_m h0 h9]; rfl, rfl⟩

set_option maxHeartbeats 400000 in
set_option maxRecDepth 100000 in
theorem get_any (s : ByteArray) (hs : s.size ≤ maxLen) (w : World) :
    Calls Try.prog 89 #[.string s] w fun e w' => GetEnd s e ∧ ∃ n, w' = w.drewN n := by
  unfold maxLen at hs
  go_enter Try.func89, Try.ntmps89
  go_wp2
  go_loop [5, 6] (fun n i => ∃ (k : Nat) (A : Int), k ≤ 10 ∧ k ≤ s.size ∧ i = .int .i64 (k : Int) ∧ n = .int .u64 A ∧ GetRel s k A) (fun _ i => 10 - (intOf i).toNat)
  case atStart => exact ⟨0, 0, by omega, by omega, rfl, rfl, getRel_zero s⟩
  case round =>
    obtain ⟨k, A, hk, hks, rfl, rfl, hr⟩ := hrel
    by_cases hlt : k < s.size
    · by_cases h10 : k < 10
      · obtain ⟨acc, rfl, hacc⟩ := hr.yes h10
        by_cases h128 : s[k].toNat < 128
        · by_cases hm : mayLast k s[k] = true
          · have hor := get_or (mayLast_small hm h10) hacc.1
            have hg := get_hit hlt h10 h128 hm hacc.2
            have HO := Lib.hid hor
            have HG := Lib.hid hg
            clear hor hg hacc hr
            go_wp2_with (go_at_call 99; refine (last_any _ _ _).mono ?_; rintro e w' ⟨rfl, rfl⟩)
            go_quiet (fail)
            go_wp2
            go_ret3
            exact ⟨.inl ⟨_, _, _, HG.out, extract_drop _ _, by rw [HO.out]; rfl⟩, _, rfl⟩
          · have hm' : mayLast k s[k] = false := by simpa using hm
            have hg := get_not hlt h10 h128 hm' hacc.2
            have HG := Lib.hid hg
            clear hm hg hacc hr
            go_wp2_with (go_at_call 99; refine (last_any _ _ _).mono ?_; rintro e w' ⟨rfl, rfl⟩)
            go_ret3
            exact ⟨.inr ⟨HG.out, rfl⟩, 0, rfl⟩
        · have hn := get_next hlt h10 h128 hacc.1 hacc.2
          clear hacc hr
          go_wp2
          go_round
          case rel => exact ⟨k + 1, _, by omega, by omega, by go_num, rfl, hn⟩
          case measure => simp [intOf]; omega
      · have HG := Lib.hid (hr.no h10)
        clear hr
        go_wp2
        go_ret3
        exact ⟨.inr ⟨HG.out, rfl⟩, 0, rfl⟩
    · by_cases h10 : k < 10
      · obtain ⟨acc, rfl, hacc⟩ := hr.yes h10
        have HG := Lib.hid (get_end hlt h10 hacc.2)
        clear hr hacc
        go_wp2
        go_ret3
        exact ⟨.inr ⟨HG.out, rfl⟩, 0, rfl⟩
      · have HG := Lib.hid (hr.no h10)
        clear hr
        go_wp2
        go_ret3
        exact ⟨.inr ⟨HG.out, rfl⟩, 0, rfl⟩
end Go.Proofs.Ytlkfpeefjpmmfaa

namespace Go.Proofs.Ytlkfpeefjpmmfaa
open Go.RowKit
set_option linter.unusedVariables false

set_option maxHeartbeats 400000 in
set_option maxRecDepth 100000 in
theorem rget_any (s : ByteArray) (hs : s.size ≤ maxLen) (w : World) :
    Calls Try.prog 95 #[.string s] w fun e w' => RGetEnd s e ∧ Below w.heap.size w w' := by
  unfold maxLen at hs
  go_enter Try.func95, Try.ntmps95
  go_wp2
  go_loopw [4, 5] (fun n i wr => ∃ (k : Nat) (A : Int), k ≤ 10 ∧ k ≤ s.size ∧ i = .int .i64 (k : Int) ∧ n = .int .u64 A ∧ RGetRel s k A ∧ Below w.heap.size w wr) (fun _ i _ => 10 - (intOf i).toNat)
  case atStart => exact ⟨0, 0, by omega, by omega, rfl, rfl, rgetRel_zero s, Below.refl _ _⟩
  case round =>
    obtain ⟨k, A, hk, hks, rfl, rfl, hr, hb⟩ := hrel
    by_cases hlt : k < s.size
    · by_cases h10 : k < 10
      · obtain ⟨acc, rfl, hacc, hget, hinv⟩ := hr.yes h10
        by_cases h128 : s[k].toNat < 128
        · obtain ⟨x, hx, hx64, hyes, hno⟩ := rget_or (l := s.data.toList) (by simpa using hlt) h10 h128 hacc hinv
          simp only [show s.data.toList[k] = s[k] from rfl] at hx hyes hno
          by_cases hm : mayLast k s[k] = true
          · have HG := Lib.hid (get_hit hlt h10 h128 hm hget)
            have hcmp : (putL x == (s.extract 0 (k + 1)).toList) = true := by
              rw [Lib.toList_data, extract_take, (hyes hm).2]; simp
            have hxe := (hyes hm).1
            have hval : Hid ((x : Int) = ((acc + s[k].toNat % 128 * 128 ^ k : Nat) : Int)) := by show _ = _; rw [hxe]
            clear hyes hno hinv hget hr hacc hm hxe
            have q1 : IntKind.i64.wrap ((k : Int) + 1) = (k : Int) + 1 := IntWalk.i64_in _ ⟨by omega, by omega⟩
            have q2 : (0 : Int) ≤ (k : Int) + 1 := by omega
            have q3 : ((k : Int) + 1).toNat = k + 1 := by omega
            have q4 : (k : Int) + 1 ≤ (s.size : Int) := by omega
            have q5 : k + 1 ≤ s.size := by omega
            go_wp2_with fail
            go_region_with (go_at_call 98; refine (rput_any _ hx64 _).mono ?_; rintro e w1 ⟨rfl, hb1⟩)
            all_goals go_wp2
            all_goals go_ret2
            all_goals refine ⟨.inl ⟨_, _, HG.out, by rw [← hval.out]; rfl⟩, ?_⟩
            all_goals exact hb.drew.trans (hb1.mono hb.size)
          · have hm' : mayLast k s[k] = false := by simpa using hm
            have HG := Lib.hid (get_not hlt h10 h128 hm' hget)
            have hcmp : (putL x == (s.extract 0 (k + 1)).toList) = false := by
              rw [Lib.toList_data, extract_take]; simpa using hno hm'
            clear hyes hno hinv hget hr hacc hm hm'
            have q1 : IntKind.i64.wrap ((k : Int) + 1) = (k : Int) + 1 := IntWalk.i64_in _ ⟨by omega, by omega⟩
            have q2 : (0 : Int) ≤ (k : Int) + 1 := by omega
            have q3 : ((k : Int) + 1).toNat = k + 1 := by omega
            have q4 : (k : Int) + 1 ≤ (s.size : Int) := by omega
            have q5 : k + 1 ≤ s.size := by omega
            go_wp2_with fail
            go_region_with (go_at_call 98; refine (rput_any _ hx64 _).mono ?_; rintro e w1 ⟨rfl, hb1⟩)
            all_goals go_wp2
            all_goals go_ret2
            all_goals refine ⟨.inr ⟨HG.out, rfl⟩, ?_⟩
            all_goals exact hb.drew.trans (hb1.mono hb.size)
        · have hn := rget_next hlt h10 h128 hacc hget hinv
          clear hacc hr hget hinv
          go_wp2
          go_roundw
          case rel => exact ⟨k + 1, _, by omega, by omega, by go_num, rfl, hn, hb⟩
          case measure => simp [intOf]; omega
      · have HG := Lib.hid (hr.no h10)
        clear hr
        go_wp2
        go_ret2
        exact ⟨.inr ⟨HG.out, rfl⟩, hb⟩
    · by_cases h10 : k < 10
      · obtain ⟨acc, rfl, hacc, hget, hinv⟩ := hr.yes h10
        have HG := Lib.hid (get_end hlt h10 hget)
        clear hr hacc hget hinv
        go_wp2
        go_ret2
        exact ⟨.inr ⟨HG.out, rfl⟩, hb⟩
      · have HG := Lib.hid (hr.no h10)
        clear hr
        go_wp2
        go_ret2
        exact ⟨.inr ⟨HG.out, rfl⟩, hb⟩
end Go.Proofs.Ytlkfpeefjpmmfaa

namespace Go.Proofs.Ytlkfpeefjpmmfaa
open Go.RowKit
set_option linter.unusedVariables false

set_option maxHeartbeats 400000 in
set_option maxRecDepth 100000 in
theorem rtext_any (s : ByteArray) (hs : s.size ≤ 140737488355328) (w : World) :
    Calls Try.prog 88 #[.string s] w fun e w' => e = .returned (.string ⟨(putL s.size ++ s.data.toList).toArray⟩) ∧ Below w.heap.size w w' := by
  have hl := putL_len10 (n := s.size) (by unfold U64; omega)
  go_enter Try.func88, Try.ntmps88
  go_wp2_with (go_at_call 87; refine (rint_any _ (by omega) _).mono ?_; rintro e w' ⟨rfl, hb⟩)
  go_ret
  refine ⟨?_, hb⟩
  rw [text_form]
  rfl

end Go.Proofs.Ytlkfpeefjpmmfaa
