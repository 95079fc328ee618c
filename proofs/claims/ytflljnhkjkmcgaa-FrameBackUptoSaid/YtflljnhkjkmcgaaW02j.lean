/- Layer 2: the walk of FrameBack. -/
import Derived.Test.YtflljnhkjkmcgaaW02i
import Derived.Test.YtflljnhkjkmcgaaM02c
namespace Go.Proofs.Ytflljnhkjkmcgaa
open Go.RowKit
set_option linter.unusedVariables false

theorem infoInt : (Try.prog.info? 3).map (fun i => (i.zero, i.size, i.bytes)) = some (some (.int .i64 0), 1, 8) := by kernel_rfl

theorem row1_range {w : World} {base n : Nat} {v : Value} {E : TypeId} {V : Nat → Value} (h : w.ownsRow base E 1 v n ((List.range n).map V)) (hn : n ≤ 9223372036854775807) :
    ∃ a cap, v = .slice a n cap ∧ Row1 w a n V := by
  rcases h.2 with ⟨rfl, h0⟩ | ⟨g, cap, cur, rfl, _, hg, hle, _, hcs, htake⟩
  · subst h0
    exact ⟨none, 0, rfl, by omega, .inl rfl⟩
  · have hc : ∀ i, i < n → w.cell? ⟨g, 0 + i, none⟩ = some (V i) := by
      intro i hi
      rw [cell_of_row w g _ cur _ _ hg]
      have : (cur.toList.take (n * 1))[0 + i]? = ((List.range n).map V)[0 + i]? := by rw [htake]
      rw [List.getElem?_take, if_pos (by omega)] at this
      rw [← Array.getElem?_toList, this]
      simp [hi]
    refine ⟨some ⟨g, 0, none⟩, cap, rfl, hn, ?_⟩
    by_cases h0 : n = 0
    · exact .inl h0
    · exact .inr ⟨g, 0, rfl, World.block_lt_of_cell? w ⟨g, 0 + 0, none⟩ (hc 0 (by omega)), hc⟩

theorem Row1.shorter {w : World} {a : Option Addr} {n k : Nat} {V U : Nat → Value} (h : Row1 w a n V) (hk : k ≤ n) (hV : ∀ i, i < k → U i = V i) : Row1 w a k U := by
  refine ⟨Nat.le_trans hk h.max, ?_⟩
  rcases h.row with h0 | ⟨b, off, ha, hlt, hc⟩
  · exact .inl (by omega)
  · exact .inr ⟨b, off, ha, hlt, fun i hi => by rw [hV i hi]; exact hc i (by omega)⟩

theorem Row1.in1 {W w : World} {a : Option Addr} {len : Nat} {V : Nat → Value} (h : Row1 W a len V) (hw : Below W.heap.size W w) : Row1 w a len V := h.below hw

set_option maxHeartbeats 1000000 in
set_option maxRecDepth 100000 in
theorem back_walk (a0 : Option Addr) (l0 c0 : Nat) (ss : List ByteArray) (c : Int) (hc : (Lit.int .i64 c).wf = true) (w : World)
    (h0 : Row1 w a0 l0 (fun i => .string (ss.getD i ByteArray.empty))) (hs : ss.length = l0) (hB : sizes ss + ss.length ≤ 1048576) (hcap : l0 ≤ c0) :
    Calls Try.prog 5 #[.slice a0 l0 c0, .int .i64 c] w fun e w' => e = .returned (.bool true) ∧ Below w.heap.size w w' := by
  obtain ⟨i0, hi, hz0, hz1, hz2⟩ := info_parts infoInt
  have m0 := h0.max
  have hcb := bounds_i64 hc
  clear hc
  obtain rfl := hs
  have hends := Lib.hid (endL_le (ss := ss) (by omega))
  go_enter Try.func5, Try.ntmps5
  go_wp2_with fail
  refine (awake_any _).mono ?_
  rintro e w1 ⟨rfl, hb1⟩
  go_wp2
  go_loopw [5, 6, 19] (fun s v i wr => ∃ (k : Nat) (t : ByteArray), k ≤ ss.length ∧ i = .int .i64 (k : Int) ∧ s = .string t ∧ Hid (t.data.toList = framesL ((bytesOf ss).take k)) ∧
      wr.ownsRow w.heap.size 3 1 v k (endsL (bytesOf ss) k) ∧ Below w.heap.size w wr)
    (fun _ _ i _ => ss.length - (intOf i).toNat)
  case atStart => exact ⟨0, ⟨#[]⟩, by omega, rfl, rfl, rfl, World.ownsRow_nil _ _ _ _, hb1⟩
  case round =>
    obtain ⟨k, t, hk, rfl, rfl, ht, hown, hb⟩ := hrel
    have hts : t.size = endL (bytesOf ss) k := (size_of ht.out).symm
    have hek := hends.out k hk
    by_cases hlt : k < ss.length
    · obtain ⟨b, off, rfl, hc⟩ := h0.in hb hlt
      have hget : ss.getD k ByteArray.empty = ss[k] := by simp [List.getD, hlt]
      rw [hget] at hc
      have hsk : ss[k].size ≤ 1048576 := by have := size_le_sizes (List.getElem_mem hlt); omega
      have hen := hends.out (k + 1) (by omega)
      have hnx := endL_next (ls := bytesOf ss) (k := k) (by rw [bytesOf_len]; exact hlt)
      rw [bytesOf_at hlt] at hnx
      have HT : Hid ((t ++ ⟨(frameL ss[k].data.toList).toArray⟩).data.toList = framesL ((bytesOf ss).take (k + 1))) := by
        show _ = _
        rw [framesL_take (by rw [bytesOf_len]; exact hlt), bytesOf_at hlt]; exact concat_form ht.out rfl
      clear hget h0 hends
      go_wp2_with fail
      refine (wrap_any _ hsk _).mono ?_
      rintro e w2 ⟨rfl, hb2⟩
      generalize hG : frameL ss[k].data.toList = G at *
      clear hG
      have hown1 := ownsRow_below hown hb2
      have hb3 := below_next hb (Nat.le_refl _) hb2
      have hsz1 := hb3.size
      have hval : Hid ((endL (bytesOf ss) k : Int) + (G.length : Int) = (endL (bytesOf ss) (k + 1) : Nat)) := by show _ = _; omega
      clear hown hb hb2
      go_wp2_with (first
        | (at_builtin; refine wpList_append_own _ rfl (.tmp 36) (.tmp 39) 39 rfl w.heap.size 3 i0 (.int .i64 0) 1 8 Try.underlying39 hi hz0 hz1 hz2 rfl (by decide) _ _ _ rfl (hown1.alloc _) ⟨w2.heap.size, 0, none⟩ 1 1 [.int .i64 ((endL (bytesOf ss) k : Int) + (G.length : Int))] rfl rfl ?c1 ?c2 ?c3 ?c4 ?c5 ?_))
      case c1 => exact new_one _ _ _
      case c2 => exact one_new
      case c3 => unfold maxLen; omega
      case c4 => omega
      case c5 => simp; omega
      intro v' w3 hown' hgrow _
      have hown2 : w3.ownsRow w.heap.size 3 1 v' (k + 1) (endsL (bytesOf ss) (k + 1)) := by
        rw [endsL_next, ← hval.out]
        exact hown'
      have hb4 := (hb3.alloc hsz1 _).grown hgrow (by simp; omega) (fun k hk => (hown1.lt k hk).1)
      clear hown1 hown' hgrow hb3 hi hval
      go_wp2
      go_roundw
      case rel => exact ⟨k + 1, _, by omega, by go_num, rfl, HT, hown2, hb4⟩
      case measure => simp [intOf]; omega
    · obtain rfl : k = ss.length := by omega
      have hF : t.data.toList = framesL (bytesOf ss) := by
        have := ht.out
        rwa [List.take_of_length_le (by rw [bytesOf_len]; omega)] at this
      have hsc := scan_all (ss := ss) (by omega)
      rw [← hF] at hsc
      have HSC := Lib.hid hsc
      have HCUT := Lib.hid (fun k cut hk h1 h2 h3 => scan_cut (ss := ss) (by omega) (k := k) (cut := cut) hk h1 h2 h3)
      rw [← hF] at HCUT
      have HF := Lib.hid hF
      have hfr : Row1 w a0 ss.length (fun i => tx ((bytesOf ss).getD i [])) := by
        refine ⟨h0.max, ?_⟩
        rcases h0.row with h | ⟨b, off, ha, hlt, hc⟩
        · exact .inl h
        · exact .inr ⟨b, off, ha, hlt, fun i hi => by rw [bytesOf_getD hi]; exact hc i hi⟩
      have HFR := Lib.hid hfr
      have hB2 := hB
      clear hsc hF ht h0 hfr
      go_wp2_with fail
      refine (scan_any _ (by omega) _).mono ?_
      rintro e w2 ⟨v1, rfl, ho1, hb2⟩
      rw [HSC.out] at ho1
      rw [HSC.out]
      have hown2 := ownsRow_below hown hb2
      have hb3 := below_next hb (Nat.le_refl _) hb2
      have hrow := HFR.out.in1 hb3
      obtain ⟨a1, c1, rfl, hr1⟩ := row1_owns ho1 rfl (by rw [bytesOf_len]; omega)
      clear hown hb hb2 ho1
      have hS := sameB_refl (bytesOf ss)
      go_wp2_with fail
      refine (same_any _ _ _ _ _ _ _ _ _ rfl (bytesOf_len _) hr1 hrow).mono ?_
      rintro e w3 ⟨rfl, n, rfl⟩
      rw [hS]
      have hb4 := below_drewN hb3 n
      have hown3 : (w2.drewN n).ownsRow w.heap.size 3 1 u6 ss.length (endsL (bytesOf ss) ss.length) := ownsRow_below hown2 (below_drewN (Below.refl _ _) n)
      clear hr1 hrow hS hown2 hb3
      generalize w2.drewN n = w4 at *
      by_cases hc0 : c < 0
      · go_wp2
        go_ret
        exact ⟨rfl, hb4⟩
      · obtain ⟨cut, rfl⟩ := Int.eq_ofNat_of_zero_le (show 0 ≤ c by omega)
        by_cases hcl : cut ≤ t.data.toList.length
        · have hcl2 : cut ≤ t.size := by simpa using hcl
          obtain ⟨a2, c2, rfl, hr2⟩ := row1_range hown3 (by omega)
          have hd1 : decide ((cut : Int) < 0) = false := by simp
          have hd2 : decide (((endL (bytesOf ss) ss.length : Nat) : Int) < (cut : Int)) = false := by simp; omega
          clear hown3
          go_wp2_with fail
          go_loop [13, 14] (fun i at_ => ∃ (k : Nat), k ≤ ss.length ∧ i = .int .i64 (k : Int) ∧ at_ = .int .i64 (endL (bytesOf ss) k : Nat) ∧ endL (bytesOf ss) k ≤ cut) (fun i _ => ss.length - (intOf i).toNat)
          case atStart => exact ⟨0, by omega, rfl, rfl, by rw [endL_zero]; omega⟩
          case round =>
          obtain ⟨k, hk, rfl, rfl, hle⟩ := hrel
          by_cases hlt : k < ss.length
          · obtain ⟨b, off, rfl, _, hc⟩ := hr2.at hlt
            by_cases hle2 : endL (bytesOf ss) (k + 1) ≤ cut
            · have hd3 : decide (((endL (bytesOf ss) (k + 1) : Nat) : Int) ≤ (cut : Int)) = true := by simp; omega
              clear hr2
              go_wp2
              go_round
              case rel => exact ⟨k + 1, by omega, by go_num, rfl, hle2⟩
              case measure => simp [intOf]; omega
            · have hd3 : decide (((endL (bytesOf ss) (k + 1) : Nat) : Int) ≤ (cut : Int)) = false := by simp; omega
              have hcut := HCUT.out k cut (by omega) (by omega) (fun _ => by omega) hcl
              have hq : (t.extract 0 cut).data.toList = t.data.toList.take cut := extract_take _ _
              rw [← hq] at hcut
              have HC := Lib.hid hcut
              have hqs : (t.extract 0 cut).size ≤ 16777216 := by
                have := congrArg List.length hq
                rw [List.length_take] at this
                simp only [Array.length_toList] at this
                show (t.extract 0 cut).data.size ≤ _
                omega
              have hqc : ((t.extract 0 cut).size : Int) - ((scanL (t.extract 0 cut).data.toList).2.length : Int) = (endL (bytesOf ss) k : Nat) := by
                have h1 := hcut.2
                have h2 := congrArg List.length hq
                rw [List.length_take] at h2
                simp only [Array.length_toList] at h2
                have h3 : (t.extract 0 cut).data.size = (t.extract 0 cut).size := rfl
                have h4 : t.data.size = t.size := rfl
                omega
              have HQ := Lib.hid hqc
              clear hcut hq hqc hr2
              go_wp2_with fail
              refine (scan_any _ hqs _).mono ?_
              rintro e w5 ⟨v2, rfl, ho2, hb5⟩
              rw [HC.out.1] at ho2
              rw [HQ.out]
              have hlk : ((bytesOf ss).take k).length = k := by rw [List.length_take, bytesOf_len]; omega
              rw [hlk] at ho2
              obtain ⟨a3, c3, rfl, hr3⟩ := row1_owns ho2 hlk (by omega)
              have HLK := Lib.hid hlk
              clear hlk
              have hb6 := below_next hb4 (Nat.le_refl _) hb5
              have hrow := (HFR.out.in1 hb6).shorter (k := k) (U := fun i => tx (((bytesOf ss).take k).getD i [])) (by omega) (fun i hi => by simp [List.getD, hi])
              have hS := sameB_refl ((bytesOf ss).take k)
              have g1 : (k : Int) ≤ (c0 : Int) := by omega
              have g2 : k ≤ c0 := by omega
              clear ho2 hb4 hb5
              go_wp2_with fail
              refine (same_any _ _ _ _ _ _ _ _ _ HLK.out HLK.out hr3 hrow).mono ?_
              rintro e w6 ⟨rfl, n, rfl⟩
              rw [hS]
              go_wp2
              go_ret
              exact ⟨rfl, below_drewN hb6 _⟩
          · obtain rfl : k = ss.length := by omega
            have hcut := HCUT.out ss.length cut (by omega) (by omega) (fun h => absurd h hlt) hcl
            have hq : (t.extract 0 cut).data.toList = t.data.toList.take cut := extract_take _ _
            rw [← hq] at hcut
            have HC := Lib.hid hcut
            have hqs : (t.extract 0 cut).size ≤ 16777216 := by
              have := congrArg List.length hq
              rw [List.length_take] at this
              simp only [Array.length_toList] at this
              show (t.extract 0 cut).data.size ≤ _
              omega
            have hqc : ((t.extract 0 cut).size : Int) - ((scanL (t.extract 0 cut).data.toList).2.length : Int) = (endL (bytesOf ss) ss.length : Nat) := by
              have h1 := hcut.2
              have h2 := congrArg List.length hq
              rw [List.length_take] at h2
              simp only [Array.length_toList] at h2
              have h3 : (t.extract 0 cut).data.size = (t.extract 0 cut).size := rfl
              have h4 : t.data.size = t.size := rfl
              omega
            have HQ := Lib.hid hqc
            clear hcut hq hqc hr2
            go_wp2_with fail
            refine (scan_any _ hqs _).mono ?_
            rintro e w5 ⟨v2, rfl, ho2, hb5⟩
            rw [HC.out.1] at ho2
            rw [HQ.out]
            have hlk : ((bytesOf ss).take ss.length).length = ss.length := by rw [List.length_take, bytesOf_len]; omega
            rw [hlk] at ho2
            obtain ⟨a3, c3, rfl, hr3⟩ := row1_owns ho2 hlk (by omega)
            have HLK := Lib.hid hlk
            clear hlk
            have hb6 := below_next hb4 (Nat.le_refl _) hb5
            have hrow := (HFR.out.in1 hb6).shorter (k := ss.length) (U := fun i => tx (((bytesOf ss).take ss.length).getD i [])) (by omega) (fun i hi => by simp [List.getD, hi])
            have hS := sameB_refl ((bytesOf ss).take ss.length)
            have g1 : (ss.length : Int) ≤ (c0 : Int) := by omega
            have g2 : ss.length ≤ c0 := by omega
            clear ho2 hb4 hb5
            go_wp2_with fail
            refine (same_any _ _ _ _ _ _ _ _ _ HLK.out HLK.out hr3 hrow).mono ?_
            rintro e w6 ⟨rfl, n, rfl⟩
            rw [hS]
            go_wp2
            go_ret
            exact ⟨rfl, below_drewN hb6 _⟩
        · have hd2 : decide (((endL (bytesOf ss) ss.length : Nat) : Int) < (cut : Int)) = true := by
            simp at hcl
            have e1 : t.data.size = t.size := rfl
            simp; omega
          have hd1 : decide ((cut : Int) < 0) = false := by simp
          have hd3 : decide (endL (bytesOf ss) ss.length < cut) = true := by
            simp at hd2; simp; omega
          go_wp2
          go_ret
          exact ⟨rfl, hb4⟩
end Go.Proofs.Ytflljnhkjkmcgaa
