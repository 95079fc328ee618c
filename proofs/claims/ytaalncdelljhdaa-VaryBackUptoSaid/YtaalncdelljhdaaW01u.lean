/- Layer 1: the walk of VaryBack. -/
import Derived.Test.YtaalncdelljhdaaW01t
namespace Go.Proofs.Ytaalncdelljhdaa
open Go.RowKit
set_option linter.unusedVariables false

theorem tv_data (s : ByteArray) : tv s.data.toList = .string s := by unfold tv; congr 1

theorem nat_beq (a b : Nat) (h : a = b) : ((a : Int) == (b : Int)) = true := by subst h; simp

set_option maxHeartbeats 1000000 in
set_option maxRecDepth 100000 in
theorem back_walk (a0 : Option Addr) (l0 c0 : Nat) (zs : List Nat) (a1 : Option Addr) (l1 c1 : Nat) (ss : List ByteArray) (w : World)
    (h0 : Row1 w a0 l0 (fun i => .int .u64 ((zs.getD i 0 : Nat) : Int))) (hz : zs.length = l0) (hu : ∀ n ∈ zs, U64 n)
    (h1 : Row1 w a1 l1 (fun i => .string (ss.getD i ByteArray.empty))) (hs : ss.length = l1) (hB : zs.length + sizes ss + ss.length ≤ 1048576) :
    Calls Try.prog 5 #[.slice a0 l0 c0, .slice a1 l1 c1] w fun e w' => e = .returned (.bool true) ∧ Below w.heap.size w w' := by
  have m0 := h0.max
  have m1 := h1.max
  have b0 := encs_len zs hu
  have b1 := enct_len ss (by omega)
  obtain rfl := hz
  obtain rfl := hs
  go_enter Try.func5, Try.ntmps5
  go_wp2_with fail
  refine (awake_any _).mono ?_
  rintro e w1 ⟨rfl, hb1⟩
  go_wp2
  go_loopw [5, 19] (fun s i wr => ∃ (k : Nat) (t : ByteArray), k ≤ zs.length ∧ i = .int .i64 (k : Int) ∧ s = .string t ∧ Hid (t.data.toList = encs (zs.take k)) ∧ Below w.heap.size w wr)
    (fun _ i _ => zs.length - (intOf i).toNat)
  case atStart => exact ⟨0, ⟨#[]⟩, by omega, rfl, rfl, rfl, hb1⟩
  case round =>
    obtain ⟨k, t, hk, rfl, rfl, ht, hb⟩ := hrel
    by_cases hlt : k < zs.length
    · obtain ⟨b, off, rfl, hc⟩ := h0.in hb hlt
      have hts : t.size ≤ 10 * zs.length := by
        have e1 := encs_mono (zs := zs) (k := k) (by omega)
        have e2 := size_of ht.out
        omega
      have hn : U64 zs[k] := hu _ (List.getElem_mem _)
      have hget : zs.getD k 0 = zs[k] := by simp [List.getD, hlt]
      rw [hget] at hc
      have hl := putL_len10 hn
      have HT : Hid ((t ++ ⟨(putL zs[k]).toArray⟩).data.toList = encs (zs.take (k + 1))) := by
        rw [encs_take hlt]; exact concat_form ht.out rfl
      clear hget h0 h1
      go_wp2_with fail
      refine (put_any _ hn _).mono ?_
      rintro e w2 ⟨rfl, hb2⟩
      go_wp2
      go_roundw
      case rel => exact ⟨k + 1, _, by omega, by go_num, rfl, HT, below_next hb (Nat.le_refl _) hb2⟩
      case measure => simp [intOf]; omega
    · obtain rfl : k = zs.length := by omega
      rw [List.take_length] at ht
      go_wp2
      go_loopw [5, 30] (fun s i wr => ∃ (k : Nat) (t : ByteArray), k ≤ ss.length ∧ i = .int .i64 (k : Int) ∧ s = .string t ∧ Hid (t.data.toList = encs zs ++ enct (ss.take k)) ∧ Below w.heap.size w wr)
        (fun _ i _ => ss.length - (intOf i).toNat)
      case atStart => exact ⟨0, t, by omega, rfl, rfl, by show _ = _; rw [ht.out]; simp [enct], hb⟩
      case round =>
        clear ht hb
        obtain ⟨k, t2, hk2, rfl, rfl, ht, hb⟩ := hrel
        by_cases hlt : k < ss.length
        · obtain ⟨b, off, rfl, hc⟩ := h1.in hb hlt
          have hts : t2.size ≤ 20 * 1048576 := by
            have e1 := enct_mono (ss := ss) (k := k) (by omega)
            have e2 := size_of ht.out
            rw [List.length_append] at e2
            omega
          have hget : ss.getD k ByteArray.empty = ss[k] := by simp [List.getD, hlt]
          rw [hget] at hc
          have hsz : ss[k].size ≤ 1048576 := by have := size_le_sizes (List.getElem_mem hlt); omega
          have hl := putL_len10 (n := ss[k].size) (by unfold U64; omega)
          have hl2 : (putL ss[k].size ++ ss[k].data.toList).length ≤ 2097152 := by
            rw [List.length_append]
            have : ss[k].data.toList.length = ss[k].size := by simp
            omega
          have HT : Hid ((t2 ++ ⟨(putL ss[k].size ++ ss[k].data.toList).toArray⟩).data.toList = encs zs ++ enct (ss.take (k + 1))) := by
            rw [enct_take hlt, ← List.append_assoc]; exact concat_form ht.out rfl
          clear hget h0 h1 hl
          go_wp2_with fail
          refine (text_any _ (by omega) _).mono ?_
          rintro e w2 ⟨rfl, hb2⟩
          generalize hX : putL ss[k].size ++ ss[k].data.toList = X at *
          clear hX
          go_wp2
          go_roundw
          case rel => exact ⟨k + 1, _, by omega, by go_num, rfl, HT, below_next hb (Nat.le_refl _) hb2⟩
          case measure => simp [intOf]; omega
        · obtain rfl : k = ss.length := by omega
          rw [List.take_length] at ht
          have hts : t2.size ≤ 20 * 1048576 := by
            have e2 := size_of ht.out
            rw [List.length_append] at e2
            omega
          go_wp2_with fail
          refine (read_any _ (by omega) _).mono ?_
          rintro e w2 ⟨rfl, hr2, hb2⟩
          rw [ht.out] at hr2
          have hB2 : w.heap.size ≤ wr.heap.size := hb.size
          have hb3 := below_next hb (Nat.le_refl _) hb2
          generalize wr.heap.size = B at *
          clear hb hb2 ht
          go_wp2
          go_loopw [43] (fun i wr => ∃ (k : Nat), k ≤ zs.length ∧ i = .int .i64 (k : Int) ∧ RDE wr B (some (encs (zs.drop k) ++ enct ss)) ∧ Below w.heap.size w wr)
            (fun i _ => zs.length - (intOf i).toNat)
          case atStart => exact ⟨0, by omega, rfl, hr2, hb3⟩
          case round =>
            clear hr2 hb3
            obtain ⟨k, hk3, rfl, hr, hb⟩ := hrel
            by_cases hlt : k < zs.length
            · obtain ⟨b, off, rfl, hc⟩ := h0.in hb hlt
              have hn : U64 zs[k] := hu _ (List.getElem_mem _)
              have hget : zs.getD k 0 = zs[k] := by simp [List.getD, hlt]
              rw [hget] at hc
              have HS := Lib.hid (numS_put hn (encs (zs.drop (k + 1)) ++ enct ss))
              have HR : Hid (RDE wr B (some (putL zs[k] ++ (encs (zs.drop (k + 1)) ++ enct ss)))) := by
                rw [encs_drop hlt, List.append_assoc] at hr; exact hr
              clear hget h0 h1 hr
              go_wp2_with fail
              refine (num_any HR.out).mono ?_
              rintro e w3 ⟨rfl, hl3⟩
              rw [HS.out] at hl3
              rw [HS.out]
              have hb4 := below_grownBy hl3.2 (B := w.heap.size) hb.size hB2
              have hr4 := Lib.hid hl3.1
              clear hl3
              go_wp2
              go_roundw
              case rel => exact ⟨k + 1, by omega, by go_num, hr4.out, hb.trans hb4⟩
              case measure => simp [intOf]; omega
            · obtain rfl : k = zs.length := by omega
              rw [List.drop_length] at hr
              have hr5 : RDE wr B (some (enct (ss.drop 0))) := hr
              clear hr
              go_wp2
              go_loopw [54] (fun i wr => ∃ (k : Nat), k ≤ ss.length ∧ i = .int .i64 (k : Int) ∧ RDE wr B (some (enct (ss.drop k))) ∧ Below w.heap.size w wr)
                (fun i _ => ss.length - (intOf i).toNat)
              case atStart => exact ⟨0, by omega, rfl, hr5, hb⟩
              case round =>
                clear hr5 hb
                obtain ⟨k, hk4, rfl, hr, hb⟩ := hrel
                by_cases hlt : k < ss.length
                · obtain ⟨b, off, rfl, hc⟩ := h1.in hb hlt
                  have hget : ss.getD k ByteArray.empty = ss[k] := by simp [List.getD, hlt]
                  rw [hget] at hc
                  have hsz : ss[k].size ≤ 1048576 := by have := size_le_sizes (List.getElem_mem hlt); omega
                  have HS := Lib.hid (textS_put (s := ss[k]) (by unfold U64; omega) (enct (ss.drop (k + 1))))
                  have HR : Hid (RDE wr B (some (putL ss[k].size ++ (ss[k].data.toList ++ enct (ss.drop (k + 1)))))) := by
                    rw [enct_drop hlt] at hr; exact hr
                  clear hget h0 h1 hr
                  go_wp2_with fail
                  refine (rtextv_any HR.out).mono ?_
                  rintro e w3 ⟨rfl, hl3⟩
                  rw [HS.out] at hl3
                  rw [HS.out]
                  rw [tv_data]
                  have hb4 := below_grownBy hl3.2 (B := w.heap.size) hb.size hB2
                  have hr4 := Lib.hid hl3.1
                  clear hl3
                  go_wp2
                  go_roundw
                  case rel => exact ⟨k + 1, by omega, by go_num, hr4.out, hb.trans hb4⟩
                  case measure => simp [intOf]; omega
                · obtain rfl : k = ss.length := by omega
                  rw [List.drop_length] at hr
                  go_wp2_with fail
                  refine (end_any hr).mono ?_
                  rintro e w3 ⟨rfl, rfl⟩
                  go_wp2
                  go_ret
                  exact ⟨rfl, hb⟩
end Go.Proofs.Ytaalncdelljhdaa
