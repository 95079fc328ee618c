/- Layer 1: contracts of the reference's Put, of both Fixed. -/
import Derived.Test.YtflljnhkjkmcgaaW01
namespace Go.Proofs.Ytflljnhkjkmcgaa
open Go.RowKit
set_option linter.unusedVariables false

set_option maxHeartbeats 400000 in
set_option maxRecDepth 100000 in
theorem rput_any (a : Nat) (h1 : U64 a) (w : World) :
    Calls Try.prog 27 #[.int .u64 (a : Int)] w fun e w' => e = .returned (.string ⟨(putL a).toArray⟩) ∧ Below w.heap.size w w' := by
  obtain ⟨i0, hi, hz0, hz1, hz2⟩ := info_parts infoU8
  go_enter Try.func27, Try.ntmps27
  go_wp2
  go_loopw [0, 3] (fun n v wr => ∃ (m : Nat) (l : List UInt8), U64 m ∧ n = .int .u64 m ∧ wr.ownsRow w.heap.size 5 1 v l.length (l.map bv) ∧ Hid (l ++ putL m = putL a) ∧ Below w.heap.size w wr)
    (fun n _ _ => (intOf n).toNat)
  case atStart => exact ⟨a, [], h1, rfl, World.ownsRow_nil _ _ _ _, rfl, Below.refl _ _⟩
  case round =>
    obtain ⟨m, l, hm, rfl, hown, hl, hb⟩ := hrel
    have hlen : l.length ≤ 9 := by
      have h2 := putL_len10 h1
      have h3 := congrArg List.length hl.out
      have h4 := putL_pos m
      rw [List.length_append] at h3
      omega
    have hsz := hb.size
    by_cases h128 : m < 128
    · go_wp2_with (first
        | (at_builtin; refine wpList_append_own _ rfl (.tmp 6) (.tmp 9) 41 rfl w.heap.size 5 i0 (.int .u8 0) 1 1 Try.underlying41 hi hz0 hz1 hz2 rfl (by decide) _ _ _ rfl (hown.alloc _) ⟨wr.heap.size, 0, none⟩ 1 1 [.int .u8 m] rfl rfl ?c1 ?c2 ?c3 ?c4 ?c5 ?_))
      case c1 => exact new_one _ _ _
      case c2 => exact one_new
      case c3 => unfold maxLen; omega
      case c4 => omega
      case c5 => simp; omega
      intro v' w1 hown' hgrow _
      have hown2 : w1.ownsRow w.heap.size 5 1 v' (l ++ putL m).length ((l ++ putL m).map bv) := by
        rw [putL_lt h128]
        simpa [bv, Nat.mod_eq_of_lt (show m < 256 by omega)] using hown'
      rw [hl.out] at hown2
      have hcv := conv_own hown2
      have hb1 := (hb.alloc hsz _).grown hgrow (by simp; omega) (fun k hk => (hown.lt k hk).1)
      clear hown hown' hown2 hgrow hb hi
      go_wp2
      go_ret
      exact ⟨rfl, hb1⟩
    · have hw := div_wrap hm
      go_wp2_with (first
        | (at_builtin; refine wpList_append_own _ rfl (.tmp 12) (.tmp 17) 41 rfl w.heap.size 5 i0 (.int .u8 0) 1 1 Try.underlying41 hi hz0 hz1 hz2 rfl (by decide) _ _ _ rfl (hown.alloc _) ⟨wr.heap.size, 0, none⟩ 1 1 [.int .u8 (↑m % 128 + 128)] rfl rfl ?d1 ?d2 ?d3 ?d4 ?d5 ?_))
      case d1 => exact new_one _ _ _
      case d2 => exact one_new
      case d3 => unfold maxLen; omega
      case d4 => omega
      case d5 => simp; omega
      intro v' w1 hown' hgrow _
      have hown2 : w1.ownsRow w.heap.size 5 1 v' (l ++ [UInt8.ofNat (m % 128 + 128)]).length ((l ++ [UInt8.ofNat (m % 128 + 128)]).map bv) := by
        have e : ((m : Int) % 128 + 128) = ((UInt8.ofNat (m % 128 + 128)).toNat : Int) := by rw [u8_toNat (by omega)]; omega
        rw [e] at hown'
        simpa [bv] using hown'
      have hl2 : Hid ((l ++ [UInt8.ofNat (m % 128 + 128)]) ++ putL (m / 128) = putL a) := by
        have := hl.out
        rw [putL_ge (by omega)] at this
        show _ = _
        rw [← this]; simp
      have hb1 := (hb.alloc hsz _).grown hgrow (by simp; omega) (fun k hk => (hown.lt k hk).1)
      clear hown hown' hgrow hb hi hl
      go_wp2
      go_roundw
      case rel => exact ⟨m / 128, _, hm.le (by omega), by simp, hown2, hl2, hb1⟩
      case measure => simp [intOf]; omega

set_option maxHeartbeats 400000 in
set_option maxRecDepth 100000 in
theorem rfixed_any (a : Nat) (h1 : U64 a) (w : World) :
    Calls Try.prog 28 #[.int .u64 (a : Int)] w fun e w' => e = .returned (.string ⟨(fixedL a).toArray⟩) ∧ Below w.heap.size w w' := by
  obtain ⟨i0, hi, hz0, hz1, hz2⟩ := info_parts infoU8
  go_enter Try.func28, Try.ntmps28
  go_wp2
  go_loopw [3, 4] (fun v i wr => ∃ (k : Nat), k ≤ 8 ∧ i = .int .i64 (56 - 8 * (k : Int)) ∧ wr.ownsRow w.heap.size 5 1 v k (((fixedL a).take k).map bv) ∧ Below w.heap.size w wr)
    (fun _ i _ => (8 + intOf i).toNat)
  case atStart => exact ⟨0, by omega, rfl, World.ownsRow_nil _ _ _ _, Below.refl _ _⟩
  case round =>
    obtain ⟨k, hk, rfl, hown, hb⟩ := hrel
    have hsz := hb.size
    by_cases h8 : k < 8
    · go_wp2_with (first
        | (at_builtin; refine wpList_append_own _ rfl (.tmp 9) (.tmp 15) 41 rfl w.heap.size 5 i0 (.int .u8 0) 1 1 Try.underlying41 hi hz0 hz1 hz2 rfl (by decide) _ _ _ rfl (hown.alloc _) ⟨wr.heap.size, 0, none⟩ 1 1 [.int .u8 (bits BinOp.and IntKind.u64 (↑a / 2 ^ (56 - 8 * k)) 255 % 256)] rfl rfl ?c1 ?c2 ?c3 ?c4 ?c5 ?_))
      case c1 => exact new_one _ _ _
      case c2 => exact one_new
      case c3 => unfold maxLen; omega
      case c4 => omega
      case c5 => simp; omega
      intro v' w1 hown' hgrow _
      have hown2 : w1.ownsRow w.heap.size 5 1 v' (k + 1) (((fixedL a).take (k + 1)).map bv) := by
        rw [fixed_at h1 h8] at hown'
        rw [List.take_add_one, fixedL_at a k h8]
        simpa [bv] using hown'
      have hb1 := (hb.alloc hsz _).grown hgrow (by simp; omega) (fun k hk => (hown.lt k hk).1)
      clear hown hown' hgrow hb hi
      go_wp2
      go_roundw
      case rel => exact ⟨k + 1, by omega, by go_num, hown2, hb1⟩
      case measure => simp [intOf]; omega
    · obtain rfl : k = 8 := by omega
      have hown2 : wr.ownsRow w.heap.size 5 1 u3 (fixedL a).length ((fixedL a).map bv) := by
        rw [fixedL_len]
        rw [List.take_of_length_le (by rw [fixedL_len]; omega)] at hown
        exact hown
      have hcv := conv_own hown2
      clear hown hown2
      go_wp2
      go_ret
      exact ⟨rfl, hb⟩

set_option maxHeartbeats 400000 in
set_option maxRecDepth 100000 in
theorem fixed_any (a : Nat) (h1 : U64 a) (w : World) :
    Calls Try.prog 26 #[.int .u64 (a : Int)] w fun e w' => e = .returned (.string ⟨(fixedL a).toArray⟩) ∧ Below w.heap.size w w' := by
  go_enter Try.func26, Try.ntmps26
  go_wp2
  go_loopw [0, 4, 5] (fun n _ i wr => ∃ (k : Nat), k ≤ 8 ∧ i = .int .i64 (k : Int) ∧ n = .int .u64 ((a / 256 ^ k : Nat) : Int) ∧ Hid (∀ j, j < 8 → wr.cell? ⟨w.heap.size, j, none⟩ = some (.int .u8 (fixAt a k j))) ∧ Hid (∀ j, j < 8 → wr.frozen? ⟨w.heap.size, j, none⟩ = false) ∧ Below w.heap.size w wr)
    (fun _ _ i _ => (8 - intOf i).toNat)
  case atStart =>
    refine ⟨0, by omega, rfl, by simp, fun j hj => ?_, fun j hj => ?_, (Below.refl _ _).alloc (Nat.le_refl _) _⟩
    · rw [World.cell?_alloc_new, fixAt_zero hj]
      match j, hj with
      | 0, _ | 1, _ | 2, _ | 3, _ | 4, _ | 5, _ | 6, _ | 7, _ => rfl
    · exact World.frozen?_alloc_at _ _ _ _ rfl
  case round =>
    obtain ⟨k, hk, rfl, rfl, hc, hf, hb⟩ := hrel
    by_cases h8 : k < 8
    · have hc0 := hc.out (7 - k) (by omega)
      have hf0 := hf.out (7 - k) (by omega)
      go_wp2
      go_roundw
      case rel =>
        refine ⟨k + 1, by omega, by go_num, ?_, fun j hj => ?_, fun j hj => ?_, hb.setCell (Nat.le_refl _) _⟩
        · congr 1
          rw [Nat.pow_succ, ← Nat.div_div_eq_div_mul]; simp
        · by_cases he : j = 7 - k
          · subst he
            rw [World.cell?_setCell_same _ _ _ hc0, fixAt_new h8]
            simp
          · rw [World.cell?_setCell_other _ _ _ _ (by intro h; injection h with _ h; omega), fixAt_old he hj]
            exact hc.out j hj
        · rw [World.frozen?_setCell]; exact hf.out j hj
      case measure => simp [intOf]; omega
    · obtain rfl : k = 8 := by omega
      have hcv : ∀ cap, (convert 41 9 (.slice (some ⟨w.heap.size, 0, none⟩) (fixedL a).length cap)).run Try.prog wr = .ok (.string ⟨(fixedL a).toArray⟩) wr := fun cap =>
        run_convert_bytes_back (P := Try.prog) wr 41 9 5 ⟨w.heap.size, 0, none⟩ cap (fixedL a) Try.underlying41 Try.underlying5 Try.underlying9 (fun j hj => by
          rw [fixedL_len] at hj
          have e := fixedL_at a j hj
          rw [List.getElem?_eq_getElem (by rw [fixedL_len]; exact hj)] at e
          injection e with e
          rw [Addr.add_lit, Nat.zero_add, hc.out j hj, e]
          unfold fixAt
          rw [if_pos (by omega)])
      simp only [fixedL_len] at hcv
      go_wp2
      go_ret
      exact ⟨rfl, hb⟩
end Go.Proofs.Ytflljnhkjkmcgaa
