/- Layer 6: the contract of the program's Has. -/
import Derived.Test.YtfphfnpdibehnaaW06
namespace Go.Proofs.Ytfphfnpdibehnaa
open Go.RowKit
set_option linter.unusedVariables false

theorem text_some (t : ByteArray) (h : 0 < t.size) : (t.toList == []) = false ∧ t.toList ≠ [] := by
  have e : t.toList ≠ [] := fun e => by
    have e2 : t.toList.length = t.size := by rw [ByteArray.toList_eq]; simp
    rw [e] at e2
    simp at e2
    omega
  exact ⟨by simpa using e, e⟩
theorem index_four0 (f : Nat → Nat) : ∀ w, (Instr.index 43 (.agg (fourU f)) (.int .i64 ((0 : Nat) : Int))).run Try.prog w = .ok (.int .u32 (f 0 : Nat)) w := fun _ => by kernel_rfl
theorem index_four1 (f : Nat → Nat) : ∀ w, (Instr.index 43 (.agg (fourU f)) (.int .i64 ((1 : Nat) : Int))).run Try.prog w = .ok (.int .u32 (f 1 : Nat)) w := fun _ => by kernel_rfl
theorem index_four2 (f : Nat → Nat) : ∀ w, (Instr.index 43 (.agg (fourU f)) (.int .i64 ((2 : Nat) : Int))).run Try.prog w = .ok (.int .u32 (f 2 : Nat)) w := fun _ => by kernel_rfl
theorem index_four3 (f : Nat → Nat) : ∀ w, (Instr.index 43 (.agg (fourU f)) (.int .i64 ((3 : Nat) : Int))).run Try.prog w = .ok (.int .u32 (f 3 : Nat)) w := fun _ => by kernel_rfl
theorem index_four (f : Nat → Nat) {i : Nat} (h : i < 4) (w : World) : (Instr.index 43 (.agg (fourU f)) (.int .i64 (i : Int))).run Try.prog w = .ok (.int .u32 (f i : Nat)) w := by
  match i, h with
  | 0, _ => exact index_four0 f w
  | 1, _ => exact index_four1 f w
  | 2, _ => exact index_four2 f w
  | 3, _ => exact index_four3 f w
theorem and_pow (x r : Nat) : (((x &&& 2 ^ r : Nat) : Int) == 0) = !x.testBit r := by
  cases h : x.testBit r with
  | true =>
    have h1 : (x &&& 2 ^ r).testBit r = true := by rw [Nat.testBit_and, h, Nat.testBit_two_pow_self]; rfl
    have h2 : x &&& 2 ^ r ≠ 0 := fun e => by rw [e, Nat.zero_testBit] at h1; cases h1
    rw [beq_eq_false_iff_ne.2 (by omega)]; rfl
  | false =>
    have h1 : x &&& 2 ^ r = 0 := by
      refine Nat.eq_of_testBit_eq fun j => ?_
      rw [Nat.testBit_and, Nat.zero_testBit, Nat.testBit_two_pow]
      by_cases e : r = j
      · rw [← e, h]; rfl
      · rw [decide_eq_false e, Bool.and_false]
    rw [h1]; rfl
theorem bit_and (x : UInt8) {r : Nat} (h : r < 8) : (bits .and .u8 (x.toNat : Int) (((1 : UInt8) <<< UInt8.ofNat r).toNat : Int) == 0) = !x.toNat.testBit r := by
  have hx := UInt8.toNat_lt x
  have hp : 2 ^ r ≤ 2 ^ 7 := Nat.pow_le_pow_right (by omega) (by omega)
  rw [u8_and_nat _ _ (by omega) (by rw [one_shl r h]; omega), one_shl r h]
  exact and_pow _ _

set_option maxHeartbeats 1000000 in
set_option maxRecDepth 100000 in
theorem has_any (t s : ByteArray) (ht : t.size ≤ maxLen) (hs : s.size ≤ maxLen) (w : World) :
    Calls Try.prog 12 #[.string t, .string s] w fun e w' => e = .returned (.bool (hasK6 t.data.toList s)) ∧ Below w.heap.size w w' := by
  have hm : t.size ≤ 9223372036854775807 := by unfold maxLen at ht; omega
  by_cases h1 : 1 ≤ t.size ∧ t.size ≤ 8192
  · have hK : hasK6 t.data.toList s = hasTo t.data.toList s 4 := by
      unfold hasK6
      rw [show t.data.toList.length = t.size by simp, decide_eq_true h1, Bool.true_and]
    rw [hK]
    obtain ⟨h1, h2⟩ := h1
    obtain ⟨hne, hne2⟩ := text_some t (by omega)
    have hcall := fun w => bits_any s hs t.size (by omega) h2 w
    have hlt8 := bitK_lt s (n := t.size) (by omega)
    have HT : Hid (∀ i, hasTo t.data.toList s (i + 1) = (hasTo t.data.toList s i && hasBit t.data.toList (bitK s t.size i))) := fun i => by
      have := hasTo_next t.data.toList s i
      rwa [show t.data.toList.length = t.size by simp] at this
    generalize bitK s t.size = f at *
    go_enter Try.func12, Try.ntmps12
    clear hK
    go_wp2_with fail
    refine (hcall _).mono ?_
    rintro e w1 ⟨rfl, b1⟩
    have B1 := Lib.hid b1
    clear b1
    go_wp2
    go_loopw [18] (fun iv wr => ∃ i : Nat, i ≤ 4 ∧ iv = .int .i64 (i : Int) ∧ Hid (hasTo t.data.toList s i = true) ∧ Hid (∃ n, wr = w1.drewN n)) (fun iv _ => 4 - (intOf iv).toNat)
    case atStart => exact ⟨0, by omega, rfl, (by show hasTo t.data.toList s 0 = true; unfold hasTo; rfl), ⟨0, rfl⟩⟩
    case round =>
      obtain ⟨i, hi, rfl, hto, hwr⟩ := hrel
      by_cases hlt : i < 4
      · have c0 := fun w => index_four f hlt w
        have hf := hlt8 i
        have HN := Lib.hid (HT.out i)
        generalize f i = k at *
        obtain ⟨q, hq⟩ : ∃ q, k / 8 = q := ⟨_, rfl⟩
        obtain ⟨r, hr⟩ : ∃ r, k % 8 = r := ⟨_, rfl⟩
        have hqn : q < t.size := by omega
        have hk32 : k < 4294967296 := by omega
        have d7 : IntKind.u32.wrap (q : Int) = (q : Int) := low32 q (by omega)
        have d3 : wrap64 (q : Int) = (q : Int) := wrap_small (by omega)
        obtain ⟨d1, d2, d4, d5, hrlt⟩ := split8 hq hr
        have hq1 : (0 : Int) ≤ (q : Int) := Int.natCast_nonneg _
        have hq2 : (q : Int) < (t.size : Int) := Int.ofNat_lt.2 hqn
        have HQ := Lib.hid hq
        have HR := Lib.hid hr
        clear hq hf
        have hmask := fun w => mask_any k hk32 w
        have hbit := hasBit_at HQ.out HR.out hqn
        have hev := bit_and t[q] hrlt
        obtain ⟨M, hM⟩ : ∃ M, (1 : UInt8) <<< UInt8.ofNat r = M := ⟨_, rfl⟩
        have hb8 : bit8 k = M := by unfold bit8; rw [hr, hM]
        rw [hb8] at hmask
        rw [hM] at hev
        have HNX : Hid (t[q].toNat.testBit r = true → hasTo t.data.toList s (i + 1) = true) := fun e => by rw [HN.out, hto.out, hbit, e]; rfl
        have HNO : Hid (t[q].toNat.testBit r = false → hasTo t.data.toList s 4 = false) := fun e => by
          have e1 : hasTo t.data.toList s (i + 1) = false := by rw [HN.out, hbit, e, Bool.and_false]
          cases h4 : hasTo t.data.toList s 4 with
          | false => rfl
          | true =>
            have := (hasTo_iff t.data.toList s (i + 1)).2 (fun j hj => (hasTo_iff t.data.toList s 4).1 h4 j (by omega))
            rw [e1] at this; cases this
        clear hbit HN hr hb8 hM
        go_wp2_with fail
        go_quiet (first | (go_at_call 15; refine Calls.quiet_of_same (hmask _)))
        cases htb : t[q].toNat.testBit r with
        | true =>
          have HA := Lib.hid (HNX.out htb)
          clear hev HNX HNO htb
          go_wp2
          go_roundw
          case rel =>
            obtain ⟨n, rfl⟩ := hwr.out
            exact ⟨i + 1, by omega, by go_num, HA.out, ⟨_, by rw [World.drewN_drewN]⟩⟩
          case measure => simp [intOf]; omega
        | false =>
          have HA := Lib.hid (HNO.out htb)
          clear hev HNX HNO htb
          go_wp2
          go_ret
          obtain ⟨n, rfl⟩ := hwr.out
          exact ⟨by rw [HA.out]; rfl, by rw [World.drewN_drewN]; exact B1.out.trans ((drawnC w1 _).mono B1.out.size)⟩
      · obtain rfl : i = 4 := by omega
        obtain ⟨n, rfl⟩ := hwr.out
        have HE := Lib.hid (B1.out.trans ((drawnC w1 n).mono B1.out.size))
        go_wp2
        go_ret
        exact ⟨by rw [hto.out]; rfl, HE.out⟩
  · have hK : hasK6 t.data.toList s = false := by
      unfold hasK6
      rw [show t.data.toList.length = t.size by simp, decide_eq_false h1, Bool.false_and]
    rw [hK]
    by_cases h2 : t.size = 0
    · obtain rfl : t = ⟨#[]⟩ := by
        apply ByteArray.ext
        exact Array.eq_empty_of_size_eq_zero h2
      go_enter Try.func12, Try.ntmps12
      go_wp2
      go_ret
      exact ⟨rfl, Below.refl _ _⟩
    · obtain ⟨hne, hne2⟩ := text_some t (by omega)
      have g2 : ((8192 : Int) < (t.size : Int)) := by omega
      go_enter Try.func12, Try.ntmps12
      go_wp2
      go_ret
      exact ⟨rfl, Below.refl _ _⟩
end Go.Proofs.Ytfphfnpdibehnaa
