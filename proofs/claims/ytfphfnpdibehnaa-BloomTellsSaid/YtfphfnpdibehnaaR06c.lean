/- Layer 6: the contract of the reference's Has. -/
import Derived.Test.YtfphfnpdibehnaaR06b
import Derived.Deep.QuietTactic
import Derived.BigQuiet
import Derived.IntWalk
namespace Go.Proofs.Ytfphfnpdibehnaa
open Go.RowKit
set_option linter.unusedVariables false

theorem bit_even (x r : Nat) : (((x : Int) / 2 ^ r).tmod 2 == 0) = !x.testBit r := by
  have e : ((x : Int) / 2 ^ r).tmod 2 = ((x / 2 ^ r % 2 : Nat) : Int) := by
    have e1 : ((x : Int) / 2 ^ r) = ((x / 2 ^ r : Nat) : Int) := by rw [Int.natCast_ediv, Int.natCast_pow]; rfl
    rw [e1, Int.tmod_eq_emod_of_nonneg (Int.natCast_nonneg _), Int.natCast_emod]
    rfl
  rw [e, Nat.testBit_eq_decide_div_mod_eq]
  have hm : x / 2 ^ r % 2 < 2 := Nat.mod_lt _ (by omega)
  generalize x / 2 ^ r % 2 = m at *
  match m, hm with
  | 0, _ => rfl
  | 1, _ => rfl
theorem hasBit_at {t : ByteArray} {k q r : Nat} (hq : k / 8 = q) (hr : k % 8 = r) (h : q < t.size) : hasBit t.data.toList k = t[q].toNat.testBit r := by
  unfold hasBit
  rw [hq, hr]
  have : t.data.toList.getD q 0 = t[q] := by
    have h' : q < t.data.toList.length := by simpa using h
    simp only [List.getD, List.getElem?_eq_getElem h', Option.getD_some]
    simp
    rfl
  rw [this]
theorem drawnC (w : World) (n : Nat) : Below w.heap.size w (w.drewN n) := below_drewN (Below.refl _ w) n

set_option maxHeartbeats 1000000 in
set_option maxRecDepth 100000 in
theorem rhas_any (t s : ByteArray) (ht : t.size ≤ maxLen) (hs : s.size ≤ maxLen) (w : World) :
    Calls Try.prog 13 #[.string t, .string s] w fun e w' => e = .returned (.bool (hasK6 t.data.toList s)) ∧ Below w.heap.size w w' := by
  have hm : t.size ≤ 9223372036854775807 := by unfold maxLen at ht; omega
  by_cases h1 : 1 ≤ t.size ∧ t.size ≤ 8192
  · have hK : hasK6 t.data.toList s = hasTo t.data.toList s 4 := by
      unfold hasK6
      rw [show t.data.toList.length = t.size by simp, decide_eq_true h1, Bool.true_and]
    rw [hK]
    obtain ⟨h1, h2⟩ := h1
    have hcall := fun w => rbits_any s hs t.size (by omega) h2 w
    have hlt8 := bitK_lt s (n := t.size) (by omega)
    have HT : Hid (∀ i, hasTo t.data.toList s (i + 1) = (hasTo t.data.toList s i && hasBit t.data.toList (bitK s t.size i))) := fun i => by
      have := hasTo_next t.data.toList s i
      rwa [show t.data.toList.length = t.size by simp] at this
    generalize bitK s t.size = f at *
    go_enter Try.func13, Try.ntmps13
    clear hK
    go_wp2_with fail
    refine (hcall _).mono ?_
    rintro e w1 ⟨rfl, b1⟩
    have B1 := Lib.hid b1
    clear b1
    have hnw := heap_alloc_new w1 (.cells (four f) 46)
    have hbw : Below w1.heap.size w1 (w1.alloc (.cells (four f) 46)) := (Below.refl _ w1).alloc (Nat.le_refl _) _
    have HNW := Lib.hid hnw
    have HBW := Lib.hid (B1.out.trans (hbw.mono B1.out.size))
    clear hnw hbw
    unfold four at HNW HBW
    unfold four
    go_wp2
    generalize w1.alloc (.cells #[.int .i64 (f 0 : Nat), .int .i64 (f 1 : Nat), .int .i64 (f 2 : Nat), .int .i64 (f 3 : Nat)] 46) = W1 at *
    go_loopw [6] (fun iv wr => ∃ i : Nat, i ≤ 4 ∧ iv = .int .i64 (i : Int) ∧ Hid (hasTo t.data.toList s i = true) ∧ ∃ n, wr = W1.drewN n) (fun iv _ => 4 - (intOf iv).toNat)
    case atStart => exact ⟨0, by omega, rfl, (by show hasTo t.data.toList s 0 = true; unfold hasTo; rfl), 0, rfl⟩
    case round =>
      obtain ⟨i, hi, rfl, hto, n, rfl⟩ := hrel
      by_cases hlt : i < 4
      · have c0 : W1.cell? ⟨w1.heap.size, i, none⟩ = some (.int .i64 (f i : Nat)) := by rw [block_cell HNW.out]; exact four_at f hlt
        have hf := hlt8 i
        have HN := Lib.hid (HT.out i)
        generalize f i = k at *
        obtain ⟨q, hq⟩ : ∃ q, k / 8 = q := ⟨_, rfl⟩
        obtain ⟨r, hr⟩ : ∃ r, k % 8 = r := ⟨_, rfl⟩
        have d1 : ((k : Int).tdiv 8) = (q : Int) := by rw [Int.tdiv_eq_ediv_of_nonneg (by omega)]; omega
        have d2 : ((k : Int) / 8) = (q : Int) := by omega
        have d3 : wrap64 (q : Int) = (q : Int) := IntWalk.wrap64_in _ (by omega)
        have d4 : ((k : Int).tmod 8) = (r : Int) := by rw [Int.tmod_eq_emod_of_nonneg (by omega)]; omega
        have d5 : ((k : Int) % 8) = (r : Int) := by omega
        have hq1 : (0 : Int) ≤ (q : Int) := by omega
        have hq2 : (q : Int) < (t.size : Int) := by omega
        have hr1 : (0 : Int) ≤ (r : Int) := by omega
        have hr2 : (r : Int) ≤ 8 := by omega
        have HQ := Lib.hid hq
        have HR := Lib.hid hr
        clear hq hr hf
        have hqn : q < t.size := by omega
        have hbit := hasBit_at HQ.out HR.out hqn
        have hev := bit_even t[q].toNat r
        have HNX : Hid (t[q].toNat.testBit r = true → hasTo t.data.toList s (i + 1) = true) := fun e => by rw [HN.out, hto.out, hbit, e]; rfl
        have HNO : Hid (t[q].toNat.testBit r = false → hasTo t.data.toList s 4 = false) := fun e => by
          have e1 : hasTo t.data.toList s (i + 1) = false := by rw [HN.out, hbit, e, Bool.and_false]
          cases h4 : hasTo t.data.toList s 4 with
          | false => rfl
          | true =>
            have := (hasTo_iff t.data.toList s (i + 1)).2 (fun j hj => (hasTo_iff t.data.toList s 4).1 h4 j (by omega))
            rw [e1] at this; cases this
        clear hbit HN
        go_wp2_with fail
        go_quiet (fail)
        cases htb : t[q].toNat.testBit r with
        | true =>
          have HA := Lib.hid (HNX.out htb)
          clear hev HNX HNO htb
          go_wp2
          go_roundw
          case rel => exact ⟨i + 1, by omega, by go_num, HA.out, _, rfl⟩
          case measure => simp [intOf]; omega
        | false =>
          have HA := Lib.hid (HNO.out htb)
          clear hev HNX HNO htb
          go_wp2
          go_ret
          exact ⟨by rw [HA.out]; rfl, by rw [World.drewN_drewN]; exact HBW.out.trans ((drawnC W1 _).mono HBW.out.size)⟩
      · obtain rfl : i = 4 := by omega
        have HE := Lib.hid (HBW.out.trans ((drawnC W1 n).mono HBW.out.size))
        go_wp2
        go_ret
        exact ⟨by rw [hto.out]; rfl, HE.out⟩
  · have hK : hasK6 t.data.toList s = false := by
      unfold hasK6
      rw [show t.data.toList.length = t.size by simp, decide_eq_false h1, Bool.false_and]
    rw [hK]
    by_cases h2 : t.size < 1
    · have g : ((t.size : Int) < 1) := by omega
      go_enter Try.func13, Try.ntmps13
      go_wp2
      go_ret
      exact ⟨rfl, Below.refl _ _⟩
    · have g : ¬ ((t.size : Int) < 1) := by omega
      have g2 : ((8192 : Int) < (t.size : Int)) := by omega
      go_enter Try.func13, Try.ntmps13
      go_wp2
      go_ret
      exact ⟨rfl, Below.refl _ _⟩
end Go.Proofs.Ytfphfnpdibehnaa
