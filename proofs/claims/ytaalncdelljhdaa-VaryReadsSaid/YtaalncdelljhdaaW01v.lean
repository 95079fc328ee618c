/- Layer 1: the walk of VaryReads. -/
import Derived.Test.YtaalncdelljhdaaW01t
import Derived.Deep.CutRange
import Derived.Deep.CutBlock
namespace Go.Proofs.Ytaalncdelljhdaa
open Go.RowKit
set_option linter.unusedVariables false

/-- A slice of pairs of integers that came in. -/
structure Row2 (W : World) (a : Option Addr) (len : Nat) (x y : Nat → Int) : Prop where
  max : len ≤ 4611686018427387903
  wf : ∀ i, i < len → -9223372036854775808 ≤ x i ∧ x i ≤ 9223372036854775807 ∧ -9223372036854775808 ≤ y i ∧ y i ≤ 9223372036854775807
  row : len = 0 ∨ ∃ b off, a = some ⟨b, off, none⟩ ∧ b < W.heap.size ∧ ∀ i, i < len → W.cell? ⟨b, off + i * 2, none⟩ = some (.int .i64 (x i)) ∧ W.cell? ⟨b, off + i * 2 + 1, none⟩ = some (.int .i64 (y i))

theorem Row2.in {W w : World} {a : Option Addr} {len : Nat} {x y : Nat → Int} (h : Row2 W a len x y) (hw : Below W.heap.size W w) {k : Nat} (hk : k < len) :
    ∃ b off, a = some ⟨b, off, none⟩ ∧ w.cell? ⟨b, off + k * 2, none⟩ = some (.int .i64 (x k)) ∧ w.cell? ⟨b, off + k * 2 + 1, none⟩ = some (.int .i64 (y k)) := by
  rcases h.row with h0 | ⟨b, off, ha, hb, hc⟩
  · omega
  · obtain ⟨h1, h2⟩ := hc k hk
    exact ⟨b, off, ha, (hw.cell (p := ⟨b, off + k * 2, none⟩) hb).trans h1, (hw.cell (p := ⟨b, off + k * 2 + 1, none⟩) hb).trans h2⟩

set_option maxHeartbeats 1000000 in
set_option maxRecDepth 100000 in
theorem reads_walk (s : ByteArray) (hs : s.size ≤ 140737488351232) (a : Option Addr) (len cap : Nat) (x y : Nat → Int) (w : World) (h : Row2 w a len x y) :
    Calls Try.prog 4 #[.string s, .slice a len cap] w fun e w' => e = .returned (.bool true) ∧ Below w.heap.size w w' := by
  have hmax := h.max
  go_enter Try.func4, Try.ntmps4
  go_wp2_with fail
  refine (awake_any _).mono ?_
  rintro e w1 ⟨rfl, hb1⟩
  go_wp2_with fail
  refine (read_any _ hs _).mono ?_
  rintro e w2 ⟨rfl, hr2, hb2⟩
  have hr3 : RDE (w2.alloc (.cells #[.string s, .bool false] 36)) w2.heap.size (some s.data.toList) :=
    ⟨s, rfl, World.cell?_alloc_new _ _ _ _, World.cell?_alloc_new _ _ _ _, World.frozen?_alloc_at _ _ _ _ rfl, World.frozen?_alloc_at _ _ _ _ rfl, hs⟩
  have hr2' := hr2.below ((Below.refl _ w2).alloc (Nat.le_refl _) (.cells #[.string s, .bool false] 36))
  have hb3 := (below_next hb1 (Nat.le_refl _) hb2).alloc (below_next hb1 (Nat.le_refl _) hb2).size (.cells #[.string s, .bool false] 36)
  have hlt : w1.heap.size < w2.heap.size := hr2.lt
  have hge : w.heap.size ≤ w1.heap.size := hb1.size
  have HR := Lib.hid hr3
  have HQ := Lib.hid hr2'
  clear hr3 hr2 hr2' hb1 hb2
  go_wp2
  generalize hX : w2.alloc (.cells #[.string s, .bool false] 36) = w3 at *
  generalize w1.heap.size = B1 at *
  generalize w2.heap.size = B2 at *
  clear hX
  go_loopw [19] (fun i wr => ∃ (k : Nat) (R : Option (List UInt8)), k ≤ len ∧ i = .int .i64 (k : Int) ∧ RDE wr B1 R ∧ RDE wr B2 R ∧ Below w.heap.size w wr)
    (fun i _ => len - (intOf i).toNat)
  case atStart => exact ⟨0, _, by omega, rfl, HQ.out, HR.out, hb3⟩
  case round =>
    clear HR HQ hb3
    obtain ⟨k, R, hk, rfl, hr1, hr2, hb⟩ := hrel
    have H1 := Lib.hid hr1
    have H2 := Lib.hid hr2
    clear hr1 hr2
    by_cases hkl : k < len
    · obtain ⟨b, off, rfl, hc1, hc2⟩ := h.in hb hkl
      have hB2 : B2 < wr.heap.size := H2.out.lt
      have hB1 : B1 < wr.heap.size := H1.out.lt
      have K1 := Lib.hid (H1.out.below ((Below.refl _ wr).alloc (Nat.le_refl _) (.cells #[.int .i64 (x k), .int .i64 (y k)] 38)))
      have K2 := Lib.hid (H2.out.below ((Below.refl _ wr).alloc (Nat.le_refl _) (.cells #[.int .i64 (x k), .int .i64 (y k)] 38)))
      have Kb := Lib.hid (hb.alloc hb.size (.cells #[.int .i64 (x k), .int .i64 (y k)] 38))
      have hy := h.wf k hkl
      clear H1 H2
      go_upto_block 2 with (fail)
      have hc4 : (wr.alloc (.cells #[.int .i64 (x k), .int .i64 (y k)] 38)).cell? ⟨wr.heap.size, 1, none⟩ = some (.int .i64 (y k)) := World.cell?_alloc_new _ _ _ _
      clear hc1 hc2
      generalize wr.alloc (.cells #[.int .i64 (x k), .int .i64 (y k)] 38) = w4 at *
      generalize wr.heap.size = C at *
      generalize x k = X at *
      generalize y k = Y at *
      obtain ⟨_, _, hy1, hy2⟩ := hy
      go_cut [19] from 19 to 75 (fun i wx => i = .int .i64 (k : Int) ∧ ∃ R', RDE wx B1 R' ∧ RDE wx B2 R' ∧ Below w.heap.size w wx)
      case first =>
        have h4 : w.heap.size ≤ w4.heap.size := Kb.out.size
        by_cases k0 : X = 0
        · have k0' : (X == 0) = true := by simp [k0]
          clear k0 hc4
          go_wp2_with fail
          refine (num_any K1.out).mono ?_
          rintro e w4 ⟨rfl, hl1⟩
          have hl2 := hl1.other K2.out (by omega)
          go_wp2_with fail
          refine (rnum_any hl2).mono ?_
          rintro e w5 ⟨rfl, hl3⟩
          have e1 := hl1.below h4 (by omega)
          have e2 := hl3.below (Nat.le_trans h4 e1.size) (by omega)
          go_wp2_with fail
          go_meet
          exact ⟨rfl, _, hl3.other hl1.1 (by omega), hl3.1, (Kb.out.trans e1).trans e2⟩
        · have k0' : (X == 0) = false := by simp [k0]
          by_cases k1 : X = 1
          · have k1' : (X == 1) = true := by simp [k1]
            clear k0 k1
            go_wp2_with fail
            go_region_with (first
              | (go_at_call 20; refine (int_any (R := R) (by first | exact K1.out | exact K1.out.drew) _ hy2).mono ?_; rintro e wA ⟨rfl, hA⟩; have cA := hA.cell (c := C) (j := 1) (v := .int .i64 Y) (by first | exact hc4 | simpa using hc4) (by omega); have hA2 := hA.other (c := B2) (S := R) (by first | exact K2.out | exact K2.out.drew) (by omega); have bA : Below w.heap.size w wA := (by first | exact Kb.out.trans (hA.below h4 (by omega)) | exact Kb.out.drew.trans (hA.below h4 (by omega))))
              | (go_at_call 21; refine (rint2_any (R := R) (by first | exact hA2 | exact hA2.drew) _ hy2 hy1).mono ?_; rintro e wB ⟨rfl, hB⟩))
            all_goals go_wp2_with fail
            all_goals go_meet
            all_goals exact ⟨rfl, _, hB.other hA.1 (by omega), hB.1, bA.trans (hB.below bA.size (by omega))⟩
          · have k1' : (X == 1) = false := by simp [k1]
            by_cases k2 : X = 2
            · have k2' : (X == 2) = true := by simp [k2]
              clear k0 k1 k2
              obtain ⟨T, hT⟩ : ∃ T : ByteArray, tv (takeS Y R).1 = .string T := ⟨_, rfl⟩
              go_wp2_with fail
              go_region_with (first
                | (go_at_call 22; refine (take_any (R := R) (by first | exact K1.out | exact K1.out.drew) _ hy2).mono ?_; rintro e wA ⟨rfl, hA⟩; rw [hT]; have cA := hA.cell (c := C) (j := 1) (v := .int .i64 Y) (by first | exact hc4 | simpa using hc4) (by omega); have hA2 := hA.other (c := B2) (S := R) (by first | exact K2.out | exact K2.out.drew) (by omega); have bA : Below w.heap.size w wA := (by first | exact Kb.out.trans (hA.below h4 (by omega)) | exact Kb.out.drew.trans (hA.below h4 (by omega))))
                | (go_at_call 23; refine (rtake_any (R := R) (by first | exact hA2 | exact hA2.drew) _ hy2).mono ?_; rintro e wB ⟨rfl, hB⟩; rw [hT]))
              all_goals go_wp2_with fail
              all_goals go_meet
              all_goals exact ⟨rfl, _, hB.other hA.1 (by omega), hB.1, bA.trans (hB.below bA.size (by omega))⟩
            · have k2' : (X == 2) = false := by simp [k2]
              by_cases k3 : X = 3
              · have k3' : (X == 3) = true := by simp [k3]
                clear k0 k1 k2 k3 hc4
                obtain ⟨T, hT⟩ : ∃ T : ByteArray, tv (textS R).1 = .string T := ⟨_, rfl⟩
                go_wp2_with fail
                refine (rtextv_any K1.out).mono ?_
                rintro e w4 ⟨rfl, hl1⟩
                rw [hT]
                have hl2 := hl1.other K2.out (by omega)
                go_wp2_with fail
                refine (rtext2_any hl2).mono ?_
                rintro e w5 ⟨rfl, hl3⟩
                rw [hT]
                have e1 := hl1.below h4 (by omega)
                have e2 := hl3.below (Nat.le_trans h4 e1.size) (by omega)
                go_wp2_with fail
                go_meet
                exact ⟨rfl, _, hl3.other hl1.1 (by omega), hl3.1, (Kb.out.trans e1).trans e2⟩
              · have k3' : (X == 3) = false := by simp [k3]
                clear k0 k1 k2 k3 hc4
                go_wp2_with fail
                go_meet
                exact ⟨rfl, R, K1.out, K2.out, Kb.out⟩
      case rest =>
        obtain ⟨rfl, R', j1, j2, j3⟩ := hcut
        go_wp2_with fail
        have J1 := Lib.hid j1
        have J2 := Lib.hid j2
        obtain ⟨s2, ⟨_, g0, g1, _, _, _⟩⟩ := j2
        go_region_with (first
          | (go_at_call 26; refine (bad_any (R := R') (by first | exact J1.out | exact J1.out.drew)).mono ?_; rintro e wA ⟨rfl, rfl⟩)
          | (go_at_call 27; refine (end_any (R := R') (by first | exact J1.out | exact J1.out.drew)).mono ?_; rintro e wA ⟨rfl, rfl⟩)
          | (go_at_call 28; refine (rend_any (R := R') (by first | exact J2.out | exact J2.out.drew)).mono ?_; rintro e wA ⟨rfl, rfl⟩))
        all_goals go_wp2
        all_goals
          go_roundw
          case rel => exact ⟨k + 1, R', by omega, by go_num, J1.out.drew, J2.out.drew, j3.drew⟩
          case measure => simp [intOf]; omega
    · obtain rfl : k = len := by omega
      go_wp2_with fail
      refine (bad_nil _).mono ?_
      rintro e w4 ⟨rfl, rfl⟩
      go_wp2_with fail
      refine (end_nil _).mono ?_
      rintro e w4 ⟨rfl, rfl⟩
      go_wp2_with fail
      refine (num_nil _).mono ?_
      rintro e w4 ⟨rfl, rfl⟩
      go_wp2_with fail
      refine (text_nil _).mono ?_
      rintro e w4 ⟨rfl, rfl⟩
      go_wp2_with fail
      refine (take_nil _ _).mono ?_
      rintro e w4 ⟨rfl, rfl⟩
      go_wp2_with fail
      refine (int_nil _).mono ?_
      rintro e w4 ⟨rfl, rfl⟩
      go_wp2
      go_ret
      exact ⟨rfl, hb⟩
end Go.Proofs.Ytaalncdelljhdaa
