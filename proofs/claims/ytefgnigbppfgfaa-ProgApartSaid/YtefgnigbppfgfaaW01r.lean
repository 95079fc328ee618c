/- Layer 1: contracts of the reader's calls. -/
import Derived.Test.YtefgnigbppfgfaaW01c
import Derived.Test.YtefgnigbppfgfaaM01r
namespace Go.Proofs.Ytefgnigbppfgfaa
open Go.RowKit
set_option linter.unusedVariables false

set_option maxHeartbeats 400000 in
set_option maxRecDepth 100000 in
theorem bad_any {w : World} {b : Nat} {R : Option (List UInt8)} (h : RDE w b R) :
    Calls Try.prog 41 #[.pointer (some ⟨b, 0, none⟩)] w fun e w' => e = .returned (.bool R.isNone) ∧ w = w' := by
  obtain ⟨s, ⟨ht, h0, h1, f0, f1, hz⟩⟩ := h
  go_enter Try.func41, Try.ntmps41
  go_wp2
  go_ret
  exact ⟨rfl, rfl⟩

set_option maxHeartbeats 400000 in
set_option maxRecDepth 100000 in
theorem spoil_any {w : World} {b : Nat} {R : Option (List UInt8)} (h : RDE w b R) :
    Calls Try.prog 38 #[.pointer (some ⟨b, 0, none⟩)] w fun e w' => e = .returned (.tuple #[]) ∧ RDE w' b none ∧ w.grownBy w' (some b) := by
  obtain ⟨s, h⟩ := h
  have hr := Lib.hid (rd_fail h)
  obtain ⟨ht, h0, h1, f0, f1, hz⟩ := h
  go_enter Try.func38, Try.ntmps38
  go_wp2
  go_end0
  exact ⟨rfl, hr.out, fail_grown w b⟩

set_option maxHeartbeats 400000 in
set_option maxRecDepth 100000 in
theorem fail_any {w : World} {b : Nat} {R : Option (List UInt8)} (h : RDE w b R) :
    Calls Try.prog 43 #[.pointer (some ⟨b, 0, none⟩)] w fun e w' => e = .returned (.tuple #[]) ∧ RDE w' b none ∧ w.grownBy w' (some b) := by
  obtain ⟨s, h⟩ := h
  have hr := Lib.hid (rd_fail h)
  obtain ⟨ht, h0, h1, f0, f1, hz⟩ := h
  go_enter Try.func43, Try.ntmps43
  go_wp2
  go_end0
  exact ⟨rfl, hr.out, fail_grown w b⟩

set_option maxHeartbeats 400000 in
set_option maxRecDepth 100000 in
theorem end_any {w : World} {b : Nat} {R : Option (List UInt8)} (h : RDE w b R) :
    Calls Try.prog 26 #[.pointer (some ⟨b, 0, none⟩)] w fun e w' => e = .returned (.bool (endS R)) ∧ w = w' := by
  have hb := bad_any h
  obtain ⟨s, ⟨ht, h0, h1, f0, f1, hz⟩⟩ := h
  cases R with
  | none =>
    go_enter Try.func26, Try.ntmps26
    go_wp2_with fail
    refine hb.mono ?_
    rintro e w' ⟨rfl, rfl⟩
    go_wp2
    go_ret
    exact ⟨rfl, rfl⟩
  | some l =>
    have he := endS_some s l ht
    go_enter Try.func26, Try.ntmps26
    go_wp2_with fail
    refine hb.mono ?_
    rintro e w' ⟨rfl, rfl⟩
    go_wp2
    go_ret
    exact ⟨by rw [he]; rfl, rfl⟩

set_option maxHeartbeats 400000 in
set_option maxRecDepth 100000 in
theorem number_any {w : World} {b : Nat} {R : Option (List UInt8)} (h : RDE w b R) (most : Nat) (hm : U64 most) :
    Calls Try.prog 39 #[.pointer (some ⟨b, 0, none⟩), .int .u64 (most : Int)] w fun e w' => e = .returned (.int .u64 ((numS most R).1 : Int)) ∧ Left w w' b (numS most R).2 := by
  have hbad := bad_any h
  have hE := Lib.hid h
  obtain ⟨s, hR⟩ := h
  have HR := Lib.hid hR
  obtain ⟨ht, h0, h1, f0, f1, hz⟩ := hR
  cases R with
  | none =>
    go_enter Try.func39, Try.ntmps39
    go_wp2_with fail
    refine hbad.mono ?_
    rintro e w' ⟨rfl, rfl⟩
    go_wp2
    go_ret
    exact ⟨rfl, hE.out, grownBy_refl _ _⟩
  | some l =>
    clear ht
    go_enter Try.func39, Try.ntmps39
    go_wp2_with fail
    refine hbad.mono ?_
    rintro e w' ⟨rfl, rfl⟩
    go_wp2_with fail
    refine (get_any _ (by unfold maxLen; omega) _).mono ?_
    rintro e w2 ⟨he, nq, rfl⟩
    have ht : s.data.toList = l := HR.out.text
    rcases he with ⟨n, k, t, hg, htt, rfl⟩ | ⟨hg, rfl⟩
    · rw [ht] at hg htt
      by_cases hn : n ≤ most
      · have HS := Lib.hid (numS_hit hg hn)
        have HT := Lib.hid (rd_set (HR.out.drewN nq) htt (size_drop ht htt))
        clear hg ht htt
        go_wp2
        go_ret
        exact ⟨by rw [HS.out]; rfl, by rw [HS.out]; exact HT.out, grownBy_trans (grownBy_drewN (grownBy_refl w _) nq) (grownBy_set _ ⟨b, 0, none⟩ _)⟩
      · have HS := Lib.hid (numS_great hg hn)
        clear hg ht htt
        go_wp2_with fail
        refine (spoil_any (hE.out.drewN nq)).mono ?_
        rintro e w3 ⟨rfl, hb3, hg3⟩
        go_wp2
        go_ret
        exact ⟨by rw [HS.out]; rfl, by rw [HS.out]; exact hb3, grownBy_trans (grownBy_drewN (grownBy_refl w _) nq) hg3⟩
    · rw [ht] at hg
      have HS := Lib.hid (numS_not (most := most) hg)
      clear hg ht
      go_wp2_with fail
      refine (spoil_any (hE.out.drewN nq)).mono ?_
      rintro e w3 ⟨rfl, hb3, hg3⟩
      go_wp2
      go_ret
      exact ⟨by rw [HS.out]; rfl, by rw [HS.out]; exact hb3, grownBy_trans (grownBy_drewN (grownBy_refl w _) nq) hg3⟩

set_option maxHeartbeats 400000 in
set_option maxRecDepth 100000 in
theorem int_any {w : World} {b : Nat} {R : Option (List UInt8)} (h : RDE w b R) (most : Int) (hm : most ≤ 9223372036854775807) :
    Calls Try.prog 24 #[.pointer (some ⟨b, 0, none⟩), .int .i64 most] w fun e w' => e = .returned (.int .i64 ((intS most R).1 : Int)) ∧ Left w w' b (intS most R).2 := by
  by_cases h0 : most < 0
  · have HS := Lib.hid (intS_neg R h0)
    go_enter Try.func24, Try.ntmps24
    go_wp2_with fail
    refine (spoil_any h).mono ?_
    rintro e w3 ⟨rfl, hb3, hg3⟩
    go_wp2
    go_ret
    exact ⟨by rw [HS.out]; rfl, by rw [HS.out]; exact hb3, hg3⟩
  · obtain ⟨m, rfl⟩ := Int.eq_ofNat_of_zero_le (by omega : 0 ≤ most)
    have HS := Lib.hid (intS_pos R m)
    have hq := numS_le m R
    have hq2 : (((numS m R).1 : Nat) : Int) ≤ 9223372036854775807 := by omega
    clear hq
    go_enter Try.func24, Try.ntmps24
    go_wp2_with fail
    refine (number_any h m (by unfold U64; omega)).mono ?_
    rintro e w3 ⟨rfl, hl⟩
    go_wp2
    go_ret
    exact ⟨by rw [HS.out]; rfl, by rw [HS.out]; exact hl⟩

/-- A text as a value. -/
def tv (l : List UInt8) : Value := .string ⟨l.toArray⟩

set_option maxHeartbeats 400000 in
set_option maxRecDepth 100000 in
theorem take_any {w : World} {b : Nat} {R : Option (List UInt8)} (h : RDE w b R) (n : Int) (hn : n ≤ 9223372036854775807) :
    Calls Try.prog 46 #[.pointer (some ⟨b, 0, none⟩), .int .i64 n] w fun e w' => e = .returned (tv (takeS n R).1) ∧ Left w w' b (takeS n R).2 := by
  have hbad := bad_any h
  have hE := Lib.hid h
  obtain ⟨s, hR⟩ := h
  have HR := Lib.hid hR
  obtain ⟨ht, h0, h1, f0, f1, hz⟩ := hR
  cases R with
  | none =>
    go_enter Try.func46, Try.ntmps46
    go_wp2_with fail
    refine hbad.mono ?_
    rintro e w' ⟨rfl, rfl⟩
    go_wp2
    go_ret
    exact ⟨rfl, hE.out, grownBy_refl _ _⟩
  | some l =>
    have ht' : s.data.toList = l := ht
    have hl := size_of ht'
    by_cases hneg : n < 0
    · have HS := Lib.hid (takeS_neg (l := l) hneg)
      clear ht ht' hl
      go_enter Try.func46, Try.ntmps46
      go_wp2_with fail
      refine hbad.mono ?_
      rintro e w' ⟨rfl, rfl⟩
      go_wp2_with fail
      refine (spoil_any hE.out).mono ?_
      rintro e w3 ⟨rfl, hb3, hg3⟩
      go_wp2
      go_ret
      exact ⟨by rw [HS.out]; rfl, by rw [HS.out]; exact hb3, hg3⟩
    · obtain ⟨m, rfl⟩ := Int.eq_ofNat_of_zero_le (by omega : 0 ≤ n)
      by_cases hmore : s.size < m
      · have HS := Lib.hid (takeS_more (l := l) (n := (m : Int)) (by omega))
        clear ht ht' hl
        go_enter Try.func46, Try.ntmps46
        go_wp2_with fail
        refine hbad.mono ?_
        rintro e w' ⟨rfl, rfl⟩
        go_wp2_with fail
        refine (spoil_any hE.out).mono ?_
        rintro e w3 ⟨rfl, hb3, hg3⟩
        go_wp2
        go_ret
        exact ⟨by rw [HS.out]; rfl, by rw [HS.out]; exact hb3, hg3⟩
      · have HS := Lib.hid (takeS_ok (l := l) (n := m) (by omega))
        have HX := Lib.hid (extract_form ht' m)
        have hxd : (s.extract m s.size).data.toList = l.drop m := by rw [extract_drop, ht']
        have HT := Lib.hid (rd_set HR.out hxd (size_drop ht' hxd))
        clear ht ht' hl hxd
        go_enter Try.func46, Try.ntmps46
        go_wp2_with fail
        refine hbad.mono ?_
        rintro e w' ⟨rfl, rfl⟩
        go_wp2
        go_ret
        exact ⟨by rw [HS.out]; show _ = Ending.returned (.string _); rw [← HX.out]; rfl, by rw [HS.out]; exact HT.out, grownBy_set _ ⟨b, 0, none⟩ _⟩

set_option maxHeartbeats 400000 in
set_option maxRecDepth 100000 in
theorem rtextv_any {w : World} {b : Nat} {R : Option (List UInt8)} (h : RDE w b R) :
    Calls Try.prog 40 #[.pointer (some ⟨b, 0, none⟩)] w fun e w' => e = .returned (tv (textS R).1) ∧ Left w w' b (textS R).2 := by
  have hbad := bad_any h
  have hE := Lib.hid h
  obtain ⟨s, hR⟩ := h
  obtain ⟨ht, h0, h1, f0, f1, hz⟩ := hR
  cases R with
  | none =>
    go_enter Try.func40, Try.ntmps40
    go_wp2_with fail
    refine hbad.mono ?_
    rintro e w' ⟨rfl, rfl⟩
    go_wp2
    go_ret
    exact ⟨rfl, hE.out, grownBy_refl _ _⟩
  | some l =>
    have hl := size_of (show s.data.toList = l from ht)
    have HS := Lib.hid (textS_int l)
    have HL := Lib.hid hl
    clear ht hl
    go_enter Try.func40, Try.ntmps40
    go_wp2_with fail
    refine hbad.mono ?_
    rintro e w' ⟨rfl, rfl⟩
    go_wp2_with fail
    rw [HL.out] at HS
    refine (int_any hE.out _ (by omega)).mono ?_
    rintro e w1 ⟨rfl, hl1⟩
    have hq := numS_le s.size (some l)
    rw [← intS_pos] at hq
    go_wp2_with fail
    refine (take_any hl1.1 _ (by omega)).mono ?_
    rintro e w2 ⟨rfl, hl2⟩
    go_wp2
    go_ret
    exact ⟨by rw [HS.out]; rfl, by rw [HS.out]; exact hl1.trans hl2⟩

end Go.Proofs.Ytefgnigbppfgfaa
