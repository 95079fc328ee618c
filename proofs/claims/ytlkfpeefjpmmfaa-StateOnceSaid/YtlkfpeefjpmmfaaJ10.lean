/- Joined: W01r W01s W01t. -/
import Derived.Test.YtlkfpeefjpmmfaaJ08
import Derived.Test.YtlkfpeefjpmmfaaJ02

namespace Go.Proofs.Ytlkfpeefjpmmfaa
open Go.RowKit
set_option linter.unusedVariables false

set_option maxHeartbeats 400000 in
set_option maxRecDepth 100000 in
theorem bad_any {w : World} {b : Nat} {R : Option (List UInt8)} (h : RDE w b R) :
    Calls Try.prog 80 #[.pointer (some ⟨b, 0, none⟩)] w fun e w' => e = .returned (.bool R.isNone) ∧ w = w' := by
  obtain ⟨s, ⟨ht, h0, h1, f0, f1, hz⟩⟩ := h
  go_enter Try.func80, Try.ntmps80
  go_wp2
  go_ret
  exact ⟨rfl, rfl⟩

set_option maxHeartbeats 400000 in
set_option maxRecDepth 100000 in
theorem spoil_any {w : World} {b : Nat} {R : Option (List UInt8)} (h : RDE w b R) :
    Calls Try.prog 77 #[.pointer (some ⟨b, 0, none⟩)] w fun e w' => e = .returned (.tuple #[]) ∧ RDE w' b none ∧ w.grownBy w' (some b) := by
  obtain ⟨s, h⟩ := h
  have hr := Lib.hid (rd_fail h)
  obtain ⟨ht, h0, h1, f0, f1, hz⟩ := h
  go_enter Try.func77, Try.ntmps77
  go_wp2
  go_end0
  exact ⟨rfl, hr.out, fail_grown w b⟩

set_option maxHeartbeats 400000 in
set_option maxRecDepth 100000 in
theorem fail_any {w : World} {b : Nat} {R : Option (List UInt8)} (h : RDE w b R) :
    Calls Try.prog 84 #[.pointer (some ⟨b, 0, none⟩)] w fun e w' => e = .returned (.tuple #[]) ∧ RDE w' b none ∧ w.grownBy w' (some b) := by
  obtain ⟨s, h⟩ := h
  have hr := Lib.hid (rd_fail h)
  obtain ⟨ht, h0, h1, f0, f1, hz⟩ := h
  go_enter Try.func84, Try.ntmps84
  go_wp2
  go_end0
  exact ⟨rfl, hr.out, fail_grown w b⟩

set_option maxHeartbeats 400000 in
set_option maxRecDepth 100000 in
theorem end_any {w : World} {b : Nat} {R : Option (List UInt8)} (h : RDE w b R) :
    Calls Try.prog 64 #[.pointer (some ⟨b, 0, none⟩)] w fun e w' => e = .returned (.bool (endS R)) ∧ w = w' := by
  have hb := bad_any h
  obtain ⟨s, ⟨ht, h0, h1, f0, f1, hz⟩⟩ := h
  cases R with
  | none =>
    go_enter Try.func64, Try.ntmps64
    go_wp2_with fail
    refine hb.mono ?_
    rintro e w' ⟨rfl, rfl⟩
    go_wp2
    go_ret
    exact ⟨rfl, rfl⟩
  | some l =>
    have he := endS_some s l ht
    go_enter Try.func64, Try.ntmps64
    go_wp2_with fail
    refine hb.mono ?_
    rintro e w' ⟨rfl, rfl⟩
    go_wp2
    go_ret
    exact ⟨by rw [he]; rfl, rfl⟩

set_option maxHeartbeats 400000 in
set_option maxRecDepth 100000 in
theorem number_any {w : World} {b : Nat} {R : Option (List UInt8)} (h : RDE w b R) (most : Nat) (hm : U64 most) :
    Calls Try.prog 78 #[.pointer (some ⟨b, 0, none⟩), .int .u64 (most : Int)] w fun e w' => e = .returned (.int .u64 ((numS most R).1 : Int)) ∧ Left w w' b (numS most R).2 := by
  have hbad := bad_any h
  have hE := Lib.hid h
  obtain ⟨s, hR⟩ := h
  have HR := Lib.hid hR
  obtain ⟨ht, h0, h1, f0, f1, hz⟩ := hR
  cases R with
  | none =>
    go_enter Try.func78, Try.ntmps78
    go_wp2_with fail
    refine hbad.mono ?_
    rintro e w' ⟨rfl, rfl⟩
    go_wp2
    go_ret
    exact ⟨rfl, hE.out, grownBy_refl _ _⟩
  | some l =>
    clear ht
    go_enter Try.func78, Try.ntmps78
    go_wp2_with fail
    refine hbad.mono ?_
    rintro e w' ⟨rfl, rfl⟩
    go_wp2_with fail
    refine (get_any _ (by unfold maxLen; omega) _).mono ?_
    rintro e w2 ⟨he, nq, rfl⟩
    have ht : s.data.toList = l := HR.out.text
    rcases he with ⟨n, k, t, hg, htt, rfl⟩ | ⟨hg, rfl⟩
    · rw [ht] at hg htt
      by_cases hn : n ≤ most
      · have HS := Lib.hid (numS_hit hg hn)
        have HT := Lib.hid (rd_set (HR.out.drewN nq) htt (size_drop ht htt))
        clear hg ht htt
        go_wp2
        go_ret
        exact ⟨by rw [HS.out]; rfl, by rw [HS.out]; exact HT.out, grownBy_trans (grownBy_drewN (grownBy_refl w _) nq) (grownBy_set _ ⟨b, 0, none⟩ _)⟩
      · have HS := Lib.hid (numS_great hg hn)
        clear hg ht htt
        go_wp2_with fail
        refine (spoil_any (hE.out.drewN nq)).mono ?_
        rintro e w3 ⟨rfl, hb3, hg3⟩
        go_wp2
        go_ret
        exact ⟨by rw [HS.out]; rfl, by rw [HS.out]; exact hb3, grownBy_trans (grownBy_drewN (grownBy_refl w _) nq) hg3⟩
    · rw [ht] at hg
      have HS := Lib.hid (numS_not (most := most) hg)
      clear hg ht
      go_wp2_with fail
      refine (spoil_any (hE.out.drewN nq)).mono ?_
      rintro e w3 ⟨rfl, hb3, hg3⟩
      go_wp2
      go_ret
      exact ⟨by rw [HS.out]; rfl, by rw [HS.out]; exact hb3, grownBy_trans (grownBy_drewN (grownBy_refl w _) nq) hg3⟩

set_option maxHeartbeats 400000 in
set_option maxRecDepth 100000 in
theorem int_any {w : World} {b : Nat} {R : Option (List UInt8)} (h : RDE w b R) (most : Int) (hm : most ≤ 9223372036854775807) :
    Calls Try.prog 62 #[.pointer (some ⟨b, 0, none⟩), .int .i64 most] w fun e w' => e = .returned (.int .i64 ((intS most R).1 : Int)) ∧ Left w w' b (intS most R).2 := by
  by_cases h0 : most < 0
  · have HS := Lib.hid (intS_neg R h0)
    go_enter Try.func62, Try.ntmps62
    go_wp2_with fail
    refine (spoil_any h).mono ?_
    rintro e w3 ⟨rfl, hb3, hg3⟩
    go_wp2
    go_ret
    exact ⟨by rw [HS.out]; rfl, by rw [HS.out]; exact hb3, hg3⟩
  · obtain ⟨m, rfl⟩ := Int.eq_ofNat_of_zero_le (by omega : 0 ≤ most)
    have HS := Lib.hid (intS_pos R m)
    have hq := numS_le m R
    have hq2 : (((numS m R).1 : Nat) : Int) ≤ 9223372036854775807 := by omega
    clear hq
    go_enter Try.func62, Try.ntmps62
    go_wp2_with fail
    refine (number_any h m (by unfold U64; omega)).mono ?_
    rintro e w3 ⟨rfl, hl⟩
    go_wp2
    go_ret
    exact ⟨by rw [HS.out]; rfl, by rw [HS.out]; exact hl⟩

/-- A text as a value. -/
def tv (l : List UInt8) : Value := .string ⟨l.toArray⟩

set_option maxHeartbeats 400000 in
set_option maxRecDepth 100000 in
theorem take_any {w : World} {b : Nat} {R : Option (List UInt8)} (h : RDE w b R) (n : Int) (hn : n ≤ 9223372036854775807) :
    Calls Try.prog 90 #[.pointer (some ⟨b, 0, none⟩), .int .i64 n] w fun e w' => e = .returned (tv (takeS n R).1) ∧ Left w w' b (takeS n R).2 := by
  have hbad := bad_any h
  have hE := Lib.hid h
  obtain ⟨s, hR⟩ := h
  have HR := Lib.hid hR
  obtain ⟨ht, h0, h1, f0, f1, hz⟩ := hR
  cases R with
  | none =>
    go_enter Try.func90, Try.ntmps90
    go_wp2_with fail
    refine hbad.mono ?_
    rintro e w' ⟨rfl, rfl⟩
    go_wp2
    go_ret
    exact ⟨rfl, hE.out, grownBy_refl _ _⟩
  | some l =>
    have ht' : s.data.toList = l := ht
    have hl := size_of ht'
    by_cases hneg : n < 0
    · have HS := Lib.hid (takeS_neg (l := l) hneg)
      clear ht ht' hl
      go_enter Try.func90, Try.ntmps90
      go_wp2_with fail
      refine hbad.mono ?_
      rintro e w' ⟨rfl, rfl⟩
      go_wp2_with fail
      refine (spoil_any hE.out).mono ?_
      rintro e w3 ⟨rfl, hb3, hg3⟩
      go_wp2
      go_ret
      exact ⟨by rw [HS.out]; rfl, by rw [HS.out]; exact hb3, hg3⟩
    · obtain ⟨m, rfl⟩ := Int.eq_ofNat_of_zero_le (by omega : 0 ≤ n)
      by_cases hmore : s.size < m
      · have HS := Lib.hid (takeS_more (l := l) (n := (m : Int)) (by omega))
        clear ht ht' hl
        go_enter Try.func90, Try.ntmps90
        go_wp2_with fail
        refine hbad.mono ?_
        rintro e w' ⟨rfl, rfl⟩
        go_wp2_with fail
        refine (spoil_any hE.out).mono ?_
        rintro e w3 ⟨rfl, hb3, hg3⟩
        go_wp2
        go_ret
        exact ⟨by rw [HS.out]; rfl, by rw [HS.out]; exact hb3, hg3⟩
      · have HS := Lib.hid (takeS_ok (l := l) (n := m) (by omega))
        have HX := Lib.hid (extract_form ht' m)
        have hxd : (s.extract m s.size).data.toList = l.drop m := by rw [extract_drop, ht']
        have HT := Lib.hid (rd_set HR.out hxd (size_drop ht' hxd))
        clear ht ht' hl hxd
        go_enter Try.func90, Try.ntmps90
        go_wp2_with fail
        refine hbad.mono ?_
        rintro e w' ⟨rfl, rfl⟩
        go_wp2
        go_ret
        exact ⟨by rw [HS.out]; show _ = Ending.returned (.string _); rw [← HX.out]; rfl, by rw [HS.out]; exact HT.out, grownBy_set _ ⟨b, 0, none⟩ _⟩

set_option maxHeartbeats 400000 in
set_option maxRecDepth 100000 in
theorem rtextv_any {w : World} {b : Nat} {R : Option (List UInt8)} (h : RDE w b R) :
    Calls Try.prog 79 #[.pointer (some ⟨b, 0, none⟩)] w fun e w' => e = .returned (tv (textS R).1) ∧ Left w w' b (textS R).2 := by
  have hbad := bad_any h
  have hE := Lib.hid h
  obtain ⟨s, hR⟩ := h
  obtain ⟨ht, h0, h1, f0, f1, hz⟩ := hR
  cases R with
  | none =>
    go_enter Try.func79, Try.ntmps79
    go_wp2_with fail
    refine hbad.mono ?_
    rintro e w' ⟨rfl, rfl⟩
    go_wp2
    go_ret
    exact ⟨rfl, hE.out, grownBy_refl _ _⟩
  | some l =>
    have hl := size_of (show s.data.toList = l from ht)
    have HS := Lib.hid (textS_int l)
    have HL := Lib.hid hl
    clear ht hl
    go_enter Try.func79, Try.ntmps79
    go_wp2_with fail
    refine hbad.mono ?_
    rintro e w' ⟨rfl, rfl⟩
    go_wp2_with fail
    rw [HL.out] at HS
    refine (int_any hE.out _ (by omega)).mono ?_
    rintro e w1 ⟨rfl, hl1⟩
    have hq := numS_le s.size (some l)
    rw [← intS_pos] at hq
    go_wp2_with fail
    refine (take_any hl1.1 _ (by omega)).mono ?_
    rintro e w2 ⟨rfl, hl2⟩
    go_wp2
    go_ret
    exact ⟨by rw [HS.out]; rfl, by rw [HS.out]; exact hl1.trans hl2⟩

end Go.Proofs.Ytlkfpeefjpmmfaa

namespace Go.Proofs.Ytlkfpeefjpmmfaa
open Go.RowKit
set_option linter.unusedVariables false

set_option maxHeartbeats 400000 in
set_option maxRecDepth 100000 in
theorem rend_any {w : World} {b : Nat} {R : Option (List UInt8)} (h : RDE w b R) :
    Calls Try.prog 73 #[.pointer (some ⟨b, 0, none⟩)] w fun e w' => e = .returned (.bool (endS R)) ∧ w = w' := by
  obtain ⟨s, ⟨ht, h0, h1, f0, f1, hz⟩⟩ := h
  cases R with
  | none =>
    go_enter Try.func73, Try.ntmps73
    go_wp2
    go_ret
    exact ⟨rfl, rfl⟩
  | some l =>
    have he := endS_some s l ht
    go_enter Try.func73, Try.ntmps73
    go_wp2
    go_ret
    exact ⟨by rw [he]; rfl, rfl⟩

set_option maxHeartbeats 400000 in
set_option maxRecDepth 100000 in
theorem rnum_any {w : World} {b : Nat} {R : Option (List UInt8)} (h : RDE w b R) :
    Calls Try.prog 83 #[.pointer (some ⟨b, 0, none⟩)] w fun e w' => e = .returned (.int .u64 ((numS 18446744073709551615 R).1 : Int)) ∧ Left w w' b (numS 18446744073709551615 R).2 := by
  have hE := Lib.hid h
  obtain ⟨s, hR⟩ := h
  have HR := Lib.hid hR
  obtain ⟨ht, h0, h1, f0, f1, hz⟩ := hR
  cases R with
  | none =>
    have ht' : s.data.toList = [] := ht
    clear ht
    go_enter Try.func83, Try.ntmps83
    go_wp2_with fail
    refine (rget_any _ (by unfold maxLen; omega) _).mono ?_
    rintro e w1 ⟨he, hb⟩
    rcases he with ⟨n, k, hg, rfl⟩ | ⟨hg, rfl⟩
    · rw [ht'] at hg; cases hg
    · have hE1 := Lib.hid (hE.out.below hb)
      obtain ⟨s1, ⟨_, g0, g1, k0, k1, _⟩⟩ := hE.out.below hb
      clear hg ht'
      go_wp2_with fail
      refine (fail_any hE1.out).mono ?_
      rintro e w3 ⟨rfl, hb3, hg3⟩
      go_wp2
      go_ret
      exact ⟨rfl, hb3, grownBy_trans (grownBy_below _ hb) hg3⟩
  | some l =>
    have ht' : s.data.toList = l := ht
    have HT := Lib.hid ht'
    clear ht ht'
    go_enter Try.func83, Try.ntmps83
    go_wp2_with fail
    refine (rget_any _ (by unfold maxLen; omega) _).mono ?_
    rintro e w1 ⟨he, hb⟩
    have hblt : b < w.heap.size := hE.out.lt
    have hR1 : RD w1 b (some l) s := ⟨HT.out, (hb.cell (p := ⟨b, 0, none⟩) hblt).trans h0, (hb.cell (p := ⟨b, 1, none⟩) hblt).trans h1, (hb.frozen (p := ⟨b, 0, none⟩) hblt).trans f0, (hb.frozen (p := ⟨b, 1, none⟩) hblt).trans f1, hz⟩
    have HR1 := Lib.hid hR1
    obtain ⟨_, g0, g1, k0, k1, _⟩ := hR1
    rcases he with ⟨n, k, hg, rfl⟩ | ⟨hg, rfl⟩
    · rw [HT.out] at hg
      have HS := Lib.hid (numS_top hg)
      obtain ⟨hk1, hk2⟩ := getL_pos hg
      have hk3 : k ≤ s.size := by have := size_of HT.out; omega
      have hxd : (s.extract k s.size).data.toList = l.drop k := by rw [extract_drop, HT.out]
      have HX := Lib.hid (rd_set HR1.out hxd (size_drop HT.out hxd))
      have hk0 : ((k : Int) == 0) = false := by simp; omega
      clear hg hk2 hxd
      go_wp2
      go_ret
      exact ⟨by rw [HS.out]; rfl, by rw [HS.out]; exact HX.out, grownBy_trans (grownBy_below _ hb) (grownBy_set _ ⟨b, 0, none⟩ _)⟩
    · rw [HT.out] at hg
      have HS := Lib.hid (numS_not (most := 18446744073709551615) hg)
      clear hg
      go_wp2_with fail
      refine (fail_any ⟨_, HR1.out⟩).mono ?_
      rintro e w3 ⟨rfl, hb3, hg3⟩
      go_wp2
      go_ret
      exact ⟨by rw [HS.out]; rfl, by rw [HS.out]; exact hb3, grownBy_trans (grownBy_below _ hb) hg3⟩

set_option maxHeartbeats 400000 in
set_option maxRecDepth 100000 in
theorem rtake_any {w : World} {b : Nat} {R : Option (List UInt8)} (h : RDE w b R) (n : Int) (hn : n ≤ 9223372036854775807) :
    Calls Try.prog 85 #[.pointer (some ⟨b, 0, none⟩), .int .i64 n] w fun e w' => e = .returned (tv (takeS n R).1) ∧ Left w w' b (takeS n R).2 := by
  have hE := Lib.hid h
  obtain ⟨s, hR⟩ := h
  have HR := Lib.hid hR
  obtain ⟨ht, h0, h1, f0, f1, hz⟩ := hR
  cases R with
  | none =>
    clear ht
    go_enter Try.func85, Try.ntmps85
    go_wp2_with fail
    refine (fail_any hE.out).mono ?_
    rintro e w3 ⟨rfl, hb3, hg3⟩
    go_wp2
    go_ret
    exact ⟨rfl, hb3, hg3⟩
  | some l =>
    have ht' : s.data.toList = l := ht
    have hl := size_of ht'
    by_cases hneg : n < 0
    · have HS := Lib.hid (takeS_neg (l := l) hneg)
      clear ht ht' hl
      go_enter Try.func85, Try.ntmps85
      go_wp2_with fail
      refine (fail_any hE.out).mono ?_
      rintro e w3 ⟨rfl, hb3, hg3⟩
      go_wp2
      go_ret
      exact ⟨by rw [HS.out]; rfl, by rw [HS.out]; exact hb3, hg3⟩
    · obtain ⟨m, rfl⟩ := Int.eq_ofNat_of_zero_le (by omega : 0 ≤ n)
      by_cases hmore : s.size < m
      · have HS := Lib.hid (takeS_more (l := l) (n := (m : Int)) (by omega))
        clear ht ht' hl
        go_enter Try.func85, Try.ntmps85
        go_wp2_with fail
        refine (fail_any hE.out).mono ?_
        rintro e w3 ⟨rfl, hb3, hg3⟩
        go_wp2
        go_ret
        exact ⟨by rw [HS.out]; rfl, by rw [HS.out]; exact hb3, hg3⟩
      · have HS := Lib.hid (takeS_ok (l := l) (n := m) (by omega))
        have HX := Lib.hid (extract_form ht' m)
        have hxd : (s.extract m s.size).data.toList = l.drop m := by rw [extract_drop, ht']
        have HT := Lib.hid (rd_set HR.out hxd (size_drop ht' hxd))
        clear ht ht' hl hxd
        go_enter Try.func85, Try.ntmps85
        go_wp2
        go_ret
        exact ⟨by rw [HS.out]; show _ = Ending.returned (.string _); rw [← HX.out]; rfl, by rw [HS.out]; exact HT.out, grownBy_set _ ⟨b, 0, none⟩ _⟩

set_option maxHeartbeats 400000 in
set_option maxRecDepth 100000 in
theorem rint2_any {w : World} {b : Nat} {R : Option (List UInt8)} (h : RDE w b R) (most : Int) (hm : most ≤ 9223372036854775807) (hm0 : -9223372036854775808 ≤ most) :
    Calls Try.prog 70 #[.pointer (some ⟨b, 0, none⟩), .int .i64 most] w fun e w' => e = .returned (.int .i64 ((intS most R).1 : Int)) ∧ Left w w' b (intS most R).2 := by
  have hlt := numS_lt R
  have HL := Lib.hid hlt
  clear hlt
  go_enter Try.func70, Try.ntmps70
  go_wp2_with fail
  refine (rnum_any h).mono ?_
  rintro e w1 ⟨rfl, hl⟩
  have hE1 := Lib.hid hl.1
  obtain ⟨s1, ⟨_, g0, g1, k0, k1, _⟩⟩ := hl.1
  have HG := Lib.hid hl.2
  clear hl
  have htop := intS_top most.toNat R
  generalize hQ : numS 18446744073709551615 R = Q at *
  obtain ⟨n, S⟩ := Q
  have hlt := HL.out
  clear HL
  simp only at *
  cases S with
  | none =>
    have HS : Hid (intS most R = (0, none)) := by
      by_cases h0 : most < 0
      · exact intS_neg R h0
      · rw [show ((most.toNat : Nat) : Int) = most by omega] at htop
        show _ = _
        rw [htop, if_pos (.inl rfl)]
    clear htop hQ hlt
    go_wp2_with fail
    refine (fail_any hE1.out).mono ?_
    rintro e w3 ⟨rfl, hb3, hg3⟩
    go_wp2
    go_ret
    exact ⟨by rw [HS.out]; rfl, by rw [HS.out]; exact hb3, grownBy_trans HG.out hg3⟩
  | some r =>
    by_cases h0 : most < 0
    · have HS := Lib.hid (intS_neg R h0)
      clear htop hQ hlt
      go_wp2_with fail
      refine (fail_any hE1.out).mono ?_
      rintro e w3 ⟨rfl, hb3, hg3⟩
      go_wp2
      go_ret
      exact ⟨by rw [HS.out]; rfl, by rw [HS.out]; exact hb3, grownBy_trans HG.out hg3⟩
    · obtain ⟨m, rfl⟩ := Int.eq_ofNat_of_zero_le (by omega : 0 ≤ most)
      rw [Int.toNat_natCast] at htop
      by_cases hgt : m < n
      · rw [if_pos (.inr hgt)] at htop
        have HS := Lib.hid htop
        clear htop hQ hlt
        go_wp2_with fail
        refine (fail_any hE1.out).mono ?_
        rintro e w3 ⟨rfl, hb3, hg3⟩
        go_wp2
        go_ret
        exact ⟨by rw [HS.out]; rfl, by rw [HS.out]; exact hb3, grownBy_trans HG.out hg3⟩
      · rw [if_neg (by simp; omega)] at htop
        have HS := Lib.hid htop
        clear htop hQ hlt
        go_wp2
        go_ret
        exact ⟨by rw [HS.out]; rfl, by rw [HS.out]; exact hE1.out, HG.out⟩
end Go.Proofs.Ytlkfpeefjpmmfaa

namespace Go.Proofs.Ytlkfpeefjpmmfaa
open Go.RowKit
set_option linter.unusedVariables false

set_option maxHeartbeats 400000 in
set_option maxRecDepth 100000 in
theorem read_any (s : ByteArray) (hs : s.size ≤ 140737488351232) (w : World) :
    Calls Try.prog 61 #[.string s] w fun e w' => e = .returned (.pointer (some ⟨w.heap.size, 0, none⟩)) ∧ RDE w' w.heap.size (some s.data.toList) ∧ Below w.heap.size w w' := by
  go_enter Try.func61, Try.ntmps61
  go_wp2
  go_ret
  exact ⟨rfl, ⟨s, rfl, World.cell?_alloc_new _ _ _ _, World.cell?_alloc_new _ _ _ _, World.frozen?_alloc_at _ _ _ _ rfl, World.frozen?_alloc_at _ _ _ _ rfl, hs⟩, (Below.refl _ _).alloc (Nat.le_refl _) _⟩

set_option maxHeartbeats 400000 in
set_option maxRecDepth 100000 in
theorem rtext2_any {w : World} {b : Nat} {R : Option (List UInt8)} (h : RDE w b R) :
    Calls Try.prog 71 #[.pointer (some ⟨b, 0, none⟩)] w fun e w' => e = .returned (tv (textS R).1) ∧ Left w w' b (textS R).2 := by
  have hlt := numS_lt R
  have HL := Lib.hid hlt
  clear hlt
  go_enter Try.func71, Try.ntmps71
  go_wp2_with fail
  refine (rnum_any h).mono ?_
  rintro e w1 ⟨rfl, hl⟩
  have htop := textS_top R
  have hE1 := Lib.hid hl.1
  have HG := Lib.hid hl.2
  generalize hQ : numS 18446744073709551615 R = Q at *
  obtain ⟨n, S⟩ := Q
  have hlt := HL.out
  clear HL
  simp only at *
  obtain ⟨s1, ⟨ht1, g0, g1, k0, k1, hz1⟩⟩ := hl.1
  clear hl
  cases S with
  | none =>
    have HS := Lib.hid htop
    clear htop hQ hlt ht1
    go_wp2_with fail
    refine (fail_any hE1.out).mono ?_
    rintro e w3 ⟨rfl, hb3, hg3⟩
    go_wp2
    go_ret
    exact ⟨by rw [HS.out]; rfl, by rw [HS.out]; exact hb3, grownBy_trans HG.out hg3⟩
  | some r =>
    have hrl : r.length = s1.size := size_of ht1
    simp only at htop
    by_cases hgt : s1.size < n
    · rw [if_pos (by omega)] at htop
      have HS := Lib.hid htop
      have hgt' : ((s1.size : Nat) : Int) < (n : Int) := by omega
      clear htop hQ hlt ht1 hrl
      go_wp2_with fail
      refine (fail_any hE1.out).mono ?_
      rintro e w3 ⟨rfl, hb3, hg3⟩
      go_wp2
      go_ret
      exact ⟨by rw [HS.out]; rfl, by rw [HS.out]; exact hb3, grownBy_trans HG.out hg3⟩
    · rw [if_neg (by omega)] at htop
      have HS := Lib.hid htop
      clear htop hQ hlt ht1 hrl
      go_wp2_with fail
      refine (rtake_any hE1.out _ (by omega)).mono ?_
      rintro e w3 ⟨rfl, hl3⟩
      go_wp2
      go_ret
      exact ⟨by rw [HS.out]; rfl, by rw [HS.out]; exact hl3.1, grownBy_trans HG.out hl3.2⟩

set_option maxHeartbeats 400000 in
set_option maxRecDepth 100000 in
theorem bad_nil (w : World) : Calls Try.prog 80 #[.pointer none] w fun e w' => e = .returned (.bool true) ∧ w = w' := by
  go_enter Try.func80, Try.ntmps80
  go_wp2
  go_ret
  exact ⟨rfl, rfl⟩

set_option maxHeartbeats 400000 in
set_option maxRecDepth 100000 in
theorem end_nil (w : World) : Calls Try.prog 64 #[.pointer none] w fun e w' => e = .returned (.bool false) ∧ w = w' := by
  go_enter Try.func64, Try.ntmps64
  go_wp2_with (go_at_call 80; refine (bad_nil _).mono ?_; rintro e w' ⟨rfl, rfl⟩)
  go_ret
  exact ⟨rfl, rfl⟩

set_option maxHeartbeats 400000 in
set_option maxRecDepth 100000 in
theorem number_nil (m : Int) (w : World) : Calls Try.prog 78 #[.pointer none, .int .u64 m] w fun e w' => e = .returned (.int .u64 0) ∧ w = w' := by
  go_enter Try.func78, Try.ntmps78
  go_wp2_with (go_at_call 80; refine (bad_nil _).mono ?_; rintro e w' ⟨rfl, rfl⟩)
  go_ret
  exact ⟨rfl, rfl⟩

set_option maxHeartbeats 400000 in
set_option maxRecDepth 100000 in
theorem text_nil (w : World) : Calls Try.prog 79 #[.pointer none] w fun e w' => e = .returned (.string ⟨#[]⟩) ∧ w = w' := by
  go_enter Try.func79, Try.ntmps79
  go_wp2_with (go_at_call 80; refine (bad_nil _).mono ?_; rintro e w' ⟨rfl, rfl⟩)
  go_ret
  exact ⟨rfl, rfl⟩

set_option maxHeartbeats 400000 in
set_option maxRecDepth 100000 in
theorem take_nil (n : Int) (w : World) : Calls Try.prog 90 #[.pointer none, .int .i64 n] w fun e w' => e = .returned (.string ⟨#[]⟩) ∧ w = w' := by
  go_enter Try.func90, Try.ntmps90
  go_wp2_with (go_at_call 80; refine (bad_nil _).mono ?_; rintro e w' ⟨rfl, rfl⟩)
  go_ret
  exact ⟨rfl, rfl⟩

set_option maxHeartbeats 400000 in
set_option maxRecDepth 100000 in
theorem int_nil (w : World) : Calls Try.prog 62 #[.pointer none, .int .i64 9] w fun e w' => e = .returned (.int .i64 0) ∧ w = w' := by
  go_enter Try.func62, Try.ntmps62
  go_wp2_with (go_at_call 78; refine (number_nil _ _).mono ?_; rintro e w' ⟨rfl, rfl⟩)
  go_ret
  exact ⟨rfl, rfl⟩

end Go.Proofs.Ytlkfpeefjpmmfaa
