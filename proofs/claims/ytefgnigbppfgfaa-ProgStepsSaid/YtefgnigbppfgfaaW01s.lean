/- Layer 1: contracts of the reference's reader's calls; of Read; of the calls of a nil reader. -/
import Derived.Test.YtefgnigbppfgfaaW01r
import Derived.Test.YtefgnigbppfgfaaR01c
namespace Go.Proofs.Ytefgnigbppfgfaa
open Go.RowKit
set_option linter.unusedVariables false

set_option maxHeartbeats 400000 in
set_option maxRecDepth 100000 in
theorem rend_any {w : World} {b : Nat} {R : Option (List UInt8)} (h : RDE w b R) :
    Calls Try.prog 29 #[.pointer (some ⟨b, 0, none⟩)] w fun e w' => e = .returned (.bool (endS R)) ∧ w = w' := by
  obtain ⟨s, ⟨ht, h0, h1, f0, f1, hz⟩⟩ := h
  cases R with
  | none =>
    go_enter Try.func29, Try.ntmps29
    go_wp2
    go_ret
    exact ⟨rfl, rfl⟩
  | some l =>
    have he := endS_some s l ht
    go_enter Try.func29, Try.ntmps29
    go_wp2
    go_ret
    exact ⟨by rw [he]; rfl, rfl⟩

set_option maxHeartbeats 400000 in
set_option maxRecDepth 100000 in
theorem rnum_any {w : World} {b : Nat} {R : Option (List UInt8)} (h : RDE w b R) :
    Calls Try.prog 42 #[.pointer (some ⟨b, 0, none⟩)] w fun e w' => e = .returned (.int .u64 ((numS 18446744073709551615 R).1 : Int)) ∧ Left w w' b (numS 18446744073709551615 R).2 := by
  have hE := Lib.hid h
  obtain ⟨s, hR⟩ := h
  have HR := Lib.hid hR
  obtain ⟨ht, h0, h1, f0, f1, hz⟩ := hR
  cases R with
  | none =>
    have ht' : s.data.toList = [] := ht
    clear ht
    go_enter Try.func42, Try.ntmps42
    go_wp2_with fail
    refine (rget_any _ (by unfold maxLen; omega) _).mono ?_
    rintro e w1 ⟨he, hb⟩
    rcases he with ⟨n, k, hg, rfl⟩ | ⟨hg, rfl⟩
    · rw [ht'] at hg; cases hg
    · have hE1 := Lib.hid (hE.out.below hb)
      obtain ⟨s1, ⟨_, g0, g1, k0, k1, _⟩⟩ := hE.out.below hb
      clear hg ht'
      go_wp2_with fail
      refine (fail_any hE1.out).mono ?_
      rintro e w3 ⟨rfl, hb3, hg3⟩
      go_wp2
      go_ret
      exact ⟨rfl, hb3, grownBy_trans (grownBy_below _ hb) hg3⟩
  | some l =>
    have ht' : s.data.toList = l := ht
    have HT := Lib.hid ht'
    clear ht ht'
    go_enter Try.func42, Try.ntmps42
    go_wp2_with fail
    refine (rget_any _ (by unfold maxLen; omega) _).mono ?_
    rintro e w1 ⟨he, hb⟩
    have hblt : b < w.heap.size := hE.out.lt
    have hR1 : RD w1 b (some l) s := ⟨HT.out, (hb.cell (p := ⟨b, 0, none⟩) hblt).trans h0, (hb.cell (p := ⟨b, 1, none⟩) hblt).trans h1, (hb.frozen (p := ⟨b, 0, none⟩) hblt).trans f0, (hb.frozen (p := ⟨b, 1, none⟩) hblt).trans f1, hz⟩
    have HR1 := Lib.hid hR1
    obtain ⟨_, g0, g1, k0, k1, _⟩ := hR1
    rcases he with ⟨n, k, hg, rfl⟩ | ⟨hg, rfl⟩
    · rw [HT.out] at hg
      have HS := Lib.hid (numS_top hg)
      obtain ⟨hk1, hk2⟩ := getL_pos hg
      have hk3 : k ≤ s.size := by have := size_of HT.out; omega
      have hxd : (s.extract k s.size).data.toList = l.drop k := by rw [extract_drop, HT.out]
      have HX := Lib.hid (rd_set HR1.out hxd (size_drop HT.out hxd))
      have hk0 : ((k : Int) == 0) = false := by simp; omega
      clear hg hk2 hxd
      go_wp2
      go_ret
      exact ⟨by rw [HS.out]; rfl, by rw [HS.out]; exact HX.out, grownBy_trans (grownBy_below _ hb) (grownBy_set _ ⟨b, 0, none⟩ _)⟩
    · rw [HT.out] at hg
      have HS := Lib.hid (numS_not (most := 18446744073709551615) hg)
      clear hg
      go_wp2_with fail
      refine (fail_any ⟨_, HR1.out⟩).mono ?_
      rintro e w3 ⟨rfl, hb3, hg3⟩
      go_wp2
      go_ret
      exact ⟨by rw [HS.out]; rfl, by rw [HS.out]; exact hb3, grownBy_trans (grownBy_below _ hb) hg3⟩

set_option maxHeartbeats 400000 in
set_option maxRecDepth 100000 in
theorem rtake_any {w : World} {b : Nat} {R : Option (List UInt8)} (h : RDE w b R) (n : Int) (hn : n ≤ 9223372036854775807) :
    Calls Try.prog 44 #[.pointer (some ⟨b, 0, none⟩), .int .i64 n] w fun e w' => e = .returned (tv (takeS n R).1) ∧ Left w w' b (takeS n R).2 := by
  have hE := Lib.hid h
  obtain ⟨s, hR⟩ := h
  have HR := Lib.hid hR
  obtain ⟨ht, h0, h1, f0, f1, hz⟩ := hR
  cases R with
  | none =>
    clear ht
    go_enter Try.func44, Try.ntmps44
    go_wp2_with fail
    refine (fail_any hE.out).mono ?_
    rintro e w3 ⟨rfl, hb3, hg3⟩
    go_wp2
    go_ret
    exact ⟨rfl, hb3, hg3⟩
  | some l =>
    have ht' : s.data.toList = l := ht
    have hl := size_of ht'
    by_cases hneg : n < 0
    · have HS := Lib.hid (takeS_neg (l := l) hneg)
      clear ht ht' hl
      go_enter Try.func44, Try.ntmps44
      go_wp2_with fail
      refine (fail_any hE.out).mono ?_
      rintro e w3 ⟨rfl, hb3, hg3⟩
      go_wp2
      go_ret
      exact ⟨by rw [HS.out]; rfl, by rw [HS.out]; exact hb3, hg3⟩
    · obtain ⟨m, rfl⟩ := Int.eq_ofNat_of_zero_le (by omega : 0 ≤ n)
      by_cases hmore : s.size < m
      · have HS := Lib.hid (takeS_more (l := l) (n := (m : Int)) (by omega))
        clear ht ht' hl
        go_enter Try.func44, Try.ntmps44
        go_wp2_with fail
        refine (fail_any hE.out).mono ?_
        rintro e w3 ⟨rfl, hb3, hg3⟩
        go_wp2
        go_ret
        exact ⟨by rw [HS.out]; rfl, by rw [HS.out]; exact hb3, hg3⟩
      · have HS := Lib.hid (takeS_ok (l := l) (n := m) (by omega))
        have HX := Lib.hid (extract_form ht' m)
        have hxd : (s.extract m s.size).data.toList = l.drop m := by rw [extract_drop, ht']
        have HT := Lib.hid (rd_set HR.out hxd (size_drop ht' hxd))
        clear ht ht' hl hxd
        go_enter Try.func44, Try.ntmps44
        go_wp2
        go_ret
        exact ⟨by rw [HS.out]; show _ = Ending.returned (.string _); rw [← HX.out]; rfl, by rw [HS.out]; exact HT.out, grownBy_set _ ⟨b, 0, none⟩ _⟩

set_option maxHeartbeats 400000 in
set_option maxRecDepth 100000 in
theorem rint2_any {w : World} {b : Nat} {R : Option (List UInt8)} (h : RDE w b R) (most : Int) (hm : most ≤ 9223372036854775807) (hm0 : -9223372036854775808 ≤ most) :
    Calls Try.prog 27 #[.pointer (some ⟨b, 0, none⟩), .int .i64 most] w fun e w' => e = .returned (.int .i64 ((intS most R).1 : Int)) ∧ Left w w' b (intS most R).2 := by
  have hlt := numS_lt R
  have HL := Lib.hid hlt
  clear hlt
  go_enter Try.func27, Try.ntmps27
  go_wp2_with fail
  refine (rnum_any h).mono ?_
  rintro e w1 ⟨rfl, hl⟩
  have hE1 := Lib.hid hl.1
  obtain ⟨s1, ⟨_, g0, g1, k0, k1, _⟩⟩ := hl.1
  have HG := Lib.hid hl.2
  clear hl
  have htop := intS_top most.toNat R
  generalize hQ : numS 18446744073709551615 R = Q at *
  obtain ⟨n, S⟩ := Q
  have hlt := HL.out
  clear HL
  simp only at *
  cases S with
  | none =>
    have HS : Hid (intS most R = (0, none)) := by
      by_cases h0 : most < 0
      · exact intS_neg R h0
      · rw [show ((most.toNat : Nat) : Int) = most by omega] at htop
        show _ = _
        rw [htop, if_pos (.inl rfl)]
    clear htop hQ hlt
    go_wp2_with fail
    refine (fail_any hE1.out).mono ?_
    rintro e w3 ⟨rfl, hb3, hg3⟩
    go_wp2
    go_ret
    exact ⟨by rw [HS.out]; rfl, by rw [HS.out]; exact hb3, grownBy_trans HG.out hg3⟩
  | some r =>
    by_cases h0 : most < 0
    · have HS := Lib.hid (intS_neg R h0)
      clear htop hQ hlt
      go_wp2_with fail
      refine (fail_any hE1.out).mono ?_
      rintro e w3 ⟨rfl, hb3, hg3⟩
      go_wp2
      go_ret
      exact ⟨by rw [HS.out]; rfl, by rw [HS.out]; exact hb3, grownBy_trans HG.out hg3⟩
    · obtain ⟨m, rfl⟩ := Int.eq_ofNat_of_zero_le (by omega : 0 ≤ most)
      rw [Int.toNat_natCast] at htop
      by_cases hgt : m < n
      · rw [if_pos (.inr hgt)] at htop
        have HS := Lib.hid htop
        clear htop hQ hlt
        go_wp2_with fail
        refine (fail_any hE1.out).mono ?_
        rintro e w3 ⟨rfl, hb3, hg3⟩
        go_wp2
        go_ret
        exact ⟨by rw [HS.out]; rfl, by rw [HS.out]; exact hb3, grownBy_trans HG.out hg3⟩
      · rw [if_neg (by simp; omega)] at htop
        have HS := Lib.hid htop
        clear htop hQ hlt
        go_wp2
        go_ret
        exact ⟨by rw [HS.out]; rfl, by rw [HS.out]; exact hE1.out, HG.out⟩
end Go.Proofs.Ytefgnigbppfgfaa
