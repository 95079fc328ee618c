/- Layer 1: contracts of the reference's Text, of Read, of a nil reader's calls; the walk of VaryBack. -/
import Derived.Test.YtefgnigbppfgfaaW01s
import Derived.Test.YtefgnigbppfgfaaM01t
namespace Go.Proofs.Ytefgnigbppfgfaa
open Go.RowKit
set_option linter.unusedVariables false

set_option maxHeartbeats 400000 in
set_option maxRecDepth 100000 in
theorem read_any (s : ByteArray) (hs : s.size ≤ 140737488351232) (w : World) :
    Calls Try.prog 23 #[.string s] w fun e w' => e = .returned (.pointer (some ⟨w.heap.size, 0, none⟩)) ∧ RDE w' w.heap.size (some s.data.toList) ∧ Below w.heap.size w w' := by
  go_enter Try.func23, Try.ntmps23
  go_wp2
  go_ret
  exact ⟨rfl, ⟨s, rfl, World.cell?_alloc_new _ _ _ _, World.cell?_alloc_new _ _ _ _, World.frozen?_alloc_at _ _ _ _ rfl, World.frozen?_alloc_at _ _ _ _ rfl, hs⟩, (Below.refl _ _).alloc (Nat.le_refl _) _⟩

set_option maxHeartbeats 400000 in
set_option maxRecDepth 100000 in
theorem rtext2_any {w : World} {b : Nat} {R : Option (List UInt8)} (h : RDE w b R) :
    Calls Try.prog 28 #[.pointer (some ⟨b, 0, none⟩)] w fun e w' => e = .returned (tv (textS R).1) ∧ Left w w' b (textS R).2 := by
  have hlt := numS_lt R
  have HL := Lib.hid hlt
  clear hlt
  go_enter Try.func28, Try.ntmps28
  go_wp2_with fail
  refine (rnum_any h).mono ?_
  rintro e w1 ⟨rfl, hl⟩
  have htop := textS_top R
  have hE1 := Lib.hid hl.1
  have HG := Lib.hid hl.2
  generalize hQ : numS 18446744073709551615 R = Q at *
  obtain ⟨n, S⟩ := Q
  have hlt := HL.out
  clear HL
  simp only at *
  obtain ⟨s1, ⟨ht1, g0, g1, k0, k1, hz1⟩⟩ := hl.1
  clear hl
  cases S with
  | none =>
    have HS := Lib.hid htop
    clear htop hQ hlt ht1
    go_wp2_with fail
    refine (fail_any hE1.out).mono ?_
    rintro e w3 ⟨rfl, hb3, hg3⟩
    go_wp2
    go_ret
    exact ⟨by rw [HS.out]; rfl, by rw [HS.out]; exact hb3, grownBy_trans HG.out hg3⟩
  | some r =>
    have hrl : r.length = s1.size := size_of ht1
    simp only at htop
    by_cases hgt : s1.size < n
    · rw [if_pos (by omega)] at htop
      have HS := Lib.hid htop
      have hgt' : ((s1.size : Nat) : Int) < (n : Int) := by omega
      clear htop hQ hlt ht1 hrl
      go_wp2_with fail
      refine (fail_any hE1.out).mono ?_
      rintro e w3 ⟨rfl, hb3, hg3⟩
      go_wp2
      go_ret
      exact ⟨by rw [HS.out]; rfl, by rw [HS.out]; exact hb3, grownBy_trans HG.out hg3⟩
    · rw [if_neg (by omega)] at htop
      have HS := Lib.hid htop
      clear htop hQ hlt ht1 hrl
      go_wp2_with fail
      refine (rtake_any hE1.out _ (by omega)).mono ?_
      rintro e w3 ⟨rfl, hl3⟩
      go_wp2
      go_ret
      exact ⟨by rw [HS.out]; rfl, by rw [HS.out]; exact hl3.1, grownBy_trans HG.out hl3.2⟩

set_option maxHeartbeats 400000 in
set_option maxRecDepth 100000 in
theorem bad_nil (w : World) : Calls Try.prog 41 #[.pointer none] w fun e w' => e = .returned (.bool true) ∧ w = w' := by
  go_enter Try.func41, Try.ntmps41
  go_wp2
  go_ret
  exact ⟨rfl, rfl⟩

set_option maxHeartbeats 400000 in
set_option maxRecDepth 100000 in
theorem end_nil (w : World) : Calls Try.prog 26 #[.pointer none] w fun e w' => e = .returned (.bool false) ∧ w = w' := by
  go_enter Try.func26, Try.ntmps26
  go_wp2_with (go_at_call 41; refine (bad_nil _).mono ?_; rintro e w' ⟨rfl, rfl⟩)
  go_ret
  exact ⟨rfl, rfl⟩

set_option maxHeartbeats 400000 in
set_option maxRecDepth 100000 in
theorem number_nil (m : Int) (w : World) : Calls Try.prog 39 #[.pointer none, .int .u64 m] w fun e w' => e = .returned (.int .u64 0) ∧ w = w' := by
  go_enter Try.func39, Try.ntmps39
  go_wp2_with (go_at_call 41; refine (bad_nil _).mono ?_; rintro e w' ⟨rfl, rfl⟩)
  go_ret
  exact ⟨rfl, rfl⟩

set_option maxHeartbeats 400000 in
set_option maxRecDepth 100000 in
theorem text_nil (w : World) : Calls Try.prog 40 #[.pointer none] w fun e w' => e = .returned (.string ⟨#[]⟩) ∧ w = w' := by
  go_enter Try.func40, Try.ntmps40
  go_wp2_with (go_at_call 41; refine (bad_nil _).mono ?_; rintro e w' ⟨rfl, rfl⟩)
  go_ret
  exact ⟨rfl, rfl⟩

set_option maxHeartbeats 400000 in
set_option maxRecDepth 100000 in
theorem take_nil (n : Int) (w : World) : Calls Try.prog 46 #[.pointer none, .int .i64 n] w fun e w' => e = .returned (.string ⟨#[]⟩) ∧ w = w' := by
  go_enter Try.func46, Try.ntmps46
  go_wp2_with (go_at_call 41; refine (bad_nil _).mono ?_; rintro e w' ⟨rfl, rfl⟩)
  go_ret
  exact ⟨rfl, rfl⟩

set_option maxHeartbeats 400000 in
set_option maxRecDepth 100000 in
theorem int_nil (w : World) : Calls Try.prog 24 #[.pointer none, .int .i64 9] w fun e w' => e = .returned (.int .i64 0) ∧ w = w' := by
  go_enter Try.func24, Try.ntmps24
  go_wp2_with (go_at_call 39; refine (number_nil _ _).mono ?_; rintro e w' ⟨rfl, rfl⟩)
  go_ret
  exact ⟨rfl, rfl⟩

end Go.Proofs.Ytefgnigbppfgfaa
