/- Layer 2: the walk of FrameTurned. -/
import Derived.Test.YtflljnhkjkmcgaaW02g
import Derived.Lib.ConvBytes
import Derived.RegionTactic
namespace Go.Proofs.Ytflljnhkjkmcgaa
open Go.RowKit
set_option linter.unusedVariables false

/-- Bytes in memory: a row of the call's own. -/
structure BytesAt (w : World) (B : Nat) (l : List UInt8) : Prop where
  cell : ∀ j (h : j < l.length), w.cell? ⟨B, j, none⟩ = some (bv l[j])
  free : ∀ j, j < l.length → w.frozen? ⟨B, j, none⟩ = false

theorem bytesWorld_at (w : World) (l : List UInt8) : BytesAt (Lib.bytesWorld w 5 ⟨l.toArray⟩) w.heap.size l := by
  constructor
  · intro j h
    rw [Lib.bytesWorld_cell _ _ _ _ h]
    simp [List.getD, h, bv]
  · intro j h
    unfold World.frozen?
    rw [Lib.bytesWorld_at_new]
    have : j < (Lib.bytesCells w 5 ⟨l.toArray⟩).size := by
      simp [Lib.bytesCells]; omega
    simp
    omega

theorem bytesWorld_below (w : World) (e : TypeId) (s : ByteArray) : Below w.heap.size w (Lib.bytesWorld w e s) := by
  refine ⟨?_, ?_, ?_, ?_, ?_⟩
  · unfold Lib.bytesWorld World.freeze; rfl
  · unfold Lib.bytesWorld World.freeze; rfl
  · unfold Lib.bytesWorld World.freeze; rfl
  · rw [Lib.bytesWorld_size]; omega
  · intro k hk; exact Lib.bytesWorld_at_old w e s k hk

theorem BytesAt.set {w : World} {B : Nat} {l : List UInt8} (h : BytesAt w B l) {i : Nat} (hi : i < l.length) (x : UInt8) : BytesAt (w.setCell ⟨B, i, none⟩ (bv x)) B (l.set i x) := by
  constructor
  · intro j hj
    rw [List.length_set] at hj
    by_cases e : i = j
    · subst e
      rw [World.cell?_setCell_same _ _ _ (h.cell i hi)]; simp
    · rw [World.cell?_setCell_other _ _ _ _ (by intro h; injection h with _ h; omega), h.cell j hj]
      simp [List.getElem_set, e]
  · intro j hj
    rw [List.length_set] at hj
    rw [World.frozen?_setCell]; exact h.free j hj

theorem BytesAt.conv {w : World} {B : Nat} {l : List UInt8} (h : BytesAt w B l) (cap : Nat) : (convert 41 9 (.slice (some ⟨B, 0, none⟩) l.length cap)).run Try.prog w = .ok (.string ⟨l.toArray⟩) w :=
  run_convert_bytes_back (P := Try.prog) w 41 9 5 ⟨B, 0, none⟩ cap l Try.underlying41 Try.underlying5 Try.underlying9 (fun j hj => by
    rw [Addr.add_lit, Nat.zero_add, h.cell j hj]; rfl)

theorem xor_bit : ∀ b, b < 8 → ∀ x : UInt8, bits .xor .u8 (x.toNat : Int) ((2 : Int) ^ b % 256) = ((x ^^^ UInt8.ofNat (2 ^ b)).toNat : Int) ∧ x ^^^ UInt8.ofNat (2 ^ b) ≠ x := by
  intro b hb x
  have hx := UInt8.toNat_lt x
  have hp : 2 ^ b ≤ 2 ^ 7 := Nat.pow_le_pow_right (by omega) (by omega)
  have hp0 : 0 < 2 ^ b := Nat.pow_pos (by omega)
  have ht : (UInt8.ofNat (2 ^ b)).toNat = 2 ^ b := u8_toNat (by omega)
  have e1 : (2 : Int) ^ b % 256 = ((2 ^ b : Nat) : Int) := by
    rw [show (2 : Int) ^ b = ((2 ^ b : Nat) : Int) by simp]
    omega
  refine ⟨?_, ?_⟩
  · rw [e1, u8_xor_nat _ _ (by omega) (by omega), UInt8.toNat_xor, ht]
  · intro h
    have h2 := congrArg UInt8.toNat h
    rw [UInt8.toNat_xor, ht] at h2
    have h3 : x.toNat ^^^ 2 ^ b = x.toNat ^^^ 0 := by rw [h2, Nat.xor_zero]
    have := xor_left h3
    omega

theorem BytesAt.drew {w : World} {B : Nat} {l : List UInt8} (h : BytesAt w B l) : BytesAt w.drew B l := ⟨h.cell, h.free⟩

theorem turned_frame (s : ByteArray) (hl : s.size ≤ 1048576) :
    ∀ i x (hi : (putL s.data.size).length + i < (frameL s.data.toList).length), x ≠ (frameL s.data.toList)[(putL s.data.size).length + i] → nextL ((frameL s.data.toList).set ((putL s.data.size).length + i) x) = (21, [], []) := by
  intro i x hi hx
  have hl' : s.data.toList.length ≤ 1048576 := by simpa using hl
  have hlen := frameL_len s.data.toList
  have e : s.data.toList.length = s.data.size := by simp
  rw [e] at hlen
  have := nextL_turned hl' (i := i) (x := x) (by omega) (by
    intro h
    apply hx
    have h2 : (frameL s.data.toList)[(putL s.data.size).length + i]? = some x := by
      rw [frameL, e, List.getElem?_append_right (by omega), Nat.add_sub_cancel_left]; exact h
    rw [List.getElem?_eq_getElem hi] at h2
    injection h2 with h2
    exact h2.symm)
  rw [e] at this
  exact this

theorem next_refused (t : ByteArray) (ht : t.size ≤ 140737488355328) (hn : nextL t.data.toList = (21, [], [])) (w : World) :
    Calls Try.prog 13 #[.string t] w fun e w' => e = .returned (.tuple #[.string ⟨#[]⟩, .string ⟨#[]⟩, .int .i64 21]) ∧ Below w.heap.size w w' := by
  refine (next_any t ht w).mono ?_
  rintro e w1 ⟨he, hb⟩
  refine ⟨?_, hb⟩
  rcases he with ⟨a, r, h, rfl⟩ | ⟨k, hk, h, rfl⟩
  · have h2 := h.symm.trans hn
    simp at h2
  · have h2 := h.symm.trans hn
    simp only [Prod.mk.injEq, and_true] at h2
    rw [h2]; rfl

set_option maxHeartbeats 400000 in
set_option maxRecDepth 100000 in
theorem turned_walk (s : ByteArray) (hs : s.size ≤ 140737488351232) (c : Int) (hc : (Lit.int .i64 c).wf = true) (w : World) :
    Calls Try.prog 6 #[.string s, .int .i64 c] w fun e w' => e = .returned (.bool true) ∧ Below w.heap.size w w' := by
  have hcb := bounds_i64 hc
  clear hc
  by_cases hl : s.size ≤ 1048576
  · by_cases h2000 : 2000 < s.size
    · go_enter Try.func6, Try.ntmps6
      go_wp2_with fail
      refine (awake_any _).mono ?_
      rintro e w1 ⟨rfl, hb1⟩
      go_wp2_with fail
      refine (wrap_any _ hl _).mono ?_
      rintro e w2 ⟨rfl, hb2⟩
      have hb3 := below_next hb1 (Nat.le_refl _) hb2
      go_wp2
      go_ret
      exact ⟨rfl, hb3⟩
    · have hlen := frameL_len s.data.toList
      have hp10 : (putL s.data.size).length ≤ 10 := putL_len10 (small64 hl)
      simp only [Array.length_toList] at hlen
      have e2 : s.data.size = s.size := rfl
      have hturn := Lib.hid (turned_frame s hl)
      generalize hF : frameL s.data.toList = F at *
      generalize hP : (putL s.data.size).length = P at *
      have ht1 : -(8 * ((s.size : Int) + 4)) < c.tmod (8 * ((s.size : Int) + 4)) := by
        have := Int.lt_tmod_of_pos c (show 0 < 8 * ((s.size : Int) + 4) by omega)
        omega
      have ht2 : c.tmod (8 * ((s.size : Int) + 4)) < 8 * ((s.size : Int) + 4) := Int.tmod_lt_of_pos c (by omega)
      have hFs : (⟨F.toArray⟩ : ByteArray).size = F.length := rfl
      go_enter Try.func6, Try.ntmps6
      go_wp2_with fail
      refine (awake_any _).mono ?_
      rintro e w1 ⟨rfl, hb1⟩
      go_wp2_with fail
      refine (wrap_any _ hl _).mono ?_
      rintro e w2 ⟨rfl, hb2⟩
      have hb3 := below_next hb1 (Nat.le_refl _) hb2
      rw [hF]
      clear hb1 hb2
      go_upto_region 9 with (fail)
      have hr0 := Int.emod_nonneg (c.tmod (8 * ((s.size : Int) + 4)) + 8 * ((s.size : Int) + 4)) (show 8 * ((s.size : Int) + 4) ≠ 0 by omega)
      have hr1 := Int.emod_lt_of_pos (c.tmod (8 * ((s.size : Int) + 4)) + 8 * ((s.size : Int) + 4)) (show 0 < 8 * ((s.size : Int) + 4) by omega)
      generalize (c.tmod (8 * ((s.size : Int) + 4)) + 8 * ((s.size : Int) + 4)) % (8 * ((s.size : Int) + 4)) = R at *
      obtain ⟨r, rfl⟩ := Int.eq_ofNat_of_zero_le hr0
      clear ht1 ht2 hr0
      have hcv := Lib.run_convert_string_bytes (P := Try.prog) w2 9 41 5 ⟨F.toArray⟩ Try.underlying9 Try.underlying41 Try.underlying5
      go_upto_region 10 with (fail)
      have hba := bytesWorld_at w2 F
      have hbb := hb3.trans ((bytesWorld_below w2 5 ⟨F.toArray⟩).mono hb3.size)
      have hB := hb3.size
      clear hcv hb3
      generalize Lib.bytesWorld w2 5 ⟨F.toArray⟩ = w3 at *
      generalize w2.heap.size = B at *
      generalize grownCap w2 (P + 4 + s.size) 0 5 = cap at *
      have hi : P + r / 8 < F.length := by omega
      have hci := hba.cell _ hi
      have hfi := hba.free _ hi
      have HB := Lib.hid hba
      clear hba
      have hxb := xor_bit (r % 8) (by omega) F[P + r / 8]
      have HX := Lib.hid hxb.1
      have HN := Lib.hid (hturn.out _ _ hi hxb.2)
      have HS := Lib.hid (HB.out.set hi (F[P + r / 8] ^^^ UInt8.ofNat (2 ^ (r % 8))))
      clear hxb hturn HB
      generalize F[P + r / 8] = X at *
      unfold bv at hci
      go_region
      rw [HX.out]
      have HW := HS.out.drew
      unfold bv at HW
      have hbc : Below w.heap.size w (w3.setCell ⟨B, P + r / 8, none⟩ (.int .u8 ((X ^^^ UInt8.ofNat (2 ^ (r % 8))).toNat : Int))).drew := (hbb.setCell hB _).drew
      clear HS HX hci hfi hbb
      generalize hF2 : F.set (P + r / 8) (X ^^^ UInt8.ofNat (2 ^ (r % 8))) = F2 at *
      generalize (w3.setCell ⟨B, P + r / 8, none⟩ (.int .u8 ((X ^^^ UInt8.ofNat (2 ^ (r % 8))).toNat : Int))).drew = w4 at *
      have hlen2 : F2.length = P + 4 + s.size := by rw [← hF2, List.length_set, hlen]; rfl
      have hcv := HW.conv cap
      rw [hlen2] at hcv
      clear HW
      have hz : (⟨F2.toArray⟩ : ByteArray).size ≤ 140737488355328 := by
        show F2.length ≤ _
        omega
      clear hF2 hlen2
      go_wp2_with fail
      refine (next_refused _ hz HN.out _).mono ?_
      rintro e w5 ⟨rfl, hb5⟩
      go_wp2
      go_ret
      exact ⟨rfl, below_next hbc (Nat.le_refl _) hb5⟩
  · go_enter Try.func6, Try.ntmps6
    go_wp2_with fail
    refine (awake_any _).mono ?_
    rintro e w1 ⟨rfl, hb1⟩
    go_wp2_with fail
    refine (wrap_long _ hl _).mono ?_
    rintro e w2 ⟨rfl, rfl⟩
    go_wp2
    go_ret
    exact ⟨rfl, hb1⟩
end Go.Proofs.Ytflljnhkjkmcgaa
