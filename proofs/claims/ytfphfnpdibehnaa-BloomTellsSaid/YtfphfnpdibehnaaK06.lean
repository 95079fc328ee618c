/- Layer 6's laws, whatever the code: what the program's calls must do; the laws' awake. -/
import Derived.Test.YtfphfnpdibehnaaR06d
namespace Go.Proofs.Ytfphfnpdibehnaa
open Go.RowKit
set_option linter.unusedVariables false

/-- Texts in a row, none beyond the reach. -/
def Keys6 (w : World) (a : Option Addr) (ks : List ByteArray) : Prop := Row1 w a ks.length (fun i => .string (ks.getD i ByteArray.empty)) ∧ ∀ i, (ks.getD i ByteArray.empty).size ≤ 140737488351232
theorem Keys6.below {w w' : World} {a : Option Addr} {ks : List ByteArray} (h : Keys6 w a ks) (t : Below w.heap.size w w') : Keys6 w' a ks := by
  refine ⟨⟨h.1.max, ?_⟩, h.2⟩
  rcases h.1.row with h0 | ⟨b, off, ha, hb, hc⟩
  · exact .inl h0
  · exact .inr ⟨b, off, ha, by have := t.size; omega, fun i hi => (t.cell (p := ⟨b, off + i, none⟩) hb).trans (hc i hi)⟩

/-- What the program's three calls do. -/
structure BloomK : Prop where
  hash : ∀ (s : ByteArray) (w : World), s.size ≤ 140737488351232 → Calls Try.prog 8 #[.string s] w fun e w' => e = .returned (.tuple #[.int .u32 (hashA s : Nat), .int .u32 (hashB s : Nat)]) ∧ Below w.heap.size w w'
  make : ∀ (a : Option Addr) (c : Nat) (ks : List ByteArray) (w : World), Keys6 w a ks → ∀ n : Int, (Lit.int .i64 n).wf = true →
    Calls Try.prog 10 #[.slice a ks.length c, .int .i64 n] w fun e w' => e = .returned (.tuple #[.string (makeS ks n), .int .i64 (makeE n : Nat)]) ∧ Below w.heap.size w w'
  has : ∀ (t s : ByteArray) (w : World), t.size ≤ 140737488351232 → s.size ≤ 140737488351232 → Calls Try.prog 12 #[.string t, .string s] w fun e w' => e = .returned (.bool (hasK6 t.data.toList s)) ∧ Below w.heap.size w w'

theorem makeS_size (ks : List ByteArray) {n : Int} (h : 1 ≤ n ∧ n ≤ 8192) : ((makeS ks n).size : Int) = n := by
  unfold makeS
  rw [if_pos h]
  show ((makeL ks n.toNat).toArray.size : Int) = n
  rw [List.size_toArray, makeL_len]
  omega
theorem makeS_small (ks : List ByteArray) (n : Int) : (makeS ks n).size ≤ 140737488351232 := by
  by_cases h : 1 ≤ n ∧ n ≤ 8192
  · have := makeS_size ks h; omega
  · unfold makeS
    rw [if_neg h]
    exact Nat.zero_le _
theorem makeS_list (ks : List ByteArray) {n : Int} (h : 1 ≤ n ∧ n ≤ 8192) : (makeS ks n).data.toList = makeL ks n.toNat := by
  unfold makeS
  rw [if_pos h]
theorem makeS_mem {ks : List ByteArray} {s : ByteArray} (hs : s ∈ ks) {n : Int} (h : 1 ≤ n ∧ n ≤ 8192) : hasK6 (makeS ks n).data.toList s = true := by
  rw [makeS_list ks h]
  exact makeL_mem hs (by omega) (by omega)
theorem has_nil (s : ByteArray) : hasK6 (⟨#[]⟩ : ByteArray).data.toList s = false := by
  unfold hasK6
  rw [decide_eq_false (by simp), Bool.false_and]

def kA : ByteArray := ⟨#[97]⟩
def kB : ByteArray := ⟨#[98]⟩

set_option maxHeartbeats 1000000 in
set_option maxRecDepth 100000 in
theorem awake6_any (K : BloomK) (w : World) : Calls Try.prog 7 #[] w fun e w' => e = .returned (.bool true) ∧ Below w.heap.size w w' := by
  have hk : Keys6 (w.alloc (.cells #[.string ⟨#[97]⟩, .string ⟨#[98]⟩] 9)) (some ⟨w.heap.size, 0, none⟩) [kA, kB] := by
    refine ⟨⟨by decide, .inr ⟨w.heap.size, 0, rfl, by simp, fun i hi => ?_⟩⟩, fun i => ?_⟩
    · rw [block_cell (heap_alloc_new _ _)]
      match i, hi with
      | 0, _ | 1, _ => rfl
    · match i with
      | 0 | 1 => decide
      | i + 2 => exact Nat.zero_le _
  have hb : Below w.heap.size w (w.alloc (.cells #[.string ⟨#[97]⟩, .string ⟨#[98]⟩] 9)) := (Below.refl _ w).alloc (Nat.le_refl _) _
  have hcall := K.make _ 2 _ _ hk 8 (by decide)
  have hsz := makeS_size [kA, kB] (n := 8) (by decide)
  have hsm := makeS_small [kA, kB] 8
  have hA := makeS_mem (ks := [kA, kB]) (s := kA) (by simp) (n := 8) (by decide)
  have hB := makeS_mem (ks := [kA, kB]) (s := kB) (by simp) (n := 8) (by decide)
  rw [show makeE 8 = 0 by unfold makeE; rfl] at hcall
  have HB0 := Lib.hid hb
  have HC := Lib.hid hcall
  clear hk hb hcall
  generalize makeS [kA, kB] 8 = f at *
  go_enter Try.func7, Try.ntmps7
  go_wp2_with fail
  refine HC.out.mono ?_
  rintro e w1 ⟨rfl, b1⟩
  have B1 := Lib.hid (HB0.out.trans (b1.mono HB0.out.size))
  clear b1
  go_wp2_with fail
  refine (K.has f kA _ hsm (by decide)).mono ?_
  rintro e w2 ⟨rfl, b2⟩
  rw [hA]
  have B2 := Lib.hid (B1.out.trans (b2.mono B1.out.size))
  clear b2
  go_wp2_with fail
  refine (K.has f kB _ hsm (by decide)).mono ?_
  rintro e w3 ⟨rfl, b3⟩
  rw [hB]
  have B3 := Lib.hid (B2.out.trans (b3.mono B2.out.size))
  clear b3
  go_wp2_with fail
  refine (K.has ⟨#[]⟩ kA _ (by decide) (by decide)).mono ?_
  rintro e w4 ⟨rfl, b4⟩
  rw [has_nil]
  have B4 := Lib.hid (B3.out.trans (b4.mono B3.out.size))
  clear b4
  go_wp2
  go_ret
  exact ⟨rfl, B4.out⟩
end Go.Proofs.Ytfphfnpdibehnaa
