/- Layer 6: the contracts of the program's Hash, maskOf and bitsOf. -/
import Derived.Test.YtfphfnpdibehnaaK06
namespace Go.Proofs.Ytfphfnpdibehnaa
open Go.RowKit
set_option linter.unusedVariables false

theorem stepA_run (a : Nat) (c : UInt8) (ha : a < 4294967296) : bits .xor .u32 (a : Int) (c.toNat : Int) * 16777619 % 4294967296 = ((stepA a c : Nat) : Int) := by
  have hc := UInt8.toNat_lt c
  rw [u32_xor_nat a c.toNat ha (by omega)]
  unfold stepA
  omega
theorem stepB_run (b : Nat) (c : UInt8) (hb : b < 4294967296) :
    bits .xor .u32 (((b : Int) + (c.toNat : Int)) % 4294967296 * 2246822507 % 4294967296) (((b : Int) + (c.toNat : Int)) % 4294967296 * 2246822507 % 4294967296 / 8192) = ((stepB b c : Nat) : Int) := by
  have hc := UInt8.toNat_lt c
  have e1 : (((b : Int) + (c.toNat : Int)) % 4294967296 * 2246822507 % 4294967296) = (((b + c.toNat) * 2246822507 % 4294967296 : Nat) : Int) := by omega
  have e2 : (((b + c.toNat) * 2246822507 % 4294967296 : Nat) : Int) / 8192 = (((b + c.toNat) * 2246822507 % 4294967296 / 8192 : Nat) : Int) := by omega
  unfold stepB
  rw [e1, e2]
  exact u32_xor_nat _ _ (Nat.mod_lt _ (by omega)) (by omega)

set_option maxHeartbeats 1000000 in
set_option maxRecDepth 100000 in
theorem hash_any (s : ByteArray) (hs : s.size ≤ maxLen) (w : World) :
    Calls Try.prog 8 #[.string s] w fun e w' => e = .returned (.tuple #[.int .u32 (hashA s : Nat), .int .u32 (hashB s : Nat)]) ∧ w' = w := by
  unfold maxLen at hs
  have hAB := Lib.hid (And.intro foldA_lt foldB_lt)
  go_enter Try.func8, Try.ntmps8
  go_wp2
  go_loop [4, 5, 10] (fun a b i => ∃ (k : Nat), k ≤ s.size ∧ i = .int .i64 (k : Int) ∧ a = .int .u32 (foldA (s.data.toList.take k) : Nat) ∧ b = .int .u32 (foldB (s.data.toList.take k) : Nat)) (fun _ _ i => s.size - (intOf i).toNat)
  case atStart => exact ⟨0, by omega, rfl, by show _ = Value.int .u32 (startA : Nat); rw [startA_eq]; rfl, by show _ = Value.int .u32 (startB : Nat); rw [startB_eq]; rfl⟩
  case round =>
    obtain ⟨k, hk, rfl, rfl, rfl⟩ := hrel
    by_cases hlt : k < s.size
    · have ha := hAB.out.1 (s.data.toList.take k)
      have hb := hAB.out.2 (s.data.toList.take k)
      have hc := UInt8.toNat_lt s[k]
      have HA := Lib.hid (foldA_next (l := s.data.toList) (k := k) (by simpa using hlt))
      have HB := Lib.hid (foldB_next (l := s.data.toList) (k := k) (by simpa using hlt))
      generalize foldA (s.data.toList.take k) = a at *
      generalize foldB (s.data.toList.take k) = b at *
      go_wp2
      go_round
      case rel => exact ⟨k + 1, by omega, by go_num, by rw [HA.out]; exact congrArg (Value.int .u32) (stepA_run a _ ha), by rw [HB.out]; exact congrArg (Value.int .u32) (stepB_run b _ hb)⟩
      case measure => simp [intOf]; omega
    · obtain rfl : k = s.size := by omega
      have e : s.data.toList.take s.size = s.data.toList := List.take_of_length_le (by simp)
      rw [e]
      have ha := hAB.out.1 s.data.toList
      have hb := hAB.out.2 s.data.toList
      have HO : Hid (bits .or .u32 (foldB s.data.toList : Nat) 1 = ((foldB s.data.toList ||| 1 : Nat) : Int)) := u32_or_nat _ 1 hb (by omega)
      have HE : Hid (hashA s = foldA s.data.toList ∧ hashB s = foldB s.data.toList ||| 1) := ⟨by unfold hashA; rfl, by unfold hashB; rfl⟩
      generalize foldA s.data.toList = a at *
      generalize foldB s.data.toList = b at *
      go_wp2
      go_ret2
      exact ⟨by rw [HE.out.1, HE.out.2, ← HO.out]; rfl, rfl⟩

/-- A byte with one bit. -/
def bit8 (k : Nat) : UInt8 := 1 <<< UInt8.ofNat (k % 8)
theorem pow_bit (r : Nat) (h : r < 8) : (2 : Int) ^ r % 256 = (((1 : UInt8) <<< UInt8.ofNat r).toNat : Int) := by
  match r, h with
  | 0, _ | 1, _ | 2, _ | 3, _ | 4, _ | 5, _ | 6, _ | 7, _ => decide
set_option maxHeartbeats 1000000 in
set_option maxRecDepth 100000 in
theorem mask_any (k : Nat) (h : k < 4294967296) (w : World) :
    Calls Try.prog 15 #[.int .u32 (k : Int)] w fun e w' => e = .returned (.int .u8 ((bit8 k).toNat : Int)) ∧ w' = w := by
  obtain ⟨r, hr⟩ : ∃ r, k % 8 = r := ⟨_, rfl⟩
  have d5 : ((k : Int) % 8) = (r : Int) := by omega
  have hrlt : r < 8 := by omega
  have hp := pow_bit r hrlt
  have hr1 : (0 : Int) ≤ (r : Int) := by omega
  have hr2 : (r : Int) < 8 := by omega
  unfold bit8
  rw [hr]
  go_enter Try.func15, Try.ntmps15
  go_wp2
  go_ret
  exact ⟨by rw [← hp]; rfl, rfl⟩

/-- Four numbers of 32 bits. -/
def fourU (f : Nat → Nat) : Array Value := #[.int .u32 (f 0 : Nat), .int .u32 (f 1 : Nat), .int .u32 (f 2 : Nat), .int .u32 (f 3 : Nat)]
theorem fourU_next (f : Nat → Nat) {i : Nat} (h : i < 4) : (fourU (upTo f i)).setIfInBounds i (.int .u32 (f i : Nat)) = fourU (upTo f (i + 1)) := by
  match i, h with
  | 0, _ | 1, _ | 2, _ | 3, _ => simp [fourU, upTo]
theorem fourU_all (f : Nat → Nat) : fourU (upTo f 4) = fourU f := by simp [fourU, upTo]
theorem fourU_at (f : Nat → Nat) {i : Nat} (h : i < 4) : (fourU f)[i]? = some (.int .u32 (f i : Nat)) := by
  match i, h with
  | 0, _ | 1, _ | 2, _ | 3, _ => rfl
theorem info4u : (Try.prog.info? 43).map (·.size) = some 4 := by kernel_rfl

set_option maxHeartbeats 1000000 in
set_option maxRecDepth 100000 in
theorem bits_any (s : ByteArray) (hs : s.size ≤ maxLen) (n : Nat) (h1 : 0 < n) (h2 : n ≤ 8192) (w : World) :
    Calls Try.prog 14 #[.string s, .int .i64 (n : Nat)] w fun e w' => e = .returned (.agg (fourU (bitK s n))) ∧ Below w.heap.size w w' := by
  have hA := hashA_lt s
  have hB := hashB_lt s
  have HK : Hid (∀ i, bitK s n i = (hashA s + i * hashB s) % 4294967296 % (8 * n)) := fun i => by unfold bitK; rfl
  have hcall := fun w => hash_any s hs w
  generalize bitK s n = f at *
  generalize hashA s = a at *
  generalize hashB s = b at *
  have g8 : wrap64 (8 * (n : Int)) = 8 * (n : Int) := IntWalk.wrap64_in _ (by omega)
  have g9 : (8 * (n : Int)) % 4294967296 = 8 * (n : Int) := by omega
  have g10 : ¬ ((8 * (n : Int)) = 0) := by omega
  go_enter Try.func14, Try.ntmps14
  go_wp2_with fail
  refine (hcall _).mono ?_
  rintro e w1 ⟨rfl, rfl⟩
  go_wp2
  go_loopw [6, 14] (fun kv iv wr => ∃ (i k : Nat), i ≤ 4 ∧ iv = .int .i64 (i : Int) ∧ kv = .int .u32 (k : Int) ∧ Hid (k = (a + i * b) % 4294967296) ∧ k < 4294967296 ∧ wr.heap[w.heap.size]? = some (.cells (fourU (fun _ => 0)) 43 (0, 0)) ∧ wr.heap[w.heap.size + 1]? = some (.cells (fourU (upTo f i)) 43 (0, 0)) ∧ Below w.heap.size w wr) (fun _ iv _ => 4 - (intOf iv).toNat)
  case atStart =>
    have s1 := heap_alloc_new w (.cells (fourU (fun _ => 0)) 43)
    have s2 := heap_alloc_new (w.alloc (.cells (fourU (fun _ => 0)) 43)) (.cells (fourU (fun _ => 0)) 43)
    rw [World.size_alloc] at s2
    exact ⟨0, a, by omega, rfl, rfl, (by show a = (a + 0 * b) % 4294967296; omega), hA, (Below.heap_alloc (w.alloc (.cells (fourU (fun _ => 0)) 43)) (.cells (fourU (fun _ => 0)) 43) w.heap.size (by simp)).trans s1, s2, ((Below.refl _ w).alloc (Nat.le_refl _) _).alloc (by simp) _⟩
  case round =>
    obtain ⟨i, k, hi, rfl, rfl, hk, hkl, g0, g1, hb⟩ := hrel
    by_cases hlt : i < 4
    · have c0 : wr.cell? ⟨w.heap.size + 1, i, none⟩ = some (.int .u32 (upTo f i i : Nat)) := by rw [block_cell g1]; exact fourU_at _ hlt
      have f0 : wr.frozen? ⟨w.heap.size + 1, i, none⟩ = false := block_free g1 i
      have HV : Hid ((k : Int) % (8 * (n : Int)) = ((f i : Nat) : Int)) := by
        show _ = _
        rw [HK.out i, ← hk.out, Int.natCast_emod, Int.natCast_mul]
        rfl
      have HW : Hid (((k : Int) + (b : Int)) % 4294967296 = (((a + (i + 1) * b) % 4294967296 : Nat) : Int)) := by
        show _ = _
        rw [hk.out, Nat.add_mul, Nat.one_mul, ← Nat.add_assoc]
        generalize a + i * b = x
        omega
      have G0 := Lib.hid g0
      have G1 := Lib.hid g1
      have HB := Lib.hid hb
      clear g0 g1 hb
      go_wp2
      go_roundw
      case rel =>
        refine ⟨i + 1, (a + (i + 1) * b) % 4294967296, by omega, by go_num, ?_, rfl, Nat.mod_lt _ (by omega), ?_, ?_, ?_⟩
        · exact congrArg (Value.int .u32) HW.out
        · exact (block_other (by omega)).trans G0.out
        · rw [HV.out, ← fourU_next f hlt]
          exact block_set G1.out i _
        · exact HB.out.setCell (p := ⟨w.heap.size + 1, i, none⟩) (by simp) _
      case measure => simp [intOf]; omega
    · obtain rfl : i = 4 := by omega
      rw [fourU_all] at g1
      have q0 : ∀ j, wr.frozen? ⟨w.heap.size, j, none⟩ = false := block_free g0
      have p0 : wr.cell? ⟨w.heap.size, 0, none⟩ = some (.int .u32 0) := by rw [block_cell g0]; rfl
      have p1 : wr.cell? ⟨w.heap.size, 1, none⟩ = some (.int .u32 0) := by rw [block_cell g0]; rfl
      have p2 : wr.cell? ⟨w.heap.size, 2, none⟩ = some (.int .u32 0) := by rw [block_cell g0]; rfl
      have p3 : wr.cell? ⟨w.heap.size, 3, none⟩ = some (.int .u32 0) := by rw [block_cell g0]; rfl
      have r0 : wr.cell? ⟨w.heap.size + 1, 0, none⟩ = some (.int .u32 (f 0 : Nat)) := by rw [block_cell g1]; rfl
      have r1 : wr.cell? ⟨w.heap.size + 1, 1, none⟩ = some (.int .u32 (f 1 : Nat)) := by rw [block_cell g1]; rfl
      have r2 : wr.cell? ⟨w.heap.size + 1, 2, none⟩ = some (.int .u32 (f 2 : Nat)) := by rw [block_cell g1]; rfl
      have r3 : wr.cell? ⟨w.heap.size + 1, 3, none⟩ = some (.int .u32 (f 3 : Nat)) := by rw [block_cell g1]; rfl
      have G0 := Lib.hid g0
      have HB := Lib.hid hb
      clear g0 g1 hb
      have hld := block_set (block_set (block_set (block_set G0.out 0 (.int .u32 (f 0 : Nat))) 1 (.int .u32 (f 1 : Nat))) 2 (.int .u32 (f 2 : Nat))) 3 (.int .u32 (f 3 : Nat))
      have HLD := Lib.hid hld
      clear hld
      go_wp2
      refine bodyPost_ret (v := .agg (fourU f)) (results_cell_row rfl _ _ w.heap.size _ (fourU f) (0, 0) _ rfl HLD.out Try.underlying43 rfl info4u) rfl ⟨rfl, ?_⟩
      exact (((HB.out.setCell (p := ⟨w.heap.size, 0, none⟩) (Nat.le_refl _) _).setCell (p := ⟨w.heap.size, 1, none⟩) (Nat.le_refl _) _).setCell (p := ⟨w.heap.size, 2, none⟩) (Nat.le_refl _) _).setCell (p := ⟨w.heap.size, 3, none⟩) (Nat.le_refl _) _
end Go.Proofs.Ytfphfnpdibehnaa
