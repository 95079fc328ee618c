/- Layer 6: the contract of the reference's Bits. -/
import Derived.Test.YtfphfnpdibehnaaR06
import Derived.Deep.WholeRow
import Derived.IntWalk
namespace Go.Proofs.Ytfphfnpdibehnaa
open Go.RowKit
set_option linter.unusedVariables false

/-- Four numbers: the first i of a key's bits. -/
def four (f : Nat → Nat) : Array Value := #[.int .i64 (f 0 : Nat), .int .i64 (f 1 : Nat), .int .i64 (f 2 : Nat), .int .i64 (f 3 : Nat)]
def upTo (f : Nat → Nat) (i j : Nat) : Nat := if j < i then f j else 0
theorem four_next (f : Nat → Nat) {i : Nat} (h : i < 4) : (four (upTo f i)).setIfInBounds i (.int .i64 (f i : Nat)) = four (upTo f (i + 1)) := by
  match i, h with
  | 0, _ | 1, _ | 2, _ | 3, _ => simp [four, upTo]
theorem four_all (f : Nat → Nat) : four (upTo f 4) = four f := by simp [four, upTo]
theorem four_at (f : Nat → Nat) {i : Nat} (h : i < 4) : (four f)[i]? = some (.int .i64 (f i : Nat)) := by
  match i, h with
  | 0, _ | 1, _ | 2, _ | 3, _ => rfl
theorem info4 : (Try.prog.info? 46).map (·.size) = some 4 := by kernel_rfl

theorem bit_go (a b n i : Nat) (h1 : 0 < n) (h2 : n ≤ 8192) : wrap64 (((a : Int) + (i : Int) * (b : Int)) % 4294967296 % (8 * (n : Int))) = (((a + i * b) % 4294967296 % (8 * n) : Nat) : Int) := by
  have e : (((a : Int) + (i : Int) * (b : Int)) % 4294967296 % (8 * (n : Int))) = (((a + i * b) % 4294967296 % (8 * n) : Nat) : Int) := by
    rw [Int.natCast_emod, Int.natCast_emod, Int.natCast_add, Int.natCast_mul, Int.natCast_mul]
    rfl
  have hl : (a + i * b) % 4294967296 % (8 * n) < 8 * n := Nat.mod_lt _ (by omega)
  rw [e, IntWalk.wrap64_in _ (by omega)]
theorem block_other {w : World} {b i k : Nat} {v : Value} (e : k ≠ b) : (w.setCell ⟨b, i, none⟩ v).heap[k]? = w.heap[k]? := Below.heap_setCell _ _ _ _ (fun e2 => e (by first | exact e2 | exact e2.symm))

set_option maxHeartbeats 1000000 in
set_option maxRecDepth 100000 in
theorem rbits_any (s : ByteArray) (hs : s.size ≤ maxLen) (n : Nat) (h1 : 0 < n) (h2 : n ≤ 8192) (w : World) :
    Calls Try.prog 16 #[.string s, .int .i64 (n : Nat)] w fun e w' => e = .returned (.agg (four (bitK s n))) ∧ Below w.heap.size w w' := by
  have hA := hashA_lt s
  have hB := hashB_lt s
  have HK : Hid (∀ i, bitK s n i = (hashA s + i * hashB s) % 4294967296 % (8 * n)) := fun i => by unfold bitK; rfl
  have hcall := fun w => rhash_any s hs w
  generalize bitK s n = f at *
  generalize hashA s = a at *
  generalize hashB s = b at *
  go_enter Try.func16, Try.ntmps16
  go_wp2_with fail
  refine (hcall _).mono ?_
  rintro e w1 ⟨rfl, rfl⟩
  go_wp2
  go_loopw [8] (fun iv wr => ∃ i : Nat, i ≤ 4 ∧ iv = .int .i64 (i : Int) ∧ wr.heap[w.heap.size]? = some (.cells (four (fun _ => 0)) 46 (0, 0)) ∧ wr.heap[w.heap.size + 1]? = some (.cells (four (upTo f i)) 46 (0, 0)) ∧ Below w.heap.size w wr) (fun iv _ => 4 - (intOf iv).toNat)
  case atStart =>
    have s1 := heap_alloc_new w (.cells (four (fun _ => 0)) 46)
    have s2 := heap_alloc_new (w.alloc (.cells (four (fun _ => 0)) 46)) (.cells (four (fun _ => 0)) 46)
    rw [World.size_alloc] at s2
    exact ⟨0, by omega, rfl, (Below.heap_alloc (w.alloc (.cells (four (fun _ => 0)) 46)) (.cells (four (fun _ => 0)) 46) w.heap.size (by simp)).trans s1, s2, ((Below.refl _ w).alloc (Nat.le_refl _) _).alloc (by simp) _⟩
  case round =>
    obtain ⟨i, hi, rfl, g0, g1, hb⟩ := hrel
    by_cases hlt : i < 4
    · have c0 : wr.cell? ⟨w.heap.size + 1, i, none⟩ = some (.int .i64 (upTo f i i : Nat)) := by rw [block_cell g1]; exact four_at _ hlt
      have f0 : wr.frozen? ⟨w.heap.size + 1, i, none⟩ = false := block_free g1 i
      have HV : Hid (wrap64 (((a : Int) + (i : Int) * (b : Int)) % 4294967296 % (8 * (n : Int))) = ((f i : Nat) : Int)) := by
        show _ = _
        rw [bit_go a b n i h1 h2, HK.out i]
      have G0 := Lib.hid g0
      have G1 := Lib.hid g1
      have HB := Lib.hid hb
      clear g0 g1 hb
      go_wp2
      go_roundw
      case rel =>
        refine ⟨i + 1, by omega, by go_num, ?_, ?_, ?_⟩
        · exact (block_other (by omega)).trans G0.out
        · rw [HV.out, ← four_next f hlt]
          exact block_set G1.out i _
        · exact HB.out.setCell (p := ⟨w.heap.size + 1, i, none⟩) (by simp) _
      case measure => simp [intOf]; omega
    · obtain rfl : i = 4 := by omega
      rw [four_all] at g1
      have q0 : ∀ j, wr.frozen? ⟨w.heap.size, j, none⟩ = false := block_free g0
      have p0 : wr.cell? ⟨w.heap.size, 0, none⟩ = some (.int .i64 0) := by rw [block_cell g0]; rfl
      have p1 : wr.cell? ⟨w.heap.size, 1, none⟩ = some (.int .i64 0) := by rw [block_cell g0]; rfl
      have p2 : wr.cell? ⟨w.heap.size, 2, none⟩ = some (.int .i64 0) := by rw [block_cell g0]; rfl
      have p3 : wr.cell? ⟨w.heap.size, 3, none⟩ = some (.int .i64 0) := by rw [block_cell g0]; rfl
      have r0 : wr.cell? ⟨w.heap.size + 1, 0, none⟩ = some (.int .i64 (f 0 : Nat)) := by rw [block_cell g1]; rfl
      have r1 : wr.cell? ⟨w.heap.size + 1, 1, none⟩ = some (.int .i64 (f 1 : Nat)) := by rw [block_cell g1]; rfl
      have r2 : wr.cell? ⟨w.heap.size + 1, 2, none⟩ = some (.int .i64 (f 2 : Nat)) := by rw [block_cell g1]; rfl
      have r3 : wr.cell? ⟨w.heap.size + 1, 3, none⟩ = some (.int .i64 (f 3 : Nat)) := by rw [block_cell g1]; rfl
      have G0 := Lib.hid g0
      have HB := Lib.hid hb
      clear g0 g1 hb
      have hld := block_set (block_set (block_set (block_set G0.out 0 (.int .i64 (f 0 : Nat))) 1 (.int .i64 (f 1 : Nat))) 2 (.int .i64 (f 2 : Nat))) 3 (.int .i64 (f 3 : Nat))
      have HLD := Lib.hid hld
      clear hld
      go_wp2
      refine bodyPost_ret (v := .agg (four f)) (results_cell_row rfl _ _ w.heap.size _ (four f) (0, 0) _ rfl HLD.out Try.underlying46 rfl info4) rfl ⟨rfl, ?_⟩
      exact (((HB.out.setCell (p := ⟨w.heap.size, 0, none⟩) (Nat.le_refl _) _).setCell (p := ⟨w.heap.size, 1, none⟩) (Nat.le_refl _) _).setCell (p := ⟨w.heap.size, 2, none⟩) (Nat.le_refl _) _).setCell (p := ⟨w.heap.size, 3, none⟩) (Nat.le_refl _) _
end Go.Proofs.Ytfphfnpdibehnaa
