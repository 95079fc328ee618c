/- Layer 1: the contract of Fixed. -/
import Derived.Test.YtlgpkbcefaldoaaDoorW01
namespace Go.Proofs.YtlgpkbcefaldoaaDoor
open Go.RowKit
set_option linter.unusedVariables false

set_option maxHeartbeats 400000 in
set_option maxRecDepth 100000 in
theorem fixed_any (a : Nat) (h1 : U64 a) (w : World) :
    Calls Tryd.prog 45 #[.int .u64 (a : Int)] w fun e w' => e = .returned (.string ⟨(fixedL a).toArray⟩) ∧ Below w.heap.size w w' := by
  go_enter Tryd.func45, Tryd.ntmps45
  go_wp2
  go_loopw [0, 4, 5] (fun n _ i wr => ∃ (k : Nat), k ≤ 8 ∧ i = .int .i64 (k : Int) ∧ n = .int .u64 ((a / 256 ^ k : Nat) : Int) ∧ Hid (∀ j, j < 8 → wr.cell? ⟨w.heap.size, j, none⟩ = some (.int .u8 (fixAt a k j))) ∧ Hid (∀ j, j < 8 → wr.frozen? ⟨w.heap.size, j, none⟩ = false) ∧ Below w.heap.size w wr)
    (fun _ _ i _ => (8 - intOf i).toNat)
  case atStart =>
    refine ⟨0, by omega, rfl, by simp, fun j hj => ?_, fun j hj => ?_, (Below.refl _ _).alloc (Nat.le_refl _) _⟩
    · rw [World.cell?_alloc_new, fixAt_zero hj]
      match j, hj with
      | 0, _ | 1, _ | 2, _ | 3, _ | 4, _ | 5, _ | 6, _ | 7, _ => rfl
    · exact World.frozen?_alloc_at _ _ _ _ rfl
  case round =>
    obtain ⟨k, hk, rfl, rfl, hc, hf, hb⟩ := hrel
    by_cases h8 : k < 8
    · have hc0 := hc.out (7 - k) (by omega)
      have hf0 := hf.out (7 - k) (by omega)
      go_wp2
      go_roundw
      case rel =>
        refine ⟨k + 1, by omega, by go_num, ?_, fun j hj => ?_, fun j hj => ?_, hb.setCell (Nat.le_refl _) _⟩
        · congr 1
          rw [Nat.pow_succ, ← Nat.div_div_eq_div_mul]; simp
        · by_cases he : j = 7 - k
          · subst he
            rw [World.cell?_setCell_same _ _ _ hc0, fixAt_new h8]
            simp
          · rw [World.cell?_setCell_other _ _ _ _ (by intro h; injection h with _ h; omega), fixAt_old he hj]
            exact hc.out j hj
        · rw [World.frozen?_setCell]; exact hf.out j hj
      case measure => simp [intOf]; omega
    · obtain rfl : k = 8 := by omega
      have hcv : ∀ cap, (convert 61 9 (.slice (some ⟨w.heap.size, 0, none⟩) (fixedL a).length cap)).run Tryd.prog wr = .ok (.string ⟨(fixedL a).toArray⟩) wr := fun cap =>
        run_convert_bytes_back (P := Tryd.prog) wr 61 9 5 ⟨w.heap.size, 0, none⟩ cap (fixedL a) Tryd.underlying61 Tryd.underlying5 Tryd.underlying9 (fun j hj => by
          rw [fixedL_len] at hj
          have e := fixedL_at a j hj
          rw [List.getElem?_eq_getElem (by rw [fixedL_len]; exact hj)] at e
          injection e with e
          rw [Addr.add_lit, Nat.zero_add, hc.out j hj, e]
          unfold fixAt
          rw [if_pos (by omega)])
      simp only [fixedL_len] at hcv
      go_wp2
      go_ret
      exact ⟨rfl, hb⟩
end Go.Proofs.YtlgpkbcefaldoaaDoor
