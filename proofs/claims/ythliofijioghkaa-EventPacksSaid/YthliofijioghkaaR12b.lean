/- Layer 12: the contract of the reference's Step. -/
import Derived.Test.YthliofijioghkaaR12
namespace Go.Proofs.Ythliofijioghkaa
open Go.RowKit
set_option linter.unusedVariables false

theorem empty_iff (s : ByteArray) : s.toList = [] ↔ s.size = 0 := by
  rw [Lib.toList_data]
  constructor
  · intro h
    have := congrArg List.length h
    simpa using this
  · intro h
    exact List.eq_nil_of_length_eq_zero (by simpa using h)

theorem empty_dec (s : ByteArray) : s.toList.isEmpty = decide (s = ByteArray.empty) := by
  by_cases h : s = ByteArray.empty
  · subst h; rw [decide_eq_true rfl, List.isEmpty_iff]; exact (empty_iff _).2 rfl
  · have h2 : ¬ s.toList = [] := fun e => h (ba_zero ((empty_iff s).1 e))
    rw [decide_eq_false h]
    simpa using h2
theorem empty_size (s : ByteArray) : s.size = 0 ↔ s = ByteArray.empty := ⟨fun h => ba_zero h, fun h => by rw [h]; rfl⟩
theorem step_form (kind : Int) (name undo : ByteArray) (tries undoTries wait : Int) : stepB ⟨kind, name, undo, tries, undoTries, wait⟩ = if (kind == 1) = true then (if undo = ByteArray.empty then (undoTries == 0) else nameB undo && inB undoTries 1 5) && (nameB name && inB tries 1 5 && (wait == 0))
      else if (kind == 2) = true then decide (name = ByteArray.empty) && decide (undo = ByteArray.empty) && (tries == 0) && (undoTries == 0) && inB wait 1 1000
      else if (kind == 3) = true then nameB name && decide (undo = ByteArray.empty) && (tries == 0) && (undoTries == 0) && (wait == 0) else false := by
  unfold stepB undoB
  simp only [beq_iff_eq, empty_size]
  have e2 : ∀ n : Int, (n == 0) = decide (n = 0) := fun n => rfl
  simp only [e2]

set_option maxHeartbeats 4000000 in
set_option maxRecDepth 100000 in
theorem rstep_any (x : StepS) (hn : x.name.size ≤ maxLen) (hu : x.undo.size ≤ maxLen) (w : World) :
    Calls Try.prog 69 #[x.val'] w fun e w' => e = .returned (.bool (stepB x)) ∧ Below w.heap.size w w' := by
  obtain ⟨kind, name, undo, tries, undoTries, wait⟩ := x
  have HS : Hid (stepB ⟨kind, name, undo, tries, undoTries, wait⟩ = if (kind == 1) = true then (if undo = ByteArray.empty then (undoTries == 0) else nameB undo && inB undoTries 1 5) && (nameB name && inB tries 1 5 && (wait == 0))
      else if (kind == 2) = true then decide (name = ByteArray.empty) && decide (undo = ByteArray.empty) && (tries == 0) && (undoTries == 0) && inB wait 1 1000
      else if (kind == 3) = true then nameB name && decide (undo = ByteArray.empty) && (tries == 0) && (undoTries == 0) && (wait == 0) else false) := step_form _ _ _ _ _ _
  generalize stepB ⟨kind, name, undo, tries, undoTries, wait⟩ = SB at *
  have hb0 : Below w.heap.size w (w.alloc (.cells #[.int .i64 kind, .string name, .string undo, .int .i64 tries, .int .i64 undoTries, .int .i64 wait] 93)) := (Below.refl _ w).alloc (Nat.le_refl _) _
  have HB := Lib.hid hb0
  have hnw := heap_alloc_new w (.cells #[.int .i64 kind, .string name, .string undo, .int .i64 tries, .int .i64 undoTries, .int .i64 wait] 93)
  have c0 := (block_cell hnw 0).trans rfl
  have c1 := (block_cell hnw 1).trans rfl
  have c2 := (block_cell hnw 2).trans rfl
  have c3 := (block_cell hnw 3).trans rfl
  have c4 := (block_cell hnw 4).trans rfl
  have c5 := (block_cell hnw 5).trans rfl
  have heu := empty_iff undo
  have hen := empty_iff name
  unfold StepS.val'
  clear hb0 hnw
  go_enter Try.func69, Try.ntmps69
  go_wp2_with (first
    | (go_at_call 44; refine (rnamed_any _ (by first | exact hn | exact hu | decide) _).mono ?_; rintro e w1 ⟨rfl, rfl⟩)
    | (go_at_call 68; refine (rin_any _ _ _ _).mono ?_; rintro e w1 ⟨rfl, rfl⟩))
  all_goals go_ret
  all_goals clear c0 c1 c2 c3 c4 c5
  all_goals refine ⟨?_, (Below.refl _ w).alloc (Nat.le_refl _) _⟩
  all_goals rw [HS.out]
  all_goals clear HS HB
  all_goals first | (simp [*, empty_dec]; done) | (simp_all [empty_dec]; done)
end Go.Proofs.Ythliofijioghkaa
