/- Layer 13: the contract of the reference's Right. -/
import Derived.Test.YthliofijioghkaaR13
import Derived.Test.YthliofijioghkaaR13f
import Derived.Test.YthliofijioghkaaR12g
namespace Go.Proofs.Ythliofijioghkaa
open Go.RowKit
set_option linter.unusedVariables false

def EvS.cells (e : EvS) : List Value := [.int .i64 e.id, .int .i64 e.kind, .int .i64 e.tick, .int .i64 e.ref, .int .i64 e.step, .int .i64 e.tryN, .bool e.undo, .string e.data]
def EvS.val' (e : EvS) : Value := .agg #[.int .i64 e.id, .int .i64 e.kind, .int .i64 e.tick, .int .i64 e.ref, .int .i64 e.step, .int .i64 e.tryN, .bool e.undo, .string e.data]
theorem okB_end {s : ByteArray} {p : ProgS} {E : Nat} (h : DecEnd s p E) : ((E : Int) == 0) = okB s.data.toList := by
  rcases h with ⟨h1, _, rfl⟩ | ⟨h1, _, rfl⟩ <;> rw [h1] <;> rfl
theorem bx_list (f : List UInt8) : (bx f).toList = f := Lib.toList_data _
theorem inB_no {n low high : Int} (h : n < low ∨ high < n) : inB n low high = false := by
  cases hb : inB n low high with
  | false => rfl
  | true => have := inB_iff.1 hb; omega
theorem inB_yes {n low high : Int} (h : low ≤ n ∧ n ≤ high) : inB n low high = true := inB_iff.2 h
theorem dataB_empty {f : List UInt8} (s : ByteArray) (h1 : ((bx f).toList == [112]) = false) (h2 : ((bx f).toList == [110]) = false) : dataB f s = s.toList.isEmpty := by
  rw [bx_list] at h1 h2
  unfold dataB
  rw [if_neg (by simpa using h1), if_neg (by simpa using h2), empty_dec]
  simp [empty_size]
theorem undoF_yes {f : List UInt8} (u : Bool) (h : (!(bx f).toList == [115, 117]) = false) : undoF f u = true := by
  rw [bx_list] at h
  have : f = [115, 117] := by simpa using h
  simp [undoF, this]
theorem bx_is (f g : List UInt8) : decide ((bx f).toList = g) = decide (f = g) := by rw [Lib.toList_data]; rfl

set_option maxHeartbeats 4000000 in
set_option maxRecDepth 100000 in
theorem rright13_any (e : EvS) (hd : e.data.size ≤ 140737488351232) (w : World) :
    Calls Try.prog 24 #[e.val'] w fun x w' => x = .returned (.bool (evB e)) ∧ Below w.heap.size w w' := by
  obtain ⟨id, kind, tick, ref, step, tryN, undo, data⟩ := e
  have HEV : Hid (evB ⟨id, kind, tick, ref, step, tryN, undo, data⟩ = (inB kind 1 18 && inB id 1 500 && inB tick 0 1099511627776 && (fieldB (shapeL kind) 114 ref 1 (id - 1) && fieldB (shapeL kind) 115 step 0 15 && fieldB (shapeL kind) 116 tryN 1 5 && undoF (shapeL kind) undo && dataB (shapeL kind) data))) := rfl
  generalize evB ⟨id, kind, tick, ref, step, tryN, undo, data⟩ = EB at *
  obtain ⟨w0, hw0⟩ : ∃ w0, w.alloc (.cells #[.int .i64 id, .int .i64 kind, .int .i64 tick, .int .i64 ref, .int .i64 step, .int .i64 tryN, .bool undo, .string data] 23) = w0 := ⟨_, rfl⟩
  have hb0 : Below w.heap.size w w0 := by rw [← hw0]; exact (Below.refl _ w).alloc (Nat.le_refl _) _
  have hnw : w0.heap[w.heap.size]? = some (.cells #[.int .i64 id, .int .i64 kind, .int .i64 tick, .int .i64 ref, .int .i64 step, .int .i64 tryN, .bool undo, .string data] 23 (0, 0)) := by rw [← hw0]; exact heap_alloc_new _ _
  unfold EvS.val'
  simp only
  have HB := Lib.hid hb0
  have SX : Hid (∀ w', Below w0.heap.size w0 w' → w'.cell? ⟨w.heap.size, 0, none⟩ = some (.int .i64 id) ∧ w'.cell? ⟨w.heap.size, 1, none⟩ = some (.int .i64 kind) ∧ w'.cell? ⟨w.heap.size, 2, none⟩ = some (.int .i64 tick) ∧ w'.cell? ⟨w.heap.size, 3, none⟩ = some (.int .i64 ref) ∧ w'.cell? ⟨w.heap.size, 4, none⟩ = some (.int .i64 step) ∧ w'.cell? ⟨w.heap.size, 5, none⟩ = some (.int .i64 tryN) ∧ w'.cell? ⟨w.heap.size, 6, none⟩ = some (.bool undo) ∧ w'.cell? ⟨w.heap.size, 7, none⟩ = some (.string data)) := fun w' t => by
    have e := (t.block _ (block_lt hnw)).trans hnw
    rw [block_cell e, block_cell e, block_cell e, block_cell e, block_cell e, block_cell e, block_cell e, block_cell e]
    exact ⟨rfl, rfl, rfl, rfl, rfl, rfl, rfl, rfl⟩
  obtain ⟨c0, c1, c2, c3, c4, c5, c6, c7⟩ := SX.out w0 (Below.refl _ _)
  have hfl := rfields_any kind w0
  generalize shapeL kind = f at *
  have hik : Hid (inB kind 1 18 = inB kind 1 18) := rfl
  generalize inB kind 1 18 = ik at *
  clear hb0 hnw
  go_enter Try.func24, Try.ntmps24
  go_wp2_with fail
  refine hfl.mono ?_
  rintro e w1 ⟨rfl, b1⟩
  clear c0 c1 c2 c3 c4 c5 c6 c7
  obtain ⟨c0, c1, c2, c3, c4, c5, c6, c7⟩ := SX.out w1 b1
  have B1 := Lib.hid (HB.out.trans (b1.mono HB.out.size))
  clear b1 hfl
  go_wp2_with (first
    | (go_at_call 42; refine (rin13_any _ _ _ _ _ _).mono ?_; rintro e w1 ⟨rfl, rfl⟩)
    | (go_at_call 44; refine (rnamed_any _ (by unfold maxLen; omega) _).mono ?_; rintro e w1 ⟨rfl, rfl⟩)
    | (go_at_call 43; refine (rdecode_any _ hd _).mono ?_; rintro e w2 ⟨aP, cP, pP, EP, rfl, hR, hE, b2⟩; have hE2 := okB_end hE; have B2 := Lib.hid (B1.out.trans (b2.mono B1.out.size)); clear hR hE b2; clear c0 c1 c2 c3 c4 c5 c6 c7; unfold ProgS.val'))
  all_goals go_ret
  all_goals rw [HEV.out]
  all_goals clear SX hw0 HEV
  all_goals refine ⟨?_, by repeat (first | exact B2.out | exact B1.out | apply Below.drew | (refine Below.alloc ?_ (by first | exact B2.out.size | exact B1.out.size) _) | (refine Below.setCell ?_ (by first | exact B2.out.size | exact B1.out.size) _))⟩
  all_goals try clear c0 c1 c2 c3 c4 c5 c6 c7
  all_goals refine congrArg (fun b => Ending.returned (Value.bool b)) ?_
  all_goals first
    | (rw [inB_no (n := id) (by omega)]; simp; done)
    | (rw [inB_no (n := tick) (by omega)]; simp; done)
    | (rw [dataB_empty data (by assumption) (by assumption), inB_yes (n := id) (by omega), inB_yes (n := tick) (by omega), undoF_yes undo (by assumption)]; simp [*]; done)
    | (rw [dataB_empty data (by assumption) (by assumption), inB_yes (n := id) (by omega), inB_yes (n := tick) (by omega)]; simp [*, undoF]; done)
    | (simp [*, bx_list, inB, dataB, undoF, empty_size]; done)
    | (simp_all [bx_list, inB, dataB, undoF, empty_size]; done)
end Go.Proofs.Ythliofijioghkaa
