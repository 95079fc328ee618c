/- Layer 12: the contract of the program's Encode. -/
import Derived.Test.YtefgnigbppfgfaaW12c
namespace Go.Proofs.Ytefgnigbppfgfaa
open Go.RowKit
set_option linter.unusedVariables false

set_option maxHeartbeats 4000000 in
set_option maxRecDepth 100000 in
theorem encode_any {w : World} {a : Option Addr} {c : Nat} (p : ProgS) (h : ReadG w (.slice a p.steps.length c) p.steps) :
    Calls Try.prog 9 #[p.val' a c] w fun e w' => e = .returned (.tuple #[.string (encS p), .int .i64 (encE p : Nat)]) ∧ Below w.heap.size w w' := by
  obtain ⟨w0, hw0⟩ : ∃ w0, w.alloc (.cells #[.slice a p.steps.length c, .int .i64 p.limit] 24) = w0 := ⟨_, rfl⟩
  have hb0 : Below w.heap.size w w0 := by rw [← hw0]; exact (Below.refl _ w).alloc (Nat.le_refl _) _
  have hnw : w0.heap[w.heap.size]? = some (.cells #[.slice a p.steps.length c, .int .i64 p.limit] 24 (0, 0)) := by rw [← hw0]; exact heap_alloc_new _ _
  have hri := check_any p (h.below hb0)
  have HNW := Lib.hid hnw
  have H := Lib.hid (h.below hb0)
  have HB := Lib.hid hb0
  have c0 : w0.cell? ⟨w.heap.size, 0, none⟩ = some (.slice a p.steps.length c) := by rw [block_cell hnw]; rfl
  have c1 : w0.cell? ⟨w.heap.size, 1, none⟩ = some (.int .i64 p.limit) := by rw [block_cell hnw]; rfl
  by_cases hp : progB p = true
  · have hS : encS p = bx (encProg p) := if_pos hp
    have hE : encE p = 0 := if_pos hp
    rw [hS, hE]
    rw [hE] at hri
    obtain ⟨h1, h2, h3, h4⟩ := progB_parts hp
    have hlen := fun i => encTo_len hp i
    have hall := encTo_all p
    obtain ⟨l, lim⟩ := p
    simp only at h1 h2 h3 h4 c0 c1 hall
    obtain ⟨n, rfl⟩ := Int.eq_ofNat_of_zero_le h2
    have hI1 := fun w => number_bx n (by omega) w
    have hI2 := fun w => number_bx l.length (by omega) w
    have z0 : encTo ⟨l, (n : Int)⟩ 0 = putL n ++ putL l.length := by simp [encTo, encSteps]
    have z1 : bx (putL n) ++ bx (putL l.length) = bx (encTo ⟨l, (n : Int)⟩ 0) := by rw [bx_app, z0]
    have s1 : (bx (putL n)).size ≤ 2 := by rw [bx_size]; exact putL_small (by omega)
    have s2 : (bx (putL l.length)).size ≤ 2 := by rw [bx_size]; exact putL_small (by omega)
    have HNX : Hid (∀ i (h : i < l.length), encTo ⟨l, (n : Int)⟩ (i + 1) = encTo ⟨l, (n : Int)⟩ i ++ encStep l[i]) := fun i h => encTo_next (p := ⟨l, (n : Int)⟩) h
    have HAL : Hid (∀ i (h : i < l.length), stepB l[i] = true) := fun i h => List.all_eq_true.1 h4 _ (List.getElem_mem h)
    have HLN : Hid (∀ i, (bx (encTo ⟨l, (n : Int)⟩ i)).size ≤ 800) := fun i => by rw [bx_size]; exact hlen i
    have HEN : Hid (bx (encTo ⟨l, (n : Int)⟩ l.length) = bx (encProg ⟨l, (n : Int)⟩)) := by show _ = _; rw [hall]
    unfold ProgS.val' at hri ⊢
    simp only at hri ⊢
    have n1 : ¬ 9223372036854775807 < (bx (putL n)).size + (bx (putL l.length)).size := by omega
    generalize bx (putL n) = T1 at *
    generalize bx (putL l.length) = T2 at *
    have HRI := Lib.hid hri
    have Z1 := Lib.hid z1
    have HI1 := Lib.hid hI1
    have HI2 := Lib.hid hI2
    clear hri h h3 h4 hb0 hlen hall z0 z1 hp hS hE hI1 hI2 s1 s2
    go_enter Try.func9, Try.ntmps9
    go_wp2_with fail
    refine HRI.out.mono ?_
    rintro e w1 ⟨rfl, b1⟩
    have hc1 := (b1.block _ (block_lt HNW.out)).trans HNW.out
    have B1 := Lib.hid b1
    have HC2 : Hid (∀ y : BW w1, y.w'.heap[w.heap.size]? = some (.cells #[.slice a l.length c, .int .i64 (n : Int)] 24 (0, 0))) := fun y => (y.below.block _ (block_lt hc1)).trans hc1
    have d0 := fun y => (block_cell (HC2.out y) 0).trans rfl
    have d1 := fun y => (block_cell (HC2.out y) 1).trans rfl
    clear c0 c1 b1 hc1 hnw
    go_upto_region 4 with (fail)
    refine region_class (w := w1) ⟨w1, Below.refl _ _⟩ rfl (by kernel_rfl) (by kernel_rfl) ?_
    repeat (go_big_quiet_step ((go_at_call 17; first | exact class_call (HI1.out _) | exact class_call (HI2.out _))))
    refine wpQuiet_nil ?_
    rintro _ ⟨y, rfl⟩
    have BD : Hid (Below w0.heap.size w0 y.w') := B1.out.trans (y.below.mono B1.out.size)
    rw [Z1.out]
    have SB : Hid (∀ w', Below w0.heap.size w0 w' → w'.cell? ⟨w.heap.size, 0, none⟩ = some (.slice a l.length c)) := fun w' t => by
      rw [block_cell ((t.block _ (block_lt HNW.out)).trans HNW.out)]; rfl
    obtain ⟨E, hE⟩ : ∃ E : Nat → ByteArray, (fun i => bx (encTo ⟨l, (n : Int)⟩ i)) = E := ⟨_, rfl⟩
    have hEi : ∀ i, bx (encTo ⟨l, (n : Int)⟩ i) = E i := fun i => congrFun hE i
    have HNE : Hid (∀ i (h : i < l.length), E (i + 1) = E i ++ bx (encStep l[i])) := fun i h => by
      rw [← hEi, ← hEi, HNX.out i h, bx_app]
    have HSZ : Hid (∀ i, (E i).size ≤ 800) := fun i => by rw [← hEi]; exact HLN.out i
    have HEE : Hid (E l.length = bx (encProg ⟨l, (n : Int)⟩)) := by show _ = _; rw [← hEi]; exact HEN.out
    rw [hEi]
    have e0 := SB.out _ BD.out
    clear hE hEi HNX HLN HEN Z1 n1 d0 d1 HI1 HI2
    have hml : l.length ≤ 9223372036854775807 := by omega
    go_wp2
    clear e0
    go_loopw [5, 24] (fun sv iv wr => ∃ i : Nat, i ≤ l.length ∧ iv = .int .i64 (i : Int) ∧ sv = .string (E i) ∧ Hid (Below w0.heap.size w0 wr)) (fun _ iv _ => l.length - (intOf iv).toNat)
    case atStart => exact ⟨0, Nat.zero_le _, rfl, rfl, BD.out⟩
    case round =>
      clear BD B1
      obtain ⟨i, hi, rfl, rfl, HI⟩ := hrel
      by_cases hlt : i < l.length
      · obtain ⟨b, o, rfl, q0, q1, q2, q3, q4, q5, -, -⟩ := (H.out.below HI.out).at hlt
        have HNI := Lib.hid (HNE.out i hlt)
        have hsz := HSZ.out i
        have hok := HAL.out i hlt
        have hmes : l.length - (intOf (.int .i64 ((i : Int) + 1))).toNat < l.length - (intOf (.int .i64 (i : Int))).toNat := by simp [intOf]; omega
        have hsl : (bx (encStep l[i])).size ≤ 48 := by rw [bx_size]; exact encStep_len hok
        have n1 : ¬ 9223372036854775807 < (E i).size + (bx (encStep l[i])).size := by omega
        have hst := fun w => stepBytes_any l[i] hok w
        generalize bx (encStep l[i]) = ES at *
        generalize l[i] = x at *
        obtain ⟨wx, hwx⟩ : ∃ wx, wr.alloc (.cells #[.int .i64 x.kind, .string x.name, .string x.undo, .int .i64 x.tries, .int .i64 x.undoTries, .int .i64 x.wait] 40) = wx := ⟨_, rfl⟩
        have hb1 : Below wr.heap.size wr wx := by rw [← hwx]; exact (Below.refl _ _).alloc (Nat.le_refl _) _
        have hn1 : wx.heap[wr.heap.size]? = some (.cells #[.int .i64 x.kind, .string x.name, .string x.undo, .int .i64 x.tries, .int .i64 x.undoTries, .int .i64 x.wait] 40 (0, 0)) := by rw [← hwx]; exact heap_alloc_new _ _
        have d0 := (block_cell hn1 0).trans rfl
        have d1 := (block_cell hn1 1).trans rfl
        have d2 := (block_cell hn1 2).trans rfl
        have d3 := (block_cell hn1 3).trans rfl
        have d4 := (block_cell hn1 4).trans rfl
        have d5 := (block_cell hn1 5).trans rfl
        have HB1 := Lib.hid (HI.out.trans (hb1.mono HI.out.size))
        unfold StepS.val' at hst
        have HST := Lib.hid hst
        clear hst hb1 hn1 hok hsl hsz
        go_wp2_with fail
        refine (HST.out _).mono ?_
        rintro e w2 ⟨rfl, b2⟩
        have HB2 := Lib.hid (HB1.out.trans (b2.mono HB1.out.size))
        clear q0 q1 q2 q3 q4 q5 b2 d0 d1 d2 d3 d4 d5
        go_wp2
        go_roundw
        case rel => exact ⟨i + 1, by omega, by go_num, by rw [HNI.out], HB2.out⟩
        case measure => exact hmes
      · obtain rfl : i = l.length := by omega
        go_wp2
        go_ret2
        exact ⟨by rw [← HEE.out]; rfl, HB.out.trans (HI.out.mono HB.out.size)⟩
  · have hS : encS p = bx [] := if_neg hp
    have hE : encE p = 130 := if_neg hp
    rw [hS, hE]
    rw [hE] at hri
    have HRI := Lib.hid hri
    unfold ProgS.val' at HRI ⊢
    clear hri hS hE hp h hb0 hnw
    go_enter Try.func9, Try.ntmps9
    go_wp2_with fail
    refine HRI.out.mono ?_
    rintro e w1 ⟨rfl, b1⟩
    have B1 := Lib.hid (HB.out.trans (b1.mono HB.out.size))
    clear b1 c0 c1
    go_wp2
    go_ret2
    exact ⟨rfl, B1.out⟩
end Go.Proofs.Ytefgnigbppfgfaa
