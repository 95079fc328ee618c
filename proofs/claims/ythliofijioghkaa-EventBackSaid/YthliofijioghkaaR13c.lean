/- Layer 13: the contract of the reference's Encode. -/
import Derived.Test.YthliofijioghkaaR13b
import Derived.Deep.QuietTactic
import Derived.BigQuiet
import Derived.Deep.Cut
import Derived.Deep.RegionHeld3
namespace Go.Proofs.Ythliofijioghkaa
open Go.RowKit
set_option linter.unusedVariables false

def encES (e : EvS) : ByteArray := if evB e = true then bx (encEv e) else bx []
def encEE (e : EvS) : Nat := if evB e = true then 0 else 120
/-- What stands behind so many fields. -/
def evTo (e : EvS) (i : Nat) : List UInt8 := headL e ++ fldsL e ((shapeL e.kind).take i)
theorem evTo_all (e : EvS) : evTo e (shapeL e.kind).length = encEv e := by unfold evTo encEv; rw [List.take_length]
theorem evTo_next {e : EvS} {i : Nat} (h : i < (shapeL e.kind).length) : evTo e (i + 1) = evTo e i ++ fldL e (shapeL e.kind)[i] := by
  unfold evTo fldsL
  rw [List.take_succ_eq_append_getElem h, List.flatMap_append, List.flatMap_cons, List.flatMap_nil, List.append_nil, List.append_assoc]
theorem evTo_len {e : EvS} (h : evB e = true) (i : Nat) : (evTo e i).length ≤ 1100 := by
  have h1 := encEv_len h
  have h2 : (fldsL e (shapeL e.kind)).length = (fldsL e ((shapeL e.kind).take i)).length + (fldsL e ((shapeL e.kind).drop i)).length := by
    rw [← List.length_append]
    unfold fldsL
    rw [← List.flatMap_append, List.take_append_drop]
  unfold encEv at h1
  unfold evTo
  rw [List.length_append] at h1 ⊢
  omega
/-- Its numbers. -/
theorem ev_nums {e : EvS} (h : evB e = true) : ∃ i k t r s y : Nat, e.id = i ∧ e.kind = k ∧ e.tick = t ∧ e.ref = r ∧ e.step = s ∧ e.tryN = y ∧ i ≤ 500 ∧ k ≤ 18 ∧ t ≤ 1099511627776 ∧ r ≤ 500 ∧ s ≤ 15 ∧ y ≤ 5 ∧ e.data.size ≤ 1000 := by
  have h := (evB_iff e).1 h
  have hd := dataB_size h.data
  obtain ⟨h1, h2, h3, h4, h5, h6, h7, h8, h9, h10, h11⟩ := h
  have hr : 0 ≤ e.ref ∧ e.ref ≤ 500 := by
    cases hc : (shapeL e.kind).contains 114
    · have := h5 hc; omega
    · have := h4 hc; omega
  have hs : 0 ≤ e.step ∧ e.step ≤ 15 := by
    cases hc : (shapeL e.kind).contains 115
    · have := h7 hc; omega
    · have := h6 hc; omega
  have ht : 0 ≤ e.tryN ∧ e.tryN ≤ 5 := by
    cases hc : (shapeL e.kind).contains 116
    · have := h9 hc; omega
    · have := h8 hc; omega
  exact ⟨e.id.toNat, e.kind.toNat, e.tick.toNat, e.ref.toNat, e.step.toNat, e.tryN.toNat, by omega, by omega, by omega, by omega, by omega, by omega, by omega, by omega, by omega, by omega, by omega, by omega, hd⟩
theorem bx_at (f : List UInt8) (i : Nat) (h : i < f.length) (h2 : i < (bx f).size) : (bx f)[i] = f[i] := by
  show (f.toArray)[i]'(by simpa using h) = f[i]
  simp
  rfl

set_option maxHeartbeats 4000000 in
set_option maxRecDepth 100000 in
theorem rencode13_any (e : EvS) (hd : e.data.size ≤ 140737488351232) (w : World) :
    Calls Try.prog 11 #[e.val'] w fun x w' => x = .returned (.tuple #[.string (encES e), .int .i64 (encEE e : Nat)]) ∧ Below w.heap.size w w' := by
  obtain ⟨w0, hw0⟩ : ∃ w0, w.alloc (.cells #[.int .i64 e.id, .int .i64 e.kind, .int .i64 e.tick, .int .i64 e.ref, .int .i64 e.step, .int .i64 e.tryN, .bool e.undo, .string e.data] 23) = w0 := ⟨_, rfl⟩
  have hb0 : Below w.heap.size w w0 := by rw [← hw0]; exact (Below.refl _ w).alloc (Nat.le_refl _) _
  have hnw : w0.heap[w.heap.size]? = some (.cells #[.int .i64 e.id, .int .i64 e.kind, .int .i64 e.tick, .int .i64 e.ref, .int .i64 e.step, .int .i64 e.tryN, .bool e.undo, .string e.data] 23 (0, 0)) := by rw [← hw0]; exact heap_alloc_new _ _
  have hri := rright13_any e hd w0
  have HB := Lib.hid hb0
  have SX : Hid (∀ w', Below w0.heap.size w0 w' → w'.cell? ⟨w.heap.size, 0, none⟩ = some (.int .i64 e.id) ∧ w'.cell? ⟨w.heap.size, 1, none⟩ = some (.int .i64 e.kind) ∧ w'.cell? ⟨w.heap.size, 2, none⟩ = some (.int .i64 e.tick) ∧ w'.cell? ⟨w.heap.size, 3, none⟩ = some (.int .i64 e.ref) ∧ w'.cell? ⟨w.heap.size, 4, none⟩ = some (.int .i64 e.step) ∧ w'.cell? ⟨w.heap.size, 5, none⟩ = some (.int .i64 e.tryN) ∧ w'.cell? ⟨w.heap.size, 6, none⟩ = some (.bool e.undo) ∧ w'.cell? ⟨w.heap.size, 7, none⟩ = some (.string e.data)) := fun w' t => by
    have e := (t.block _ (block_lt hnw)).trans hnw
    rw [block_cell e, block_cell e, block_cell e, block_cell e, block_cell e, block_cell e, block_cell e, block_cell e]
    exact ⟨rfl, rfl, rfl, rfl, rfl, rfl, rfl, rfl⟩
  by_cases hp : evB e = true
  · have hS : encES e = bx (encEv e) := if_pos hp
    have hE : encEE e = 0 := if_pos hp
    rw [hS, hE]
    rw [hp] at hri
    have hlen := fun i => evTo_len hp i
    have hall := evTo_all e
    have HNX : Hid (∀ i (h : i < (shapeL e.kind).length), evTo e (i + 1) = evTo e i ++ fldL e (shapeL e.kind)[i]) := fun i h => evTo_next h
    obtain ⟨n1, n2, n3, n4, n5, n6, e1, e2, e3, e4, e5, e6, l1, l2, l3, l4, l5, l6, l7⟩ := ev_nums hp
    obtain ⟨E, hE⟩ : ∃ E : Nat → ByteArray, (fun i => bx (evTo e i)) = E := ⟨_, rfl⟩
    have hEi : ∀ i, bx (evTo e i) = E i := fun i => congrFun hE i
    have hz : (bx (putL n1) ++ bx (putL n2)) ++ bx (putL n3) = E 0 := by
      rw [← hEi, bx_app, bx_app]
      simp [evTo, headL, fldsL, e1, e2, e3]
    have HSZ : Hid (∀ i, (E i).size ≤ 1100) := fun i => by rw [← hEi, bx_size]; exact hlen i
    have HEE : Hid (E (shapeL e.kind).length = bx (encEv e)) := by show _ = _; rw [← hEi, hall]
    have hfl := fun w => rfields_any e.kind w
    obtain ⟨g, hg⟩ : ∃ g : UInt8 → ByteArray, (fun c => bx (fldL e c)) = g := ⟨_, rfl⟩
    have hgi : ∀ c, bx (fldL e c) = g c := fun c => congrFun hg c
    have HNE : Hid (∀ i (h : i < (shapeL e.kind).length), E (i + 1) = E i ++ g (shapeL e.kind)[i]) := fun i h => by rw [← hEi, ← hEi, HNX.out i h, ← bx_app, hgi]
    have G4 : Hid (g 114 = bx (putL n4)) := by show _ = _; rw [← hgi]; simp [fldL, e4]
    have G5 : Hid (g 115 = bx (putL n5)) := by show _ = _; rw [← hgi]; simp [fldL, e5]
    have G6 : Hid (g 116 = bx (putL n6)) := by show _ = _; rw [← hgi]; simp [fldL, e6]
    have G7 : Hid (g 117 = bx (putL (if e.undo then 1 else 0))) := by show _ = _; rw [← hgi]; simp [fldL]
    have GD : Hid (∀ c : UInt8, c ≠ 114 → c ≠ 115 → c ≠ 116 → c ≠ 117 → g c = bx (textL e.data)) := fun c a1 a2 a3 a4 => by rw [← hgi]; simp [fldL, a1, a2, a3, a4]
    obtain ⟨id, kind, tick, ref, step, tryN, undo, data⟩ := e
    simp only at e1 e2 e3 e4 e5 e6 l7 hd HEE HNE G7 GD hfl hw0 SX hnw
    subst e1 e2 e3 e4 e5 e6
    obtain ⟨c0, c1, c2, c3, c4, c5, c6, c7⟩ := SX.out w0 (Below.refl _ _)
    obtain ⟨f, hff⟩ : ∃ f, shapeN n2 = f := ⟨_, rfl⟩
    have hff2 : shapeL (n2 : Int) = f := hff
    rw [hff2] at hfl
    simp only [hff2] at HEE HNE
    have hfm : (bx f).size ≤ 9223372036854775807 := by
      rcases shape_cases n2 with h | h | h | h | h | h | h <;> rw [show f = _ from hff.symm.trans h, bx_size] <;> decide
    obtain ⟨sF, hsF, hF1, hfs⟩ : ∃ sF : ByteArray, bx f = sF ∧ (∀ i (h : i < f.length) (h2 : i < sF.size), sF[i] = f[i]) ∧ sF.size = f.length := ⟨bx f, rfl, fun i h h2 => bx_at f i h h2, bx_size f⟩
    rw [hsF] at hfl hfm
    have HF1 := Lib.hid hF1
    clear hsF hF1
    have hI1 := fun w => rint_bx n1 (by omega) w
    have hI2 := fun w => rint_bx n2 (by omega) w
    have hI3 := fun w => rint_bx n3 (by omega) w
    have s1 : (bx (putL n1)).size ≤ 10 := by rw [bx_size]; exact putL_len10 (show n1 < _ by omega)
    have s2 : (bx (putL n2)).size ≤ 10 := by rw [bx_size]; exact putL_len10 (show n2 < _ by omega)
    have s3 : (bx (putL n3)).size ≤ 10 := by rw [bx_size]; exact putL_len10 (show n3 < _ by omega)
    have k1 : ¬ 9223372036854775807 < (bx (putL n1)).size + (bx (putL n2)).size := by omega
    have k2 : ¬ 9223372036854775807 < (bx (putL n1)).size + (bx (putL n2)).size + (bx (putL n3)).size := by omega
    have HI4 := Lib.hid (fun w => rint_bx n4 (by omega) w)
    have HI5 := Lib.hid (fun w => rint_bx n5 (by omega) w)
    have HI6 := Lib.hid (fun w => rint_bx n6 (by omega) w)
    have HI7 := Lib.hid (fun w => rint_bx 1 (by omega) w)
    have HI8 := Lib.hid (fun w => rint_bx 0 (by omega) w)
    have HTX := Lib.hid (fun w => rtext_bx data (by omega) w)
    generalize bx (putL n1) = T1 at *
    generalize bx (putL n2) = T2 at *
    generalize bx (putL n3) = T3 at *
    have Z1 := Lib.hid hz
    clear hb0 hnw hlen hall HNX hE hEi hg hgi hz hp
    unfold EvS.val' at hri ⊢
    simp only at hri ⊢
    go_enter Try.func11, Try.ntmps11
    go_wp2_with fail
    refine hri.mono ?_
    rintro x w1 ⟨rfl, b1⟩
    have B1 := Lib.hid b1
    clear b1 hri c0 c1 c2 c3 c4 c5 c6 c7
    obtain ⟨c0, c1, c2, c3, c4, c5, c6, c7⟩ := SX.out w1 B1.out
    clear c0 c2 c3 c4 c5 c6 c7
    go_wp2_with fail
    refine (hfl _).mono ?_
    rintro x w2 ⟨rfl, b2⟩
    have B2 : Hid (Below w0.heap.size w0 w2) := below_next B1.out (Nat.le_refl _) b2
    clear b2 hfl c1
    go_upto_region 4 with (fail)
    go_region_held3 (fun w' => w'.cell? ⟨w.heap.size, 0, none⟩ = some (.int .i64 n1) ∧ w'.cell? ⟨w.heap.size, 1, none⟩ = some (.int .i64 n2) ∧ w'.cell? ⟨w.heap.size, 2, none⟩ = some (.int .i64 n3)) (exact SX.out _ (by repeat (first | exact BE.out | exact BD.out | exact BC.out | exact B2.out | apply Below.drew)) |> fun h => ⟨h.1, h.2.1, h.2.2.1⟩)
      (first
      | (go_at_call 26; refine (hI1 _).mono ?_; rintro x wC ⟨rfl, bC⟩; have BC : Hid (Below w0.heap.size w0 wC) := below_next (by repeat (first | exact B2.out | apply Below.drew)) (Nat.le_refl _) bC; clear bC)
      | (go_at_call 26; refine (hI2 _).mono ?_; rintro x wD ⟨rfl, bD⟩; have BD : Hid (Below w0.heap.size w0 wD) := below_next (by repeat (first | exact BC.out | apply Below.drew)) (Nat.le_refl _) bD; clear bD)
      | (go_at_call 26; refine (hI3 _).mono ?_; rintro x wE ⟨rfl, bE⟩; have BE : Hid (Below w0.heap.size w0 wE) := below_next (by repeat (first | exact BD.out | apply Below.drew)) (Nat.le_refl _) bE; clear bE))
    rw [Z1.out]
    clear k1 k2 s1 s2 s3 hI1 hI2 hI3 Z1
    go_wp2
    go_loopw [6, 7] (fun sv iv wr => ∃ i : Nat, i ≤ f.length ∧ iv = .int .i64 (i : Int) ∧ sv = .string (E i) ∧ Hid (Below w0.heap.size w0 wr)) (fun _ iv _ => f.length - (intOf iv).toNat)
    case atStart => exact ⟨0, Nat.zero_le _, rfl, rfl, BE.out⟩
    case round =>
      clear BE BD BC B1 B2
      obtain ⟨i, hi, rfl, rfl, HI⟩ := hrel
      obtain ⟨c0, c1, c2, c3, c4, c5, c6, c7⟩ := SX.out wr HI.out
      clear c0 c1 c2
      by_cases hlt : i < f.length
      · have hlt2 : i < sF.size := by omega
        have hat := HF1.out i hlt hlt2
        have hne := HNE.out i hlt
        have z1 := HSZ.out i
        have z2 := HSZ.out (i + 1)
        rw [hne, ByteArray.size_append] at z2
        have HNI := Lib.hid hne
        have hmes : f.length - (intOf (.int .i64 ((i : Int) + 1))).toNat < f.length - (intOf (.int .i64 (i : Int))).toNat := by simp [intOf]; omega
        clear hne
        generalize f[i] = c at *
        by_cases q114 : c = 114
        · subst q114
          have q : ((sF[i].toNat : Nat) : Int) = 114 := by rw [hat]; rfl
          rw [G4.out] at z2 HNI
          have hI := HI4.out
          clear hat
          have HP := HNI
          generalize bx (putL n4) = TA at *
          have nn : ¬ 9223372036854775807 < (E i).size + TA.size := by omega
          go_wp2_with fail
          refine (hI _).mono ?_
          rintro x wA ⟨rfl, bA⟩
          have HF2 := Lib.hid (HI.out.trans (bA.mono HI.out.size))
          clear bA c3 c4 c5 c6 c7
          go_wp2
          go_roundw
          case rel => exact ⟨i + 1, by omega, by go_num, by rw [HP.out], HF2.out⟩
          case measure => exact hmes
        have q214 : ¬ ((sF[i].toNat : Nat) : Int) = 114 := by rw [hat]; intro h; exact q114 (UInt8.toNat_inj.1 (by show c.toNat = 114; omega))
        by_cases q115 : c = 115
        · subst q115
          have q : ((sF[i].toNat : Nat) : Int) = 115 := by rw [hat]; rfl
          rw [G5.out] at z2 HNI
          have hI := HI5.out
          clear hat
          have HP := HNI
          generalize bx (putL n5) = TA at *
          have nn : ¬ 9223372036854775807 < (E i).size + TA.size := by omega
          go_wp2_with fail
          refine (hI _).mono ?_
          rintro x wA ⟨rfl, bA⟩
          have HF2 := Lib.hid (HI.out.trans (bA.mono HI.out.size))
          clear bA c3 c4 c5 c6 c7
          go_wp2
          go_roundw
          case rel => exact ⟨i + 1, by omega, by go_num, by rw [HP.out], HF2.out⟩
          case measure => exact hmes
        have q215 : ¬ ((sF[i].toNat : Nat) : Int) = 115 := by rw [hat]; intro h; exact q115 (UInt8.toNat_inj.1 (by show c.toNat = 115; omega))
        by_cases q116 : c = 116
        · subst q116
          have q : ((sF[i].toNat : Nat) : Int) = 116 := by rw [hat]; rfl
          rw [G6.out] at z2 HNI
          have hI := HI6.out
          clear hat
          have HP := HNI
          generalize bx (putL n6) = TA at *
          have nn : ¬ 9223372036854775807 < (E i).size + TA.size := by omega
          go_wp2_with fail
          refine (hI _).mono ?_
          rintro x wA ⟨rfl, bA⟩
          have HF2 := Lib.hid (HI.out.trans (bA.mono HI.out.size))
          clear bA c3 c4 c5 c6 c7
          go_wp2
          go_roundw
          case rel => exact ⟨i + 1, by omega, by go_num, by rw [HP.out], HF2.out⟩
          case measure => exact hmes
        have q216 : ¬ ((sF[i].toNat : Nat) : Int) = 116 := by rw [hat]; intro h; exact q116 (UInt8.toNat_inj.1 (by show c.toNat = 116; omega))
        by_cases q117 : c = 117
        · subst q117
          have q : ((sF[i].toNat : Nat) : Int) = 117 := by rw [hat]; rfl
          rw [G7.out] at z2 HNI
          clear q114 q115 q116
          cases undo
          · simp only [Bool.false_eq_true, if_false, if_true] at z2 HNI
            have hI := HI8.out
            clear hat
            have HP := HNI
            generalize bx (putL 0) = TA at *
            have nn : ¬ 9223372036854775807 < (E i).size + TA.size := by omega
            go_wp2_with fail
            refine (hI _).mono ?_
            rintro x wA ⟨rfl, bA⟩
            have HF2 := Lib.hid (HI.out.trans (bA.mono HI.out.size))
            clear bA c3 c4 c5 c6 c7
            go_wp2
            go_roundw
            case rel => exact ⟨i + 1, by omega, by go_num, by rw [HP.out], HF2.out⟩
            case measure => exact hmes
          · simp only [Bool.false_eq_true, if_false, if_true] at z2 HNI
            have hI := HI7.out
            clear hat
            have HP := HNI
            generalize bx (putL 1) = TA at *
            have nn : ¬ 9223372036854775807 < (E i).size + TA.size := by omega
            go_wp2_with fail
            refine (hI _).mono ?_
            rintro x wA ⟨rfl, bA⟩
            have HF2 := Lib.hid (HI.out.trans (bA.mono HI.out.size))
            clear bA c3 c4 c5 c6 c7
            go_wp2
            go_roundw
            case rel => exact ⟨i + 1, by omega, by go_num, by rw [HP.out], HF2.out⟩
            case measure => exact hmes
        have q217 : ¬ ((sF[i].toNat : Nat) : Int) = 117 := by rw [hat]; intro h; exact q117 (UInt8.toNat_inj.1 (by show c.toNat = 117; omega))
        rw [GD.out c q114 q115 q116 q117] at z2 HNI
        have hI := HTX.out
        clear hat
        have HP := HNI
        generalize bx (textL data) = TA at *
        have nn : ¬ 9223372036854775807 < (E i).size + TA.size := by omega
        go_wp2_with fail
        refine (hI _).mono ?_
        rintro x wA ⟨rfl, bA⟩
        have HF2 := Lib.hid (HI.out.trans (bA.mono HI.out.size))
        clear bA c3 c4 c5 c6 c7
        go_wp2
        go_roundw
        case rel => exact ⟨i + 1, by omega, by go_num, by rw [HP.out], HF2.out⟩
        case measure => exact hmes
      · obtain rfl : i = f.length := by omega
        go_wp2
        go_ret2
        exact ⟨by rw [← HEE.out]; rfl, HB.out.trans (HI.out.mono HB.out.size)⟩
  · have hS : encES e = bx [] := if_neg hp
    have hE : encEE e = 120 := if_neg hp
    rw [hS, hE]
    rw [Bool.not_eq_true] at hp
    rw [hp] at hri
    obtain ⟨id, kind, tick, ref, step, tryN, undo, data⟩ := e
    simp only at hw0 SX hnw hd
    obtain ⟨c0, c1, c2, c3, c4, c5, c6, c7⟩ := SX.out w0 (Below.refl _ _)
    unfold EvS.val' at hri ⊢
    simp only at hri ⊢
    clear hb0 hnw SX
    go_enter Try.func11, Try.ntmps11
    go_wp2_with fail
    refine hri.mono ?_
    rintro x w1 ⟨rfl, b1⟩
    have B1 := Lib.hid (HB.out.trans (b1.mono HB.out.size))
    clear b1 c0 c1 c2 c3 c4 c5 c6 c7
    go_wp2
    go_ret2
    exact ⟨rfl, B1.out⟩
end Go.Proofs.Ythliofijioghkaa
