/- Layer 13: the contract of the reference's Pack. -/
import Derived.Test.YthliofijioghkaaR13e
namespace Go.Proofs.Ythliofijioghkaa
open Go.RowKit
set_option linter.unusedVariables false

def packS (l : List EvS) : ByteArray := if histB l = true then bx (encHist l) else bx []
def packE (l : List EvS) : Nat := if 500 < l.length then 2 else if l.all evB = true then 0 else 120
/-- What stands behind so many events. -/
def histTo (l : List EvS) (i : Nat) : List UInt8 := putL l.length ++ encEvs (l.take i)
theorem histTo_next {l : List EvS} {i : Nat} (h : i < l.length) : histTo l (i + 1) = histTo l i ++ textP (encEv l[i]) := by
  unfold histTo
  rw [encEvs_next h, List.append_assoc]
theorem histTo_all (l : List EvS) : histTo l l.length = encHist l := by unfold histTo encHist; rw [List.take_length]
theorem histTo_len {l : List EvS} (h : l.length ≤ 500) {i : Nat} (hb : (l.take i).all evB = true) : (histTo l i).length ≤ 700000 := by
  have h1 := encEvs_len _ hb
  have h2 := putL_len 4 l.length (by omega)
  have h3 : (l.take i).length ≤ l.length := by rw [List.length_take]; omega
  unfold histTo
  rw [List.length_append]
  omega
theorem all_ev {l : List EvS} {i : Nat} (h : i < l.length) : (l.take (i + 1)).all evB = ((l.take i).all evB && evB l[i]) := by
  rw [List.take_succ_eq_append_getElem h, List.all_append]
  simp
theorem all_not_ev {l : List EvS} {i : Nat} (h : i < l.length) (hb : evB l[i] = false) : l.all evB = false := by
  cases h2 : l.all evB with
  | false => rfl
  | true => rw [List.all_eq_true.1 h2 _ (List.getElem_mem h)] at hb; cases hb
theorem textL_bx (l : List UInt8) : textL (bx l) = textP l := by
  unfold textL textP
  rw [bx_size]
  rfl

set_option maxHeartbeats 4000000 in
set_option maxRecDepth 100000 in
theorem rpack13_any {w : World} {a : Option Addr} {c : Nat} (l : List EvS) (h : ReadE w (.slice a l.length c) l) (hz : ∀ x ∈ l, x.data.size ≤ 140737488351232) :
    Calls Try.prog 19 #[.slice a l.length c] w fun x w' => x = .returned (.tuple #[.string (packS l), .int .i64 (packE l : Nat)]) ∧ Below w.heap.size w w' := by
  have hml : l.length ≤ 9223372036854775807 := by have := h.1; unfold maxLen at this; omega
  have H := Lib.hid h
  have HZ : Hid (∀ x ∈ l, x.data.size ≤ 140737488351232) := hz
  clear h hz
  by_cases h5 : 500 < l.length
  · have hS : packS l = bx [] := if_neg (by unfold histB; simp; omega)
    have hE : packE l = 2 := if_pos h5
    rw [hS, hE]
    have h5i : (500 : Int) < (l.length : Int) := by omega
    go_enter Try.func19, Try.ntmps19
    go_wp2
    go_ret2
    exact ⟨rfl, Below.refl _ _⟩
  · have h5i : ¬ (500 : Int) < (l.length : Int) := by omega
    have HG : Hid (l.all evB = true → packS l = bx (encHist l) ∧ packE l = 0) := fun hb =>
      ⟨if_pos (by unfold histB; rw [hb]; simp; omega), by unfold packE; rw [if_neg h5, if_pos hb]⟩
    have HN : Hid (l.all evB = false → packS l = bx [] ∧ packE l = 120) := fun hb =>
      ⟨if_neg (by unfold histB; rw [hb]; simp), by unfold packE; rw [if_neg h5, hb]; rfl⟩
    obtain ⟨PS, hPS⟩ : ∃ b, packS l = b := ⟨_, rfl⟩
    obtain ⟨PE, hPE⟩ : ∃ b, packE l = b := ⟨_, rfl⟩
    rw [hPS, hPE] at HG HN ⊢
    clear hPS hPE
    have hI := fun w => rint_bx l.length (by omega) w
    obtain ⟨E, hE⟩ : ∃ E : Nat → ByteArray, (fun i => bx (histTo l i)) = E := ⟨_, rfl⟩
    have hEi : ∀ i, bx (histTo l i) = E i := fun i => congrFun hE i
    have hz0 : bx (putL l.length) = E 0 := by rw [← hEi]; simp [histTo, encEvs]
    have HSZ : Hid (∀ i, (l.take i).all evB = true → (E i).size ≤ 700000) := fun i hb => by rw [← hEi, bx_size]; exact histTo_len (by omega) hb
    have HNE : Hid (∀ i (h : i < l.length), E (i + 1) = E i ++ bx (textL (bx (encEv l[i])))) := fun i h => by rw [← hEi, ← hEi, textL_bx, bx_app, histTo_next h]
    have HEE : Hid (E l.length = bx (encHist l)) := by show _ = _; rw [← hEi, histTo_all]
    rw [hz0] at hI
    clear hE hEi hz0
    go_enter Try.func19, Try.ntmps19
    go_wp2_with fail
    refine (hI _).mono ?_
    rintro x w1 ⟨rfl, b1⟩
    have B1 := Lib.hid b1
    clear b1 hI
    go_wp2
    go_loopw [4, 5] (fun sv iv wr => ∃ i : Nat, i ≤ l.length ∧ iv = .int .i64 (i : Int) ∧ sv = .string (E i) ∧ Hid (Below w.heap.size w wr ∧ (l.take i).all evB = true)) (fun _ iv _ => l.length - (intOf iv).toNat)
    case atStart => exact ⟨0, Nat.zero_le _, rfl, rfl, B1.out, rfl⟩
    case round =>
      clear B1
      obtain ⟨i, hi, rfl, rfl, HI⟩ := hrel
      by_cases hlt : i < l.length
      · have hi1 : (0 : Int) ≤ (i : Int) := Int.natCast_nonneg _
        have hi2 : (i : Int) < (l.length : Int) := by omega
        obtain ⟨b, o, rfl, q0, q1, q2, q3, q4, q5, q6, q7, -⟩ := (H.out.below HI.out.1).at hlt
        have HT := Lib.hid (all_ev hlt)
        have HNO := Lib.hid (fun hb => all_not_ev hlt hb)
        have HN1 := Lib.hid (HNE.out i hlt)
        have hds := HZ.out _ (List.getElem_mem hlt)
        have hmes : l.length - (intOf (.int .i64 ((i : Int) + 1))).toNat < l.length - (intOf (.int .i64 (i : Int))).toNat := by simp [intOf]; omega
        generalize l[i] = e at *
        have henc := rencode13_any e hds wr
        by_cases hp : evB e = true
        · have hE : encEE e = 0 := if_pos hp
          have hS : encES e = bx (encEv e) := if_pos hp
          rw [hE, hS] at henc
          have HA : Hid ((l.take (i + 1)).all evB = true) := by show _ = _; rw [HT.out, HI.out.2, hp]; rfl
          have z1 := HSZ.out (i + 1) HA.out
          have z2 := encEv_len hp
          have HTX := Lib.hid (fun w => rtext_bx (bx (encEv e)) (by rw [bx_size]; omega) w)
          rw [HN1.out, ByteArray.size_append] at z1
          unfold EvS.val' at henc
          have HEN := Lib.hid henc
          clear henc hE hS hp z2 HNO hds
          generalize bx (textL (bx (encEv e))) = TX at *
          generalize bx (encEv e) = BK at *
          obtain ⟨x0, x1, x2, x3, x4, x5, x6, x7⟩ := e
          go_wp2_with fail
          refine HEN.out.mono ?_
          rintro x w2 ⟨rfl, b2⟩
          have B2 := Lib.hid (HI.out.1.trans (b2.mono HI.out.1.size))
          clear b2 q0 q1 q2 q3 q4 q5 q6 q7 HEN
          go_wp2_with fail
          refine (HTX.out _).mono ?_
          rintro x w3 ⟨rfl, b3⟩
          have B3 := Lib.hid (B2.out.trans (b3.mono B2.out.size))
          clear b3
          have nn : ¬ 9223372036854775807 < (E i).size + TX.size := by omega
          go_wp2
          go_roundw
          case rel => exact ⟨i + 1, by omega, by go_num, by rw [HN1.out], B3.out, HA.out⟩
          case measure => exact hmes
        · rw [Bool.not_eq_true] at hp
          have hE : encEE e = 120 := if_neg (by rw [hp]; decide)
          rw [hE] at henc
          obtain ⟨r1, r2⟩ := HN.out (HNO.out hp)
          have HR1 := Lib.hid r1
          have HR2 := Lib.hid r2
          clear r1 r2
          unfold EvS.val' at henc
          have HEN := Lib.hid henc
          clear henc hE hp hds
          generalize encES e = BK at *
          obtain ⟨x0, x1, x2, x3, x4, x5, x6, x7⟩ := e
          go_wp2_with fail
          refine HEN.out.mono ?_
          rintro x w2 ⟨rfl, b2⟩
          have B2 := Lib.hid (HI.out.1.trans (b2.mono HI.out.1.size))
          clear b2 q0 q1 q2 q3 q4 q5 q6 q7 HEN
          go_wp2
          go_ret2
          exact ⟨by rw [HR1.out, HR2.out]; rfl, B2.out⟩
      · obtain rfl : i = l.length := by omega
        have ha := HI.out.2
        rw [List.take_length] at ha
        obtain ⟨r1, r2⟩ := HG.out ha
        have HR1 : Hid (PS = E l.length) := r1.trans HEE.out.symm
        have HR2 := Lib.hid r2
        clear ha r1 r2
        go_wp2
        go_ret2
        exact ⟨by rw [HR1.out, HR2.out]; rfl, HI.out.1⟩
end Go.Proofs.Ythliofijioghkaa
