/- Layer 8: the walk of MergeSome, whatever the merge. -/
import Derived.Test.YtebiipmaimdocaaK08a
namespace Go.Proofs.Ytebiipmaimdocaa
open Go.RowKit Go.Maps Go.WideMaps Go.Shelf
set_option linter.unusedVariables false

theorem liveP_nil : liveP [] = [] := rfl
theorem someP_nil (to : ByteArray) (most : Int) : someP [] to most = [] := by simp [someP]
theorem someP_len (l : List PairS) (to : ByteArray) (most : Int) : (someP l to most).length ≤ l.length := by
  unfold someP
  have h := (List.takeWhile_prefix (p := belowTo to) (l := l)).length_le
  rw [List.length_take]
  omega

set_option maxHeartbeats 4000000 in
set_option maxRecDepth 100000 in
theorem some8_walk (K : MergeK) (a0 : Option Addr) (c0 : Nat) (l : List PairS) (to : ByteArray) (most : Int) (w : World) (h0 : ReadP w (.slice a0 l.length c0) l) (hN : l.length ≤ 3518437208780) (hm : (Lit.int .i64 most).wf = true) :
    Calls Try.prog 4 #[.slice a0 l.length c0, .string to, .int .i64 most] w fun e w' => e = .returned (.bool true) ∧ Below w.heap.size w w' := by
  have HR := Lib.hid h0
  have hl1 : (liveP l).length ≤ 3518437208780 := Nat.le_trans (liveP_len l) hN
  have hl2 := Nat.le_trans (someP_len l to most) hN
  have hv := fun w' (b : Below w.heap.size w w') => values_anyC (h0.below b)
  have hrl := fun w' (b : Below w.heap.size w w') => rlive_any (h0.below b) hN
  have hrs := fun w' (b : Below w.heap.size w w') => rsome_any (h0.below b) hN to most hm
  have hnS := someP_nil to most
  have hks := fun w v G (h : SeqV w v l G) => K.some to most h hN hm
  have hks0 := fun w => K.some (G := fun _ => False) to most (w := w) (.inl ⟨rfl, rfl⟩) (Nat.zero_le _) hm
  have hkl := fun w v G (h : SeqV w v l G) => K.live h hN
  have hkl0 := fun w => K.live (w := w) (G := fun _ => False) (.inl ⟨rfl, rfl⟩) (Nat.zero_le _)
  have hka0 := fun w => K.all (SeqsIn.none w) (fun _ h => by cases h) (by decide)
  have hc0 : (0 : Nat) ≤ 3518437208780 := by decide
  rw [hnS] at hks0
  rw [liveP_nil] at hkl0
  rw [allP_nil] at hka0
  have HV := Lib.hid hv
  have HRL := Lib.hid hrl
  have HRS := Lib.hid hrs
  have HKS := Lib.hid hks
  have HKS0 := Lib.hid hks0
  have HKL := Lib.hid hkl
  have HKL0 := Lib.hid hkl0
  have HKA0 := Lib.hid hka0
  clear hv hrl hrs hks hks0 hkl hkl0 hka0 hnS h0 hm
  generalize liveP l = LV at *
  generalize someP l to most = SM at *
  go_enter Try.func4, Try.ntmps4
  go_wp2_with fail
  refine (awake8_any K _).mono ?_
  rintro e w1 ⟨rfl, b1⟩
  have B1 := Lib.hid b1
  clear b1
  go_wp2_with fail
  refine (HV.out w1 B1.out).mono ?_
  rintro e w2 ⟨g2, lb2, G2, rfl, eg2, hg2, hG2, b2, -⟩
  have S2 : Hid (SeqV w2 (.func (.func g2) #[] lb2) l G2) := .inr ⟨g2, lb2, rfl, eg2, hg2, hG2⟩
  have B2 := Lib.hid (B1.out.trans (b2.mono B1.out.size))
  clear eg2 hg2 hG2 b2
  go_wp2_with fail
  refine (HKL.out _ _ _ S2.out).mono ?_
  rintro e w3 ⟨g3, lb3, G3, rfl, s3, b3, -⟩
  have B3 := Lib.hid (B2.out.trans (b3.mono B2.out.size))
  have hcol := made_collect s3 hl1
  clear s3 b3
  go_wp2_with fail
  refine hcol.mono ?_
  rintro e w4 ⟨a4, c4, rfl, r4, b4⟩
  have B4 := Lib.hid (B3.out.trans (b4.mono B3.out.size))
  have R4 := Lib.hid r4
  clear r4 b4 hcol
  go_wp2_with fail
  refine (HRL.out w4 B4.out).mono ?_
  rintro e w5 ⟨v5, rfl, o5, b5⟩
  have B5 := Lib.hid (B4.out.trans (b5.mono B4.out.size))
  have hsm := same8_true (R4.out.below b5) (ReadP.own o5)
  clear o5 b5 R4
  go_wp2_with fail
  refine hsm.mono ?_
  rintro e w6 ⟨rfl, n6, rfl⟩
  have B6 := Lib.hid (below_drewN B5.out n6)
  generalize w5.drewN n6 = w6 at *
  clear hsm
  go_wp2_with fail
  refine (HV.out w6 B6.out).mono ?_
  rintro e w7 ⟨g7, lb7, G7, rfl, eg7, hg7, hG7, b7, -⟩
  have S7 : Hid (SeqV w7 (.func (.func g7) #[] lb7) l G7) := .inr ⟨g7, lb7, rfl, eg7, hg7, hG7⟩
  have B7 := Lib.hid (B6.out.trans (b7.mono B6.out.size))
  clear eg7 hg7 hG7 b7
  go_wp2_with fail
  refine (HKS.out _ _ _ S7.out).mono ?_
  rintro e w8 ⟨v8, rfl, r8, b8⟩
  have B8 := Lib.hid (B7.out.trans (b8.mono B7.out.size))
  have R8 := Lib.hid r8
  clear r8 b8
  go_wp2_with fail
  refine (HRS.out w8 B8.out).mono ?_
  rintro e w9 ⟨v9, rfl, o9, b9⟩
  have B9 := Lib.hid (B8.out.trans (b9.mono B8.out.size))
  have hsm := same8_true (R8.out.below b9) (ReadP.own o9)
  clear o9 b9 R8
  go_wp2_with fail
  refine hsm.mono ?_
  rintro e wA ⟨rfl, nA, rfl⟩
  have BA := Lib.hid (below_drewN B9.out nA)
  generalize w9.drewN nA = wA at *
  clear hsm
  go_wp2_with fail
  refine (HKL0.out wA).mono ?_
  rintro e wB ⟨gB, lbB, GB, rfl, sB, bB, -⟩
  have BB := Lib.hid (BA.out.trans (bB.mono BA.out.size))
  have hcol := made_collect sB hc0
  clear sB bB
  go_wp2_with fail
  refine hcol.mono ?_
  rintro e wC ⟨aC, cC, rfl, rC, bC⟩
  have BC := Lib.hid (BB.out.trans (bC.mono BB.out.size))
  clear rC bC hcol
  simp only [List.length_nil]
  go_wp2_with fail
  refine (HKS0.out wC).mono ?_
  rintro e wD ⟨vD, rfl, rD, bD⟩
  have BD := Lib.hid (BC.out.trans (bD.mono BC.out.size))
  obtain ⟨aD, cD, rfl⟩ := rD.slice
  clear rD bD
  simp only [List.length_nil]
  go_wp2_with fail
  refine (HKA0.out wD).mono ?_
  rintro e wE ⟨gE, lbE, GE, rfl, sE, bE, -⟩
  have BE := Lib.hid (BD.out.trans (bE.mono BD.out.size))
  have hcol := made_collect sE hc0
  clear sE bE
  go_wp2_with fail
  refine hcol.mono ?_
  rintro e wF ⟨aF, cF, rfl, rF, bF⟩
  have BF := Lib.hid (BE.out.trans (bF.mono BE.out.size))
  clear rF bF hcol
  simp only [List.length_nil]
  go_wp2
  go_ret
  exact ⟨rfl, BF.out⟩
end Go.Proofs.Ytebiipmaimdocaa
