/- Layer 8: the walk of MergeAll, whatever the merge. -/
import Derived.Test.YtebiipmaimdocaaK08
namespace Go.Proofs.Ytebiipmaimdocaa
open Go.RowKit Go.Maps Go.WideMaps Go.Shelf
set_option linter.unusedVariables false

theorem ordP_sum (ls : List (List PairS)) : sumL8 (ordP ls) ≤ sumL8 ls := by
  induction ls with
  | nil => exact Nat.le_refl _
  | cons l r ih =>
    have := puts_len l
    unfold sumL8 ordP at ih ⊢
    simp only [List.map_cons, List.sum_cons]
    omega
theorem sum_mem8 {ls : List (List PairS)} {l : List PairS} (h : l ∈ ls) : l.length ≤ sumL8 ls := by
  induction ls with
  | nil => cases h
  | cons x r ih =>
    unfold sumL8 at ih ⊢
    simp only [List.map_cons, List.sum_cons]
    rcases List.mem_cons.1 h with rfl | h
    · omega
    · have := ih h; omega

set_option maxHeartbeats 2000000 in
set_option maxRecDepth 100000 in
theorem all8_walk (K : MergeK) (hA : ∀ w : World, Calls Try.prog 8 #[] w fun e w' => e = .returned (.bool true) ∧ Below w.heap.size w w') (a0 : Option Addr) (c0 : Nat) (ls : List (List PairS)) (w : World) (h0 : ReadL w (.slice a0 ls.length c0) ls) (hN : sumL8 ls + ls.length ≤ 1099511627776) :
    Calls Try.prog 3 #[.slice a0 ls.length c0] w fun e w' => e = .returned (.bool true) ∧ Below w.heap.size w w' := by
  have hor := fun w' (b : Below w.heap.size w w') => ordered_any (h0.below b) (by omega) (fun l hl => by have := sum_mem8 hl; omega)
  have hos := ordP_sum ls
  have hol := ordP_len ls
  have hgd := GoodL.ord ls
  have hal := allP_len (ordP ls)
  generalize ordP ls = L at *
  have HOR := Lib.hid hor
  have HGD := Lib.hid hgd
  have hLN : sumL8 L + L.length ≤ 1099511627776 := by omega
  have hb1 : (allP L).length ≤ 3518437208780 := by omega
  have hb2 : sumL8 L ≤ 3518437208780 := by omega
  have hb3 : L.length ≤ 3518437208780 := by omega
  clear hor h0 hgd hos hol hal hN
  go_enter Try.func3, Try.ntmps3
  go_wp2_with fail
  refine (hA _).mono ?_
  rintro e w1 ⟨rfl, b1⟩
  have B1 := Lib.hid b1
  clear b1
  go_wp2_with fail
  refine (HOR.out w1 B1.out).mono ?_
  rintro e w2 ⟨v, xs, rfl, o2, b2⟩
  have B2 := Lib.hid (B1.out.trans (b2.mono B1.out.size))
  obtain ⟨va, vc, rfl⟩ := row_slice o2.row
  have O2 := Lib.hid o2
  have hsq := seqs_any (OwnL.readT o2) hb3
  clear b2 o2 HOR
  go_wp2_with fail
  refine hsq.mono ?_
  rintro e w3 ⟨v3, xs3, rfl, o3, b3⟩
  have B3 := Lib.hid (B2.out.trans (b3.mono B2.out.size))
  have O3 := Lib.hid (O2.out.below b3)
  obtain ⟨sa, sc, rfl⟩ := row_slice o3.row
  obtain ⟨G, hG⟩ := o3.seqs
  have hall := K.all hG HGD.out hLN
  clear b3 o3 hsq O2 hG
  go_wp2_with fail
  refine hall.mono ?_
  rintro e w4 ⟨g, lb, G', rfl, hs4, b4, -⟩
  have B4 := Lib.hid (B3.out.trans (b4.mono B3.out.size))
  have O4 := Lib.hid (O3.out.below b4)
  have hcol := made_collect hs4 hb1
  clear b4 hall O3 hs4
  go_wp2_with fail
  refine hcol.mono ?_
  rintro e w5 ⟨ca, cc, rfl, r5, b5⟩
  have B5 := Lib.hid (B4.out.trans (b5.mono B4.out.size))
  have O5 := Lib.hid (O4.out.below b5)
  have R5 := Lib.hid r5
  have hra := rall_any O5.out.read hb2
  clear b5 hcol O4 r5
  go_wp2_with fail
  refine hra.mono ?_
  rintro e w6 ⟨v6, rfl, o6, b6⟩
  have B6 := Lib.hid (B5.out.trans (b6.mono B5.out.size))
  have hsm := same8_true (R5.out.below b6) (ReadP.own o6)
  clear b6 hra O5 R5 o6
  go_wp2_with fail
  refine hsm.mono ?_
  rintro e w7 ⟨rfl, n7, rfl⟩
  have B7 := Lib.hid (below_drewN B6.out n7)
  clear hsm
  go_wp2
  go_ret
  exact ⟨rfl, B7.out⟩
end Go.Proofs.Ytebiipmaimdocaa
