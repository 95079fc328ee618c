/- Layer 12: the walk of ProgBack, whatever the program. -/
import Derived.Test.YtefgnigbppfgfaaK12b
namespace Go.Proofs.Ytefgnigbppfgfaa
open Go.RowKit
set_option linter.unusedVariables false

theorem encS_size (p : ProgS) : (encS p).size ≤ 800 := by
  unfold encS
  split
  · rename_i h
    have := encTo_len h p.steps.length
    rw [encTo_all] at this
    rw [bx_size]
    exact this
  · exact Nat.zero_le _

set_option maxHeartbeats 4000000 in
set_option maxRecDepth 100000 in
theorem back12_walk (K : ProgK) (a : Option Addr) (c : Nat) (p : ProgS) (s : ByteArray) (w : World) (h : ReadG w (.slice a p.steps.length c) p.steps) (hs : s.size ≤ 140737488351232) :
    Calls Try.prog 5 #[p.val' a c, .string s] w fun e w' => e = .returned (.bool true) ∧ Below w.heap.size w w' := by
  have hep := fun w' (b : Below w.heap.size w w') => K.encode p (h.below b)
  have hdp := fun w' => K.decode (encS p) w' (by have := encS_size p; omega)
  have hds := fun w' => K.decode s w' hs
  have HRP : Hid (∀ w', Below w.heap.size w w' → ReadG w' (.slice a p.steps.length c) p.steps) := fun w' b => h.below b
  have hEp : Hid ((progB p = true ∧ encE p = 0) ∨ encE p = 130) := by
    cases hp : progB p with
    | true => exact .inl ⟨rfl, by unfold encE; rw [if_pos hp]⟩
    | false => exact .inr (by unfold encE; rw [if_neg (by rw [hp]; simp)])
  have HDE : Hid (∀ q E, progB p = true → DecEnd (encS p) q E → q = p ∧ E = 0) := fun q E h1 h2 => dec_enc h1 h2
  have HEP := Lib.hid hep
  have HDP := Lib.hid hdp
  have HDS := Lib.hid hds
  obtain ⟨w1, hw1, b1, n1⟩ := boxed12 w (.slice a p.steps.length c) p.limit
  have B1 := Lib.hid b1
  have N1 := Lib.hid n1
  clear hep hdp hds h b1 n1
  show Calls Try.prog 5 #[.agg #[.slice a p.steps.length c, .int .i64 p.limit], .string s] w _
  go_enter Try.func5, Try.ntmps5
  go_wp2_with fail
  refine (awake12_any K _).mono ?_
  rintro e w3 ⟨rfl, b3⟩
  have B3 := Lib.hid (B1.out.trans (b3.mono B1.out.size))
  have N3 := Lib.hid (later12 N1.out b3)
  clear b3
  obtain ⟨c0, c1⟩ := box12 N3.out
  go_wp2_with fail
  refine (HEP.out _ B3.out).mono ?_
  rintro e w4 ⟨rfl, b4⟩
  have B4 := Lib.hid (B3.out.trans (b4.mono B3.out.size))
  have N4 := Lib.hid (later12 N3.out b4)
  clear b4 c0 c1
  rcases hEp with ⟨hp, he⟩ | he
  · rw [he]
    have HPO : Hid (progB p = true) := hp
    clear hp he
    go_wp2_with fail
    refine (HDP.out _).mono ?_
    rintro e w5 ⟨x0, y0, q0, F0, rfl, r5, hd, b5⟩
    obtain ⟨rfl, rfl⟩ := HDE.out q0 F0 HPO.out hd
    obtain ⟨w6, hw6, b6, n6⟩ := boxed12 w5 (.slice x0 q0.steps.length y0) q0.limit
    have B6 := Lib.hid (B4.out.trans ((b5.trans (b6.mono b5.size)).mono B4.out.size))
    have N6 := Lib.hid (later12 (later12 N4.out b5) b6)
    have hsm := rsame12_any q0 q0 (HRP.out _ B6.out) (r5.below b6)
    rw [sameG_refl] at hsm
    unfold ProgS.val' at hsm ⊢
    have HSM := Lib.hid hsm
    obtain ⟨c0, c1⟩ := box12 N6.out
    obtain ⟨d0, d1⟩ := box12 n6
    clear b5 b6 n6 r5 hd hsm
    go_wp2_with fail
    refine HSM.out.mono ?_
    rintro e w7 ⟨rfl, b7⟩
    have B7 := Lib.hid (B6.out.trans (b7.mono B6.out.size))
    clear b7 c0 c1 d0 d1
    go_wp2_with fail
    refine (HDS.out _).mono ?_
    rintro e v1 ⟨x, y, q, F, rfl, r1, hd, d1⟩
    obtain ⟨v2, hv2, d2, m2⟩ := boxed12 v1 (.slice x q.steps.length y) q.limit
    have D2 := Lib.hid (B7.out.trans ((d1.trans (d2.mono d1.size)).mono B7.out.size))
    have R2 := Lib.hid (r1.below d2)
    have M2 := Lib.hid m2
    have hdi := dec_is hd
    obtain ⟨c0, c1⟩ := box12 m2
    clear d1 d2 r1 hd m2
    unfold ProgS.val'
    rcases hdi with ⟨rfl, hq, hqs, hqe⟩ | ⟨rfl, rfl⟩
    · have hen := K.encode q R2.out
      have hck := fun w' (b : Below v2.heap.size v2 w') => K.check q (R2.out.below b)
      rw [hqs, hqe] at hen
      rw [hqe] at hck
      unfold ProgS.val' at hen hck
      have HEN := Lib.hid hen
      have HCK := Lib.hid hck
      clear hq hqs hqe hen hck
      go_wp2_with fail
      refine HEN.out.mono ?_
      rintro e v3 ⟨rfl, d3⟩
      have D3 := Lib.hid (D2.out.trans (d3.mono D2.out.size))
      have M3 := Lib.hid (later12 M2.out d3)
      have hck := HCK.out _ d3
      clear d3 c0 c1
      obtain ⟨c0, c1⟩ := box12 M3.out
      go_wp2_with fail
      refine hck.mono ?_
      rintro e v4 ⟨rfl, d4⟩
      have D4 := Lib.hid (D3.out.trans (d4.mono D3.out.size))
      clear d4 c0 c1 hck
      go_wp2
      go_ret
      exact ⟨rfl, D4.out⟩
    · dsimp only [List.length_nil] at hv2 c0 c1 ⊢
      have HV2 := Lib.hid hv2
      rw [← hv2] at c0 c1
      clear hv2
      go_wp2
      go_ret
      exact ⟨rfl, by rw [HV2.out]; exact D2.out⟩
  · rw [he]
    clear he
    go_wp2_with fail
    refine (HDS.out _).mono ?_
    rintro e v1 ⟨x, y, q, F, rfl, r1, hd, d1⟩
    obtain ⟨v2, hv2, d2, m2⟩ := boxed12 v1 (.slice x q.steps.length y) q.limit
    have D2 := Lib.hid (B4.out.trans ((d1.trans (d2.mono d1.size)).mono B4.out.size))
    have R2 := Lib.hid (r1.below d2)
    have M2 := Lib.hid m2
    have hdi := dec_is hd
    obtain ⟨c0, c1⟩ := box12 m2
    clear d1 d2 r1 hd m2
    unfold ProgS.val'
    rcases hdi with ⟨rfl, hq, hqs, hqe⟩ | ⟨rfl, rfl⟩
    · have hen := K.encode q R2.out
      have hck := fun w' (b : Below v2.heap.size v2 w') => K.check q (R2.out.below b)
      rw [hqs, hqe] at hen
      rw [hqe] at hck
      unfold ProgS.val' at hen hck
      have HEN := Lib.hid hen
      have HCK := Lib.hid hck
      clear hq hqs hqe hen hck
      go_wp2_with fail
      refine HEN.out.mono ?_
      rintro e v3 ⟨rfl, d3⟩
      have D3 := Lib.hid (D2.out.trans (d3.mono D2.out.size))
      have M3 := Lib.hid (later12 M2.out d3)
      have hck := HCK.out _ d3
      clear d3 c0 c1
      obtain ⟨c0, c1⟩ := box12 M3.out
      go_wp2_with fail
      refine hck.mono ?_
      rintro e v4 ⟨rfl, d4⟩
      have D4 := Lib.hid (D3.out.trans (d4.mono D3.out.size))
      clear d4 c0 c1 hck
      go_wp2
      go_ret
      exact ⟨rfl, D4.out⟩
    · dsimp only [List.length_nil] at hv2 c0 c1 ⊢
      have HV2 := Lib.hid hv2
      rw [← hv2] at c0 c1
      clear hv2
      go_wp2
      go_ret
      exact ⟨rfl, by rw [HV2.out]; exact D2.out⟩
end Go.Proofs.Ytefgnigbppfgfaa
