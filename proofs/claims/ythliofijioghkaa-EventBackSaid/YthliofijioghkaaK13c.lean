/- Layer 13: the walk of EventBack, whatever the program. -/
import Derived.Test.YthliofijioghkaaK13
namespace Go.Proofs.Ythliofijioghkaa
open Go.RowKit
set_option linter.unusedVariables false

theorem packS_size (l : List EvS) : (packS l).size ≤ 1000000 := by
  unfold packS
  split
  · next h =>
    rw [bx_size]
    unfold histB at h
    rw [Bool.and_eq_true, decide_eq_true_eq] at h
    have h1 := encEvs_len l h.2
    have h2 := putL_len 4 l.length (by omega)
    unfold encHist
    rw [List.length_append]
    omega
  · rw [bx_size]; simp

set_option maxHeartbeats 4000000 in
set_option maxRecDepth 100000 in
theorem back13_walk (K : EventK) (a : Option Addr) (c : Nat) (l : List EvS) (s : ByteArray) (w : World) (h : ReadE w (.slice a l.length c) l) (hz : ∀ x ∈ l, x.data.size ≤ 140737488351232) (hs : s.size ≤ 140737488351232) :
    Calls Try.prog 6 #[.slice a l.length c, .string s] w fun x w' => x = .returned (.bool true) ∧ Below w.heap.size w w' := by
  have HPK := Lib.hid (fun w' (b : Below w.heap.size w w') => K.pack l (h.below b) hz)
  have HUP := Lib.hid (fun w => K.unpack (packS l) w (by have := packS_size l; omega))
  have HUE : Hid (∀ m E, packE l = 0 → HistEnd (packS l).data.toList m E → m = l ∧ E = 0) := Lib.hid fun m E h1 h2 => hist_pack h1 h2
  have HDC := Lib.hid (fun w => K.decode s w hs)
  have HUS := Lib.hid (fun w => K.unpack s w hs)
  have HEN := Lib.hid (fun (e : EvS) w h => K.encode e w h)
  have HRL := Lib.hid h
  clear h hz hs
  generalize packS l = S at *
  obtain ⟨E, hE⟩ : ∃ E, packE l = E := ⟨_, rfl⟩
  rw [hE] at HPK HUE
  clear hE
  go_enter Try.func6, Try.ntmps6
  go_wp2_with fail
  refine (awake13_any K _).mono ?_
  rintro x w2 ⟨rfl, b2⟩
  have B2 := Lib.hid b2
  clear b2
  go_wp2_with fail
  refine (HPK.out _ B2.out).mono ?_
  rintro x w3 ⟨rfl, b3⟩
  have B3 := Lib.hid (B2.out.trans (b3.mono B2.out.size))
  clear b3 B2
  rcases Classical.em (E = 0) with hE | hE
  case' inl =>
    subst hE
    go_wp2_with fail
    refine (HUP.out _).mono ?_
    rintro x w4 ⟨a', c', m, F, rfl, r4, hu, b4⟩
    obtain ⟨rfl, rfl⟩ := HUE.out m F trivial hu
    have B4 := Lib.hid (B3.out.trans (b4.mono B3.out.size))
    have hsm := rsame13_any m m (HRL.out.below B4.out) r4
    rw [decide_eq_true rfl] at hsm
    have HSM := Lib.hid hsm
    clear hsm r4 hu b4 B3
    go_wp2_with fail
    refine HSM.out.mono ?_
    rintro x w5 ⟨rfl, b5⟩
    have BT := Lib.hid (B4.out.trans (b5.mono B4.out.size))
    clear b5 B4 HSM HUE HUP HPK
    go_wp2_with fail
  case' inr =>
    have BT := B3
    clear B3 HUE HUP HPK
    go_wp2_with fail
  all_goals
    refine (HDC.out _).mono ?_
    rintro x w6 ⟨e, F, rfl, hd, b6⟩
    have B6 := Lib.hid (BT.out.trans (b6.mono BT.out.size))
    have hdi := ev_is hd
    clear b6 hd BT
    obtain ⟨w7, hw7, b7, x7, s7⟩ := evBoxed w6 e
    have B7 := Lib.hid (B6.out.trans (b7.mono B6.out.size))
    obtain ⟨q0, q1, q2, q3, q4, q5, q6, q7⟩ := x7.c
    clear b7 x7 s7 B6
    unfold EvS.val'
    rcases hdi with ⟨rfl, hv, hes, hee⟩ | ⟨rfl, hev⟩
    · have hen := fun w => HEN.out e w (by have := dataB_size ((evB_iff e).1 hv).data; omega)
      rw [hes, hee] at hen
      unfold EvS.val' at hen
      have HE2 := Lib.hid hen
      clear hen hv hes hee
      go_wp2_with fail
      refine (HE2.out _).mono ?_
      rintro x w8 ⟨rfl, b8⟩
      have BY := Lib.hid (B7.out.trans (b8.mono B7.out.size))
      clear b8 q0 q1 q2 q3 q4 q5 q6 q7 B7
      go_wp2_with fail
      refine (HUS.out _).mono ?_
      rintro x w9 ⟨a9, c9, m, G, rfl, r9, hu, b9⟩
      have BZ := Lib.hid (BY.out.trans (b9.mono BY.out.size))
      have hhi := hist_is hu
      clear b9 hu BY
      rcases hhi with ⟨rfl, hb, hps, hpe⟩ | ⟨rfl, rfl⟩
      · have hpm := K.pack m r9 (fun x hx => by have := hist_data hb x hx; omega)
        rw [hps, hpe] at hpm
        have HPM := Lib.hid hpm
        clear hb hps hpe hpm r9
        go_wp2_with fail
        refine HPM.out.mono ?_
        rintro x w10 ⟨rfl, b10⟩
        have BE := Lib.hid (BZ.out.trans (b10.mono BZ.out.size))
        clear b10
        go_wp2
        go_ret
        exact ⟨by first | rfl | simp, BE.out⟩
      · clear r9
        simp only [List.length_nil]
        go_wp2
        go_ret
        exact ⟨by first | rfl | simp, BZ.out⟩
    · have BY := B7
      clear B7 hev q0 q1 q2 q3 q4 q5 q6 q7
      go_wp2_with fail
      refine (HUS.out _).mono ?_
      rintro x w9 ⟨a9, c9, m, G, rfl, r9, hu, b9⟩
      have BZ := Lib.hid (BY.out.trans (b9.mono BY.out.size))
      have hhi := hist_is hu
      clear b9 hu BY
      rcases hhi with ⟨rfl, hb, hps, hpe⟩ | ⟨rfl, rfl⟩
      · have hpm := K.pack m r9 (fun x hx => by have := hist_data hb x hx; omega)
        rw [hps, hpe] at hpm
        have HPM := Lib.hid hpm
        clear hb hps hpe hpm r9
        go_wp2_with fail
        refine HPM.out.mono ?_
        rintro x w10 ⟨rfl, b10⟩
        have BE := Lib.hid (BZ.out.trans (b10.mono BZ.out.size))
        clear b10
        go_wp2
        go_ret
        exact ⟨by first | rfl | simp, BE.out⟩
      · clear r9
        simp only [List.length_nil]
        go_wp2
        go_ret
        exact ⟨by first | rfl | simp, BZ.out⟩
end Go.Proofs.Ythliofijioghkaa
