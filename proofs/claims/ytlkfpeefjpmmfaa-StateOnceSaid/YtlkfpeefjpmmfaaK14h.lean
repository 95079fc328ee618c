/- Layer 14's laws, whatever the program: the walk of StateOnce. -/
import Derived.Test.YtlkfpeefjpmmfaaK14g
import Derived.Test.YtlkfpeefjpmmfaaJ22
namespace Go.Proofs.Ytlkfpeefjpmmfaa
open Go.RowKit
open Go.Maps (Keyed)
set_option linter.unusedVariables false

theorem Holds3.same {H : Type} {D : DataW H} {s t : List (Int × Int × Int)} (h : Holds3 D s) (e : ∀ x, x ∈ s ↔ x ∈ t) : Holds3 D t := fun x kl hk => by
  have := h x kl hk
  rwa [decide_eq_decide.2 (e x)] at this
theorem map3_below {H : Type} {w w' : World} {b n : Nat} {D : DataW H} (h : w.ownsMap Try.prog 46 (plainElem Try.prog 4) b n D) (t : Below w.heap.size w w') : w'.ownsMap Try.prog 46 (plainElem Try.prog 4) b n D := by
  have hlt := h.lt
  obtain ⟨es, clock, hb, r⟩ := h
  exact ⟨es, clock, (t.block b hlt).trans hb, r⟩
theorem ends_next {l : List EvS} {q : Nat} (h : q < l.length) : (l.take (q + 1)).filterMap endK = (l.take q).filterMap endK ++ (endK l[q]).toList := by
  rw [List.take_succ_eq_append_getElem h, List.filterMap_append]
  cases he : endK l[q] <;> simp [he]
theorem OkH.fresh3 {l : List EvS} (h : OkH l) {q : Nat} (hq : q < l.length) {k : Int × Int × Int} (hk : endK l[q] = some k) : decide (k ∈ (l.take q).filterMap endK) = false := by
  refine decide_eq_false fun hm => ?_
  obtain ⟨e, he, hek⟩ := List.mem_filterMap.1 hm
  obtain ⟨i, hi, rfl⟩ := List.getElem_of_mem he
  have hiq : i < q := by rw [List.length_take] at hi; omega
  rw [List.getElem_take] at hek
  exact h.once hiq hq hek hk
theorem end_ref {e : EvS} (h : EvOK e) {k : Int × Int × Int} (hk : endK e = some k) : 1 ≤ e.ref ∧ e.ref ≤ e.id - 1 ∧ Fit3 k := by
  have hi := h.id
  have hf : ∀ a : Int, -9223372036854775808 ≤ a → a ≤ 9223372036854775807 → (Lit.int .i64 a).wf = true := fun a h1 h2 => by
    unfold Lit.wf
    simp only [Bool.and_eq_true, decide_eq_true_eq]
    exact ⟨h1, h2⟩
  have hr : ∀ c : Int, e.kind = c → (shapeL c).contains 114 = true → 1 ≤ e.ref ∧ e.ref ≤ e.id - 1 := fun c hc hs => h.ref (by rw [hc]; exact hs)
  have ht : -9223372036854775808 ≤ e.tryN ∧ e.tryN ≤ 9223372036854775807 := by
    cases hs : (shapeL e.kind).contains 116
    · rw [h.try0 hs]; decide
    · have := h.tryN hs; omega
  unfold endK at hk
  by_cases h4 : e.kind = 4 ∨ e.kind = 5
  · rw [if_pos h4] at hk
    obtain rfl := Option.some.inj hk
    have hrr := h4.elim (fun h => hr _ h (by decide)) (fun h => hr _ h (by decide))
    exact ⟨hrr.1, hrr.2, hf 1 (by decide) (by decide), hf e.ref (by omega) (by omega), hf 0 (by decide) (by decide)⟩
  · rw [if_neg h4] at hk
    by_cases h7 : e.kind = 7 ∨ e.kind = 8 ∨ e.kind = 9
    · rw [if_pos h7] at hk
      obtain rfl := Option.some.inj hk
      have hrr := h7.elim (fun h => hr _ h (by decide)) (fun h => h.elim (fun h => hr _ h (by decide)) (fun h => hr _ h (by decide)))
      exact ⟨hrr.1, hrr.2, hf 2 (by decide) (by decide), hf e.ref (by omega) (by omega), hf e.tryN ht.1 ht.2⟩
    · rw [if_neg h7] at hk
      by_cases h11 : e.kind = 11 ∨ e.kind = 3
      · rw [if_pos h11] at hk
        obtain rfl := Option.some.inj hk
        have hrr := h11.elim (fun h => hr _ h (by decide)) (fun h => hr _ h (by decide))
        exact ⟨hrr.1, hrr.2, hf (e.kind + 10) (by omega) (by omega), hf e.ref (by omega) (by omega), hf 0 (by decide) (by decide)⟩
      · rw [if_neg h11] at hk
        cases hk

theorem endK_cases (x : EvS) : (x.kind = 4 ∧ endK x = some (1, x.ref, 0)) ∨ (x.kind = 5 ∧ endK x = some (1, x.ref, 0)) ∨ (x.kind = 7 ∧ endK x = some (2, x.ref, x.tryN)) ∨ (x.kind = 8 ∧ endK x = some (2, x.ref, x.tryN)) ∨ (x.kind = 9 ∧ endK x = some (2, x.ref, x.tryN)) ∨ (x.kind = 11 ∧ endK x = some (21, x.ref, 0)) ∨ (x.kind = 3 ∧ endK x = some (13, x.ref, 0)) ∨
    ((x.kind == 3) = false ∧ (x.kind == 4) = false ∧ (x.kind == 5) = false ∧ (x.kind == 7) = false ∧ (x.kind == 8) = false ∧ (x.kind == 9) = false ∧ (x.kind == 11) = false ∧ endK x = none) := by
  unfold endK
  by_cases h4 : x.kind = 4
  · exact .inl ⟨h4, by simp [h4]⟩
  by_cases h5 : x.kind = 5
  · exact .inr (.inl ⟨h5, by simp [h5]⟩)
  by_cases h7 : x.kind = 7
  · exact .inr (.inr (.inl ⟨h7, by simp [h7]⟩))
  by_cases h8 : x.kind = 8
  · exact .inr (.inr (.inr (.inl ⟨h8, by simp [h8]⟩)))
  by_cases h9 : x.kind = 9
  · exact .inr (.inr (.inr (.inr (.inl ⟨h9, by simp [h9]⟩))))
  by_cases h11 : x.kind = 11
  · exact .inr (.inr (.inr (.inr (.inr (.inl ⟨h11, by simp [h11]⟩)))))
  by_cases h3 : x.kind = 3
  · exact .inr (.inr (.inr (.inr (.inr (.inr (.inl ⟨h3, by simp [h3]⟩))))))
  exact .inr (.inr (.inr (.inr (.inr (.inr (.inr (by simp [h3, h4, h5, h7, h8, h9, h11])))))))
theorem round3 {H : Type} {w : World} {b n kb : Nat} {D : DataW H} {s : List (Int × Int × Int)} (h : w.ownsMap Try.prog 46 (plainElem Try.prog 4) b n D) (hk : b ≠ kb) (hs : Holds3 D s) (hn : n < maxLen) {y : Int × Int × Int} (hy : Fit3 y) (hf : decide (y ∈ s) = false) :
    ∃ (w' : World) (D' : DataW H), (Instr.lookup 45 (.map (some b)) (.agg #[.int .i64 y.1, .int .i64 y.2.1, .int .i64 y.2.2]) false).run Try.prog (((w.setCell ⟨kb, 0, none⟩ (.int .i64 y.1)).setCell ⟨kb, 1, none⟩ (.int .i64 y.2.1)).setCell ⟨kb, 2, none⟩ (.int .i64 y.2.2)) = .ok (.bool false) (((w.setCell ⟨kb, 0, none⟩ (.int .i64 y.1)).setCell ⟨kb, 1, none⟩ (.int .i64 y.2.1)).setCell ⟨kb, 2, none⟩ (.int .i64 y.2.2)) ∧
      (Instr.mapUpdate 45 (.map (some b)) (.agg #[.int .i64 y.1, .int .i64 y.2.1, .int .i64 y.2.2]) (.bool true)).run Try.prog (((w.setCell ⟨kb, 0, none⟩ (.int .i64 y.1)).setCell ⟨kb, 1, none⟩ (.int .i64 y.2.1)).setCell ⟨kb, 2, none⟩ (.int .i64 y.2.2)) = .ok () w' ∧
      w'.ownsMap Try.prog 46 (plainElem Try.prog 4) b (n + 1) D' ∧ Holds3 D' (y :: s) ∧ ∀ B a, Below B a w → B ≤ kb → B ≤ b → B ≤ w.heap.size → Below B a w' := by
  have h1 := ((h.setCell (a := ⟨kb, 0, none⟩) hk (.int .i64 y.1)).setCell (a := ⟨kb, 1, none⟩) hk (.int .i64 y.2.1)).setCell (a := ⟨kb, 2, none⟩) hk (.int .i64 y.2.2)
  have hl := look3 h1 hs hy
  rw [hf] at hl
  obtain ⟨w', D', hu, h2, h3, h4⟩ := store3 h1 hs hn hy
  refine ⟨w', D', hl, hu, h2, h3, fun B a hB h5 h6 h7 => ?_⟩
  have h8 := ((hB.setCell (p := ⟨kb, 0, none⟩) h5 (.int .i64 y.1)).setCell (p := ⟨kb, 1, none⟩) h5 (.int .i64 y.2.1)).setCell (p := ⟨kb, 2, none⟩) h5 (.int .i64 y.2.2)
  exact h8.grown h4 (by simpa using h7) (fun k e => by cases e; exact h6)
theorem k3Boxed (w : World) : ∃ w', w.alloc (.cells #[.int .i64 0, .int .i64 0, .int .i64 0] 46) = w' ∧ Below w.heap.size w w' ∧ w'.heap[w.heap.size]? = some (.cells #[.int .i64 0, .int .i64 0, .int .i64 0] 46 (0, 0)) ∧ w'.heap.size = w.heap.size + 1 :=
  ⟨_, rfl, (Below.refl _ w).alloc (Nat.le_refl _) _, heap_alloc_new _ _, by simp⟩
set_option maxHeartbeats 16000000 in
set_option maxRecDepth 100000 in
theorem once14_walk (K : StateK) (a : Option Addr) (c : Nat) (l : List EvS) (w : World) (h : ReadE w (.slice a l.length c) l) (hc : l.length ≤ c) (hz : ∀ x ∈ l, x.data.size ≤ 140737488351232) :
    Calls Try.prog 5 #[.slice a l.length c] w fun x w' => x = .returned (.bool true) ∧ Below w.heap.size w w' := by
  have HK : Hid (∀ wx, Below w.heap.size w wx → Calls Try.prog 9 #[.slice a l.length c] wx fun x w' => ∃ g j k S i E, x = .returned (.tuple #[S.val' g j k, .int .i64 (i : Nat), .int .i64 (E : Nat)]) ∧ OwnSt wx.heap.size w' g j k S ∧ BldEnd l S i E ∧ Below wx.heap.size wx w') := fun wx t => K.build l (h.below t) hc hz
  have hml : l.length ≤ 9223372036854775807 := by have := h.1; unfold maxLen at this; omega
  have H := Lib.hid h
  clear h hz
  go_enter Try.func5, Try.ntmps5
  go_wp2_with fail
  refine (awake14_any K _).mono ?_
  rintro x w1 ⟨rfl, b1⟩
  have B1 := Lib.hid b1
  clear b1
  go_wp2_with fail
  refine (HK.out _ B1.out).mono ?_
  rintro x w2 ⟨g, j, k, S, i, E, rfl, o2, hb, b2⟩
  obtain ⟨ga, gc, rfl⟩ := o2.read.g.slice
  obtain ⟨ja, jc, rfl⟩ := o2.read.j.slice
  obtain ⟨ka, kc, rfl⟩ := o2.read.c.slice
  have B2 := Lib.hid (B1.out.trans (b2.mono B1.out.size))
  have HBE := Lib.hid hb
  clear o2 hb b2 HK
  unfold StS.val'
  go_upto_region 4 with (fail)
  obtain ⟨W3, hW3, b3, X3, -⟩ := stBoxed w2 (.slice ga S.prog.steps.length gc) (.slice ja S.jobs.length jc) (.slice ka S.clocks.length kc) S
  rw [hW3]
  have B3 := Lib.hid (B2.out.trans (b3.mono B2.out.size))
  clear hW3 b3 X3
  generalize w2.heap.size = sb at *
  by_cases hE : E = 0
  · subst hE
    have hok : OkH l := by
      rcases HBE.out with ⟨h1, h2, h3, _⟩ | ⟨_, _, h2, h3, _⟩
      · exact h1
      · exact (h3 rfl).elim
    have hlen := hok.len
    have HOK := Lib.hid hok
    clear HBE hok
    have h500 : ¬ (500 : Int) < (l.length : Int) := by omega
    have hmk : (Instr.makeMap 45 none).run Try.prog W3 = .ok (.map (some W3.heap.size)) (W3.alloc (.map #[] 0)) := rfl
    have HM0 : Hid ((W3.alloc (.map #[] 0)).ownsMap Try.prog 46 (plainElem (H := Unit) Try.prog 4) W3.heap.size 0 (.map [])) := World.ownsMap_made W3 _ _ _
    have HBM : Hid (Below W3.heap.size W3 (W3.alloc (.map #[] 0))) := (Below.refl _ W3).alloc (Nat.le_refl _) _
    have HMB : Hid (w.heap.size ≤ W3.heap.size) := B3.out.size
    have HW4 : Hid (Below w.heap.size w (W3.alloc (.map #[] 0))) := B3.out.trans (HBM.out.mono B3.out.size)
    clear HBM
    go_wp2
    clear hmk
    generalize hWm : W3.alloc (.map #[] 0) = Wm at *
    generalize W3.heap.size = mb at *
    go_loopw [28] (fun iv wr => ∃ q : Nat, q ≤ l.length ∧ iv = .int .i64 (q : Int) ∧ Hid (Below w.heap.size w wr ∧ ∃ D : DataW Unit, wr.ownsMap Try.prog 46 (plainElem Try.prog 4) mb q D ∧ Holds3 D ((l.take q).filterMap endK))) (fun iv _ => l.length - (intOf iv).toNat)
    case atStart => exact ⟨0, Nat.zero_le _, rfl, HW4.out, .map [], HM0.out, Holds3.nil⟩
    case round =>
      obtain ⟨q, hq, rfl, HI⟩ := hrel
      obtain ⟨HWq, D, HD, HS⟩ := HI.out
      have HW := Lib.hid HWq
      have HMD := Lib.hid HD
      have HSD := Lib.hid HS
      clear HI HWq HD HS
      by_cases hlt : q < l.length
      · have hmes : l.length - (intOf (.int .i64 ((q : Int) + 1))).toNat < l.length - (intOf (.int .i64 (q : Int))).toNat := by simp [intOf]; omega
        have hi1 : (0 : Int) ≤ (q : Int) := Int.natCast_nonneg _
        have hi2 : (q : Int) < (l.length : Int) := by omega
        obtain ⟨b, o, rfl, q0, q1, q2, q3, q4, q5, q6, q7, -⟩ := (H.out.below HW.out).at hlt
        have hev := (evB_iff _).1 (HOK.out.ev q hlt).2
        have hend : ∀ k, endK l[q] = some k → 1 ≤ l[q].ref ∧ l[q].ref ≤ l[q].id - 1 ∧ Fit3 k := fun k hk => end_ref hev hk
        have hfr : ∀ k, endK l[q] = some k → decide (k ∈ (l.take q).filterMap endK) = false := fun k hk => HOK.out.fresh3 hlt hk
        have hnx := ends_next hlt
        have hls : q + 1 < l.length → l[q].kind < 15 := fun h => HOK.out.last h
        generalize hs : (l.take q).filterMap endK = s at *
        generalize hx : l[q] = x at *
        have hwq : IntKind.i64.wrap ((q : Int) + 1) = (q : Int) + 1 := IntWalk.i64_in _ ⟨by omega, by omega⟩
        go_upto_region 10 with (fail)
        obtain ⟨W9, hW9, b9, X9, -⟩ := evBoxed wr x
        rw [hW9]
        have HW9 := Lib.hid (HW.out.trans (b9.mono HW.out.size))
        have HM9 := Lib.hid (map3_below HMD.out b9)
        obtain ⟨c0, c1, c2, c3, c4, c5, c6, c7⟩ := X9.c
        have HX9 := Lib.hid X9
        have HB9 := Lib.hid b9
        clear hW9 X9 b9 q0 q1 q2 q3 q4 q5 q6 q7 HMD
        generalize wr.heap.size = xb at *
        refine (Nat.lt_or_ge (q + 1) l.length).elim (fun hq1 => ?aa) (fun hq1 => ?bb)
        case' aa =>
          have g1 : (q : Int) + 1 < (l.length : Int) := by omega
          have g2 : ¬ (15 : Int) ≤ x.kind := by have := hls hq1; omega
          go_upto_region 13 with (fail)
          clear g1 g2
        case' bb =>
          have g1 : ¬ (q : Int) + 1 < (l.length : Int) := by omega
          go_upto_region 13 with (fail)
          clear g1
        all_goals
          obtain ⟨W10, hW10, b10, K10, hs10⟩ := k3Boxed W9
          rw [hW10]
          have HW10 := Lib.hid (HW9.out.trans (b10.mono HW9.out.size))
          have HM10 := Lib.hid (map3_below HM9.out b10)
          have HX10 := Lib.hid (HX9.out.later b10)
          have HK10 := Lib.hid K10
          have HXL : Hid (xb < W9.heap.size) := HX9.out.lt
          have HML : Hid (mb < W9.heap.size) := HM9.out.lt
          have HKB : Hid (w.heap.size ≤ W9.heap.size) := HW9.out.size
          clear hW10 b10 K10 hs10 c0 c1 c2 c3 c4 c5 c6 c7 hq1
          generalize W9.heap.size = kb at *
          have hne : xb ≠ kb := by have := HXL.out; omega
          obtain ⟨c0, c1, c2, c3, c4, c5, c6, c7⟩ := HX10.out.c
          have f0 := block_free HK10.out 0
          have f1 := block_free HK10.out 1
          have f2 := block_free HK10.out 2
          have k0 := (block_cell HK10.out 0).trans rfl
          have k1 := (block_cell HK10.out 1).trans rfl
          have k2 := (block_cell HK10.out 2).trans rfl
          rcases endK_cases x with ⟨key, hkE⟩ | ⟨key, hkE⟩ | ⟨key, hkE⟩ | ⟨key, hkE⟩ | ⟨key, hkE⟩ | ⟨key, hkE⟩ | ⟨key, hkE⟩ | ⟨e3, e4, e5, e7, e8, e9, e11, hkE⟩
          case' inr.inr.inr.inr.inr.inr.inr =>
            clear f0 f1 f2 k0 k1 k2
            go_wp2
            go_roundw
            case' rel =>
              rw [hkE] at hnx
              exact ⟨q + 1, by omega, by go_num, HW10.out, D, HM10.out.mono (Nat.le_succ q), by rw [hnx]; simpa using HSD.out⟩
            case' measure => exact hmes
          all_goals
            rw [key] at c1
            obtain ⟨he1, he2, hfit⟩ := hend _ hkE
            have hfr1 := hfr _ hkE
            rw [hkE] at hnx
            have hmk : mb ≠ kb := by have := HML.out; omega
            have hq2 : q < maxLen := by unfold maxLen; omega
            obtain ⟨W12, D', hlk, hup, hM12, hS12, hbl⟩ := round3 HM10.out hmk HSD.out hq2 hfit hfr1
            simp only at hlk hup
            have HN12 := Lib.hid (hbl _ _ HW10.out HKB.out HMB.out HW10.out.size)
            have HM12 := Lib.hid hM12
            have HS12 := Lib.hid (hS12.same (t := (l.take (q + 1)).filterMap endK) (fun z => by rw [hnx]; simp [or_comm]))
            clear hbl hM12 hS12 hfr1 hfit
            have g3 : ¬ x.id ≤ x.ref := by omega
            go_wp2
            go_roundw
            case' rel => exact ⟨q + 1, by omega, by go_num, HN12.out, D', HM12.out, HS12.out⟩
            case' measure => exact hmes
      · obtain rfl : q = l.length := by omega
        have hll2 : ¬ (l.length : Int) < (l.length : Int) := by omega
        go_wp2
        go_ret
        exact ⟨rfl, HW.out⟩
  · have hE1 : ((E : Int) != 0) = true := by
      have : (E : Int) ≠ 0 := by omega
      simpa using this
    go_wp2
    go_ret
    exact ⟨rfl, B3.out⟩
end Go.Proofs.Ytlkfpeefjpmmfaa
