/- Layer 3: the law's same. -/
import Derived.Test.YtnjphflaggefeaaW03u
import Derived.Test.YtnjphflaggefeaaWS
namespace Go.Proofs.Ytnjphflaggefeaa
open Go.RowKit Go.Maps Go.WideMaps
set_option linter.unusedVariables false

theorem keys_tx (l : List (Key × FileS)) : (l.map fun x => tx x.1) = (l.map (·.1)).map tx := by rw [List.map_map]; rfl

set_option maxHeartbeats 1000000 in
set_option maxRecDepth 100000 in
theorem same3_any {w : World} {p q : Nat} {S : Bx} {F G : Nat → Prop} (hb : BoxAt w p S F) (hm : RefAt w q S G) (hz : weigh S.files ≤ 1099511627776) :
    Calls Try.prog 23 #[.pointer (some ⟨p, 0, none⟩), .pointer (some ⟨q, 0, none⟩)] w fun e w' => e = .returned (.bool true) ∧ Below w.heap.size w w' := by
  have hlw := len_weigh S.files
  have HB := Lib.hid hb
  have HM := Lib.hid hm
  have hl1 := box_list hb (by omega)
  by_cases hd : S.down = true
  · rw [if_pos hd, if_pos hd, if_pos hd] at hl1
    clear hb hm
    go_enter Try.func23, Try.ntmps23
    go_wp2_with fail
    refine hl1.mono ?_
    rintro r w1 ⟨v1, rfl, o1, b1⟩
    have hl2 := ref_list (HM.out.below b1) hz
    rw [if_pos hd, if_pos hd, if_pos hd] at hl2
    clear hd hl1
    go_wp2_with fail
    refine hl2.mono ?_
    rintro r w2 ⟨v2, rfl, o2, b2⟩
    obtain ⟨a1, c1, rfl, r1⟩ := row1_owns (l := []) o1 rfl (by omega)
    obtain ⟨a2, c2, rfl, r2⟩ := row1_owns (l := []) o2 rfl (by omega)
    have r1' := r1.below b2
    have hS := sameB_refl []
    clear o1 o2 r1 hl2
    go_wp2_with fail
    refine (same_any _ _ _ _ _ _ [] [] _ rfl rfl r1' r2).mono ?_
    rintro r w3 ⟨rfl, n, rfl⟩
    rw [hS]
    have B3 := Lib.hid (below_drewN (below_next b1 (Nat.le_refl _) b2) n)
    clear b1 b2 r1' r2 hS
    go_wp2
    go_loop [36] (fun iv => iv = .int .i64 0) (fun iv => 0)
    case atStart => rfl
    case round =>
      subst hrel
      go_wp2
      go_ret
      exact ⟨rfl, B3.out⟩
  · rw [if_neg hd, if_neg hd, if_neg hd] at hl1
    have hd' : S.down = false := by simpa using hd
    clear hb hm
    go_enter Try.func23, Try.ntmps23
    go_wp2_with fail
    refine hl1.mono ?_
    rintro r w1 ⟨v1, rfl, o1, b1⟩
    have hl2 := ref_list (HM.out.below b1) hz
    rw [if_neg hd, if_neg hd, if_neg hd] at hl2
    have HD := Lib.hid hd'
    clear hd hd' hl1
    go_wp2_with fail
    refine hl2.mono ?_
    rintro r w2 ⟨v2, rfl, o2, b2⟩
    rw [keys_tx] at o1 o2
    obtain ⟨a1, c1, rfl, r1⟩ := row1_owns o1 (by simp) (by omega)
    obtain ⟨a2, c2, rfl, r2⟩ := row1_owns o2 (by simp) (by omega)
    have r1' := r1.below b2
    have hS := sameB_refl (S.files.map (·.1))
    clear o1 o2 r1 hl2
    go_wp2_with fail
    refine (same_any _ _ _ _ _ _ (S.files.map (·.1)) (S.files.map (·.1)) _ (by simp) (by simp) r1' r2).mono ?_
    rintro r w3 ⟨rfl, n, rfl⟩
    rw [hS]
    have b12 := below_next b1 (Nat.le_refl _) b2
    have B3 := Lib.hid (below_drewN b12 n)
    have HR2 := Lib.hid (r2.below (below_drawn w2 n))
    have HB3 := Lib.hid ((HB.out.below b12).below (below_drawn w2 n))
    have HM3 := Lib.hid ((HM.out.below b12).below (below_drawn w2 n))
    clear b1 b2 r1' r2 hS b12
    generalize w2.drewN n = w3 at *
    go_wp2
    go_loopw [36] (fun iv wr => ∃ k : Nat, k ≤ S.files.length ∧ iv = .int .i64 (k : Int) ∧ Hid (Below w3.heap.size w3 wr)) (fun iv _ => S.files.length - (intOf iv).toNat)
    case atStart => exact ⟨0, by omega, rfl, Below.refl _ _⟩
    case round =>
      obtain ⟨k, hk, rfl, B4⟩ := hrel
      by_cases hlt : k < S.files.length
      · obtain ⟨g, off, rfl, hc⟩ := HR2.out.in B4.out hlt
        have hgn : (S.files.map (·.1)).getD k [] = S.files[k].1 := by simp [List.getD, hlt]
        rw [hgn] at hc
        unfold tx at hc
        have HB4 := Lib.hid (HB3.out.below B4.out)
        have HM4 := Lib.hid (HM3.out.below B4.out)
        have hnl : (ByteArray.mk S.files[k].1.toArray).size ≤ maxLen := by
          obtain ⟨m, es, hbi⟩ := HB3.out
          have hke : k < es.length := by have := hbi.files; rw [this, mapK_len] at hlt; exact hlt
          have hnm := (hbi.mem.each _ (List.getElem_mem hke)).2
          have hke2 : S.files[k].1 = es[k].1 := by
            have h1 : S.files[k]? = (mapK EntM.file es)[k]? := by rw [hbi.files]
            rw [List.getElem?_eq_getElem hlt] at h1
            simp [mapK, hke] at h1
            rw [h1]
          rw [hke2]
          unfold nameOK at hnm
          have := (of_decide_eq_true hnm).2
          show es[k].1.toArray.size ≤ _
          unfold maxLen
          simp
          omega
        have HNL := Lib.hid hnl
        clear hgn hnl
        go_wp2_with fail
        refine (box_read HB4.out _ HNL.out).mono ?_
        rintro r w5 ⟨rfl, rfl⟩
        go_wp2_with fail
        refine (ref_read HM4.out _ (by omega)).mono ?_
        rintro r w6 ⟨rfl, b6⟩
        have B6 := Lib.hid (B4.out.trans (b6.mono B4.out.size))
        clear b6
        generalize S.read (ByteArray.mk S.files[k].1.toArray).data.toList = R at *
        unfold tx
        go_wp2
        go_roundw
        case rel => exact ⟨k + 1, by omega, by go_num, B6⟩
        case measure => simp [intOf]; omega
      · obtain rfl : k = S.files.length := by omega
        go_wp2
        go_ret
        exact ⟨rfl, below_next B3.out (Nat.le_refl _) B4.out⟩
end Go.Proofs.Ytnjphflaggefeaa
