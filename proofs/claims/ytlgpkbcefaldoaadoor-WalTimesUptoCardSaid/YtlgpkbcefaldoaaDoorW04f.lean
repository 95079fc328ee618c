/- Layer 4: contracts of Rotate, Drop. -/
import Derived.Test.YtlgpkbcefaldoaaDoorW04e
import Derived.Test.YtlgpkbcefaldoaaDoorM04c
namespace Go.Proofs.YtlgpkbcefaldoaaDoor
open Go.RowKit Go.Maps Go.WideMaps Go.Shelf
set_option linter.unusedVariables false

theorem LogIn.next {w : World} {q p c : Nat} {nm : ByteArray} {a : Bool} {S : Bx} {F : Nat → Prop} (h : LogIn w q p nm c a S F) (hc : c < 99999999) :
    LogIn ((w.setCell ⟨q, 2, none⟩ (.int .i64 ((c : Int) + 1))).setCell ⟨q, 3, none⟩ (.bool false)) q p nm (c + 1) false S F ∧ Turn (With F q) w ((w.setCell ⟨q, 2, none⟩ (.int .i64 ((c : Int) + 1))).setCell ⟨q, 3, none⟩ (.bool false)) := by
  have h1 : LogIn (w.setCell ⟨q, 2, none⟩ (.int .i64 ((c : Int) + 1))) q p nm (c + 1) a S F := h.setTo (d := c + 1) (by omega) (by omega)
  refine ⟨h1.setApp false, ?_⟩
  exact (((Turn.refl (With F q) w).setCell (p := ⟨q, 2, none⟩) (.inl (.inr rfl)) _).setCell (p := ⟨q, 3, none⟩) (.inl (.inr rfl)) _)

set_option maxHeartbeats 1000000 in
set_option maxRecDepth 100000 in
theorem log_rotate_full {w : World} {q p : Nat} {nm : ByteArray} {a : Bool} {S : Bx} {F : Nat → Prop} (h : LogIn w q p nm 99999999 a S F) :
    Calls Tryd.prog 11 #[.pointer (some ⟨q, 0, none⟩)] w fun e w' => e = .returned (.tuple #[.int .i64 0, .int .i64 2]) ∧ w = w' := by
  have c2 := h.head.c2
  clear h
  go_enter Tryd.func11, Tryd.ntmps11
  go_wp2
  go_ret2
  exact ⟨rfl, rfl⟩

set_option maxHeartbeats 1000000 in
set_option maxRecDepth 100000 in
theorem log_rotate_plain {w : World} {q p c : Nat} {nm : ByteArray} {S : Bx} {F : Nat → Prop} (h : LogIn w q p nm c false S F) (hc : c < 99999999) :
    Calls Tryd.prog 11 #[.pointer (some ⟨q, 0, none⟩)] w fun e w' => e = .returned (.tuple #[.int .i64 (c : Int), .int .i64 0]) ∧ LogIn w' q p nm (c + 1) false S F ∧ Turn (With F q) w w' := by
  have c2 := h.head.c2
  have c3 := h.head.c3
  have f2 := h.head.free 2
  have f3 := h.head.free 3
  have HN := Lib.hid (h.next hc)
  have H := Lib.hid h
  have hne : ¬ (c : Int) = 99999999 := by omega
  clear h
  go_enter Tryd.func11, Tryd.ntmps11
  go_wp2_with fail
  refine (log_sync_no H.out).mono ?_
  rintro e w1 ⟨rfl, rfl⟩
  go_wp2
  go_ret2
  exact ⟨rfl, HN.out.1, HN.out.2⟩

set_option maxHeartbeats 1000000 in
set_option maxRecDepth 100000 in
theorem log_rotate_no {w : World} {q p c : Nat} {nm : ByteArray} {S : Bx} {F : Nat → Prop} (h : LogIn w q p nm c true S F) (hc : c < 99999999) (he : (S.sync (segName nm.data.toList c)).2 ≠ 0) :
    Calls Tryd.prog 11 #[.pointer (some ⟨q, 0, none⟩)] w fun e w' => e = .returned (.tuple #[.int .i64 0, .int .i64 (S.sync (segName nm.data.toList c)).2]) ∧ LogIn w' q p nm c true (S.sync (segName nm.data.toList c)).1 F ∧ Turn F w w' := by
  have c2 := h.head.c2
  have hs := log_sync h
  have hne : ¬ (c : Int) = 99999999 := by omega
  obtain ⟨R, hR⟩ : ∃ R, S.sync (segName nm.data.toList c) = R := ⟨_, rfl⟩
  rw [hR] at he hs ⊢
  obtain ⟨S2, e2⟩ := R
  simp only at he hs ⊢
  have he2 : (e2 == 0) = false := by simp [he]
  clear h hR
  go_enter Tryd.func11, Tryd.ntmps11
  go_wp2_with fail
  refine hs.mono ?_
  rintro e w1 ⟨rfl, h1, t1⟩
  go_wp2
  go_ret2
  exact ⟨rfl, h1, t1⟩

set_option maxHeartbeats 1000000 in
set_option maxRecDepth 100000 in
theorem log_rotate {w : World} {q p c : Nat} {nm : ByteArray} {S : Bx} {F : Nat → Prop} (h : LogIn w q p nm c true S F) (hc : c < 99999999) (he : (S.sync (segName nm.data.toList c)).2 = 0) :
    Calls Tryd.prog 11 #[.pointer (some ⟨q, 0, none⟩)] w fun e w' => e = .returned (.tuple #[.int .i64 (c : Int), .int .i64 0]) ∧ LogIn w' q p nm (c + 1) false (S.sync (segName nm.data.toList c)).1 F ∧ Turn (With F q) w w' := by
  have c2 := h.head.c2
  have hs := log_sync h
  have hne : ¬ (c : Int) = 99999999 := by omega
  obtain ⟨R, hR⟩ : ∃ R, S.sync (segName nm.data.toList c) = R := ⟨_, rfl⟩
  rw [hR] at he hs ⊢
  obtain ⟨S2, e2⟩ := R
  simp only at he hs ⊢
  subst he
  clear h hR
  go_enter Tryd.func11, Tryd.ntmps11
  go_wp2_with fail
  refine hs.mono ?_
  rintro e w1 ⟨rfl, h1, t1⟩
  have c2a := h1.head.c2
  have c3a := h1.head.c3
  have f2 := h1.head.free 2
  have f3 := h1.head.free 3
  have HN := Lib.hid (h1.next hc)
  have T := Lib.hid t1
  clear h1 t1 c2
  go_wp2
  go_ret2
  exact ⟨rfl, HN.out.1, (turn_with T.out).trans HN.out.2 (fun i hi => .inl hi)⟩

set_option maxHeartbeats 1000000 in
set_option maxRecDepth 100000 in
theorem log_drop_arg {w : World} {q p c : Nat} {nm : ByteArray} {a : Bool} {S : Bx} {F : Nat → Prop} (h : LogIn w q p nm c a S F) (u : Int) (hu : (c : Int) ≤ u) :
    Calls Tryd.prog 16 #[.pointer (some ⟨q, 0, none⟩), .int .i64 u] w fun e w' => e = .returned (.int .i64 1) ∧ w = w' := by
  have c2 := h.head.c2
  clear h
  go_enter Tryd.func16, Tryd.ntmps16
  go_wp2
  go_ret
  exact ⟨rfl, rfl⟩

set_option maxHeartbeats 1000000 in
set_option maxRecDepth 100000 in
theorem log_drop {w : World} {q p c : Nat} {nm : ByteArray} {a : Bool} {S : Bx} {F : Nat → Prop} (h : LogIn w q p nm c a S F) (hF : ∀ k, F k → k < w.heap.size) (hd : S.down = false) (hl : S.files.length ≤ 8796093022208) (u : Int) (hu : u < (c : Int)) :
    Calls Tryd.prog 16 #[.pointer (some ⟨q, 0, none⟩), .int .i64 u] w fun e w' => e = .returned (.int .i64 (dropSegs nm.data.toList u (segsOf nm.data.toList S.files) S).2) ∧
      LogIn w' q p nm c a (dropSegs nm.data.toList u (segsOf nm.data.toList S.files) S).1 F ∧ Turn F w w' := by
  have c2 := h.head.c2
  have hsg := segments_any h hl
  have hsl := segsOf_le nm.data.toList S.files
  have hns : ∀ n ∈ segsOf nm.data.toList S.files, n ≤ 99999999 := by
    intro n hn
    obtain ⟨x, _, rfl, _⟩ := segsOf_mem hn
    have := segNum_small nm.data.toList x.1
    omega
  have hd0 : (if S.down then (30 : Int) else 0) = 0 := by rw [hd]; rfl
  have hf : (if S.down then [] else segsOf nm.data.toList S.files) = segsOf nm.data.toList S.files := by rw [hd]; rfl
  unfold SegsEnd at hsg
  rw [hd0, hf] at hsg
  generalize segsOf nm.data.toList S.files = ns at *
  have hnl : ns.length ≤ 8796093022208 := by omega
  have H := Lib.hid h
  have HF := Lib.hid hF
  have HNS := Lib.hid hns
  obtain ⟨R, hR⟩ : ∃ R, dropSegs nm.data.toList u ns S = R := ⟨_, rfl⟩
  rw [hR]
  obtain ⟨S2, e2⟩ := R
  have HR := Lib.hid hR
  clear h hF hns hd0 hf hd hl hsl hR
  simp only
  go_enter Tryd.func16, Tryd.ntmps16
  go_wp2_with fail
  refine hsg.mono ?_
  rintro e w1 ⟨v, rfl, ho, hb⟩
  obtain ⟨ra, rc, rfl⟩ := ownsRow_slice ho
  have HO := Lib.hid ho
  have HB := Lib.hid hb
  have H1 := Lib.hid (H.out.below hb)
  clear ho hb c2 hsg
  go_wp2
  go_loopw [30] (fun iv wr => ∃ (k : Nat) (T : Bx), k ≤ ns.length ∧ iv = .int .i64 (k : Int) ∧ Hid (dropSegs nm.data.toList u (ns.drop k) T = (S2, e2)) ∧ Hid (LogIn wr q p nm c a T F) ∧ Hid (Turn F w1 wr)) (fun iv _ => ns.length - (intOf iv).toNat)
  case atStart => exact ⟨0, S, by omega, rfl, HR.out, H1.out, Turn.refl _ _⟩
  case round =>
    obtain ⟨k, T, hk, rfl, HT, HL, HTu⟩ := hrel
    by_cases hlt : k < ns.length
    · obtain ⟨ra', rc', hv, hRow⟩ := row1_own (HTu.out.row HO.out (fun j hj hf => by have := (HO.out.lt j hj).1; have := HF.out j hf; omega)) (by omega)
      injection hv with e1 _ e3
      subst e1; subst e3
      obtain ⟨b, off, rfl, hbl, hcell⟩ := hRow.at hlt
      rw [ints_getD hlt] at hcell
      have hn8 := HNS.out _ (List.getElem_mem hlt)
      have hdr : Hid (ns.drop k = ns[k] :: ns.drop (k + 1)) := List.drop_eq_getElem_cons hlt
      generalize ns[k] = n at *
      have HT2 : Hid (dropSegs nm.data.toList u (n :: ns.drop (k + 1)) T = (S2, e2)) := by rw [← hdr.out]; exact HT
      clear HT hdr hRow hbl
      by_cases hgt : u < (n : Int)
      · have hend : Hid (T = S2 ∧ (0 : Int) = e2) := by
          have := HT2.out
          unfold dropSegs at this
          rw [if_pos hgt] at this
          injection this with g1 g2
          exact ⟨g1, g2⟩
        go_wp2
        go_ret
        rw [← hend.out.1, ← hend.out.2]
        exact ⟨rfl, HL.out, (Turn.of_below F HB.out).trans HTu.out (fun i hi => .inl hi)⟩
      · have hngt : (n : Int) ≤ u := by omega
        have c0 := HL.out.head.c0
        have hT3 := HT2.out
        unfold dropSegs at hT3
        rw [if_neg hgt] at hT3
        obtain ⟨D, hD⟩ : ∃ D, T.delete (segName nm.data.toList n) = D := ⟨_, rfl⟩
        rw [hD] at hT3
        obtain ⟨T2, e3⟩ := D
        simp only at hT3
        have HD := Lib.hid hD
        clear hgt hD HT2
        by_cases he : e3 = 0
        · subst he
          rw [if_pos rfl] at hT3
          have HT3 := Lib.hid hT3
          clear hT3
          go_wp2
          go_region_held3 (fun w' => w'.cell? ⟨q, 0, none⟩ = some (.pointer (some ⟨p, 0, none⟩))) (first | exact c0 | exact c0a | exact c0b)
            (first
            | (go_at_call 22; refine (file_any HL.out.drew.head HL.out.nm8 HL.out.drew.tab n hn8).mono ?_; rintro e w2 ⟨rfl, b2⟩; have B2 := Lib.hid (below_undrew b2); have H2 := Lib.hid (HL.out.drew.below b2); have c0a := H2.out.head.c0; clear b2)
            | (go_at_call 30; have hap := box_delete H2.out.box (segB nm n) (segB_max nm n H2.out.nm8); rw [segB_data, HD.out] at hap; refine hap.mono ?_; rintro e w3 ⟨rfl, h3, t3⟩; have H3 := Lib.hid (H2.out.onBox (grew_box' h3) t3); have c0b := H3.out.head.c0; have BT := Lib.hid (And.intro h3 t3); clear h3 t3 hap))
          all_goals
            have HS := Lib.hid (HL.out.step' B2.out BT.out.1 BT.out.2)
            have HTu2 := Lib.hid (HTu.out.trans HS.out.2 (fun i hi => .inl hi))
            have HL2 := Lib.hid HS.out.1
            clear hcell
            go_wp2
            go_roundw
            case rel => exact ⟨k + 1, T2, by omega, by go_num, HT3, HL2, HTu2⟩
            case measure => simp [intOf]; omega
        · rw [if_neg he] at hT3
          have he2 : (e3 == 0) = false := by simp [he]
          have HT3 := Lib.hid hT3
          clear hT3
          go_wp2
          go_region_held3 (fun w' => w'.cell? ⟨q, 0, none⟩ = some (.pointer (some ⟨p, 0, none⟩))) (first | exact c0 | exact c0a | exact c0b)
            (first
            | (go_at_call 22; refine (file_any HL.out.drew.head HL.out.nm8 HL.out.drew.tab n hn8).mono ?_; rintro e w2 ⟨rfl, b2⟩; have B2 := Lib.hid (below_undrew b2); have H2 := Lib.hid (HL.out.drew.below b2); have c0a := H2.out.head.c0; clear b2)
            | (go_at_call 30; have hap := box_delete H2.out.box (segB nm n) (segB_max nm n H2.out.nm8); rw [segB_data, HD.out] at hap; refine hap.mono ?_; rintro e w3 ⟨rfl, h3, t3⟩; have H3 := Lib.hid (H2.out.onBox (grew_box' h3) t3); have c0b := H3.out.head.c0; have BT := Lib.hid (And.intro h3 t3); clear h3 t3 hap))
          all_goals
            have HS := Lib.hid (HL.out.step' B2.out BT.out.1 BT.out.2)
            have HTu2 := Lib.hid ((Turn.of_below F HB.out).trans (HTu.out.trans HS.out.2 (fun i hi => .inl hi)) (fun i hi => .inl hi))
            have HL2 := Lib.hid HS.out.1
            clear hcell
            go_wp2
            go_ret
            have h9 := HT3.out
            injection h9 with g1 g2
            rw [← g1, ← g2]
            exact ⟨rfl, HL2.out, HTu2.out⟩
    · obtain rfl : k = ns.length := by omega
      have hend : Hid (T = S2 ∧ (0 : Int) = e2) := by
        have := HT.out
        rw [List.drop_length] at this
        unfold dropSegs at this
        injection this with g1 g2
        exact ⟨g1, g2⟩
      clear HT
      go_wp2
      go_ret
      rw [← hend.out.1, ← hend.out.2]
      exact ⟨rfl, HL.out, (Turn.of_below F HB.out).trans HTu.out (fun i hi => .inl hi)⟩
end Go.Proofs.YtlgpkbcefaldoaaDoor
