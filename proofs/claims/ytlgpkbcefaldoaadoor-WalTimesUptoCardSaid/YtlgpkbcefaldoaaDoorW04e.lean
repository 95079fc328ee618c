/- Layer 4: contracts of Append, Sync, Rotate. -/
import Derived.Test.YtlgpkbcefaldoaaDoorW04d
namespace Go.Proofs.YtlgpkbcefaldoaaDoor
open Go.RowKit Go.Maps Go.WideMaps Go.Shelf
set_option linter.unusedVariables false

section
variable {w w1 w2 : World} {q p c : Nat} {nm : ByteArray} {a : Bool} {S S' : Bx} {F G : Nat → Prop}
theorem LogIn.wide (h : LogIn w2 q p nm c a S (Grew F w1 w2)) (hs : w.heap.size ≤ w1.heap.size) (hq : ¬ Grew F w w2 q) (hg : ¬ Grew F w w2 0) : LogIn w2 q p nm c a S (Grew F w w2) :=
  ⟨h.box.mono (fun k hk => by rcases hk with hk | hk; exact .inl hk; exact .inr ⟨by omega, hk.2⟩), h.head, hq, h.nm1, h.nm8, h.cur1, h.cur8, h.tab, hg, h.qg⟩
theorem LogIn.step (h : LogIn w q p nm c a S F) (b1 : Below w.heap.size w w1) (hb : BoxAt w2 p S' (Grew F w1 w2)) (t : Turn F w1 w2) : LogIn w2 q p nm c a S' (Grew F w w2) ∧ Turn F w w2 := by
  have hs := b1.size
  have hq := h.head.lt
  have hg := h.tab.lt
  have h2 := (h.below b1).onBox hb t
  exact ⟨h2.wide hs (fun hk => by rcases hk with hk | hk; exact h.nq hk; omega) (fun hk => by rcases hk with hk | hk; exact h.ng hk; omega), (Turn.of_below F b1).trans t (fun i hi => .inl hi)⟩
theorem LogIn.step' (h : LogIn w q p nm c a S F) (b1 : Below w.heap.size w w1) (hb : BoxAt w2 p S' F) (t : Turn F w1 w2) : LogIn w2 q p nm c a S' F ∧ Turn F w w2 :=
  ⟨⟨hb, (h.head.below b1).turn t h.nq, h.nq, h.nm1, h.nm8, h.cur1, h.cur8, (h.tab.below b1).turn t h.ng, h.ng, h.qg⟩, (Turn.of_below F b1).trans t (fun i hi => .inl hi)⟩
end

theorem LogIn.wide' {w w2 w3 : World} {q p c : Nat} {nm : ByteArray} {a : Bool} {S : Bx} {F : Nat → Prop} (h : LogIn w3 q p nm c a S (Grew F w w2)) (hs : w3.heap.size = w2.heap.size) : LogIn w3 q p nm c a S (Grew F w w3) := by
  have e : Grew F w w3 = Grew F w w2 := by funext k; unfold Grew; rw [hs]
  rw [e]; exact h
theorem grew_box' {w w' : World} {p : Nat} {S : Bx} {F : Nat → Prop} (h : BoxAt w' p S F) : BoxAt w' p S (Grew F w w') := h.mono (fun k hk => .inl hk)
/-- F and the log's own block. -/
def With (F : Nat → Prop) (q k : Nat) : Prop := F k ∨ k = q
theorem turn_with {F : Nat → Prop} {q : Nat} {w w' : World} (t : Turn F w w') : Turn (With F q) w w' := t.mono (fun i hi => .inl (.inl hi))

set_option maxHeartbeats 400000 in
set_option maxRecDepth 100000 in
theorem log_append_long (q : Nat) (r : ByteArray) (hr : ¬ r.size ≤ 1048576) (w : World) :
    Calls Tryd.prog 10 #[.pointer (some ⟨q, 0, none⟩), .string r] w fun e w' => e = .returned (.int .i64 2) ∧ w = w' := by
  go_enter Tryd.func10, Tryd.ntmps10
  go_wp2_with fail
  refine (wrap_long r hr _).mono ?_
  rintro e w1 ⟨rfl, rfl⟩
  go_wp2
  go_ret
  exact ⟨rfl, rfl⟩

set_option maxHeartbeats 1000000 in
set_option maxRecDepth 100000 in
theorem log_append {w : World} {q p c : Nat} {nm : ByteArray} {a : Bool} {S : Bx} {F : Nat → Prop} (h : LogIn w q p nm c a S F) (r : ByteArray) (hr : r.size ≤ 1048576) (hz : weigh S.files ≤ 70368744177664) :
    Calls Tryd.prog 10 #[.pointer (some ⟨q, 0, none⟩), .string r] w fun e w' => e = .returned (.int .i64 (S.append (segName nm.data.toList c) (frameL r.data.toList)).2) ∧
      LogIn w' q p nm c (if (S.append (segName nm.data.toList c) (frameL r.data.toList)).2 = 0 then true else a) (S.append (segName nm.data.toList c) (frameL r.data.toList)).1 (Grew F w w') ∧ Turn (With F q) w w' := by
  obtain ⟨x, hx⟩ : ∃ x : ByteArray, x = ⟨(frameL r.data.toList).toArray⟩ := ⟨_, rfl⟩
  have hxd : x.data.toList = frameL r.data.toList := by rw [hx]
  have hxs : x.size ≤ 1048590 := by
    rw [hx]
    show (frameL r.data.toList).toArray.size ≤ _
    rw [List.size_toArray]
    have := frameL_le (l := r.data.toList) (by rw [Array.length_toList]; exact hr)
    have e : r.data.toList.length = r.size := by rw [Array.length_toList]; rfl
    omega
  have hwr := wrap_any r hr
  rw [← hx] at hwr
  rw [← hxd]
  obtain ⟨R, hR⟩ : ∃ R, S.append (segName nm.data.toList c) x.data.toList = R := ⟨_, rfl⟩
  rw [hR]
  obtain ⟨S2, e2⟩ := R
  have HR := Lib.hid hR
  have H := Lib.hid h
  have HWR := Lib.hid hwr
  have hzz : weigh S.files + x.size ≤ 140737488355328 := by omega
  clear hwr hx hxd h hR
  simp only
  by_cases he : e2 = 0
  · subst he
    rw [if_pos rfl]
    go_enter Tryd.func10, Tryd.ntmps10
    go_wp2_with fail
    refine (HWR.out _).mono ?_
    rintro e w1 ⟨rfl, b1⟩
    have B1 := Lib.hid b1
    have H1 := Lib.hid (H.out.below b1)
    have c0 := H1.out.head.c0
    have c2 := H1.out.head.c2
    clear b1
    go_upto_region 6 with (fail)
    go_region_held3 (fun w' => w'.cell? ⟨q, 0, none⟩ = some (.pointer (some ⟨p, 0, none⟩)) ∧ w'.cell? ⟨q, 2, none⟩ = some (.int .i64 (c : Int))) (first | exact ⟨c0, c2⟩ | exact ⟨c0a, c2a⟩ | exact ⟨c0b, c2b⟩)
      (first
      | (go_at_call 22; refine (file_any H1.out.drew.head H1.out.nm8 H1.out.drew.tab c H1.out.cur8).mono ?_; rintro e w2 ⟨rfl, b2⟩; have B2 := Lib.hid (below_undrew b2); have H2 := Lib.hid (H1.out.drew.below b2); have c0a := H2.out.head.c0; have c2a := H2.out.head.c2; clear b2)
      | (go_at_call 15; have hap := box_append H2.out.box (segB nm c) x (segB_max nm c H2.out.nm8) hzz; rw [segB_data, HR.out] at hap; refine hap.mono ?_; rintro e w3 ⟨rfl, h3, t3⟩; have H3 := Lib.hid (H2.out.onBox h3 t3); have c0b := H3.out.head.c0; have c2b := H3.out.head.c2; have BT := Lib.hid (And.intro h3 t3); clear h3 t3 hap))
    all_goals
      have hf3 := H3.out.head.free 3
      have c3b := H3.out.head.c3
      have HS := Lib.hid (H.out.step (below_next B1.out (Nat.le_refl _) B2.out) BT.out.1 BT.out.2)
      go_wp2
      go_ret
      refine ⟨rfl, ?_, (turn_with HS.out.2).trans turn_q (fun i hi => .inl (.inr hi))⟩
      exact (HS.out.1.setApp true).wide' (by simp [World.setCell])
  · have he2 : (e2 == 0) = false := by simp [he]
    rw [if_neg he]
    go_enter Tryd.func10, Tryd.ntmps10
    go_wp2_with fail
    refine (HWR.out _).mono ?_
    rintro e w1 ⟨rfl, b1⟩
    have B1 := Lib.hid b1
    have H1 := Lib.hid (H.out.below b1)
    have c0 := H1.out.head.c0
    have c2 := H1.out.head.c2
    clear b1
    go_upto_region 6 with (fail)
    go_region_held3 (fun w' => w'.cell? ⟨q, 0, none⟩ = some (.pointer (some ⟨p, 0, none⟩)) ∧ w'.cell? ⟨q, 2, none⟩ = some (.int .i64 (c : Int))) (first | exact ⟨c0, c2⟩ | exact ⟨c0a, c2a⟩ | exact ⟨c0b, c2b⟩)
      (first
      | (go_at_call 22; refine (file_any H1.out.drew.head H1.out.nm8 H1.out.drew.tab c H1.out.cur8).mono ?_; rintro e w2 ⟨rfl, b2⟩; have B2 := Lib.hid (below_undrew b2); have H2 := Lib.hid (H1.out.drew.below b2); have c0a := H2.out.head.c0; have c2a := H2.out.head.c2; clear b2)
      | (go_at_call 15; have hap := box_append H2.out.box (segB nm c) x (segB_max nm c H2.out.nm8) hzz; rw [segB_data, HR.out] at hap; refine hap.mono ?_; rintro e w3 ⟨rfl, h3, t3⟩; have H3 := Lib.hid (H2.out.onBox h3 t3); have c0b := H3.out.head.c0; have c2b := H3.out.head.c2; have BT := Lib.hid (And.intro h3 t3); clear h3 t3 hap))
    all_goals
      have HS := Lib.hid (H.out.step (below_next B1.out (Nat.le_refl _) B2.out) BT.out.1 BT.out.2)
      go_wp2
      go_ret
      exact ⟨rfl, HS.out.1, turn_with HS.out.2⟩

set_option maxHeartbeats 1000000 in
set_option maxRecDepth 100000 in
theorem log_sync_no {w : World} {q p c : Nat} {nm : ByteArray} {S : Bx} {F : Nat → Prop} (h : LogIn w q p nm c false S F) :
    Calls Tryd.prog 12 #[.pointer (some ⟨q, 0, none⟩)] w fun e w' => e = .returned (.int .i64 0) ∧ w = w' := by
  have c3 := h.head.c3
  clear h
  go_enter Tryd.func12, Tryd.ntmps12
  go_wp2
  go_ret
  exact ⟨rfl, rfl⟩

set_option maxHeartbeats 1000000 in
set_option maxRecDepth 100000 in
theorem log_sync {w : World} {q p c : Nat} {nm : ByteArray} {S : Bx} {F : Nat → Prop} (h : LogIn w q p nm c true S F) :
    Calls Tryd.prog 12 #[.pointer (some ⟨q, 0, none⟩)] w fun e w' => e = .returned (.int .i64 (S.sync (segName nm.data.toList c)).2) ∧
      LogIn w' q p nm c true (S.sync (segName nm.data.toList c)).1 F ∧ Turn F w w' := by
  obtain ⟨R, hR⟩ : ∃ R, S.sync (segName nm.data.toList c) = R := ⟨_, rfl⟩
  rw [hR]
  obtain ⟨S2, e2⟩ := R
  have HR := Lib.hid hR
  have H := Lib.hid h
  have c0 := h.head.c0
  have c2 := h.head.c2
  have c3 := h.head.c3
  clear hR h
  simp only
  go_enter Tryd.func12, Tryd.ntmps12
  go_upto_region 5 with (fail)
  go_region_held3 (fun w' => w'.cell? ⟨q, 0, none⟩ = some (.pointer (some ⟨p, 0, none⟩)) ∧ w'.cell? ⟨q, 2, none⟩ = some (.int .i64 (c : Int))) (first | exact ⟨c0, c2⟩ | exact ⟨c0a, c2a⟩ | exact ⟨c0b, c2b⟩)
    (first
    | (go_at_call 22; refine (file_any H.out.drew.head H.out.nm8 H.out.drew.tab c H.out.cur8).mono ?_; rintro e w2 ⟨rfl, b2⟩; have B2 := Lib.hid (below_undrew b2); have H2 := Lib.hid (H.out.drew.below b2); have c0a := H2.out.head.c0; have c2a := H2.out.head.c2; clear b2)
    | (go_at_call 23; have hap := box_sync H2.out.box (segB nm c) (segB_max nm c H2.out.nm8); rw [segB_data, HR.out] at hap; refine hap.mono ?_; rintro e w3 ⟨rfl, h3, t3⟩; have H3 := Lib.hid (H2.out.onBox (grew_box' h3) t3); have c0b := H3.out.head.c0; have c2b := H3.out.head.c2; have BT := Lib.hid (And.intro h3 t3); clear h3 t3 hap))
  all_goals
    have HS := Lib.hid (H.out.step' B2.out BT.out.1 BT.out.2)
    go_wp2
    go_ret
    exact ⟨rfl, HS.out.1, HS.out.2⟩
end Go.Proofs.YtlgpkbcefaldoaaDoor
