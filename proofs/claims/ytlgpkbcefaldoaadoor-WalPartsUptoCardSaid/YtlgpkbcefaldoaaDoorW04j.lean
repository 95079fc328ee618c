/- Layer 4: the walk of WalParts: its parts. -/
import Derived.Test.YtlgpkbcefaldoaaDoorW04h
import Derived.Test.YtlgpkbcefaldoaaDoorM04f
import Derived.Test.YtlgpkbcefaldoaaDoorWS
import Derived.Deep.QuietTactic
import Derived.BigQuiet
import Derived.Deep.CutBlock
import Derived.Deep.CutRange
import Derived.Deep.DeepCutAuto
import Derived.WalkSpells
import Derived.WalkLawsBesides
namespace Go.Proofs.YtlgpkbcefaldoaaDoor
open Go.RowKit Go.Maps Go.WideMaps Go.Shelf
set_option linter.unusedVariables false

/-- m records have been added, at least so many of them are firm. -/
structure PartRel (w wr : World) (q p : Nat) (ss : List ByteArray) (m firm : Nat) : Prop where
  ex : ∃ S fs last d, LogOwn w.heap.size wr q p ⟨#[120]⟩ (fs.length + 1) (!last.isEmpty) S ∧ LInv [120] fs last d S ∧ scans fs ++ last = bytesOf (ss.take m) ∧ firm ≤ (scans fs).length + d ∧ fs.length ≤ m ∧ weigh S.files ≤ sizes (ss.take m) + 15 * m
  below : Below w.heap.size w wr

/-- What the rest of the call is told of it. -/
structure PartEnd (w wr : World) (q p : Nat) (ss : List ByteArray) (firm : Nat) : Prop where
  ex : ∃ m, m ≤ ss.length ∧ PartRel w wr q p ss m firm
theorem turn_from (B : Nat) {w w' : World} (h : Below B w w') : Turn (fun k => B ≤ k) w w' := ⟨h.os, h.tape, h.output, h.size, fun k _ hk => h.block k (by omega)⟩

section
variable {w wr : World} {q p : Nat} {ss : List ByteArray} {m firm : Nat}
theorem PartRel.drew (h : PartRel w wr q p ss m firm) : PartRel w wr.drew q p ss m firm := by
  obtain ⟨⟨S, fs, last, d, h1, h2⟩, hb⟩ := h
  exact ⟨⟨S, fs, last, d, h1.drew, h2⟩, below_next hb (Nat.le_refl _) (below_drew wr)⟩


/-- A record has just been added. -/
structure PartApp (w wr : World) (q p : Nat) (ss : List ByteArray) (m firm : Nat) : Prop where
  ex : ∃ S fs last d, last ≠ [] ∧ LogOwn w.heap.size wr q p ⟨#[120]⟩ (fs.length + 1) true S ∧ LInv [120] fs last d S ∧ scans fs ++ last = bytesOf (ss.take (m + 1)) ∧ firm ≤ (scans fs).length + d ∧ fs.length ≤ m ∧ weigh S.files ≤ sizes (ss.take (m + 1)) + 15 * (m + 1)
  below : Below w.heap.size w wr
/-- The log has just been rotated. -/
structure PartRot (w wr : World) (q p : Nat) (ss : List ByteArray) (m : Nat) : Prop where
  ex : ∃ S fs, LogOwn w.heap.size wr q p ⟨#[120]⟩ (fs.length + 1) false S ∧ LInv [120] fs [] 0 S ∧ scans fs = bytesOf (ss.take m) ∧ fs.length ≤ m ∧ weigh S.files ≤ sizes (ss.take m) + 15 * m
  below : Below w.heap.size w wr
theorem flag {last : List (List UInt8)} (h : last ≠ []) : (!last.isEmpty) = true := by cases last <;> simp_all
theorem PartApp.rel (h : PartApp w wr q p ss m firm) : PartRel w wr q p ss (m + 1) firm := by
  obtain ⟨⟨S, fs, last, d, h0, h1, h2, h3, h4, h5, h6⟩, hb⟩ := h
  exact ⟨⟨S, fs, last, d, by rw [flag h0]; exact h1, h2, h3, h4, by omega, h6⟩, hb⟩
theorem PartRot.rel (h : PartRot w wr q p ss m) (hm : m ≤ ss.length) : PartRel w wr q p ss m m := by
  obtain ⟨⟨S, fs, h1, h2, h3, h5, h6⟩, hb⟩ := h
  refine ⟨⟨S, fs, [], 0, h1, h2, by rw [List.append_nil]; exact h3, ?_, h5, h6⟩, hb⟩
  rw [h3, bytesOf_len, List.length_take]; omega

/-- One record more: refused, or added. -/
theorem part_append (h : PartRel w wr q p ss m firm) (hm : m < ss.length) (hB : sizes ss + ss.length ≤ 1048576) :
    Calls Tryd.prog 10 #[.pointer (some ⟨q, 0, none⟩), .string ss[m]] wr fun e w' => (∃ n : Int, n ≠ 0 ∧ e = .returned (.int .i64 n) ∧ PartRel w w' q p ss m firm) ∨
      (e = .returned (.int .i64 0) ∧ PartApp w w' q p ss m firm) := by
  obtain ⟨⟨S, fs, last, d, h1, h2, h3, h4, h5, h6⟩, hb⟩ := h
  have hz1 := sizes_take hm
  have hz2 := sizes_mono ss (m + 1)
  have hx : ss[m].size ≤ 1048576 := by omega
  have hxl : ss[m].data.toList.length ≤ 1048576 := by rw [Array.length_toList]; exact hx
  have hbs : bytesOf (ss.take (m + 1)) = bytesOf (ss.take m) ++ [ss[m].data.toList] := by
    rw [List.take_succ_eq_append_getElem hm]
    unfold bytesOf
    rw [List.map_append]; rfl
  refine (lo_append h1 ss[m] hx (by omega)).mono ?_
  rintro e w' ⟨he, hl, hb2⟩
  have hb3 := hb.trans hb2
  have hw := S.append_weigh (segName [120] (fs.length + 1)) (frameL ss[m].data.toList)
  have hf := frameL_le hxl
  have e1 : ss[m].data.toList.length = ss[m].size := by rw [Array.length_toList]; rfl
  rcases h2.append hxl with ⟨g1, g2⟩ | ⟨g1, g2⟩
  · refine .inl ⟨_, g1, he, ⟨_, fs, last, d, ?_, g2, h3, h4, h5, ?_⟩, hb3⟩
    · rw [if_neg g1] at hl; exact hl
    · rw [Bx.append_err g1]; exact h6
  · refine .inr ⟨by rw [he]; exact congrArg (fun n => Ending.returned (.int .i64 n)) g1, ⟨_, fs, last ++ [ss[m].data.toList], d, by simp, ?_, g2, ?_, h4, h5, ?_⟩, hb3⟩
    · rw [if_pos g1] at hl; exact hl
    · rw [hbs, ← h3, List.append_assoc]
    · show weigh (S.append (segName [120] (fs.length + 1)) (frameL ss[m].data.toList)).1.files ≤ _
      omega
theorem last_all {fs : List FileS} {last : List (List UInt8)} (h : scans fs ++ last = bytesOf (ss.take (m + 1))) (hm : m < ss.length) : (scans fs).length + last.length = m + 1 := by
  have := congrArg List.length h
  rw [List.length_append, bytesOf_len, List.length_take] at this
  omega
theorem part_sync (h : PartApp w wr q p ss m firm) (hm : m < ss.length) :
    Calls Tryd.prog 12 #[.pointer (some ⟨q, 0, none⟩)] wr fun e w' => (∃ n : Int, n ≠ 0 ∧ e = .returned (.int .i64 n) ∧ PartRel w w' q p ss (m + 1) firm) ∨
      (e = .returned (.int .i64 0) ∧ PartRel w w' q p ss (m + 1) (m + 1)) := by
  obtain ⟨⟨S, fs, last, d, h0, h1, h2, h3, h4, h5, h6⟩, hb⟩ := h
  refine (lo_sync h1).mono ?_
  rintro e w' ⟨he, hl, hb2⟩
  have hb3 := hb.trans hb2
  have hw := S.sync_weigh (segName [120] (fs.length + 1))
  rcases h2.sync h0 with ⟨g1, g2⟩ | ⟨g1, g2⟩
  · exact .inl ⟨_, g1, he, ⟨_, fs, last, d, by rw [flag h0]; exact hl, g2, h3, h4, by omega, Nat.le_trans hw h6⟩, hb3⟩
  · refine .inr ⟨by rw [he]; exact congrArg (fun n => Ending.returned (.int .i64 n)) g1, ⟨_, fs, last, last.length, by rw [flag h0]; exact hl, g2, h3, ?_, by omega, Nat.le_trans hw h6⟩, hb3⟩
    have := last_all h3 hm
    omega
theorem part_rotate (h : PartApp w wr q p ss m firm) (hm : m < ss.length) (hl : ss.length ≤ 1048576) :
    Calls Tryd.prog 11 #[.pointer (some ⟨q, 0, none⟩)] wr fun e w' => (∃ n : Int, n ≠ 0 ∧ e = .returned (.tuple #[.int .i64 0, .int .i64 n]) ∧ PartRel w w' q p ss (m + 1) firm) ∨
      (∃ c : Int, e = .returned (.tuple #[.int .i64 c, .int .i64 0]) ∧ PartRot w w' q p ss (m + 1)) := by
  obtain ⟨⟨S, fs, last, d, h0, h1, h2, h3, h4, h5, h6⟩, hb⟩ := h
  have hw := S.sync_weigh (segName [120] (fs.length + 1))
  rcases h2.sync h0 with ⟨g1, g2⟩ | ⟨g1, g2⟩
  · refine (lo_rotate_no h1 (by omega) g1).mono ?_
    rintro e w' ⟨he, hl, hb2⟩
    exact .inl ⟨_, g1, he, ⟨_, fs, last, d, by rw [flag h0]; exact hl, g2, h3, h4, by omega, Nat.le_trans hw h6⟩, hb.trans hb2⟩
  · refine (lo_rotate h1 (by omega) g1).mono ?_
    rintro e w' ⟨he, hl, hb2⟩
    refine .inr ⟨_, he, ⟨_, fs ++ [⟨framesL last, (framesL last).length⟩], ?_, g2.close h0 (by omega), ?_, ?_, Nat.le_trans hw h6⟩, hb.trans hb2⟩
    · rw [List.length_append, List.length_singleton]; exact hl
    · rw [scans_snoc h2.small, h3]
    · rw [List.length_append, List.length_singleton]; omega
theorem part_sync_no (h : PartRot w wr q p ss m) :
    Calls Tryd.prog 12 #[.pointer (some ⟨q, 0, none⟩)] wr fun e w' => e = .returned (.int .i64 0) ∧ wr = w' := by
  obtain ⟨⟨S, fs, h1, h2⟩, hb⟩ := h
  exact lo_sync_no h1

/-- What a crash has left. -/
structure PartLeft (w wr : World) (p : Nat) (ss : List ByteArray) (firm : Nat) : Prop where
  ex : ∃ T t, Own w.heap.size wr p T ∧ Up T ∧ recsL [120] T.files = (bytesOf ss).take t ∧ firm ≤ t ∧ t ≤ ss.length ∧ curOf [120] T.files ≤ 99999999 ∧ weigh T.files ≤ 16777216
  tab : Tab wr
  below : Below w.heap.size w wr
theorem part_crash (h : PartEnd w wr q p ss firm) (hB : sizes ss + ss.length ≤ 1048576) {v : Value} {ks : List Int} (hk : IntsAt (fun k => w.heap.size ≤ k) w v ks) :
    Calls Tryd.prog 13 #[.pointer (some ⟨p, 0, none⟩), v] wr fun e w' => ∃ q2, e = .returned (.pointer (some ⟨q2, 0, none⟩)) ∧ PartLeft w w' q2 ss firm := by
  obtain ⟨m, hm, ⟨⟨S, fs, last, d, h1, h2, h3, h4, h5, h6⟩, hb⟩⟩ := h
  have hz := sizes_mono ss m
  have hks : IntsAt (fun k => w.heap.size ≤ k ∧ k < wr.heap.size) wr v ks := (hk.turn (turn_from w.heap.size hb) (fun k hk => hk)).fit (fun k hk => .inl hk.1)
  refine (lo_crash h1 hks (by omega)).mono ?_
  rintro e w' ⟨q2, he, ho, ht, hb2⟩
  obtain ⟨j, hj1, hj2, hj3⟩ := h2.crash ks
  obtain ⟨g1, g2⟩ := left_take h3 hj2 hm
  have hw := S.crash_weigh ks
  have hc := hj3.cur
  exact ⟨q2, he, ⟨_, _, ho, Up.crash S ks, by rw [hj3.recs, g1], by omega, by omega, by omega, by omega⟩, ht, hb.trans hb2⟩
theorem part_open (h : PartLeft w wr p ss firm) (hg : 0 < w.heap.size) :
    Calls Tryd.prog 8 #[.pointer (some ⟨p, 0, none⟩), .string ⟨#[120]⟩] wr fun e w' => ∃ q v t, e = .returned (.tuple #[.pointer (some ⟨q, 0, none⟩), v, .int .i64 0]) ∧ firm ≤ t ∧ t ≤ ss.length ∧
      w'.ownsRow wr.heap.size 9 1 v t (((bytesOf ss).take t).map tx) ∧ Below w.heap.size w w' := by
  obtain ⟨⟨T, t, h1, h2, h3, h4, h5, h6, h7⟩, ht, hb⟩ := h
  refine (lo_open (nm := ⟨#[120]⟩) h1 hb.size ht hg (by decide) (by decide) h2.up h6 (fun x hx _ => by have := bytes_weigh hx; omega) (by omega)).mono ?_
  rintro e w' ⟨q, v, he, _, ho, hb2⟩
  have ho : w'.ownsRow wr.heap.size 9 1 v (recsL [120] T.files).length ((recsL [120] T.files).map tx) := ho
  rw [h3, List.length_take, bytesOf_len, Nat.min_eq_left h5] at ho
  exact ⟨q, v, t, he, h4, h5, ho, below_next hb (Nat.le_refl _) hb2⟩
end
theorem Row1.first {w : World} {a : Option Addr} {n t : Nat} {V : Nat → Value} (h : Row1 w a n V) (ht : t ≤ n) : Row1 w a t V := by
  refine ⟨by have := h.max; omega, ?_⟩
  rcases h.row with h0 | ⟨b, off, ha, hlt, hc⟩
  · exact .inl (by omega)
  · exact .inr ⟨b, off, ha, hlt, fun i hi => hc i (by omega)⟩
/-- The records that are left are the first ones. -/
theorem part_same {w wr : World} {a0 : Option Addr} {c0 t : Nat} {ss : List ByteArray} {a : Option Addr} {c b1 : Nat} (h0 : Row1 w a0 ss.length (fun i => .string (ss.getD i ByteArray.empty))) (hb : Below w.heap.size w wr) (ht : t ≤ ss.length)
    (ho : wr.ownsRow b1 9 1 (.slice a t c) t (((bytesOf ss).take t).map tx)) (a' : Option Addr) (ha : t = 0 ∨ a' = a0) (c' : Nat) :
    Calls Tryd.prog 14 #[.slice a t c, .slice a' t c'] wr fun e w' => e = .returned (.bool true) ∧ ∃ n, w' = wr.drewN n := by
  have hl : ((bytesOf ss).take t).length = t := by rw [List.length_take, bytesOf_len]; omega
  have m0 := h0.max
  obtain ⟨xa, xc, hx, hR⟩ := row1_owns ho hl (by omega)
  injection hx with e1 _ e3
  subst e1; subst e3
  have hrow : Row1 wr a' t (fun i => tx (((bytesOf ss).take t).getD i [])) := by
    rcases ha with h | rfl
    · exact ⟨by omega, .inl h⟩
    · refine ⟨by omega, ?_⟩
      rcases ((h0.below hb).first ht).row with h1 | ⟨b, off, ha, hlt, hc⟩
      · exact .inl h1
      · refine .inr ⟨b, off, ha, hlt, fun i hi => ?_⟩
        rw [hc i hi, ← bytesOf_getD (by omega)]
        congr 1
        simp [List.getD, hi]
  have h1 := same_any a a' t c t c' ((bytesOf ss).take t) ((bytesOf ss).take t) wr hl hl hR hrow
  rw [sameB_refl] at h1
  exact h1
end Go.Proofs.YtlgpkbcefaldoaaDoor
