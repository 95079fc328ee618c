/- Layer 4: a log of the call's own. -/
import Derived.Test.YtlgpkbcefaldoaaDoorW04f
namespace Go.Proofs.YtlgpkbcefaldoaaDoor
open Go.RowKit Go.Maps Go.WideMaps Go.Shelf
set_option linter.unusedVariables false

/-- A log and its box, all of whose blocks lie from B on. -/
def LogOwn (B : Nat) (w : World) (q p : Nat) (nm : ByteArray) (c : Nat) (a : Bool) (S : Bx) : Prop := ∃ F, LogIn w q p nm c a S F ∧ (∀ k, F k → B ≤ k ∧ k < w.heap.size) ∧ B ≤ q

section
variable {B : Nat} {w w' : World} {q p c : Nat} {nm : ByteArray} {a : Bool} {S : Bx}
theorem LogOwn.below (h : LogOwn B w q p nm c a S) (hb : Below w.heap.size w w') : LogOwn B w' q p nm c a S := by
  obtain ⟨F, h1, h2, h3⟩ := h
  exact ⟨F, h1.below hb, fun k hk => ⟨(h2 k hk).1, by have := (h2 k hk).2; have := hb.size; omega⟩, h3⟩
theorem LogOwn.drew (h : LogOwn B w q p nm c a S) : LogOwn B w.drew q p nm c a S := h.below (below_drew w)
theorem LogOwn.size (h : LogOwn B w q p nm c a S) : B ≤ w.heap.size := by
  obtain ⟨F, h1, h2, h3⟩ := h
  have := h1.head.lt
  omega
theorem LogOwn.tab (h : LogOwn B w q p nm c a S) : Tab w := by obtain ⟨F, h1, _⟩ := h; exact h1.tab
theorem LogOwn.box (h : LogOwn B w q p nm c a S) : Own B w p S := by
  obtain ⟨F, h1, h2, h3⟩ := h
  exact h1.box.mono (fun k hk => (h2 k hk).1)
theorem LogOwn.boxIn (h : LogOwn B w q p nm c a S) : BoxAt w p S (fun k => B ≤ k ∧ k < w.heap.size) := by
  obtain ⟨F, h1, h2, h3⟩ := h
  exact h1.box.mono h2
theorem turn_own {F : Nat → Prop} (t : Turn (With F q) w w') (hF : ∀ k, F k → B ≤ k) (hq : B ≤ q) (hB : B ≤ w.heap.size) : Below B w w' :=
  t.below (fun k hk => by rcases hk with hk | hk; exact hF k hk; omega) hB
end

/-- What Open answers, all of it of the call's own. -/
def OpenOwn (B : Nat) (w : World) (p : Nat) (nm : ByteArray) (S : Bx) (e : Ending) (w' : World) : Prop :=
  ∃ q v, e = .returned (.tuple #[.pointer (some ⟨q, 0, none⟩), v, .int .i64 0]) ∧ LogOwn B w' q p nm (curOf nm.data.toList S.files) false S ∧
    w'.ownsRow w.heap.size 9 1 v (recsL nm.data.toList S.files).length ((recsL nm.data.toList S.files).map tx) ∧ Below w.heap.size w w'
theorem lo_open {B : Nat} {w : World} {p : Nat} {nm : ByteArray} {S : Bx} (h : Own B w p S) (hB : B ≤ w.heap.size) (ht : Tab w) (hg : 0 < B) (h1 : 1 ≤ nm.size) (h8 : nm.size ≤ 8) (hd : S.down = false)
    (hc : curOf nm.data.toList S.files ≤ 99999999) (hz : ∀ x ∈ S.files, segNum nm.data.toList x.1 ≠ 0 → x.2.bytes.length ≤ 16777216) (hw : weigh S.files ≤ 8796093022208) :
    Calls Tryd.prog 8 #[.pointer (some ⟨p, 0, none⟩), .string nm] w fun e w' => OpenOwn B w p nm S e w' :=
  (open_ok (BoxAt.tight h) (fun k hk => hk.2) ht (fun hk => by have := hk.1; omega) h1 h8 hd hc hz hw).mono fun e w' ⟨q, v, he, hq, hl, hr, hb⟩ =>
    ⟨q, v, he, ⟨_, hl, fun k hk => ⟨hk.1, by have := hk.2; have := hb.size; omega⟩, by omega⟩, hr, hb⟩

section
variable {B : Nat} {w : World} {q p c : Nat} {nm : ByteArray} {a : Bool} {S : Bx}
theorem lo_append (h : LogOwn B w q p nm c a S) (r : ByteArray) (hr : r.size ≤ 1048576) (hz : weigh S.files ≤ 70368744177664) :
    Calls Tryd.prog 10 #[.pointer (some ⟨q, 0, none⟩), .string r] w fun e w' => e = .returned (.int .i64 (S.append (segName nm.data.toList c) (frameL r.data.toList)).2) ∧
      LogOwn B w' q p nm c (if (S.append (segName nm.data.toList c) (frameL r.data.toList)).2 = 0 then true else a) (S.append (segName nm.data.toList c) (frameL r.data.toList)).1 ∧ Below B w w' := by
  have hB := h.size
  obtain ⟨F, h1, h2, h3⟩ := h
  refine (log_append h1 r hr hz).mono fun e w' ⟨he, hl, ht⟩ => ⟨he, ⟨_, hl, fun k hk => ?_, h3⟩, turn_own ht (fun k hk => (h2 k hk).1) h3 hB⟩
  have hs := ht.size
  rcases hk with hk | hk
  · exact ⟨(h2 k hk).1, by have := (h2 k hk).2; omega⟩
  · exact ⟨by omega, hk.2⟩
theorem lo_sync (h : LogOwn B w q p nm c true S) :
    Calls Tryd.prog 12 #[.pointer (some ⟨q, 0, none⟩)] w fun e w' => e = .returned (.int .i64 (S.sync (segName nm.data.toList c)).2) ∧
      LogOwn B w' q p nm c true (S.sync (segName nm.data.toList c)).1 ∧ Below B w w' := by
  have hB := h.size
  obtain ⟨F, h1, h2, h3⟩ := h
  refine (log_sync h1).mono fun e w' ⟨he, hl, ht⟩ => ⟨he, ⟨_, hl, fun k hk => ⟨(h2 k hk).1, by have := (h2 k hk).2; have := ht.size; omega⟩, h3⟩, turn_own (turn_with ht) (fun k hk => (h2 k hk).1) h3 hB⟩
theorem lo_sync_no (h : LogOwn B w q p nm c false S) :
    Calls Tryd.prog 12 #[.pointer (some ⟨q, 0, none⟩)] w fun e w' => e = .returned (.int .i64 0) ∧ w = w' := by
  obtain ⟨F, h1, h2, h3⟩ := h
  exact log_sync_no h1
theorem lo_rotate_no (h : LogOwn B w q p nm c true S) (hc : c < 99999999) (he : (S.sync (segName nm.data.toList c)).2 ≠ 0) :
    Calls Tryd.prog 11 #[.pointer (some ⟨q, 0, none⟩)] w fun e w' => e = .returned (.tuple #[.int .i64 0, .int .i64 (S.sync (segName nm.data.toList c)).2]) ∧ LogOwn B w' q p nm c true (S.sync (segName nm.data.toList c)).1 ∧ Below B w w' := by
  have hB := h.size
  obtain ⟨F, h1, h2, h3⟩ := h
  exact (log_rotate_no h1 hc he).mono fun e w' ⟨he, hl, ht⟩ => ⟨he, ⟨_, hl, fun k hk => ⟨(h2 k hk).1, by have := (h2 k hk).2; have := ht.size; omega⟩, h3⟩, turn_own (turn_with ht) (fun k hk => (h2 k hk).1) h3 hB⟩
theorem lo_rotate (h : LogOwn B w q p nm c true S) (hc : c < 99999999) (he : (S.sync (segName nm.data.toList c)).2 = 0) :
    Calls Tryd.prog 11 #[.pointer (some ⟨q, 0, none⟩)] w fun e w' => e = .returned (.tuple #[.int .i64 (c : Int), .int .i64 0]) ∧ LogOwn B w' q p nm (c + 1) false (S.sync (segName nm.data.toList c)).1 ∧ Below B w w' := by
  have hB := h.size
  obtain ⟨F, h1, h2, h3⟩ := h
  exact (log_rotate h1 hc he).mono fun e w' ⟨he, hl, ht⟩ => ⟨he, ⟨_, hl, fun k hk => ⟨(h2 k hk).1, by have := (h2 k hk).2; have := ht.size; omega⟩, h3⟩, turn_own ht (fun k hk => (h2 k hk).1) h3 hB⟩
theorem lo_drop_arg (h : LogOwn B w q p nm c a S) (u : Int) (hu : (c : Int) ≤ u) :
    Calls Tryd.prog 16 #[.pointer (some ⟨q, 0, none⟩), .int .i64 u] w fun e w' => e = .returned (.int .i64 1) ∧ w = w' := by
  obtain ⟨F, h1, h2, h3⟩ := h
  exact log_drop_arg h1 u hu
theorem lo_drop (h : LogOwn B w q p nm c a S) (hd : S.down = false) (hl : S.files.length ≤ 8796093022208) (u : Int) (hu : u < (c : Int)) :
    Calls Tryd.prog 16 #[.pointer (some ⟨q, 0, none⟩), .int .i64 u] w fun e w' => e = .returned (.int .i64 (dropSegs nm.data.toList u (segsOf nm.data.toList S.files) S).2) ∧
      LogOwn B w' q p nm c a (dropSegs nm.data.toList u (segsOf nm.data.toList S.files) S).1 ∧ Below B w w' := by
  have hB := h.size
  obtain ⟨F, h1, h2, h3⟩ := h
  exact (log_drop h1 (fun k hk => (h2 k hk).2) hd hl u hu).mono fun e w' ⟨he, hl, ht⟩ => ⟨he, ⟨_, hl, fun k hk => ⟨(h2 k hk).1, by have := (h2 k hk).2; have := ht.size; omega⟩, h3⟩, turn_own (turn_with ht) (fun k hk => (h2 k hk).1) h3 hB⟩
theorem lo_fuel (h : LogOwn B w q p nm c a S) (n : Int) (hn : (Lit.int .i64 n).wf = true) :
    Calls Tryd.prog 9 #[.pointer (some ⟨p, 0, none⟩), .int .i64 n] w fun e w' => e = .returned (.tuple #[]) ∧ LogOwn B w' q p nm c a ⟨S.files, n, S.down⟩ ∧ Below B w w' := by
  have hB := h.size
  obtain ⟨F, h1, h2, h3⟩ := h
  exact (box_fuel h1.box n hn).mono fun e w' ⟨he, hl, ht⟩ => ⟨he, ⟨F, (h1.step' (Below.refl _ _) hl ht).1, fun k hk => ⟨(h2 k hk).1, by have := (h2 k hk).2; have := ht.size; omega⟩, h3⟩, turn_own (turn_with ht) (fun k hk => (h2 k hk).1) h3 hB⟩
theorem lo_boxAppend (h : LogOwn B w q p nm c a S) (s d : ByteArray) (hs : s.size ≤ maxLen) (hz : weigh S.files + d.size ≤ 140737488355328) :
    Calls Tryd.prog 15 #[.pointer (some ⟨p, 0, none⟩), .string s, .string d] w fun r w' => r = .returned (.int .i64 (S.append s.data.toList d.data.toList).2) ∧ LogOwn B w' q p nm c a (S.append s.data.toList d.data.toList).1 ∧ Below B w w' := by
  have hB := h.size
  obtain ⟨F, h1, h2, h3⟩ := h
  refine (box_append h1.box s d hs hz).mono fun e w' ⟨he, hl, ht⟩ => ⟨he, ⟨_, (h1.step (Below.refl _ _) hl ht).1, fun k hk => ?_, h3⟩, turn_own (turn_with ht) (fun k hk => (h2 k hk).1) h3 hB⟩
  have hs := ht.size
  rcases hk with hk | hk
  · exact ⟨(h2 k hk).1, by have := (h2 k hk).2; omega⟩
  · exact ⟨by omega, hk.2⟩
theorem lo_crash (h : LogOwn B w q p nm c a S) {v : Value} {ks : List Int} (hks : IntsAt (fun k => B ≤ k ∧ k < w.heap.size) w v ks) (hl : weigh S.files ≤ 8796093022208) :
    Calls Tryd.prog 13 #[.pointer (some ⟨p, 0, none⟩), v] w fun r w' => ∃ q2, r = .returned (.pointer (some ⟨q2, 0, none⟩)) ∧ Own B w' q2 (S.crash ks) ∧ Tab w' ∧ Below B w w' := by
  have hB := h.size
  have ht := h.tab
  have hg : ¬ B ≤ 0 ∨ B ≤ 0 := by omega
  obtain ⟨F, h1, h2, h3⟩ := h
  have hbx := h1.box
  have hp : F p := by obtain ⟨m, es, hb⟩ := hbx; exact hb.fp
  refine (box_crash (F := fun k => B ≤ k ∧ k < w.heap.size) (hbx.mono h2) hks hl).mono fun e w' ⟨q2, he, _, hn, t⟩ => ⟨q2, he, hn.mono (fun k hk => by have := hk.1; omega), ht.turn t (fun e => h1.ng (by have e' : _ = p := e; rw [e']; exact hp)), ?_⟩
  exact t.below (fun i hi => by have e' : i = p := hi; subst e'; exact (h2 _ hp).1) hB
end

theorem ints_nil (F : Nat → Prop) (w : World) : IntsAt F w (.slice none 0 0) [] := ⟨⟨none, 0, rfl, .inl rfl⟩, by decide, by simp⟩

def X120 : Key := [120]
/-- Behind awake's calls. -/
theorem LInv.up_append {nm : Key} {fs : List FileS} {last : List (List UInt8)} {d : Nat} {S : Bx} (h : LInv nm fs last d S) (hU : Up S) (hn : nm.length ≤ 8) {r : List UInt8} (hr : r.length ≤ 1048576) :
    (S.append (segName nm (fs.length + 1)) (frameL r)).2 = 0 ∧ Up (S.append (segName nm (fs.length + 1)) (frameL r)).1 ∧ LInv nm fs (last ++ [r]) d (S.append (segName nm (fs.length + 1)) (frameL r)).1 := by
  have h1 := hU.append (segName_ok (fs.length + 1) hn) (frameL r)
  rcases h.append hr with h2 | h2
  · exact absurd h1.1 h2.1
  · exact ⟨h1.1, h1.2, h2.2⟩
theorem LInv.up_sync {nm : Key} {fs : List FileS} {last : List (List UInt8)} {d : Nat} {S : Bx} (h : LInv nm fs last d S) (hU : Up S) (hne : last ≠ []) :
    (S.sync (segName nm (fs.length + 1))).2 = 0 ∧ Up (S.sync (segName nm (fs.length + 1))).1 ∧ LInv nm fs last last.length (S.sync (segName nm (fs.length + 1))).1 := by
  have h1 := hU.sync (h.find hne)
  rcases h.sync hne with h2 | h2
  · exact absurd h1.1 h2.1
  · exact ⟨h1.1, h1.2, h2.2⟩
end Go.Proofs.YtlgpkbcefaldoaaDoor
