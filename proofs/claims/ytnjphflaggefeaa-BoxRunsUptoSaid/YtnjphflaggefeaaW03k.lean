/- Layer 3: a box of the call's own; the law's awake. -/
import Derived.Test.YtnjphflaggefeaaW03j
namespace Go.Proofs.Ytnjphflaggefeaa
open Go.RowKit Go.Maps Go.WideMaps
set_option linter.unusedVariables false

/-- A box all of whose blocks lie from B on. -/
def Own (B : Nat) (w : World) (p : Nat) (S : Bx) : Prop := BoxAt w p S (fun k => B ≤ k)
theorem Own.below {B : Nat} {w w' : World} {p : Nat} {S : Bx} (h : Own B w p S) (hb : Below w.heap.size w w') : Own B w' p S := BoxAt.below h hb
theorem Own.drew {B : Nat} {w : World} {p : Nat} {S : Bx} (h : Own B w p S) : Own B w.drew p S := h.below (below_drew w)
theorem BoxAt.tight {F : Nat → Prop} {w : World} {p : Nat} {S : Bx} (h : BoxAt w p S F) : BoxAt w p S (fun k => F k ∧ k < w.heap.size) := by
  obtain ⟨m, es, h⟩ := h
  exact ⟨m, es, h.tight⟩
theorem turn_below {B : Nat} {w w' : World} (t : Turn (fun k => B ≤ k) w w') (hB : B ≤ w.heap.size) : Below B w w' := t.below (fun _ h => h) hB

theorem own_new (B : Nat) (w : World) (hB : B ≤ w.heap.size) :
    Calls Try.prog 10 #[] w fun e w' => ∃ p, e = .returned (.pointer (some ⟨p, 0, none⟩)) ∧ Own B w' p Bx.new ∧ Below w.heap.size w w' :=
  (box_new w).mono fun e w' ⟨p, he, _, h, hb⟩ => ⟨p, he, h.mono (fun k hk => by have := hk.1; omega), hb⟩

theorem own_append {B : Nat} {w : World} {p : Nat} {S : Bx} (h : Own B w p S) (hB : B ≤ w.heap.size) (s d : ByteArray) (hs : s.size ≤ maxLen) (hz : weigh S.files + d.size ≤ 140737488355328) :
    Calls Try.prog 12 #[.pointer (some ⟨p, 0, none⟩), .string s, .string d] w fun r w' => r = .returned (.int .i64 (S.append s.data.toList d.data.toList).2) ∧ Own B w' p (S.append s.data.toList d.data.toList).1 ∧ Below B w w' :=
  (box_append h s d hs hz).mono fun e w' ⟨he, h1, t⟩ => ⟨he, h1.mono (fun k hk => by rcases hk with hk | hk; exact hk; exact Nat.le_trans hB hk.1), turn_below t hB⟩

theorem own_sync {B : Nat} {w : World} {p : Nat} {S : Bx} (h : Own B w p S) (hB : B ≤ w.heap.size) (s : ByteArray) (hs : s.size ≤ maxLen) :
    Calls Try.prog 14 #[.pointer (some ⟨p, 0, none⟩), .string s] w fun r w' => r = .returned (.int .i64 (S.sync s.data.toList).2) ∧ Own B w' p (S.sync s.data.toList).1 ∧ Below B w w' :=
  (box_sync h s hs).mono fun e w' ⟨he, h1, t⟩ => ⟨he, h1, turn_below t hB⟩

theorem own_delete {B : Nat} {w : World} {p : Nat} {S : Bx} (h : Own B w p S) (hB : B ≤ w.heap.size) (s : ByteArray) (hs : s.size ≤ maxLen) :
    Calls Try.prog 16 #[.pointer (some ⟨p, 0, none⟩), .string s] w fun r w' => r = .returned (.int .i64 (S.delete s.data.toList).2) ∧ Own B w' p (S.delete s.data.toList).1 ∧ Below B w w' :=
  (box_delete h s hs).mono fun e w' ⟨he, h1, t⟩ => ⟨he, h1, turn_below t hB⟩

theorem own_fuel {B : Nat} {w : World} {p : Nat} {S : Bx} (h : Own B w p S) (hB : B ≤ w.heap.size) (n : Int) (hn : (Lit.int .i64 n).wf = true) :
    Calls Try.prog 18 #[.pointer (some ⟨p, 0, none⟩), .int .i64 n] w fun e w' => e = .returned (.tuple #[]) ∧ Own B w' p ⟨S.files, n, S.down⟩ ∧ Below B w w' :=
  (box_fuel h n hn).mono fun e w' ⟨he, h1, t⟩ => ⟨he, h1, turn_below t hB⟩

theorem own_crash {B N : Nat} {w : World} {p : Nat} {S : Bx} (h : BoxAt w p S (fun k => B ≤ k ∧ k < N)) (hB : B ≤ w.heap.size) {v : Value} {ks : List Int} (hks : IntsAt (fun k => B ≤ k ∧ k < N) w v ks) (hl : weigh S.files ≤ 8796093022208) :
    Calls Try.prog 19 #[.pointer (some ⟨p, 0, none⟩), v] w fun r w' => ∃ q, r = .returned (.pointer (some ⟨q, 0, none⟩)) ∧ Own B w' p S.fall ∧ Own B w' q (S.crash ks) ∧ Below B w w' :=
  (box_crash h hks hl).mono fun e w' ⟨q, he, h1, h2, t⟩ => ⟨q, he, h1.mono (fun k hk => hk.1), h2.mono (fun k hk => Nat.le_trans hB hk.1), turn_below (t.mono (fun i hi => by
    subst hi
    obtain ⟨m, es, h⟩ := h
    exact .inl h.fp.1)) hB⟩

/-- One number in a new row. -/
theorem ints_new {B : Nat} (w : World) (x : Int) (hx : -9223372036854775808 ≤ x ∧ x ≤ 9223372036854775807) : IntsAt (fun k => B ≤ k ∧ k < w.heap.size) (w.alloc (.cells #[.int .i64 x] 3)) (.slice (some ⟨w.heap.size, 0, none⟩) 1 1) [x] := by
  refine ⟨⟨_, 1, rfl, .inr ⟨w.heap.size, 0, rfl, by simp, fun h => by have := h.2; omega, fun i hi => ?_⟩⟩, by simp, by simp; omega⟩
  have : i = 0 := by simpa using hi
  subst this
  rw [block_cell (heap_alloc_new _ _)]; rfl

def aw1 : Bx := ⟨[([102], ⟨[97, 98], 0⟩)], -1, false⟩
def aw2 : Bx := ⟨[([102], ⟨[97, 98], 2⟩)], -1, false⟩
def aw3 : Bx := ⟨[([102], ⟨[97, 98, 99, 100], 2⟩)], -1, false⟩
def aw4 : Bx := ⟨[([102], ⟨[97, 98, 99], 3⟩)], -1, false⟩
theorem aw1_eq : Bx.new.append [102] [97, 98] = (aw1, 0) := rfl
theorem aw2_eq : aw1.sync [102] = (aw2, 0) := rfl
theorem aw3_eq : aw2.append [102] [99, 100] = (aw3, 0) := rfl
theorem aw4_eq : aw3.crash [1] = aw4 := rfl
theorem aw5_eq : aw4.read [102] = ([97, 98, 99], 0) := rfl
theorem aw6_eq : aw3.fall.read [102] = ([], 30) := rfl

set_option maxHeartbeats 400000 in
set_option maxRecDepth 100000 in
theorem awake3_any (w : World) :
    Calls Try.prog 9 #[] w fun e w' => e = .returned (.bool true) ∧ Below w.heap.size w w' := by
  have E1 := Lib.hid aw1_eq
  have E2 := Lib.hid aw2_eq
  have E3 := Lib.hid aw3_eq
  have E4 := Lib.hid aw4_eq
  have E5 := Lib.hid aw5_eq
  have E6 := Lib.hid aw6_eq
  go_enter Try.func9, Try.ntmps9
  go_wp2_with fail
  refine (own_new w.heap.size _ (Nat.le_refl _)).mono ?_
  rintro e w1 ⟨p, rfl, h1, b1⟩
  go_wp2_with fail
  refine (own_append h1 b1.size ⟨#[102]⟩ ⟨#[97, 98]⟩ (by decide) (by decide)).mono ?_
  rintro e w2 ⟨rfl, h2, c2⟩
  rw [show Bx.new.append (ByteArray.mk #[102]).data.toList (ByteArray.mk #[97, 98]).data.toList = (aw1, 0) from aw1_eq] at h2
  rw [show Bx.new.append (ByteArray.mk #[102]).data.toList (ByteArray.mk #[97, 98]).data.toList = (aw1, 0) from aw1_eq]
  have b2 := b1.trans c2
  clear h1 b1 c2
  go_wp2_with fail
  refine (own_sync h2 b2.size ⟨#[102]⟩ (by decide)).mono ?_
  rintro e w3 ⟨rfl, h3, c3⟩
  rw [show aw1.sync (ByteArray.mk #[102]).data.toList = (aw2, 0) from aw2_eq] at h3
  rw [show aw1.sync (ByteArray.mk #[102]).data.toList = (aw2, 0) from aw2_eq]
  have b3 := b2.trans c3
  clear h2 b2 c3
  go_wp2_with fail
  refine (own_append h3 b3.size ⟨#[102]⟩ ⟨#[99, 100]⟩ (by decide) (by decide)).mono ?_
  rintro e w4 ⟨rfl, h4, c4⟩
  rw [show aw2.append (ByteArray.mk #[102]).data.toList (ByteArray.mk #[99, 100]).data.toList = (aw3, 0) from aw3_eq] at h4
  rw [show aw2.append (ByteArray.mk #[102]).data.toList (ByteArray.mk #[99, 100]).data.toList = (aw3, 0) from aw3_eq]
  have b4 := b3.trans c4
  clear h3 b3 c4
  go_wp2_with fail
  have h5 : BoxAt (w4.alloc (.cells #[.int .i64 1] 3)) p aw3 (fun k => w.heap.size ≤ k ∧ k < w4.heap.size) := (BoxAt.tight h4).below ((Below.refl _ _).alloc (Nat.le_refl _) _)
  have b5 := b4.alloc b4.size (.cells #[.int .i64 1] 3)
  refine (own_crash h5 b5.size (ints_new w4 1 (by decide)) (by decide)).mono ?_
  rintro e w6 ⟨q, rfl, h6, h7, c6⟩
  rw [aw4_eq] at h7
  have b6 := b5.trans c6
  clear h4 b4 h5 b5 c6
  go_wp2_with fail
  refine (box_read h7 ⟨#[102]⟩ (by decide)).mono ?_
  rintro e w7 ⟨rfl, rfl⟩
  rw [show aw4.read (ByteArray.mk #[102]).data.toList = ([97, 98, 99], 0) from aw5_eq]
  go_wp2_with fail
  refine (box_read h6 ⟨#[102]⟩ (by decide)).mono ?_
  rintro e w7 ⟨rfl, rfl⟩
  rw [show aw3.fall.read (ByteArray.mk #[102]).data.toList = ([], 30) from aw6_eq]
  unfold tx
  have B6 := Lib.hid b6
  clear b6 h6 h7
  go_wp2
  go_ret
  exact ⟨rfl, B6.out⟩
end Go.Proofs.Ytnjphflaggefeaa
