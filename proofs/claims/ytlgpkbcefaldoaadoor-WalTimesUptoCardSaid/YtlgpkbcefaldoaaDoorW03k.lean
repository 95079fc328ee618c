/- Layer 3: a box of the call's own. -/
import Derived.Test.YtlgpkbcefaldoaaDoorW03j
namespace Go.Proofs.YtlgpkbcefaldoaaDoor
open Go.RowKit Go.Maps Go.WideMaps
set_option linter.unusedVariables false

/-- A box all of whose blocks lie from B on. -/
def Own (B : Nat) (w : World) (p : Nat) (S : Bx) : Prop := BoxAt w p S (fun k => B ≤ k)
theorem Own.below {B : Nat} {w w' : World} {p : Nat} {S : Bx} (h : Own B w p S) (hb : Below w.heap.size w w') : Own B w' p S := BoxAt.below h hb
theorem Own.drew {B : Nat} {w : World} {p : Nat} {S : Bx} (h : Own B w p S) : Own B w.drew p S := h.below (below_drew w)
theorem BoxAt.tight {F : Nat → Prop} {w : World} {p : Nat} {S : Bx} (h : BoxAt w p S F) : BoxAt w p S (fun k => F k ∧ k < w.heap.size) := by
  obtain ⟨m, es, h⟩ := h
  exact ⟨m, es, h.tight⟩
theorem turn_below {B : Nat} {w w' : World} (t : Turn (fun k => B ≤ k) w w') (hB : B ≤ w.heap.size) : Below B w w' := t.below (fun _ h => h) hB

theorem own_new (B : Nat) (w : World) (hB : B ≤ w.heap.size) :
    Calls Tryd.prog 7 #[] w fun e w' => ∃ p, e = .returned (.pointer (some ⟨p, 0, none⟩)) ∧ Own B w' p Bx.new ∧ Below w.heap.size w w' :=
  (box_new w).mono fun e w' ⟨p, he, _, h, hb⟩ => ⟨p, he, h.mono (fun k hk => by have := hk.1; omega), hb⟩

theorem own_append {B : Nat} {w : World} {p : Nat} {S : Bx} (h : Own B w p S) (hB : B ≤ w.heap.size) (s d : ByteArray) (hs : s.size ≤ maxLen) (hz : weigh S.files + d.size ≤ 140737488355328) :
    Calls Tryd.prog 15 #[.pointer (some ⟨p, 0, none⟩), .string s, .string d] w fun r w' => r = .returned (.int .i64 (S.append s.data.toList d.data.toList).2) ∧ Own B w' p (S.append s.data.toList d.data.toList).1 ∧ Below B w w' :=
  (box_append h s d hs hz).mono fun e w' ⟨he, h1, t⟩ => ⟨he, h1.mono (fun k hk => by rcases hk with hk | hk; exact hk; exact Nat.le_trans hB hk.1), turn_below t hB⟩

theorem own_sync {B : Nat} {w : World} {p : Nat} {S : Bx} (h : Own B w p S) (hB : B ≤ w.heap.size) (s : ByteArray) (hs : s.size ≤ maxLen) :
    Calls Tryd.prog 23 #[.pointer (some ⟨p, 0, none⟩), .string s] w fun r w' => r = .returned (.int .i64 (S.sync s.data.toList).2) ∧ Own B w' p (S.sync s.data.toList).1 ∧ Below B w w' :=
  (box_sync h s hs).mono fun e w' ⟨he, h1, t⟩ => ⟨he, h1, turn_below t hB⟩

theorem own_delete {B : Nat} {w : World} {p : Nat} {S : Bx} (h : Own B w p S) (hB : B ≤ w.heap.size) (s : ByteArray) (hs : s.size ≤ maxLen) :
    Calls Tryd.prog 30 #[.pointer (some ⟨p, 0, none⟩), .string s] w fun r w' => r = .returned (.int .i64 (S.delete s.data.toList).2) ∧ Own B w' p (S.delete s.data.toList).1 ∧ Below B w w' :=
  (box_delete h s hs).mono fun e w' ⟨he, h1, t⟩ => ⟨he, h1, turn_below t hB⟩

theorem own_fuel {B : Nat} {w : World} {p : Nat} {S : Bx} (h : Own B w p S) (hB : B ≤ w.heap.size) (n : Int) (hn : (Lit.int .i64 n).wf = true) :
    Calls Tryd.prog 9 #[.pointer (some ⟨p, 0, none⟩), .int .i64 n] w fun e w' => e = .returned (.tuple #[]) ∧ Own B w' p ⟨S.files, n, S.down⟩ ∧ Below B w w' :=
  (box_fuel h n hn).mono fun e w' ⟨he, h1, t⟩ => ⟨he, h1, turn_below t hB⟩

theorem own_crash {B N : Nat} {w : World} {p : Nat} {S : Bx} (h : BoxAt w p S (fun k => B ≤ k ∧ k < N)) (hB : B ≤ w.heap.size) {v : Value} {ks : List Int} (hks : IntsAt (fun k => B ≤ k ∧ k < N) w v ks) (hl : weigh S.files ≤ 8796093022208) :
    Calls Tryd.prog 13 #[.pointer (some ⟨p, 0, none⟩), v] w fun r w' => ∃ q, r = .returned (.pointer (some ⟨q, 0, none⟩)) ∧ Own B w' p S.fall ∧ Own B w' q (S.crash ks) ∧ Below B w w' :=
  (box_crash h hks hl).mono fun e w' ⟨q, he, h1, h2, t⟩ => ⟨q, he, h1.mono (fun k hk => hk.1), h2.mono (fun k hk => Nat.le_trans hB hk.1), turn_below (t.mono (fun i hi => by
    subst hi
    obtain ⟨m, es, h⟩ := h
    exact .inl h.fp.1)) hB⟩

/-- One number in a new row. -/
theorem ints_new {B : Nat} (w : World) (x : Int) (hx : -9223372036854775808 ≤ x ∧ x ≤ 9223372036854775807) : IntsAt (fun k => B ≤ k ∧ k < w.heap.size) (w.alloc (.cells #[.int .i64 x] 3)) (.slice (some ⟨w.heap.size, 0, none⟩) 1 1) [x] := by
  refine ⟨⟨_, 1, rfl, .inr ⟨w.heap.size, 0, rfl, by simp, fun h => by have := h.2; omega, fun i hi => ?_⟩⟩, by simp, by simp; omega⟩
  have : i = 0 := by simpa using hi
  subst this
  rw [block_cell (heap_alloc_new _ _)]; rfl
end Go.Proofs.YtlgpkbcefaldoaaDoor
