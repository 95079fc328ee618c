/- Plain facts: slices that came in, as the walks are told of them; lists of numbers and of texts as bytes, there and back. -/
import Derived.Test.YtefgnigbppfgfaaM01r
import Derived.SliceStrings
namespace Go.Proofs.Ytefgnigbppfgfaa
open Go.RowKit
set_option linter.unusedVariables false

/-- A slice of elements of one cell each that came in: it is empty, or its elements lie in a row. -/
structure Row1 (W : World) (a : Option Addr) (len : Nat) (V : Nat → Value) : Prop where
  max : len ≤ 9223372036854775807
  row : len = 0 ∨ ∃ b off, a = some ⟨b, off, none⟩ ∧ b < W.heap.size ∧ ∀ i, i < len → W.cell? ⟨b, off + i, none⟩ = some (V i)

theorem Row1.at {W : World} {a : Option Addr} {len : Nat} {V : Nat → Value} (h : Row1 W a len V) {k : Nat} (hk : k < len) :
    ∃ b off, a = some ⟨b, off, none⟩ ∧ b < W.heap.size ∧ W.cell? ⟨b, off + k, none⟩ = some (V k) := by
  rcases h.row with h0 | ⟨b, off, ha, hb, hc⟩
  · omega
  · exact ⟨b, off, ha, hb, hc k hk⟩

/-- In a world that is as it was below. -/
theorem Row1.in {W w : World} {a : Option Addr} {len : Nat} {V : Nat → Value} (h : Row1 W a len V) (hw : Below W.heap.size W w) {k : Nat} (hk : k < len) :
    ∃ b off, a = some ⟨b, off, none⟩ ∧ w.cell? ⟨b, off + k, none⟩ = some (V k) := by
  obtain ⟨b, off, ha, hb, hc⟩ := h.at hk
  exact ⟨b, off, ha, (hw.cell (p := ⟨b, off + k, none⟩) hb).trans hc⟩

def encs (zs : List Nat) : List UInt8 := zs.flatMap putL
def enct (ss : List ByteArray) : List UInt8 := ss.flatMap fun s => putL s.size ++ s.data.toList

theorem encs_cons (n : Nat) (zs : List Nat) : encs (n :: zs) = putL n ++ encs zs := rfl
theorem enct_cons (s : ByteArray) (ss : List ByteArray) : enct (s :: ss) = putL s.size ++ (s.data.toList ++ enct ss) := by simp [enct]

theorem encs_take {zs : List Nat} {k : Nat} (h : k < zs.length) : encs (zs.take (k + 1)) = encs (zs.take k) ++ putL zs[k] := by
  rw [List.take_succ_eq_append_getElem h, encs, encs, List.flatMap_append]; simp only [List.flatMap_cons, List.flatMap_nil, List.append_nil]
theorem enct_take {ss : List ByteArray} {k : Nat} (h : k < ss.length) : enct (ss.take (k + 1)) = enct (ss.take k) ++ (putL ss[k].size ++ ss[k].data.toList) := by
  rw [List.take_succ_eq_append_getElem h, enct, enct, List.flatMap_append]; simp only [List.flatMap_cons, List.flatMap_nil, List.append_nil]
theorem encs_drop {zs : List Nat} {k : Nat} (h : k < zs.length) : encs (zs.drop k) = putL zs[k] ++ encs (zs.drop (k + 1)) := by
  rw [List.drop_eq_getElem_cons h, encs_cons]
theorem enct_drop {ss : List ByteArray} {k : Nat} (h : k < ss.length) : enct (ss.drop k) = putL ss[k].size ++ (ss[k].data.toList ++ enct (ss.drop (k + 1))) := by
  rw [List.drop_eq_getElem_cons h, enct_cons]

theorem encs_len (zs : List Nat) (h : ∀ n ∈ zs, U64 n) : (encs zs).length ≤ 10 * zs.length := by
  induction zs with
  | nil => simp [encs]
  | cons n zs ih =>
    have h1 := putL_len10 (h n (by simp))
    have h2 := ih (fun m hm => h m (by simp [hm]))
    rw [encs_cons, List.length_append, List.length_cons]; omega

/-- How many bytes texts have together. -/
def sizes (ss : List ByteArray) : Nat := (ss.map ByteArray.size).sum
theorem sizes_cons (s : ByteArray) (ss : List ByteArray) : sizes (s :: ss) = s.size + sizes ss := by simp [sizes]
theorem size_le_sizes {s : ByteArray} {ss : List ByteArray} (h : s ∈ ss) : s.size ≤ sizes ss := by
  induction ss with
  | nil => cases h
  | cons x r ih =>
    rw [sizes_cons]
    rcases List.mem_cons.1 h with rfl | h
    · omega
    · have := ih h; omega

theorem enct_len (ss : List ByteArray) (h : sizes ss ≤ 1048576) : (enct ss).length ≤ 10 * ss.length + sizes ss := by
  induction ss with
  | nil => simp [enct, sizes]
  | cons s ss ih =>
    rw [sizes_cons] at h
    have h1 := putL_len10 (n := s.size) (by unfold U64; omega)
    have h2 := ih (by omega)
    rw [enct_cons, sizes_cons]
    simp only [List.length_append, List.length_cons, Array.length_toList]
    have : s.data.size = s.size := rfl
    omega

theorem enct_mono {ss : List ByteArray} {k : Nat} (h : k ≤ ss.length) : (enct (ss.take k)).length ≤ (enct ss).length := by
  have e : enct ss = enct (ss.take k) ++ enct (ss.drop k) := by rw [enct, enct, enct, ← List.flatMap_append, List.take_append_drop]
  rw [e, List.length_append]; omega
theorem encs_mono {zs : List Nat} {k : Nat} (h : k ≤ zs.length) : (encs (zs.take k)).length ≤ (encs zs).length := by
  have e : encs zs = encs (zs.take k) ++ encs (zs.drop k) := by rw [encs, encs, encs, ← List.flatMap_append, List.take_append_drop]
  rw [e, List.length_append]; omega

theorem numS_put {n : Nat} (h : U64 n) (r : List UInt8) : numS 18446744073709551615 (some (putL n ++ r)) = (n, some r) := by
  rw [numS_top (getL_of_put h r)]
  simp

theorem textS_put {s : ByteArray} (h : U64 s.size) (r : List UInt8) : textS (some (putL s.size ++ (s.data.toList ++ r))) = (s.data.toList, some r) := by
  rw [textS_top, numS_put h]
  have hl : s.data.toList.length = s.size := by simp
  simp only
  rw [if_neg (by rw [List.length_append]; omega), takeS_ok (by rw [List.length_append]; omega), ← hl]
  simp

theorem concat_form {s t : ByteArray} {l r : List UInt8} (hs : s.data.toList = l) (ht : t.data.toList = r) : (s ++ t).data.toList = l ++ r := by
  simp [hs, ht]

theorem concat_size (s t : ByteArray) : (s ++ t).size = s.size + t.size := by simp

end Go.Proofs.Ytefgnigbppfgfaa
