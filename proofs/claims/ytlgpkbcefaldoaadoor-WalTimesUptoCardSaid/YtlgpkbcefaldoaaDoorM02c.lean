/- Layer 2, plain facts: frames one behind the other, and where each ends. -/
import Derived.Test.YtlgpkbcefaldoaaDoorM02b
import Derived.Test.YtlgpkbcefaldoaaDoorM01t
namespace Go.Proofs.YtlgpkbcefaldoaaDoor
open Go.RowKit
set_option linter.unusedVariables false

/-- The texts as lists of bytes. -/
def bytesOf (ss : List ByteArray) : List (List UInt8) := ss.map fun s => s.data.toList
theorem bytesOf_len (ss : List ByteArray) : (bytesOf ss).length = ss.length := by simp [bytesOf]
theorem bytesOf_at {ss : List ByteArray} {k : Nat} (h : k < ss.length) : (bytesOf ss)[k]'(by rw [bytesOf_len]; exact h) = ss[k].data.toList := by simp [bytesOf]
theorem bytesOf_getD {ss : List ByteArray} {k : Nat} (h : k < ss.length) : tx ((bytesOf ss).getD k []) = .string (ss.getD k ByteArray.empty) := by
  simp only [List.getD]
  rw [List.getElem?_eq_getElem (by rw [bytesOf_len]; exact h), List.getElem?_eq_getElem h, Option.getD_some, Option.getD_some, bytesOf_at h, tx_data]

theorem bytesOf_small {ss : List ByteArray} (h : sizes ss ≤ 1048576) : ∀ l ∈ bytesOf ss, l.length ≤ 1048576 := by
  intro l hl
  unfold bytesOf at hl
  rw [List.mem_map] at hl
  obtain ⟨s, hs, rfl⟩ := hl
  have := size_le_sizes hs
  have e : s.data.toList.length = s.size := by simp
  omega

theorem sizes_append (a b : List ByteArray) : sizes (a ++ b) = sizes a + sizes b := by simp [sizes]
theorem sizes_take {ss : List ByteArray} {k : Nat} (h : k < ss.length) : sizes (ss.take (k + 1)) = sizes (ss.take k) + ss[k].size := by
  rw [List.take_succ_eq_append_getElem h, sizes_append, sizes_cons]; simp [sizes]
theorem sizes_mono (ss : List ByteArray) (k : Nat) : sizes (ss.take k) ≤ sizes ss := by
  have : sizes ss = sizes (ss.take k) + sizes (ss.drop k) := by rw [← sizes_append, List.take_append_drop]
  omega

/-- Where the k-th frame begins. -/
def endL (ls : List (List UInt8)) (k : Nat) : Nat := (framesL (ls.take k)).length

theorem endL_all (ls : List (List UInt8)) : endL ls ls.length = (framesL ls).length := by rw [endL, List.take_length]
theorem endL_zero (ls : List (List UInt8)) : endL ls 0 = 0 := rfl
theorem endL_next {ls : List (List UInt8)} {k : Nat} (h : k < ls.length) : endL ls (k + 1) = endL ls k + (frameL ls[k]).length := by
  rw [endL, endL, framesL_take h, List.length_append]

theorem endL_le {ss : List ByteArray} (h : sizes ss ≤ 1048576) : ∀ k, k ≤ ss.length → endL (bytesOf ss) k ≤ sizes ss + 14 * ss.length := by
  have key : ∀ ss : List ByteArray, sizes ss ≤ 1048576 → (framesL (bytesOf ss)).length ≤ sizes ss + 14 * ss.length := by
    intro ss
    induction ss with
    | nil => intro _; simp [bytesOf, framesL]
    | cons s r ih =>
      intro h
      rw [sizes_cons] at h
      have h1 := ih (by omega)
      have h2 := frameL_le (l := s.data.toList) (by simp; show s.size ≤ _; omega)
      have e : s.data.toList.length = s.size := by simp
      rw [show bytesOf (s :: r) = s.data.toList :: bytesOf r from rfl, framesL_cons, List.length_append, sizes_cons, List.length_cons]
      omega
  intro k hk
  have h1 := key ss h
  have e : framesL (bytesOf ss) = framesL ((bytesOf ss).take k) ++ framesL ((bytesOf ss).drop k) := by rw [framesL, framesL, framesL, ← List.flatMap_append, List.take_append_drop]
  rw [e, List.length_append] at h1
  unfold endL
  omega

/-- The frames' ends. -/
def endsL (ls : List (List UInt8)) (k : Nat) : List Value := (List.range k).map fun j => .int .i64 (endL ls (j + 1) : Nat)
theorem endsL_len (ls : List (List UInt8)) (k : Nat) : (endsL ls k).length = k := by simp [endsL]
theorem endsL_next (ls : List (List UInt8)) (k : Nat) : endsL ls (k + 1) = endsL ls k ++ [.int .i64 (endL ls (k + 1) : Nat)] := by
  rw [endsL, List.range_succ, List.map_append]; rfl

theorem scan_all {ss : List ByteArray} (h : sizes ss ≤ 1048576) : scanL (framesL (bytesOf ss)) = (bytesOf ss, []) := by
  have := scanL_frames (bytesOf_small h) [] (by rw [nextL_nil]; simp)
  rw [List.append_nil] at this
  exact this

theorem scan_cut {ss : List ByteArray} (h : sizes ss ≤ 1048576) {k cut : Nat} (hk : k ≤ ss.length) (h1 : endL (bytesOf ss) k ≤ cut) (h2 : k < ss.length → cut < endL (bytesOf ss) (k + 1)) (h3 : cut ≤ (framesL (bytesOf ss)).length) :
    (scanL ((framesL (bytesOf ss)).take cut)).1 = (bytesOf ss).take k ∧ (scanL ((framesL (bytesOf ss)).take cut)).2.length + endL (bytesOf ss) k = cut := by
  have := scanL_part (bytesOf_small h) (k := k) (cut := cut) (by rw [bytesOf_len]; exact hk) h1 (by rw [bytesOf_len]; exact h2) h3
  rw [this.1]
  exact ⟨rfl, this.2⟩

end Go.Proofs.YtlgpkbcefaldoaaDoor
