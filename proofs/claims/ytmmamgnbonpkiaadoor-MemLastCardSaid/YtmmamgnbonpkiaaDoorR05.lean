/- Layer 5: the reference's table in memory; contracts of its Wrong, at, Len. -/
import Derived.Test.YtmmamgnbonpkiaaDoorM05
import Derived.Test.YtmmamgnbonpkiaaDoorW00b
import Derived.Deep.QuietTactic
import Derived.BigQuiet
import Derived.RegionTactic
import Derived.Lib.Hide
namespace Go.Proofs.YtmmamgnbonpkiaaDoor
open Go.RowKit Go.Maps Go.WideMaps
set_option linter.unusedVariables false

/-- The reference's table at p: its pairs' row v; all it has lies in F. -/
structure RTabIn (w : World) (p : Nat) (v : Value) (l : List PairS) (F : Nat → Prop) : Prop where
  head : w.heap[p]? = some (.cells #[v] 29 (0, 0))
  row : w.ownsRow 0 31 3 v l.length (rowP l)
  fp : F p
  frow : ∀ k, v.ownBlock = some k → F k
def RTabAt (w : World) (p : Nat) (l : List PairS) (F : Nat → Prop) : Prop := ∃ v, RTabIn w p v l F

section
variable {F G : Nat → Prop} {w w' : World} {p : Nat} {v : Value} {l : List PairS}
theorem RTabIn.kept (h : RTabIn w p v l F) (t : Turn G w w') (hd : ∀ k, F k → ¬ G k) : RTabIn w' p v l F :=
  ⟨t.keeps h.head (hd _ h.fp), t.row h.row (fun k hk => hd _ (h.frow k hk)), h.fp, h.frow⟩
theorem RTabAt.kept (h : RTabAt w p l F) (t : Turn G w w') (hd : ∀ k, F k → ¬ G k) : RTabAt w' p l F := by
  obtain ⟨v, h⟩ := h
  exact ⟨v, h.kept t hd⟩
theorem RTabIn.mono (h : RTabIn w p v l F) (hd : ∀ k, F k → G k) : RTabIn w p v l G := ⟨h.head, h.row, hd _ h.fp, fun k hk => hd _ (h.frow k hk)⟩
theorem RTabAt.mono (h : RTabAt w p l F) (hd : ∀ k, F k → G k) : RTabAt w p l G := by
  obtain ⟨v, h⟩ := h
  exact ⟨v, h.mono hd⟩
theorem RTabIn.below (h : RTabIn w p v l F) (t : Below w.heap.size w w') : RTabIn w' p v l F := h.kept (Turn.of_below (fun _ => False) t) (fun _ _ h => h)
theorem RTabAt.below (h : RTabAt w p l F) (t : Below w.heap.size w w') : RTabAt w' p l F := h.kept (Turn.of_below (fun _ => False) t) (fun _ _ h => h)
theorem RTabIn.lt (h : RTabIn w p v l F) : p < w.heap.size := block_lt h.head
theorem RTabIn.c0 (h : RTabIn w p v l F) : w.cell? ⟨p, 0, none⟩ = some v := by rw [block_cell h.head]; rfl
theorem RTabIn.free (h : RTabIn w p v l F) (i : Nat) : w.frozen? ⟨p, i, none⟩ = false := block_free h.head i
theorem RTabIn.rowNe (h : RTabIn w p v l F) {k : Nat} (hk : v.ownBlock = some k) : k ≠ p := by
  rintro rfl
  rcases h.row.2 with ⟨h1, _⟩ | ⟨g, cap, cur, h1, _, h2, _⟩
  · rw [h1] at hk; simp [Value.ownBlock] at hk
  · rw [h1] at hk
    simp [Value.ownBlock] at hk
    rw [hk, h.head] at h2
    simp at h2
theorem RTabIn.max (h : RTabIn w p v l F) : l.length ≤ maxLen := by
  rcases h.row.2 with ⟨_, h0⟩ | ⟨g, cap, cur, h1, _, _, h2, h3, _⟩
  · omega
  · omega
end

theorem row_slice {w : World} {base : Nat} {t : TypeId} {sz : Nat} {v : Value} {n : Nat} {xs : List Value} (h : w.ownsRow base t sz v n xs) : ∃ a c, v = .slice a n c := by
  rcases h.2 with ⟨rfl, rfl⟩ | ⟨g, cap, cur, rfl, _⟩
  · exact ⟨none, 0, rfl⟩
  · exact ⟨_, _, rfl⟩

/-- The cells of a pair of a row that is owned. -/
theorem row_pair {w : World} {base : Nat} {v : Value} {l : List PairS} (h : w.ownsRow base 31 3 v l.length (rowP l)) {i : Nat} (hi : i < l.length) : ∃ g cap, v = .slice (some ⟨g, 0, none⟩) l.length cap ∧ l.length ≤ cap ∧ cap ≤ maxLen ∧
    w.cell? ⟨g, i * 3, none⟩ = some (.string l[i].key) ∧ w.cell? ⟨g, i * 3 + 1, none⟩ = some (.string l[i].val) ∧ w.cell? ⟨g, i * 3 + 2, none⟩ = some (.bool l[i].gone) := by
  rcases h.2 with ⟨_, h0⟩ | ⟨g, cap, cur, hv, _, hg, hle, hcm, _⟩
  · omega
  · obtain ⟨r0, r1, r2⟩ := rowP_at l i hi
    subst hv
    exact ⟨g, cap, rfl, hle, hcm, (h.cellAt _ (by omega)).trans r0, (h.cellAt _ (by omega)).trans r1, (h.cellAt _ (by omega)).trans r2⟩

theorem toList_nil {k : ByteArray} : k.toList = [] ↔ k.size = 0 := by
  rw [ByteArray.toList_eq]
  show _ ↔ k.data.size = 0
  rw [← Array.length_toList]
  exact List.length_eq_zero_iff.symm

theorem wrongP_key {k v : ByteArray} {g : Bool} (h : k.toList = []) : wrongP ⟨k, v, g⟩ = 1 := by
  have := toList_nil.1 h
  simp [wrongP, this]
theorem wrongP_gone {k v : ByteArray} (h : ¬ v.toList = []) : wrongP ⟨k, v, true⟩ = 1 := by
  have : ¬ v.size = 0 := fun e => h (toList_nil.2 e)
  simp [wrongP, this]
theorem wrongP_long {k v : ByteArray} {g : Bool} (h : ¬ k.toList = []) (hg : g = false ∨ v.toList = []) (h2 : 64 < (k.size : Int) ∨ 8192 < (v.size : Int)) : wrongP ⟨k, v, g⟩ = 2 := by
  have h3 : ¬ k.size = 0 := fun e => h (toList_nil.2 e)
  have h4 : ¬ (g = true ∧ v.size ≠ 0) := by
    rintro ⟨rfl, h5⟩
    rcases hg with hg | hg
    · cases hg
    · exact h5 (toList_nil.1 hg)
  unfold wrongP
  rw [if_neg (by simp only [not_or]; exact ⟨h3, h4⟩), if_pos (by simp only; omega)]
theorem wrongP_fine {k v : ByteArray} {g : Bool} (h : ¬ k.toList = []) (hg : g = false ∨ v.toList = []) (h2 : ¬ (64 < (k.size : Int) ∨ 8192 < (v.size : Int))) : wrongP ⟨k, v, g⟩ = 0 := by
  have h3 : ¬ k.size = 0 := fun e => h (toList_nil.2 e)
  have h4 : ¬ (g = true ∧ v.size ≠ 0) := by
    rintro ⟨rfl, h5⟩
    rcases hg with hg | hg
    · cases hg
    · exact h5 (toList_nil.1 hg)
  unfold wrongP
  rw [if_neg (by simp only [not_or]; exact ⟨h3, h4⟩), if_neg (by simp only; omega)]

set_option maxHeartbeats 1000000 in
set_option maxRecDepth 100000 in
theorem rwrong_any (x : PairS) (w : World) :
    Calls Tryd.prog 23 #[x.val'] w fun e w' => e = .returned (.int .i64 (wrongP x : Nat)) ∧ Below w.heap.size w w' := by
  obtain ⟨k, v, g⟩ := x
  show Calls Tryd.prog 23 #[.agg #[.string k, .string v, .bool g]] w _
  generalize hN : wrongP ⟨k, v, g⟩ = N
  have HN := Lib.hid hN
  clear hN
  by_cases hk : k.toList = []
  · have hb : k.toList.isEmpty = true := by rw [hk]; rfl
    have HX := HN.out.symm.trans (wrongP_key hk)
    subst HX
    go_enter Tryd.func23, Tryd.ntmps23
    go_wp2
    go_ret
    exact ⟨rfl, (Below.refl _ w).alloc (Nat.le_refl _) _⟩
  · have hb : k.toList.isEmpty = false := by simpa using hk
    cases g
    · by_cases h2 : 64 < (k.size : Int) ∨ 8192 < (v.size : Int)
      · have HX := HN.out.symm.trans (wrongP_long hk (.inl rfl) h2)
        subst HX
        go_enter Tryd.func23, Tryd.ntmps23
        go_wp2
        all_goals first
          | (exfalso; omega)
          | (go_ret; exact ⟨rfl, (Below.refl _ w).alloc (Nat.le_refl _) _⟩)
      · have HX := HN.out.symm.trans (wrongP_fine hk (.inl rfl) h2)
        subst HX
        go_enter Tryd.func23, Tryd.ntmps23
        go_wp2
        all_goals first
          | (exfalso; omega)
          | (go_ret; exact ⟨rfl, (Below.refl _ w).alloc (Nat.le_refl _) _⟩)
    · by_cases hv : v.toList = []
      · have hc : v.toList.isEmpty = true := by rw [hv]; rfl
        by_cases h2 : 64 < (k.size : Int) ∨ 8192 < (v.size : Int)
        · have HX := HN.out.symm.trans (wrongP_long hk (.inr hv) h2)
          subst HX
          go_enter Tryd.func23, Tryd.ntmps23
          go_wp2
          all_goals first
            | (exfalso; omega)
            | (go_ret; exact ⟨rfl, (Below.refl _ w).alloc (Nat.le_refl _) _⟩)
        · have HX := HN.out.symm.trans (wrongP_fine hk (.inr hv) h2)
          subst HX
          go_enter Tryd.func23, Tryd.ntmps23
          go_wp2
          all_goals first
            | (exfalso; omega)
            | (go_ret; exact ⟨rfl, (Below.refl _ w).alloc (Nat.le_refl _) _⟩)
      · have hc : v.toList.isEmpty = false := by simpa using hv
        have HX := HN.out.symm.trans (wrongP_gone hv)
        subst HX
        go_enter Tryd.func23, Tryd.ntmps23
        go_wp2
        go_ret
        exact ⟨rfl, (Below.refl _ w).alloc (Nat.le_refl _) _⟩

set_option maxHeartbeats 1000000 in
set_option maxRecDepth 100000 in
theorem rat_any {w : World} {p : Nat} {v : Value} {l : List PairS} {F : Nat → Prop} (h : RTabIn w p v l F) (k : ByteArray) :
    Calls Tryd.prog 24 #[.pointer (some ⟨p, 0, none⟩), .string k] w fun e w' => e = .returned (.tuple #[.int .i64 (placeP k l : Nat), .bool (thereP k l)]) ∧ ∃ n, w' = w.drewN n := by
  have c0 := h.c0
  have hmax : l.length ≤ 9223372036854775807 := by have := h.max; unfold maxLen at this; omega
  obtain ⟨va, vc, rfl⟩ := row_slice h.row
  have H := Lib.hid h
  clear h
  go_enter Tryd.func24, Tryd.ntmps24
  go_wp2
  go_loop [6] (fun iv => ∃ i : Nat, i ≤ l.length ∧ iv = .int .i64 (i : Int) ∧ Hid (∀ j (h : j < l.length), j < i → befB l[j].key k = true)) (fun iv => l.length - (intOf iv).toNat)
  case atStart => exact ⟨0, by omega, rfl, fun j _ hj => by omega⟩
  case round =>
    obtain ⟨i, hi, rfl, hbf⟩ := hrel
    by_cases hlt : i < l.length
    · obtain ⟨g, cap, hv, hcap, hcm, q0, q1, q2⟩ := row_pair H.out.row hlt
      injection hv with hv1 hv2 hv3
      subst hv1
      by_cases hb : Op.bytesLess l[i].key.toList k.toList = true
      · have HB2 : Hid (∀ j (h : j < l.length), j < i + 1 → befB l[j].key k = true) := fun j hj hjk => by
          by_cases e : j = i
          · subst e; exact hb
          · exact hbf.out j hj (by omega)
        go_wp2
        exact ⟨⟨i + 1, by omega, by go_num, HB2⟩, by simp [intOf]; omega⟩
      · have hb2 : Op.bytesLess l[i].key.toList k.toList = false := by simpa using hb
        have HPL := Lib.hid (placeP_of hi hbf.out (fun _ => hb2))
        have HFD := Lib.hid (thereP_of hlt HPL.out)
        clear hb
        go_wp2
        go_quiet (fail)
        go_wp2
        go_ret2
        exact ⟨by rw [HPL.out, HFD.out, ← keyEq]; rfl, _, rfl⟩
    · obtain rfl : i = l.length := by omega
      have HPL := Lib.hid (placeP_of hi hbf.out (fun h => by omega))
      have HFD := Lib.hid (thereP_none HPL.out)
      go_wp2
      go_quiet (fail)
      go_wp2
      go_ret2
      exact ⟨by rw [HPL.out, HFD.out]; rfl, _, rfl⟩

set_option maxHeartbeats 1000000 in
set_option maxRecDepth 100000 in
theorem rlen_any {w : World} {p : Nat} {v : Value} {l : List PairS} {F : Nat → Prop} (h : RTabIn w p v l F) (hz : sizeP l ≤ 36028797018963968) :
    Calls Tryd.prog 12 #[.pointer (some ⟨p, 0, none⟩)] w fun e w' => e = .returned (.tuple #[.int .i64 (l.length : Nat), .int .i64 (sizeP l : Nat)]) ∧ ∃ n, w' = w.drewN n := by
  have c0 := h.c0
  have hmax : l.length ≤ 9223372036854775807 := by have := h.max; unfold maxLen at this; omega
  obtain ⟨va, vc, rfl⟩ := row_slice h.row
  have H := Lib.hid h
  clear h
  go_enter Tryd.func12, Tryd.ntmps12
  go_wp2
  go_loopw [4, 5] (fun sv iv wr => ∃ i : Nat, i ≤ l.length ∧ iv = .int .i64 (i : Int) ∧ sv = .int .i64 (sizeP (l.take i) : Nat) ∧ ∃ n, wr = w.drewN n) (fun sv iv _ => l.length - (intOf iv).toNat)
  case atStart => exact ⟨0, by omega, rfl, by simp [sizeP], 0, rfl⟩
  case round =>
    obtain ⟨i, hi, rfl, rfl, n, rfl⟩ := hrel
    by_cases hlt : i < l.length
    · obtain ⟨g, cap, hv, hcap, hcm, q0, q1, q2⟩ := row_pair H.out.row hlt
      injection hv with hv1 hv2 hv3
      subst hv1
      have HS := Lib.hid (sizeP_next hlt)
      have hs1 := sizeP_take l (i + 1)
      rw [HS.out] at hs1
      go_wp2
      go_quiet (fail)
      go_wp2
      exact ⟨⟨i + 1, by omega, by go_num, by rw [HS.out]; go_num, _, rfl⟩, by simp [intOf]; omega⟩
    · obtain rfl : i = l.length := by omega
      rw [List.take_length]
      go_wp2
      go_ret2
      exact ⟨rfl, _, rfl⟩
end Go.Proofs.YtmmamgnbonpkiaaDoor
