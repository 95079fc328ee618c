/- Layer 13: events that can be read; the contract of the reference's Same. -/
import Derived.Test.YthliofijioghkaaR13b
import Derived.Test.YthliofijioghkaaR12d
import Derived.Laws.StructEq
import Derived.Deep.QuietTactic
import Derived.BigQuiet
namespace Go.Proofs.Ythliofijioghkaa
open Go.RowKit
set_option linter.unusedVariables false

/-- Events in a row that can be read. -/
def ReadE (w : World) (v : Value) (l : List EvS) : Prop :=
  l.length ≤ maxLen ∧ (∀ x ∈ l, x.data.size ≤ maxLen) ∧ ∃ a c, v = .slice a l.length c ∧ (l = [] ∨ ∃ b o, a = some ⟨b, o, none⟩ ∧ ∀ i (h : i < l.length), ∀ j u, l[i].cells[j]? = some u → w.cell? ⟨b, o + i * 8 + j, none⟩ = some u)
theorem ReadE.below {w w' : World} {v : Value} {l : List EvS} (h : ReadE w v l) (t : Below w.heap.size w w') : ReadE w' v l := by
  obtain ⟨h1, h2, a, c, rfl, h3⟩ := h
  refine ⟨h1, h2, a, c, rfl, ?_⟩
  rcases h3 with h3 | ⟨b, o, rfl, h3⟩
  · exact .inl h3
  · exact .inr ⟨b, o, rfl, fun i hi j u hu => (t.cell (World.block_lt_of_cell? w ⟨b, o + i * 8 + j, none⟩ (h3 i hi j u hu))).trans (h3 i hi j u hu)⟩
theorem ReadE.slice {w : World} {v : Value} {l : List EvS} (h : ReadE w v l) : ∃ a c, v = .slice a l.length c := by
  obtain ⟨_, _, a, c, h, _⟩ := h
  exact ⟨a, c, h⟩
theorem ReadE.at {w : World} {a : Option Addr} {n c : Nat} {l : List EvS} (h : ReadE w (.slice a n c) l) {i : Nat} (hi : i < l.length) :
    ∃ b o, a = some ⟨b, o, none⟩ ∧ w.cell? ⟨b, o + i * 8, none⟩ = some (.int .i64 l[i].id) ∧ w.cell? ⟨b, o + i * 8 + 1, none⟩ = some (.int .i64 l[i].kind) ∧ w.cell? ⟨b, o + i * 8 + 2, none⟩ = some (.int .i64 l[i].tick) ∧
      w.cell? ⟨b, o + i * 8 + 3, none⟩ = some (.int .i64 l[i].ref) ∧ w.cell? ⟨b, o + i * 8 + 4, none⟩ = some (.int .i64 l[i].step) ∧ w.cell? ⟨b, o + i * 8 + 5, none⟩ = some (.int .i64 l[i].tryN) ∧
      w.cell? ⟨b, o + i * 8 + 6, none⟩ = some (.bool l[i].undo) ∧ w.cell? ⟨b, o + i * 8 + 7, none⟩ = some (.string l[i].data) ∧ l[i].data.size ≤ maxLen := by
  obtain ⟨_, h2, a', c', hv, h3⟩ := h
  injection hv with e1 e2 e3
  subst e1
  rcases h3 with h3 | ⟨b, o, rfl, h3⟩
  · subst h3; simp at hi
  · have hs := h2 l[i] (List.getElem_mem hi)
    exact ⟨b, o, rfl, h3 i hi 0 _ rfl, h3 i hi 1 _ rfl, h3 i hi 2 _ rfl, h3 i hi 3 _ rfl, h3 i hi 4 _ rfl, h3 i hi 5 _ rfl, h3 i hi 6 _ rfl, h3 i hi 7 _ rfl, hs⟩

set_option maxRecDepth 100000 in
set_option maxHeartbeats 1000000 in
theorem ev_equal (x y : EvS) (w : World) : (Op.equal 23 x.val' y.val').run Try.prog w = .ok (decide (x = y)) w := by
  obtain ⟨k1, n1, u1, t1, d1, w1, z1, s1⟩ := x
  obtain ⟨k2, n2, u2, t2, d2, w2, z2, s2⟩ := y
  show (Op.equalIn (9999 + 1) 23 _ _).run Try.prog w = _
  unfold EvS.val'
  rw [run_equalIn_struct w 9999 23 _ _ (by kernel_rfl) (by kernel_rfl)]
  go_simp
  simp only [toList_iff12]
  by_cases h1 : k1 = k2
  · by_cases h2 : n1 = n2
    · by_cases h3 : u1 = u2
      · by_cases h4 : t1 = t2
        · by_cases h5 : d1 = d2
          · by_cases h6 : w1 = w2
            · by_cases h7 : z1 = z2
              · by_cases h8 : s1 = s2 <;> simp [h1, h2, h3, h4, h5, h6, h7, h8]
              · simp [h1, h2, h3, h4, h5, h6, h7]
            · simp [h1, h2, h3, h4, h5, h6]
          · simp [h1, h2, h3, h4, h5]
        · simp [h1, h2, h3, h4]
      · simp [h1, h2, h3]
    · simp [h1, h2]
  · simp [h1]
theorem ev_neq (x y : EvS) (w : World) : (binOp BinOp.neq 23 x.val' y.val').run Try.prog w = .ok (.bool (!decide (x = y))) w := by
  have h := ev_equal x y w
  unfold EvS.val' at h ⊢
  simp only [binOp]
  simp only [Sem.run_bind, h]
  rfl

set_option maxHeartbeats 4000000 in
set_option maxRecDepth 100000 in
theorem rsame13_any {w : World} {a a' : Option Addr} {c c' : Nat} (l l' : List EvS) (h : ReadE w (.slice a l.length c) l) (h' : ReadE w (.slice a' l'.length c') l') :
    Calls Try.prog 17 #[.slice a l.length c, .slice a' l'.length c'] w fun e w' => e = .returned (.bool (decide (l = l'))) ∧ Below w.heap.size w w' := by
  have hml : l.length ≤ 9223372036854775807 := by have := h.1; unfold maxLen at this; omega
  have hml' : l'.length ≤ 9223372036854775807 := by have := h'.1; unfold maxLen at this; omega
  obtain ⟨PB, hPB⟩ : ∃ b, decide (l = l') = b := ⟨_, rfl⟩
  have HP : Hid (PB = decide (l = l')) := hPB.symm
  rw [hPB]
  clear hPB
  have H := Lib.hid h
  have H' := Lib.hid h'
  clear h h'
  go_enter Try.func17, Try.ntmps17
  by_cases hlen : l.length = l'.length
  · have hg2 : ((l.length : Int) != (l'.length : Int)) = false := by simp [hlen]
    have HLN : Hid (l.length = l'.length) := hlen
    clear hlen
    go_wp2
    go_loopw [5] (fun iv wr => ∃ i : Nat, i ≤ l.length ∧ iv = .int .i64 (i : Int) ∧ Hid (Below w.heap.size w wr ∧ l.take i = l'.take i)) (fun iv _ => l.length - (intOf iv).toNat)
    case atStart => exact ⟨0, Nat.zero_le _, rfl, Below.refl _ _, rfl⟩
    case round =>
      obtain ⟨i, hi, rfl, HI⟩ := hrel
      by_cases hlt : i < l.length
      · have hlt' : i < l'.length := by have := HLN.out; omega
        have hi1 : (0 : Int) ≤ (i : Int) := Int.natCast_nonneg _
        have hi2 : (i : Int) < (l.length : Int) := by omega
        have hi3 : (i : Int) < (l'.length : Int) := by omega
        obtain ⟨b, o, rfl, q0, q1, q2, q3, q4, q5, q6, q7, -⟩ := (H.out.below HI.out.1).at hlt
        obtain ⟨b', o', rfl, p0, p1, p2, p3, p4, p5, p6, p7, -⟩ := (H'.out.below HI.out.1).at hlt'
        have HT : Hid (l[i] = l'[i] → l.take (i + 1) = l'.take (i + 1)) := fun e => by
          rw [List.take_succ_eq_append_getElem hlt, List.take_succ_eq_append_getElem hlt', HI.out.2, e]
        have HN : Hid (l[i] ≠ l'[i] → decide (l = l') = false) := fun e => by
          rw [decide_eq_false_iff_not]
          intro e2
          subst e2
          exact e rfl
        have hmes : l.length - (intOf (.int .i64 ((i : Int) + 1))).toNat < l.length - (intOf (.int .i64 (i : Int))).toNat := by simp [intOf]; omega
        generalize l[i] = x at *
        generalize l'[i] = y at *
        have hne := ev_neq x y
        unfold EvS.val' at hne
        by_cases hxy : x = y
        · have hd : decide (x = y) = true := decide_eq_true hxy
          rw [hd] at hne
          have HT2 := Lib.hid (HT.out hxy)
          clear hd hxy
          go_wp2
          go_quiet (fail)
          have HB3 := Lib.hid (below_drewN HI.out.1 nq)
          go_wp2
          go_roundw
          case rel => exact ⟨i + 1, by omega, by go_num, HB3.out, HT2.out⟩
          case measure => exact hmes
        · have hd : decide (x = y) = false := decide_eq_false hxy
          rw [hd] at hne
          have HT2 := Lib.hid (HN.out hxy)
          clear hd hxy
          go_wp2
          go_quiet (fail)
          have HB3 := Lib.hid (below_drewN HI.out.1 nq)
          go_wp2
          go_ret
          exact ⟨by rw [HP.out, HT2.out]; rfl, HB3.out⟩
      · obtain rfl : i = l.length := by omega
        have HE : Hid (l = l') := by
          have := HI.out.2
          rwa [List.take_length, HLN.out, List.take_length] at this
        go_wp2
        go_ret
        exact ⟨by rw [HP.out, decide_eq_true HE.out]; rfl, HI.out.1⟩
  · have hg2 : ((l.length : Int) != (l'.length : Int)) = true := by simp; omega
    have HE : Hid (decide (l = l') = false) := by
      show _ = _
      rw [decide_eq_false_iff_not]
      exact fun e => hlen (by rw [e])
    clear hlen
    go_wp2
    go_ret
    exact ⟨by rw [HP.out, HE.out]; rfl, Below.refl _ _⟩
end Go.Proofs.Ythliofijioghkaa
