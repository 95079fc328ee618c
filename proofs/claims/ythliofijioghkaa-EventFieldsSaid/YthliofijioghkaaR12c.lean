/- Layer 12: steps that can be read; the contract of the reference's Right. -/
import Derived.Test.YthliofijioghkaaR12b
namespace Go.Proofs.Ythliofijioghkaa
open Go.RowKit
set_option linter.unusedVariables false

/-- Steps in a row that can be read. -/
def ReadG (w : World) (v : Value) (l : List StepS) : Prop :=
  l.length ≤ maxLen ∧ (∀ x ∈ l, x.name.size ≤ maxLen ∧ x.undo.size ≤ maxLen) ∧ ∃ a c, v = .slice a l.length c ∧ (l = [] ∨ ∃ b o, a = some ⟨b, o, none⟩ ∧ ∀ i (h : i < l.length), ∀ j u, l[i].cells[j]? = some u → w.cell? ⟨b, o + i * 6 + j, none⟩ = some u)
theorem ReadG.below {w w' : World} {v : Value} {l : List StepS} (h : ReadG w v l) (t : Below w.heap.size w w') : ReadG w' v l := by
  obtain ⟨h1, h2, a, c, rfl, h3⟩ := h
  refine ⟨h1, h2, a, c, rfl, ?_⟩
  rcases h3 with h3 | ⟨b, o, rfl, h3⟩
  · exact .inl h3
  · exact .inr ⟨b, o, rfl, fun i hi j u hu => (t.cell (World.block_lt_of_cell? w ⟨b, o + i * 6 + j, none⟩ (h3 i hi j u hu))).trans (h3 i hi j u hu)⟩
theorem ReadG.slice {w : World} {v : Value} {l : List StepS} (h : ReadG w v l) : ∃ a c, v = .slice a l.length c := by
  obtain ⟨_, _, a, c, h, _⟩ := h
  exact ⟨a, c, h⟩
theorem ReadG.at {w : World} {a : Option Addr} {n c : Nat} {l : List StepS} (h : ReadG w (.slice a n c) l) {i : Nat} (hi : i < l.length) :
    ∃ b o, a = some ⟨b, o, none⟩ ∧ w.cell? ⟨b, o + i * 6, none⟩ = some (.int .i64 l[i].kind) ∧ w.cell? ⟨b, o + i * 6 + 1, none⟩ = some (.string l[i].name) ∧ w.cell? ⟨b, o + i * 6 + 2, none⟩ = some (.string l[i].undo) ∧
      w.cell? ⟨b, o + i * 6 + 3, none⟩ = some (.int .i64 l[i].tries) ∧ w.cell? ⟨b, o + i * 6 + 4, none⟩ = some (.int .i64 l[i].undoTries) ∧ w.cell? ⟨b, o + i * 6 + 5, none⟩ = some (.int .i64 l[i].wait) ∧ l[i].name.size ≤ maxLen ∧ l[i].undo.size ≤ maxLen := by
  obtain ⟨_, h2, a', c', hv, h3⟩ := h
  injection hv with e1 e2 e3
  subst e1
  rcases h3 with h3 | ⟨b, o, rfl, h3⟩
  · subst h3; simp at hi
  · have hs := h2 l[i] (List.getElem_mem hi)
    exact ⟨b, o, rfl, h3 i hi 0 _ rfl, h3 i hi 1 _ rfl, h3 i hi 2 _ rfl, h3 i hi 3 _ rfl, h3 i hi 4 _ rfl, h3 i hi 5 _ rfl, hs.1, hs.2⟩
def ProgS.val' (p : ProgS) (a : Option Addr) (c : Nat) : Value := .agg #[.slice a p.steps.length c, .int .i64 p.limit]
theorem all_steps {l : List StepS} {i : Nat} (h : i < l.length) : (l.take (i + 1)).all stepB = ((l.take i).all stepB && stepB l[i]) := by
  rw [List.take_succ_eq_append_getElem h, List.all_append]
  simp
theorem all_not {l : List StepS} {i : Nat} (h : i < l.length) (hb : stepB l[i] = false) : l.all stepB = false := by
  cases h2 : l.all stepB with
  | false => rfl
  | true => rw [List.all_eq_true.1 h2 _ (List.getElem_mem h)] at hb; cases hb

set_option maxHeartbeats 4000000 in
set_option maxRecDepth 100000 in
theorem rright_any {w : World} {a : Option Addr} {c : Nat} (p : ProgS) (h : ReadG w (.slice a p.steps.length c) p.steps) :
    Calls Try.prog 64 #[p.val' a c] w fun e w' => e = .returned (.bool (progB p)) ∧ Below w.heap.size w w' := by
  obtain ⟨l, lim⟩ := p
  have hml : l.length ≤ 9223372036854775807 := by have := h.1; unfold maxLen at this; omega
  have HP : Hid (progB ⟨l, lim⟩ = (decide (l.length ≤ 16) && inB lim 0 16000 && l.all stepB)) := rfl
  generalize progB ⟨l, lim⟩ = PB at *
  have hb0 : Below w.heap.size w (w.alloc (.cells #[.slice a l.length c, .int .i64 lim] 79)) := (Below.refl _ w).alloc (Nat.le_refl _) _
  have hnw := heap_alloc_new w (.cells #[.slice a l.length c, .int .i64 lim] 79)
  have HNW := Lib.hid hnw
  have H := Lib.hid (h.below hb0)
  have HB := Lib.hid hb0
  have c0 := (block_cell hnw 0).trans rfl
  have c1 := (block_cell hnw 1).trans rfl
  unfold ProgS.val'
  simp only
  clear h hb0 hnw
  go_enter Try.func64, Try.ntmps64
  by_cases h16 : (16 : Int) < (l.length : Int)
  · go_wp2
    go_ret
    exact ⟨by rw [HP.out]; congr 1; simp; omega, HB.out⟩
  · go_wp2_with fail
    refine (rin_any _ _ _ _).mono ?_
    rintro e w1 ⟨rfl, rfl⟩
    by_cases hin : inB lim 0 16000 = true
    · rw [hin]
      have hin' : Hid (inB lim 0 16000 = true) := hin
      clear hin c1
      go_wp2
      generalize w.alloc (.cells #[.slice a l.length c, .int .i64 lim] 79) = w0 at *
      go_loopw [3] (fun iv wr => ∃ i : Nat, i ≤ l.length ∧ iv = .int .i64 (i : Int) ∧ Hid (Below w0.heap.size w0 wr ∧ (l.take i).all stepB = true)) (fun iv _ => l.length - (intOf iv).toNat)
      case atStart => exact ⟨0, Nat.zero_le _, rfl, Below.refl _ _, rfl⟩
      case round =>
        obtain ⟨i, hi, rfl, HI⟩ := hrel
        have hnw := (HI.out.1.block _ (block_lt HNW.out)).trans HNW.out
        have c0 : wr.cell? ⟨w.heap.size, 0, none⟩ = some (.slice a l.length c) := by rw [block_cell hnw]; rfl
        by_cases hlt : i < l.length
        · obtain ⟨b, o, rfl, q0, q1, q2, q3, q4, q5, s1, s2⟩ := (H.out.below HI.out.1).at hlt
          have HT := Lib.hid (all_steps hlt)
          have HN := Lib.hid (all_not hlt)
          have hmes : l.length - (intOf (.int .i64 ((i : Int) + 1))).toNat < l.length - (intOf (.int .i64 (i : Int))).toNat := by simp [intOf]; omega
          have hst := rstep_any l[i] s1 s2 wr
          generalize l[i] = x at *
          unfold StepS.val' at hst
          have HST := Lib.hid hst
          clear hst hnw
          go_wp2_with fail
          refine HST.out.mono ?_
          rintro e w2 ⟨rfl, b2⟩
          have HB2 := Lib.hid (HI.out.1.trans (b2.mono HI.out.1.size))
          by_cases hx : stepB x = true
          · rw [hx]
            have HA : Hid ((l.take (i + 1)).all stepB = true) := by show _ = _; rw [HT.out, HI.out.2, hx]; rfl
            clear hx q0 q1 q2 q3 q4 q5 c0 b2
            go_wp2
            go_roundw
            case rel => exact ⟨i + 1, by omega, by go_num, HB2.out, HA.out⟩
            case measure => exact hmes
          · rw [Bool.not_eq_true] at hx
            rw [hx]
            have HA := Lib.hid (HN.out hx)
            clear hx q0 q1 q2 q3 q4 q5 c0 b2
            go_wp2
            go_ret
            exact ⟨by rw [HP.out, HA.out]; simp, HB.out.trans (HB2.out.mono HB.out.size)⟩
        · obtain rfl : i = l.length := by omega
          have HA : Hid (l.all stepB = true) := by have := HI.out.2; rwa [List.take_length] at this
          clear hnw
          go_wp2
          go_ret
          exact ⟨by rw [HP.out, HA.out, hin'.out]; congr 1; simp; omega, HB.out.trans (HI.out.1.mono HB.out.size)⟩
    · rw [Bool.not_eq_true] at hin
      rw [hin]
      have hin' : Hid (inB lim 0 16000 = false) := hin
      clear hin
      go_wp2
      go_ret
      exact ⟨by rw [HP.out, hin'.out]; simp, HB.out⟩
end Go.Proofs.Ythliofijioghkaa
