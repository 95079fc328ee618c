/- Layer 12: the walk of ProgSteps, whatever the program. -/
import Derived.Test.YtefgnigbppfgfaaK12b
import Derived.Deep.RegionLaw
import Derived.Deep.CutBlock
import Derived.Deep.CutRange
import Derived.Deep.DeepCutAuto
namespace Go.Proofs.Ytefgnigbppfgfaa
open Go.RowKit
set_option linter.unusedVariables false

theorem ReadG.src {w : World} {a : Option Addr} {n c : Nat} {l : List StepS} (h : ReadG w (.slice a n c) l) (hn : n = l.length) (ha : a = none → c = 0 ∧ l = []) : SrcRow w (.slice a n c) n 6 (rowG l) := by
  subst hn
  refine ⟨rowG_len l, rowG_one l, ?_⟩
  obtain ⟨_, _, a', c', hv, h3⟩ := h
  injection hv with e1 e2 e3
  subst e1; subst e3
  cases a with
  | none =>
    obtain ⟨rfl, rfl⟩ := ha rfl
    exact .inl ⟨rfl, rfl⟩
  | some ad =>
    refine .inr ⟨ad, c, rfl, fun j u hu => ?_⟩
    have hj : j < l.length * 6 := by rw [← rowG_len]; exact (List.getElem?_eq_some_iff.1 hu).1
    rcases h3 with h3 | ⟨b, o, e, h3⟩
    · subst h3; simp at hj
    · injection e with e
      subst e
      have hi : j / 6 < l.length := by omega
      obtain ⟨v, hv⟩ : ∃ v, l[j / 6].cells[j % 6]? = some v := ⟨_, List.getElem?_eq_getElem (show j % 6 < l[j / 6].cells.length by show j % 6 < 6; omega)⟩
      have e1 := h3 (j / 6) hi (j % 6) v hv
      have e2 := rowG_at l (j / 6) hi (j % 6) v hv
      have e3 : j / 6 * 6 + j % 6 = j := by omega
      rw [e3, hu] at e2
      injection e2 with e2
      subst e2
      rw [Addr.add_lit, ← e1]
      congr 2
      omega
theorem encE_iff (p : ProgS) : ((encE p : Nat) : Int) = 0 ↔ progB p = true := by
  unfold encE
  split
  · simp_all
  · simp_all
theorem encE_cases (p : ProgS) : (progB p = true ∧ encE p = 0) ∨ (progB p = false ∧ encE p = 130) := by
  cases hp : progB p with
  | true => exact .inl ⟨rfl, by unfold encE; rw [if_pos hp]⟩
  | false => exact .inr ⟨rfl, by unfold encE; rw [if_neg (by rw [hp]; simp)]⟩
theorem encE_beq (p : ProgS) : (((encE p : Nat) : Int) == 0) = progB p := by
  rcases encE_cases p with ⟨h1, h2⟩ | ⟨h1, h2⟩
  · rw [h1, h2]; rfl
  · rw [h1, h2]; rfl
theorem progB_lim (n : Int) : progB ⟨[], n⟩ = inB n 0 16000 := by simp [progB]
theorem progB_one (x : StepS) : progB ⟨[x], 0⟩ = stepB x := by simp [progB, inB]

set_option maxHeartbeats 4000000 in
set_option maxRecDepth 100000 in
theorem steps12_walk (K : ProgK) (a : Option Addr) (c : Nat) (p : ProgS) (w : World) (h : ReadG w (.slice a p.steps.length c) p.steps) (ha : a = none → c = 0 ∧ p.steps = []) (hN : p.steps.length ≤ 2199023255552) :
    Calls Try.prog 6 #[p.val' a c] w fun e w' => e = .returned (.bool true) ∧ Below w.heap.size w w' := by
  obtain ⟨i0, hi0, hz0, hz1, hz2⟩ := info_parts infoStep
  obtain ⟨l, lim⟩ := p
  simp only at h ha hN
  have HR : Hid (∀ w', Below w.heap.size w w' → ReadG w' (.slice a l.length c) l) := fun w' b => h.below b
  have HSR : Hid (∀ w', Below w.heap.size w w' → SrcRow w' (.slice a l.length c) l.length 6 (rowG l)) := fun w' b => (h.below b).src rfl ha
  have HZ : Hid (∀ x ∈ l, x.name.size ≤ maxLen ∧ x.undo.size ≤ maxLen) := h.2.1
  have hml : l.length ≤ 9223372036854775807 := by omega
  have hall : Hid (l.length ≤ 16 → progB ⟨l, lim⟩ = (inB lim 0 16000 && l.all stepB)) := fun hl => by
    unfold progB
    simp only
    rw [decide_eq_true hl]
    simp
  have hmany : Hid (¬ l.length ≤ 16 → encE ⟨l, lim⟩ = 130) := fun hl => by
    unfold encE
    rw [if_neg]
    unfold progB
    simp only
    rw [decide_eq_false hl]
    simp
  obtain ⟨w1, hw1, b1, n1⟩ := boxed12 w (.slice a l.length c) lim
  have B1 := Lib.hid b1
  have N1 := Lib.hid n1
  clear h ha b1 n1
  show Calls Try.prog 6 #[.agg #[.slice a l.length c, .int .i64 lim]] w _
  go_enter Try.func6, Try.ntmps6
  go_wp2_with fail
  refine (awake12_any K _).mono ?_
  rintro e w2 ⟨rfl, b2⟩
  have B2 := Lib.hid (B1.out.trans (b2.mono B1.out.size))
  have N2 := Lib.hid (later12 N1.out b2)
  clear b2
  obtain ⟨c0, c1⟩ := box12 N2.out
  have hz := later12 N2.out ((Below.refl w2.heap.size w2).alloc (Nat.le_refl _) (.cells #[.slice none 0 0, .int .i64 0] 24))
  obtain ⟨z0, z1⟩ := box12 hz
  have NZ := Lib.hid hz
  clear hz
  go_upto_region 3 with (fail)
  go_cut [3] from 10 to 15 (fun tv wx => ∃ (ob : Nat) (b3 : Option Addr) (c3 : Nat), tv = .pointer (some ⟨ob, 0, none⟩) ∧ Hid (wx.ownsRow 0 40 6 (.slice b3 l.length c3) l.length (rowG l) ∧ wx.heap[ob]? = some (.cells #[.slice b3 l.length c3, .int .i64 lim] 24 (0, 0)) ∧ Below w.heap.size w wx ∧ wx.heap[w.heap.size]? = some (.cells #[.slice a l.length c, .int .i64 lim] 24 (0, 0))))
  case first =>
    go_region_law (first
      | (refine step_app _ (by rfl) _ _ (by rfl) Try.underlying22 hi0 hz0 hz1 hz2 rfl (by decide) (by rfl) (World.ownsRow_nil _ 0 40 6) (by rfl) (HSR.out _ (by repeat (first | exact B2.out | exact B2.out.alloc B2.out.size _ | apply Below.drew))) (by omega) (by unfold maxLen; omega) ?_; intro b3 c3 w3 o3 g3 l3; simp only [Nat.zero_add, List.nil_append] at o3 l3; have q3 := (g3.block w2.heap.size (by simp) (by simp [Value.ownBlock])).trans (heap_alloc_new w2 (.cells #[.slice none 0 0, .int .i64 0] 24)); obtain ⟨e0, e1⟩ := box12 q3; have e2 := block_free q3 0; have e3 := block_free q3 1; have m3 : w3.heap[w.heap.size]? = some (.cells #[.slice a l.length c, .int .i64 lim] 24 (0, 0)) := (g3.block w.heap.size (block_lt NZ.out) (by simp [Value.ownBlock])).trans NZ.out; obtain ⟨u0, u1⟩ := box12 m3; have hne3 : (Value.slice b3 l.length c3).ownBlock ≠ some w2.heap.size := (fun e => (l3 _ e).elim (fun h => by simp [Value.ownBlock] at h) (fun h => by have h2 := World.size_alloc w2 (.cells #[.slice none 0 0, .int .i64 0] 24); have h3 : (w2.alloc (.cells #[.slice none 0 0, .int .i64 0] 24)).heap.size ≤ w2.heap.size := h; omega)); have hbw : Below w.heap.size w w3 := ((B2.out.alloc B2.out.size (.cells #[.slice none 0 0, .int .i64 0] 24)).drew).grown g3 (by have := B2.out.size; simp; omega) (fun k hk => by simp [Value.ownBlock] at hk); have hlt2 := B2.out.size; have HF : Hid (((w3.setCell ⟨w2.heap.size, 0, none⟩ (.slice b3 l.length c3)).setCell ⟨w2.heap.size, 1, none⟩ (.int .i64 lim)).ownsRow 0 40 6 (.slice b3 l.length c3) l.length (rowG l) ∧ ((w3.setCell ⟨w2.heap.size, 0, none⟩ (.slice b3 l.length c3)).setCell ⟨w2.heap.size, 1, none⟩ (.int .i64 lim)).heap[w2.heap.size]? = some (.cells #[.slice b3 l.length c3, .int .i64 lim] 24 (0, 0)) ∧ Below w.heap.size w ((w3.setCell ⟨w2.heap.size, 0, none⟩ (.slice b3 l.length c3)).setCell ⟨w2.heap.size, 1, none⟩ (.int .i64 lim)) ∧ ((w3.setCell ⟨w2.heap.size, 0, none⟩ (.slice b3 l.length c3)).setCell ⟨w2.heap.size, 1, none⟩ (.int .i64 lim)).heap[w.heap.size]? = some (.cells #[.slice a l.length c, .int .i64 lim] 24 (0, 0))) := ⟨(o3.kept (grownBy_set w3 ⟨w2.heap.size, 0, none⟩ _) (.inr hne3)).kept (grownBy_set _ ⟨w2.heap.size, 1, none⟩ _) (.inr hne3), block_set (block_set q3 0 _) 1 _, (hbw.setCell (p := ⟨w2.heap.size, 0, none⟩) hlt2 _).setCell (p := ⟨w2.heap.size, 1, none⟩) hlt2 _, ((Below.heap_setCell _ _ _ _ (by have := block_lt N2.out; simp; omega)).trans (Below.heap_setCell _ _ _ _ (by have := block_lt N2.out; simp; omega))).trans m3⟩)
      | (refine step_app _ (by rfl) _ _ (by rfl) Try.underlying22 hi0 hz0 hz1 hz2 rfl (by decide) (by rfl) (World.ownsRow_nil _ 0 40 6) (by rfl) (HSR.out _ (by repeat (first | exact B2.out | exact B2.out.alloc B2.out.size _ | apply Below.drew))) (by omega) (by unfold maxLen; omega) ?_; intro b3 c3 w3 o3 g3 l3; simp only [Nat.zero_add, List.nil_append] at o3 l3; have m3 : w3.heap[w.heap.size]? = some (.cells #[.slice a l.length c, .int .i64 lim] 24 (0, 0)) := (g3.block w.heap.size (block_lt N2.out) (by simp [Value.ownBlock])).trans N2.out; obtain ⟨u0, u1⟩ := box12 m3; obtain ⟨s0, s1⟩ := box12 (later12 m3 ((Below.refl w3.heap.size w3).alloc (Nat.le_refl _) (.cells #[.slice none 0 0, .int .i64 0] 24))); have hbw : Below w.heap.size w w3 := (B2.out.drew).grown g3 (by have := B2.out.size; simp; omega) (fun k hk => by simp [Value.ownBlock] at hk); have HF : Hid ((w3.alloc (.cells #[.slice b3 l.length c3, .int .i64 lim] 24)).ownsRow 0 40 6 (.slice b3 l.length c3) l.length (rowG l) ∧ (w3.alloc (.cells #[.slice b3 l.length c3, .int .i64 lim] 24)).heap[w3.heap.size]? = some (.cells #[.slice b3 l.length c3, .int .i64 lim] 24 (0, 0)) ∧ Below w.heap.size w (w3.alloc (.cells #[.slice b3 l.length c3, .int .i64 lim] 24)) ∧ (w3.alloc (.cells #[.slice b3 l.length c3, .int .i64 lim] 24)).heap[w.heap.size]? = some (.cells #[.slice a l.length c, .int .i64 lim] 24 (0, 0))) := ⟨ownsRow_below o3 ((Below.refl w3.heap.size w3).alloc (Nat.le_refl _) _), heap_alloc_new w3 _, hbw.alloc hbw.size _, later12 m3 ((Below.refl w3.heap.size w3).alloc (Nat.le_refl _) _)⟩))
    all_goals go_wp2_with fail
    all_goals go_meet
    all_goals exact ⟨_, b3, c3, rfl, HF⟩
  case rest =>
    obtain ⟨ob, b3, c3, rfl, HF⟩ := hcut
    clear c0 c1 z0 z1 NZ N2
    have RO : Hid (∀ w', Below wc.heap.size wc w' → ReadG w' (.slice b3 l.length c3) l) := fun w' t => (ReadG.own HF.out.1 HZ.out).below t
    have hck := K.check ⟨l, lim⟩ (RO.out _ (Below.refl _ _))
    unfold ProgS.val' at hck
    simp only at hck
    obtain ⟨c0, c1⟩ := box12 HF.out.2.1
    obtain ⟨d0, d1⟩ := box12 HF.out.2.2.2
    go_wp2_with fail
    refine hck.mono ?_
    rintro e w4 ⟨rfl, b4⟩
    have B4 := Lib.hid b4
    have N4 := Lib.hid (later12 HF.out.2.1 b4)
    have M4 := Lib.hid (later12 HF.out.2.2.2 b4)
    have BW4 := Lib.hid (HF.out.2.2.1.trans (b4.mono HF.out.2.2.1.size))
    clear b4 c0 c1 d0 d1 hck
    obtain ⟨c0, c1⟩ := box12 N4.out
    obtain ⟨d0, d1⟩ := box12 M4.out
    have hsm := rsame12_any ⟨l, lim⟩ ⟨l, lim⟩ (RO.out _ B4.out) (HR.out _ BW4.out)
    rw [sameG_refl] at hsm
    unfold ProgS.val' at hsm
    simp only at hsm
    go_wp2_with fail
    refine hsm.mono ?_
    rintro e w5 ⟨rfl, b5⟩
    have M5 := Lib.hid (later12 M4.out b5)
    have BW5 := Lib.hid (BW4.out.trans (b5.mono BW4.out.size))
    clear b5 c0 c1 d0 d1 hsm N4 B4 RO HF
    obtain ⟨d0, d1⟩ := box12 M5.out
    have hEb := encE_beq ⟨l, lim⟩
    by_cases h16 : l.length ≤ 16
    · rw [hall.out h16] at hEb
      have h16' : ¬ (16 : Int) < (l.length : Int) := by omega
      have HEB := Lib.hid hEb
      have hck := K.check (w := w5) (a := none) (c := 0) ⟨[], lim⟩ (ReadG.nil w5)
      have hE0 := encE_beq ⟨[], lim⟩
      rw [progB_lim] at hE0
      unfold ProgS.val' at hck
      simp only [List.length_nil] at hck
      generalize encE ⟨l, lim⟩ = E at *
      generalize encE ⟨[], lim⟩ = E0 at *
      clear hEb
      go_wp2_with fail
      refine hck.mono ?_
      rintro e w6 ⟨rfl, b6⟩
      have M6 := Lib.hid (later12 M5.out b6)
      have BW6 := Lib.hid (BW5.out.trans (b6.mono BW5.out.size))
      clear b6 d0 d1 hck
      obtain ⟨d0, d1⟩ := box12 M6.out
      go_wp2
      have HE0 := Lib.hid hE0
      clear hE0 d0 d1
      go_loopw [5, 36] (fun rv iv wr => ∃ i : Nat, i ≤ l.length ∧ iv = .int .i64 (i : Int) ∧ rv = .bool (inB lim 0 16000 && (l.take i).all stepB) ∧ Hid (Below w6.heap.size w6 wr)) (fun _ iv _ => l.length - (intOf iv).toNat)
      case atStart => exact ⟨0, Nat.zero_le _, rfl, by first | (rw [HE0.out]; simp) | simp, Below.refl _ _⟩
      case round =>
        obtain ⟨i, hi, rfl, rfl, HI⟩ := hrel
        by_cases hlt : i < l.length
        · obtain ⟨b, o, rfl, q0, q1, q2, q3, q4, q5, s1, s2⟩ := (HR.out _ (BW6.out.trans (HI.out.mono BW6.out.size))).at hlt
          have HT := Lib.hid (all_steps hlt)
          have hmes : l.length - (intOf (.int .i64 ((i : Int) + 1))).toNat < l.length - (intOf (.int .i64 (i : Int))).toNat := by simp [intOf]; omega
          have hi1 : (0 : Int) ≤ (i : Int) := Int.natCast_nonneg _
          have hi2 : (i : Int) < (l.length : Int) := by omega
          generalize l[i] = x at *
          generalize hA : (l.take i).all stepB = A at *
          clear hA
          obtain ⟨wx, hwx⟩ : ∃ wx, wr.alloc (.cells #[.int .i64 x.kind, .string x.name, .string x.undo, .int .i64 x.tries, .int .i64 x.undoTries, .int .i64 x.wait] 40) = wx := ⟨_, rfl⟩
          have hnx : wx.heap[wr.heap.size]? = some (.cells #[.int .i64 x.kind, .string x.name, .string x.undo, .int .i64 x.tries, .int .i64 x.undoTries, .int .i64 x.wait] 40 (0, 0)) := by rw [← hwx]; exact heap_alloc_new _ _
          have hbx : Below w6.heap.size w6 wx := by rw [← hwx]; exact HI.out.alloc HI.out.size _
          have HBX := Lib.hid hbx
          obtain ⟨wy, hwy⟩ : ∃ wy, wx.alloc (.cells #[.int .i64 x.kind, .string x.name, .string x.undo, .int .i64 x.tries, .int .i64 x.undoTries, .int .i64 x.wait] 40) = wy := ⟨_, rfl⟩
          have hny : wy.heap[wx.heap.size]? = some (.cells #[.int .i64 x.kind, .string x.name, .string x.undo, .int .i64 x.tries, .int .i64 x.undoTries, .int .i64 x.wait] 40 (0, 0)) := by rw [← hwy]; exact heap_alloc_new _ _
          have hby : Below w6.heap.size w6 wy := by rw [← hwy]; exact hbx.alloc hbx.size _
          have hck := K.check (w := wy) (a := some ⟨wx.heap.size, 0, none⟩) (c := 1) ⟨[x], 0⟩ (ReadG.one x hny s1 s2)
          have hE1 := encE_beq ⟨[x], 0⟩
          rw [progB_one] at hE1
          unfold ProgS.val' at hck
          simp only [List.length_cons, List.length_nil, Nat.zero_add] at hck
          generalize encE ⟨[x], 0⟩ = E1 at *
          have y0 : wx.cell? ⟨wr.heap.size, 0, none⟩ = some (.int .i64 x.kind) := by rw [block_cell hnx]; rfl
          have y1 : wx.cell? ⟨wr.heap.size, 1, none⟩ = some (.string x.name) := by rw [block_cell hnx]; rfl
          have y2 : wx.cell? ⟨wr.heap.size, 2, none⟩ = some (.string x.undo) := by rw [block_cell hnx]; rfl
          have y3 : wx.cell? ⟨wr.heap.size, 3, none⟩ = some (.int .i64 x.tries) := by rw [block_cell hnx]; rfl
          have y4 : wx.cell? ⟨wr.heap.size, 4, none⟩ = some (.int .i64 x.undoTries) := by rw [block_cell hnx]; rfl
          have y5 : wx.cell? ⟨wr.heap.size, 5, none⟩ = some (.int .i64 x.wait) := by rw [block_cell hnx]; rfl
          have HCK := Lib.hid hck
          have HBY := Lib.hid hby
          clear hck hnx hny hbx hby s1 s2
          cases hR : (inB lim 0 16000 && A) with
          | true =>
            have HRR : Hid ((inB lim 0 16000 && A) = true) := hR
            clear hR
            go_wp2_with fail
            refine HCK.out.mono ?_
            rintro e w7 ⟨rfl, b7⟩
            have HB7 := Lib.hid (HBY.out.trans (b7.mono HBY.out.size))
            clear b7 q0 q1 q2 q3 q4 q5 y0 y1 y2 y3 y4 y5
            have HE1 := Lib.hid hE1
            go_wp2
            go_roundw
            case rel =>
              refine ⟨i + 1, by omega, by go_num, ?_, HB7.out⟩
              rw [HT.out, ← Bool.and_assoc, HRR.out]
              simp
            case measure => exact hmes
          | false =>
            have HRR : Hid ((inB lim 0 16000 && A) = false) := hR
            clear hR
            go_wp2
            go_roundw
            case rel =>
              refine ⟨i + 1, by omega, by go_num, ?_, HBX.out⟩
              rw [HT.out, ← Bool.and_assoc, HRR.out]
              simp
            case measure => exact hmes
        · obtain rfl : i = l.length := by omega
          have hEb := HEB.out
          rw [List.take_length]
          clear HEB
          go_wp2
          go_ret
          exact ⟨by first | rfl | simp, BW6.out.trans (HI.out.mono BW6.out.size)⟩
    · have hE := hmany.out h16
      have h16' : (16 : Int) < (l.length : Int) := by omega
      rw [hE]
      clear hEb
      go_wp2
      go_ret
      exact ⟨rfl, BW5.out⟩
end Go.Proofs.Ytefgnigbppfgfaa
