/- Joined: W07i W07j W07k W07l W07m W07n W07o W07p. -/
import Derived.Test.YtlakemcbfeogkaaG10
import Derived.Test.YtlakemcbfeogkaaG1
import Derived.Test.YtlakemcbfeogkaaG5
import Derived.Laws.ResultCell
import Derived.Test.YtlakemcbfeogkaaG6
import Derived.Test.YtlakemcbfeogkaaG2
import Derived.Test.YtlakemcbfeogkaaG8
import Derived.Test.YtlakemcbfeogkaaG9

namespace Go.Proofs.Ytlakemcbfeogkaa
open Go.RowKit
set_option linter.unusedVariables false

theorem num_len7 (m : Nat) (R : Option (List UInt8)) : ((numS m R).2.getD []).length ≤ (R.getD []).length := by
  unfold numS
  split
  · simp
  · rename_i l
    split
    · split
      · simp
      · simp
    · simp
theorem take_len7 (n : Int) (R : Option (List UInt8)) : (takeS n R).1.length ≤ (R.getD []).length ∧ ((takeS n R).2.getD []).length ≤ (R.getD []).length := by
  unfold takeS
  split
  · simp
  · split
    · simp
    · simp
      omega
theorem int_len7 (m : Int) (R : Option (List UInt8)) : ((intS m R).2.getD []).length ≤ (R.getD []).length := by
  unfold intS
  split
  · simp
  · exact num_len7 _ _
theorem text_len7 (R : Option (List UInt8)) : (textS R).1.length ≤ (R.getD []).length := by
  cases R with
  | none => rw [text_none]; simp
  | some l =>
    rw [textS_int]
    have h1 := (take_len7 ((intS (l.length : Int) (some l)).1 : Int) (intS (l.length : Int) (some l)).2).1
    have h2 := int_len7 (l.length : Int) (some l)
    omega
theorem RDE.len {w : World} {b : Nat} {R : Option (List UInt8)} (h : RDE w b R) : (R.getD []).length ≤ 140737488351232 := by
  obtain ⟨s, h⟩ := h
  have h1 := h.text
  have h2 := h.size
  rw [← h1]
  simpa using h2

/-- The next pair of a reader, and what is left of it. -/
def stepR (R : Option (List UInt8)) : PairS × Option (List UInt8) :=
  if (intS 8193 (textS R).2).1 = 0 then (⟨⟨(textS R).1.toArray⟩, ⟨#[]⟩, true⟩, (intS 8193 (textS R).2).2)
  else (⟨⟨(textS R).1.toArray⟩, ⟨(takeS (((intS 8193 (textS R).2).1 : Int) - 1) (intS 8193 (textS R).2).2).1.toArray⟩, false⟩, (takeS (((intS 8193 (textS R).2).1 : Int) - 1) (intS 8193 (textS R).2).2).2)
theorem stepR_some (l : List UInt8) : stepR (some l) = (⟨⟨(readP l).1.toArray⟩, ⟨(readP l).2.2.1.toArray⟩, decide ((readP l).2.1 = 0)⟩, (readP l).2.2.2) := by
  unfold stepR readP
  by_cases h : (intS 8193 (textS (some l)).2).1 = 0
  · rw [if_pos h, if_neg (by omega), h]; rfl
  · rw [if_neg h, if_pos (by omega), decide_eq_false h]
theorem stepR_fine {x : PairS} (h : wrongP x = 0) (r : List UInt8) : stepR (some (pairL x ++ r)) = (x, some r) := by
  have h1 := readP_fine h r
  rw [stepR_some, h1]
  obtain ⟨k, v, g⟩ := x
  cases g with
  | true => simp [ba_eq]
  | false => simp [ba_eq]
theorem stepR_inv {l r : List UInt8} {x : PairS} (h : stepR (some l) = (x, some r)) : l = pairL x ++ r := by
  unfold stepR at h
  cases ht : textS (some l) with
  | mk t o =>
    rw [ht] at h
    simp only at h
    cases o with
    | none =>
      rw [int_none, if_pos rfl] at h
      injection h with _ h
      cases h
    | some l1 =>
      obtain ⟨t1, t2⟩ := text_inv ht
      cases hi : intS 8193 (some l1) with
      | mk m o =>
        rw [hi] at h
        simp only at h
        have hkk : (⟨t.toArray⟩ : ByteArray).size = t.length := tx_size t
        split at h
        · rename_i hm
          injection h with h1 h2
          subst h1
          subst h2
          obtain ⟨_, i2, i3⟩ := int_inv hi
          unfold pairL valL
          rw [if_pos rfl, hkk, t2, i3, hm]
          simp only [List.append_assoc]
        · rename_i hm
          cases o with
          | none =>
            rw [take_none] at h
            injection h with _ h
            cases h
          | some l2 =>
            obtain ⟨_, i2, i3⟩ := int_inv hi
            rw [show ((m : Int) - 1) = ((m - 1 : Nat) : Int) by omega] at h
            cases hk : takeS ((m - 1 : Nat) : Int) (some l2) with
            | mk v o =>
              rw [hk] at h
              simp only at h
              injection h with h1 h2
              subst h1
              subst h2
              obtain ⟨k1, k2⟩ := take_inv hk
              have hv : (⟨v.toArray⟩ : ByteArray).size = v.length := tx_size v
              unfold pairL valL
              rw [if_neg (by simp), hkk, hv, t2, i3, k1, show v.length + 1 = m by omega]
              simp only [List.append_assoc]

theorem clone_any (s : ByteArray) (w : World) (hlim : s.size ≤ 281474976710656) :
    Calls Try.prog 93 #[.string s] w fun e w' => e = .returned (.string s) ∧ Below w.heap.size w w' := by
  go_enter Try.func93, Try.ntmps93
  go_wp2_with fail
  refine (Sh.stringslite_Clone s w hlim).mono ?_
  rintro e w1 ⟨rfl, b1⟩
  go_wp2
  go_ret
  exact ⟨rfl, b1⟩

theorem results_cell1 {fn : Func} {p : Tmp} {ty : TypeId} (h : fn.results = #[.cell p ty]) (tmps : Array Value) (P : Program) (w : World) :
    (results fn tmps).run P w = ((asAddr (tmps.getD p undef)).run P w).andThen fun a w₁ => (loadVar ty a).run P w₁ := by
  simp only [results, h]
  simp [Sem.run_bind]
theorem left_below {a b c : World} {x : Nat} {R : Option (List UInt8)} (h : Left a b x R) (k : Below b.heap.size b c) : Left a c x R := ⟨h.1.below k, grownBy_trans h.2 (grown_of8 k _)⟩
theorem left_alloc {a : World} {x : Nat} {R : Option (List UInt8)} (h : RDE a x R) (o : Obj) : Left a (a.alloc o) x R := ⟨h.below ((Below.refl _ a).alloc (Nat.le_refl _) _), grown_of8 ((Below.refl _ a).alloc (Nat.le_refl _) _) _⟩
theorem left_set {a b : World} {x p j : Nat} {v : Value} {R : Option (List UInt8)} (h : Left a b x R) (hp : a.heap.size ≤ p) (hx : x < a.heap.size) : Left a (b.setCell ⟨p, j, none⟩ v) x R := by
  have hb : ∀ k, k < a.heap.size → (b.setCell ⟨p, j, none⟩ v).heap[k]? = b.heap[k]? := fun k hk => block_other (by omega)
  have g := grownBy_set b ⟨p, j, none⟩ v
  exact ⟨h.1.block (hb x hx), ⟨g.os.trans h.2.os, g.tape.trans h.2.tape, g.output.trans h.2.output, Nat.le_trans h.2.size g.size, fun k hk hne => (hb k hk).trans (h.2.block k hk hne)⟩⟩

set_option maxHeartbeats 1000000 in
set_option maxRecDepth 100000 in
theorem readPair_any {w : World} {b : Nat} {R : Option (List UInt8)} (h : RDE w b R) :
    Calls Try.prog 82 #[.pointer (some ⟨b, 0, none⟩)] w fun e w' => e = .returned (stepR R).1.val' ∧ Left w w' b (stepR R).2 := by
  have hL0 := left_alloc h (.cells #[.string ⟨#[]⟩, .string ⟨#[]⟩, .bool false] 39)
  have hnew := heap_alloc_new w (.cells #[.string ⟨#[]⟩, .string ⟨#[]⟩, .bool false] 39)
  have hlt := h.lt
  have HS : Hid (∀ k R1 n R2, textS R = (k, R1) → intS 8193 R1 = (n, R2) → stepR R = if n = 0 then (⟨⟨k.toArray⟩, ⟨#[]⟩, true⟩, R2) else (⟨⟨k.toArray⟩, ⟨(takeS ((n : Int) - 1) R2).1.toArray⟩, false⟩, (takeS ((n : Int) - 1) R2).2)) := fun k R1 n R2 h1 h2 => by
    unfold stepR
    rw [h1]
    simp only
    rw [h2]
  have hk0 := text_len7 R
  have hk1 := h.len
  cases hk : textS R with | mk k R1 =>
  cases hn : intS 8193 R1 with | mk n R2 =>
  have HST := Lib.hid (HS.out k R1 n R2 hk hn)
  rw [hk] at hk0
  simp only at hk0
  have hct := rtextv_any hL0.1
  rw [hk] at hct
  obtain ⟨K, eK1, eK2, eK3⟩ := tv_text k
  simp only [eK1] at hct
  have hn0 : n ≤ 8193 := by
    have h1 := congrArg Prod.fst hn
    have h2 : (intS 8193 R1).1 ≤ 8193 := intS_le 8193 R1
    rw [h1] at h2
    exact h2
  have HCT := Lib.hid hct
  have HL0 := Lib.hid hL0
  have HN0 := Lib.hid hnew
  have eK4 : (⟨k.toArray⟩ : ByteArray) = K := (text_is eK2).symm
  clear hct hL0 HS hk hnew h
  go_enter Try.func82, Try.ntmps82
  go_wp2_with fail
  have hN1 := HN0.out
  generalize w.alloc (.cells #[.string ⟨#[]⟩, .string ⟨#[]⟩, .bool false] 39) = w0 at *
  refine HCT.out.mono ?_
  rintro e w1 ⟨rfl, l1⟩
  have N1 := Lib.hid ((l1.2.block _ (block_lt hN1) (by simp; omega)).trans hN1)
  have L1 := Lib.hid (HL0.out.trans l1)
  clear l1 HCT HL0 hN1 HN0
  go_wp2_with fail
  refine (clone_any K w1 (by omega)).mono ?_
  rintro e w2 ⟨rfl, b2⟩
  have N2 := Lib.hid ((b2.block _ (block_lt N1.out)).trans N1.out)
  have L2 := Lib.hid (left_below L1.out b2)
  have hci := int_any L2.out.1 8193 (by omega)
  rw [hn] at hci
  simp only at hci
  have HCI := Lib.hid hci
  clear b2 hci hn N1 L1
  go_wp2_with fail
  refine HCI.out.mono ?_
  rintro e w3 ⟨rfl, l3⟩
  have hN3 := (l3.2.block _ (block_lt N2.out) (by simp; omega)).trans N2.out
  have L3 := Lib.hid (L2.out.trans l3)
  clear l3 HCI N2 L2
  by_cases hn1 : n = 0
  · subst hn1
    rw [if_pos rfl, eK4] at HST
    have e0 : w3.cell? ⟨w.heap.size, 0, none⟩ = some (.string ⟨#[]⟩) := by rw [block_cell hN3]; rfl
    have e1 : w3.cell? ⟨w.heap.size, 1, none⟩ = some (.string ⟨#[]⟩) := by rw [block_cell hN3]; rfl
    have e2 : w3.cell? ⟨w.heap.size, 2, none⟩ = some (.bool false) := by rw [block_cell hN3]; rfl
    have f0 := block_free hN3 0
    have f1 := block_free hN3 1
    have f2 := block_free hN3 2
    have hn00 : (((0 : Nat) : Int) == 0) = true := rfl
    clear hN3
    go_wp2
    (try simp only [Exit.inBlock, Exit.then])
    refine bodyPost_ret (v := .agg #[.string K, .string ⟨#[]⟩, .bool true]) ?_ rfl ⟨?_, ?_⟩
    · rw [results_cell1 rfl]
      go_simp
    · rw [HST.out]; rfl
    · rw [HST.out]
      exact left_set (left_set (left_set L3.out (Nat.le_refl _) hlt) (Nat.le_refl _) hlt) (Nat.le_refl _) hlt
  · rw [if_neg hn1, eK4] at HST
    have hvl := (take_len7 ((n : Int) - 1) R2).1
    have hrl := L3.out.1.len
    have hct2 := take_any L3.out.1 ((n : Int) - 1) (by omega)
    cases hv : takeS ((n : Int) - 1) R2 with | mk v R3 =>
    rw [hv] at hct2 HST hvl
    simp only at hvl HST
    obtain ⟨V, eV1, eV2, eV3⟩ := tv_text v
    simp only [eV1] at hct2
    have eV4 : (⟨v.toArray⟩ : ByteArray) = V := (text_is eV2).symm
    rw [eV4] at HST
    have HCT2 := Lib.hid hct2
    have hw1 : wrap64 ((n : Int) - 1) = (n : Int) - 1 := IntWalk.wrap64_in _ (by omega)
    have hn00 : ((n : Int) == 0) = false := by simp; omega
    have N3 := Lib.hid hN3
    clear hct2 hv hN3
    go_wp2_with fail
    refine HCT2.out.mono ?_
    rintro e w4 ⟨rfl, l4⟩
    have N4 := Lib.hid ((l4.2.block _ (block_lt N3.out) (by simp; omega)).trans N3.out)
    have L4 := Lib.hid (L3.out.trans l4)
    clear l4 HCT2 N3 L3
    go_wp2_with fail
    refine (clone_any V w4 (by omega)).mono ?_
    rintro e w5 ⟨rfl, b5⟩
    have hN5 := (b5.block _ (block_lt N4.out)).trans N4.out
    have L5 := Lib.hid (left_below L4.out b5)
    clear b5 N4 L4
    have e0 : w5.cell? ⟨w.heap.size, 0, none⟩ = some (.string ⟨#[]⟩) := by rw [block_cell hN5]; rfl
    have e1 : w5.cell? ⟨w.heap.size, 1, none⟩ = some (.string ⟨#[]⟩) := by rw [block_cell hN5]; rfl
    have e2 : w5.cell? ⟨w.heap.size, 2, none⟩ = some (.bool false) := by rw [block_cell hN5]; rfl
    have f0 := block_free hN5 0
    have f1 := block_free hN5 1
    have f2 := block_free hN5 2
    clear hN5
    go_wp2
    (try simp only [Exit.inBlock, Exit.then])
    refine bodyPost_ret (v := .agg #[.string K, .string V, .bool false]) ?_ rfl ⟨?_, ?_⟩
    · rw [results_cell1 rfl]
      go_simp
    · rw [HST.out]; rfl
    · rw [HST.out]
      exact left_set (left_set (left_set L5.out (Nat.le_refl _) hlt) (Nat.le_refl _) hlt) (Nat.le_refl _) hlt
end Go.Proofs.Ytlakemcbfeogkaa

namespace Go.Proofs.Ytlakemcbfeogkaa
open Go.RowKit
set_option linter.unusedVariables false

/-- What was read of a block, and what is left. -/
def BInv (s : List UInt8) (done : List PairS) (R : Option (List UInt8)) : Prop := (∀ rest, R = some rest → s = blockL done ++ rest) ∧ ∀ ys, IsBlock s ys → ∃ zs, ys = done ++ zs ∧ R = some (blockL zs)
theorem BInv.start (s : List UInt8) : BInv s [] (some s) := ⟨fun rest h => Option.some.inj h, fun ys h => ⟨ys, rfl, by rw [← h.1]⟩⟩
theorem BInv.next {s rest : List UInt8} {done : List PairS} (h : BInv s done (some rest)) (hr : rest ≠ []) : BInv s (done ++ [(stepR (some rest)).1]) (stepR (some rest)).2 := by
  refine ⟨fun r e => ?_, fun ys hy => ?_⟩
  · have h1 : stepR (some rest) = ((stepR (some rest)).1, some r) := by rw [← e]
    have h2 := stepR_inv h1
    rw [blockL_snoc, List.append_assoc, ← h2]
    exact h.1 rest rfl
  · obtain ⟨zs, e1, e2⟩ := h.2 ys hy
    injection e2 with e2
    cases zs with
    | nil => exact absurd e2 hr
    | cons z zs =>
      have hz : wrongP z = 0 := hy.2.2.2 z (by rw [e1]; simp)
      rw [blockL_cons] at e2
      have h1 := stepR_fine hz (blockL zs)
      rw [← e2] at h1
      rw [h1]
      exact ⟨zs, by rw [e1]; simp, rfl⟩
theorem BInv.done {s : List UInt8} {done : List PairS} {R : Option (List UInt8)} (h : BInv s done R) (hR : done.length = 8 ∨ R = none ∨ R = some []) (ok : Bool) (hok : ok = (decide (0 < done.length) && endS R)) :
    (ok = true → s = blockL done ∧ 1 ≤ done.length) ∧ ∀ ys, IsBlock s ys → ok = true ∧ done = ys := by
  refine ⟨fun e => ?_, fun ys hy => ?_⟩
  · rw [hok] at e
    have e1 := Bool.and_eq_true_iff.1 e
    have e2 := of_decide_eq_true e1.1
    have e3 : R = some [] := by
      have := e1.2
      unfold endS at this
      simpa using this
    exact ⟨by have := h.1 [] e3; rwa [List.append_nil] at this, e2⟩
  · obtain ⟨zs, e1, e2⟩ := h.2 ys hy
    have hz : zs = [] := by
      rcases hR with hR | hR | hR
      · have := hy.2.2.1
        rw [e1, List.length_append] at this
        exact List.eq_nil_of_length_eq_zero (by omega)
      · rw [hR] at e2; cases e2
      · rw [hR] at e2
        injection e2 with e2
        cases zs with
        | nil => rfl
        | cons z r =>
          rw [blockL_cons] at e2
          have h1 := pairL_pos z
          have h2 := congrArg List.length e2
          rw [List.length_append] at h2
          simp at h2
          omega
    subst hz
    rw [List.append_nil] at e1
    have hl := hy.2.1
    refine ⟨?_, e1.symm⟩
    rw [hok, e2, ← e1, decide_eq_true (show 0 < ys.length from hl)]
    rfl

def lenV (v : Value) : Nat := match v with | .slice _ n _ => n | _ => 0
theorem lenV_slice (a : Option Addr) (n c : Nat) : lenV (.slice a n c) = n := rfl
theorem endS_nil {R : Option (List UInt8)} (h : endS R = true) : R = some [] := by unfold endS at h; simpa using h

set_option maxHeartbeats 2000000 in
set_option maxRecDepth 100000 in
theorem readBlock_any (s : ByteArray) (hs : s.size ≤ 140737488351232) (w : World) :
    Calls Try.prog 57 #[.string s] w fun e w' => ∃ xs v ok, e = .returned (.tuple #[v, .bool ok]) ∧ w'.ownsRow w.heap.size 39 3 v (xs : List PairS).length (rowP xs) ∧ xs.length ≤ 8 ∧
      (ok = true → s.data.toList = blockL xs ∧ 1 ≤ xs.length) ∧ (∀ ys, IsBlock s.data.toList ys → ok = true ∧ xs = ys) ∧ Below w.heap.size w w' := by
  obtain ⟨i0, hi, hz0, hz1, hz2⟩ := info_parts infoPair
  go_enter Try.func57, Try.ntmps57
  go_wp2_with fail
  refine (read_any s hs w).mono ?_
  rintro e w0 ⟨rfl, hR0, b0⟩
  have HB0 := Lib.hid b0
  have HR0 := Lib.hid hR0
  have hl0 := hR0.lt
  clear hR0 b0
  go_wp2
  go_loopw [5] (fun v wr => ∃ (done : List PairS) (R : Option (List UInt8)), done.length ≤ 8 ∧ wr.ownsRow (w.heap.size + 1) 39 3 v done.length (rowP done) ∧ Hid (RDE wr w.heap.size R ∧ BInv s.data.toList done R ∧ Below w.heap.size w wr))
    (fun v _ => 8 - lenV v)
  case atStart => exact ⟨[], some s.data.toList, by simp, World.ownsRow_nil _ _ _ _, HR0.out, BInv.start _, HB0.out⟩
  case round =>
    clear HR0 HB0
    obtain ⟨done, R, h8, hown, HI⟩ := hrel
    obtain ⟨va, vc, rfl⟩ := row_slice hown
    have HE := Lib.hid hown
    by_cases h88 : done.length = 8
    · have hlt : ¬ (done.length : Int) < 8 := by omega
      have HD := Lib.hid (fun ok hok => HI.out.2.1.done (.inl h88) ok hok)
      clear hown h88
      go_wp2_with fail
      refine (end_any HI.out.1).mono ?_
      rintro e w1 ⟨rfl, rfl⟩
      have hB := HI.out.2.2
      go_wp2
      go_ret2
      exact ⟨done, _, endS R, rfl, ownsRow_base HE.out (by omega), h8, (HD.out (endS R) (by rw [decide_eq_true (show 0 < done.length by omega)]; rfl)).1, (HD.out (endS R) (by rw [decide_eq_true (show 0 < done.length by omega)]; rfl)).2, hB⟩
    · have hlt : (done.length : Int) < 8 := by omega
      have hbad := bad_any HI.out.1
      have hend := end_any HI.out.1
      cases R with
      | none =>
        have HD := Lib.hid (fun ok hok => HI.out.2.1.done (.inr (.inl rfl)) ok hok)
        have hz : endS none = false := rfl
        rw [hz] at hend
        simp only [Option.isNone_none] at hbad
        go_wp2_with fail
        refine hbad.mono ?_
        rintro e w1 ⟨rfl, rfl⟩
        have hB := HI.out.2.2
        by_cases hd : done = []
        · subst hd
          have h1 := Lib.hid (HD.out false rfl)
          clear hown HD
          go_wp2
          go_ret2
          exact ⟨[], _, false, rfl, ownsRow_base HE.out (by omega), by simp, h1.out.1, h1.out.2, hB⟩
        · have hd0 : 0 < done.length := List.length_pos_iff.2 hd
          have hgt : (0 : Int) < (done.length : Int) := by omega
          have h1 := Lib.hid (HD.out false (by rw [decide_eq_true hd0]; rfl))
          go_wp2_with fail
          refine hend.mono ?_
          rintro e w1 ⟨rfl, rfl⟩
          go_wp2
          go_ret2
          exact ⟨done, _, false, rfl, ownsRow_base HE.out (by omega), h8, h1.out.1, h1.out.2, hB⟩
      | some rest =>
        simp only [Option.isNone_some] at hbad
        by_cases hr : rest = []
        · subst hr
          have HD := Lib.hid (fun ok hok => HI.out.2.1.done (.inr (.inr rfl)) ok hok)
          have hz : endS (some []) = true := rfl
          rw [hz] at hend
          go_wp2_with fail
          refine hbad.mono ?_
          rintro e w1 ⟨rfl, rfl⟩
          go_wp2_with fail
          refine hend.mono ?_
          rintro e w1 ⟨rfl, rfl⟩
          have hB := HI.out.2.2
          by_cases hd : done = []
          · subst hd
            have h1 := Lib.hid (HD.out false rfl)
            clear hown HD
            go_wp2
            go_ret2
            exact ⟨[], _, false, rfl, ownsRow_base HE.out (by omega), by simp, h1.out.1, h1.out.2, hB⟩
          · have hd0 : 0 < done.length := List.length_pos_iff.2 hd
            have hgt : (0 : Int) < (done.length : Int) := by omega
            have h1 := Lib.hid (HD.out true (by rw [decide_eq_true hd0]; rfl))
            go_wp2_with fail
            refine hend.mono ?_
            rintro e w1 ⟨rfl, rfl⟩
            go_wp2
            go_ret2
            exact ⟨done, _, true, rfl, ownsRow_base HE.out (by omega), h8, fun _ => h1.out.1 trivial, fun ys hy => ⟨rfl, (h1.out.2 ys hy).2⟩, hB⟩
        · have hz : endS (some rest) = false := by unfold endS; simpa using hr
          rw [hz] at hend
          have HBI := Lib.hid (HI.out.2.1.next hr)
          have hrp := readPair_any HI.out.1
          have hl0' := HI.out.1.lt
          have HBB := Lib.hid HI.out.2.2
          generalize stepR (some rest) = st at *
          obtain ⟨⟨xk, xv, xg⟩, R'⟩ := st
          unfold PairS.val' at hrp
          simp only at hrp HBI
          clear HI
          go_wp2_with fail
          refine hbad.mono ?_
          rintro e w1 ⟨rfl, rfl⟩
          go_wp2_with fail
          refine hend.mono ?_
          rintro e w1 ⟨rfl, rfl⟩
          go_wp2_with fail
          refine hrp.mono ?_
          rintro e w3 ⟨rfl, l3⟩
          have hown3 := left_row l3 hown (by omega)
          have HR3 := Lib.hid (RDE.below l3.1 ((Below.refl _ w3).alloc (Nat.le_refl _) (.cells #[.string xk, .string xv, .bool xg] 39)))
          have HB3 := Lib.hid (HBB.out.trans (l3.below HBB.out.size (Nat.le_refl _)))
          have hlt3 : w.heap.size < w3.heap.size := l3.1.lt
          clear l3 hrp hbad hend
          go_wp2_with (at_builtin; go_loud (refine wpList_append_own _ rfl (.tmp 21) (.tmp 24) 22 rfl (w.heap.size + 1) 39 i0 _ 3 40 Try.underlying22 hi hz0 hz1 hz2 rfl (by decide) _ _ _ rfl (hown3.alloc _) ⟨w3.heap.size, 0, none⟩ 1 1 [.string xk, .string xv, .bool xg] rfl rfl (cells_new w3 ⟨xk, xv, xg⟩) (three_one ⟨xk, xv, xg⟩) ?p3 ?p4 ?p5 ?_))
          case p3 => unfold maxLen; omega
          case p4 => omega
          case p5 => simp; omega
          intro v' w4 hown' hgrow _
          have hrow' : w4.ownsRow (w.heap.size + 1) 39 3 v' (done ++ [(⟨xk, xv, xg⟩ : PairS)]).length (rowP (done ++ [(⟨xk, xv, xg⟩ : PairS)])) := by
            rw [List.length_append, rowP_snoc]
            exact hown'
          have HRD := Lib.hid (HR3.out.kept hgrow (fun e => by
            cases hv0 : (Value.slice va done.length vc).ownBlock with
            | none => rw [hv0] at e; cases e
            | some j => rw [hv0] at e; injection e with e; have := (hown3.lt j hv0).1; omega))
          have HB4 := Lib.hid ((HB3.out.alloc (by omega) _).grown hgrow (by simp; omega) (fun j hj => by have := (hown3.lt j hj).1; omega))
          obtain ⟨va', vc', rfl⟩ := row_slice hrow'
          clear hown' hgrow hi
          go_wp2
          go_roundw
          case rel => exact ⟨done ++ [⟨xk, xv, xg⟩], R', by rw [List.length_append, List.length_singleton]; omega, hrow', HRD.out, HBI.out, HB4.out⟩
          case measure =>
            show 8 - lenV (.slice va' _ vc') < 8 - lenV (.slice va done.length vc)
            rw [lenV_slice, lenV_slice, List.length_append, List.length_singleton]
            omega
end Go.Proofs.Ytlakemcbfeogkaa

namespace Go.Proofs.Ytlakemcbfeogkaa
open Go.RowKit
set_option linter.unusedVariables false

/-- The first i blocks were read. -/
def RInv (fs : List (List UInt8)) (i : Nat) (done : List PairS) : Prop := fs.take i = blocksL done i ∧ partsN done.length = i ∧ ∀ l, FineP l → fs = blocksL l (partsN l.length) → done = l.take (8 * i)
theorem RInv.start (fs : List (List UInt8)) : RInv fs 0 [] := ⟨by simp [blocksL], rfl, fun l _ _ => by simp⟩
theorem RInv.known {fs : List (List UInt8)} {i : Nat} {done : List PairS} (h : RInv fs i done) (hi : i < fs.length) {l : List PairS} (hf : FineP l) (hl : fs = blocksL l (partsN l.length)) : IsBlock (fs.getD i []) (partP l i) ∧ done.length % 8 = 0 ∧ done = l.take (8 * i) := by
  have h1 := h.2.2 l hf hl
  have hlen : partsN l.length = fs.length := by rw [hl, blocksL_len]
  have e : fs.getD i [] = blockL (partP l i) := by
    have := blocksL_at (l := l) (n := partsN l.length) (i := i) (by omega)
    have h2 : fs[i]? = some (blockL (partP l i)) := by
      rw [hl, List.getElem?_eq_getElem (by rw [blocksL_len]; omega), this]
    simp [List.getD, h2]
  refine ⟨by rw [e]; exact part_block hf (by omega), ?_, h1⟩
  rw [h1, List.length_take]
  unfold partsN at hlen
  omega
theorem RInv.next {fs : List (List UInt8)} {i : Nat} {done xs : List PairS} (h : RInv fs i done) (hi : i < fs.length) (h8 : done.length % 8 = 0) (hb : fs.getD i [] = blockL xs) (h1 : 1 ≤ xs.length) (h2 : xs.length ≤ 8) (hk : ∀ ys, IsBlock (fs.getD i []) ys → xs = ys) : RInv fs (i + 1) (done ++ xs) := by
  have hd : done.length = 8 * i := by have := h.2.1; unfold partsN at this; omega
  refine ⟨?_, by rw [List.length_append]; unfold partsN; omega, fun l hf hl => ?_⟩
  · have e : fs[i] = fs.getD i [] := by simp [List.getD, hi]
    rw [List.take_succ_eq_append_getElem hi, h.1, e, hb, blocksL_next, blocksL_front (by omega), part_back hd h2]
  · obtain ⟨k1, k2, k3⟩ := h.known hi hf hl
    rw [hk _ k1, k3, show 8 * (i + 1) = 8 * (i + 1) from rfl, part_take]
theorem RInv.all {fs : List (List UInt8)} {done : List PairS} (h : RInv fs fs.length done) : fs = blocksL done (partsN done.length) ∧ ∀ l, FineP l → fs = blocksL l (partsN l.length) → done = l := by
  refine ⟨by have := h.1; rw [List.take_length] at this; rw [h.2.1]; exact this, fun l hf hl => ?_⟩
  rw [h.2.2 l hf hl]
  have hlen : partsN l.length = fs.length := by rw [hl, blocksL_len]
  refine List.take_of_length_le ?_
  unfold partsN at hlen
  omega
/-- The remainder, told so that omega does not see it. -/
theorem rem_eight (n : Nat) : Int.tmod (n : Int) 8 = ((n % 8 : Nat) : Int) := by
  rw [Int.tmod_eq_emod_of_nonneg (by omega)]
  omega

set_option maxHeartbeats 2000000 in
set_option maxRecDepth 100000 in
theorem readBlocks_any {w : World} {a : Option Addr} {c : Nat} {fs : List (List UInt8)} (h : Row1 w a fs.length (fun i => tx (fs.getD i []))) (hz : ∀ i, (fs.getD i []).length ≤ 1048576) (hn : fs.length ≤ 219902325556) :
    Calls Try.prog 35 #[.slice a fs.length c] w fun e w' => ∃ xs v ok, e = .returned (.tuple #[v, .bool ok]) ∧ (ok = true → w'.ownsRow w.heap.size 39 3 v (xs : List PairS).length (rowP xs) ∧ fs = blocksL xs (partsN xs.length)) ∧
      (∀ l, FineP l → fs = blocksL l (partsN l.length) → ok = true ∧ xs = l) ∧ Below w.heap.size w w' := by
  obtain ⟨i0, hi, hz0, hz1, hz2⟩ := info_parts infoPair
  have H := Lib.hid h
  have HZ := Lib.hid hz
  clear h hz
  go_enter Try.func35, Try.ntmps35
  go_wp2
  go_loopw [4, 11] (fun v iv wr => ∃ (i : Nat) (done : List PairS), i ≤ fs.length ∧ iv = .int .i64 (i : Int) ∧ wr.ownsRow w.heap.size 39 3 v done.length (rowP done) ∧ Hid (RInv fs i done ∧ Below w.heap.size w wr))
    (fun _ iv _ => fs.length - (intOf iv).toNat)
  case atStart => exact ⟨0, [], Nat.zero_le _, rfl, World.ownsRow_nil _ _ _ _, RInv.start fs, Below.refl _ _⟩
  case round =>
    obtain ⟨i, done, hil, rfl, hown, HI⟩ := hrel
    obtain ⟨va, vc, rfl⟩ := row_slice hown
    have hdl : done.length ≤ 8 * i := by have := HI.out.1.2.1; unfold partsN at this; omega
    by_cases hlt : i < fs.length
    · obtain ⟨b, off, ha, hbl, hc⟩ := H.out.at hlt
      subst ha
      have hck : wr.cell? ⟨b, off + i, none⟩ = some (tx (fs.getD i [])) := (HI.out.2.cell hbl).trans hc
      have hsz := HZ.out i
      have HRN := Lib.hid (fun xs h8 hb h1 h2 hk => HI.out.1.next (xs := xs) hlt h8 hb h1 h2 hk)
      have HKN := Lib.hid (fun l hf hl => HI.out.1.known (l := l) hlt hf hl)
      have hmeas : fs.length - (intOf (.int .i64 ((i : Int) + 1))).toNat < fs.length - (intOf (.int .i64 (i : Int))).toNat := by simp [intOf]; omega
      generalize fs.getD i [] = s at *
      obtain ⟨S, eS⟩ : ∃ S : ByteArray, (⟨s.toArray⟩ : ByteArray) = S := ⟨_, rfl⟩
      have dS : S.data.toList = s := by rw [← eS]
      have zS : S.size = s.length := by rw [← eS, tx_size]
      unfold tx at hck
      rw [eS] at hck
      have hrb := readBlock_any S (by omega) wr
      rw [dS] at hrb
      clear hc eS
      go_wp2_with fail
      refine hrb.mono ?_
      rintro e w1 ⟨xs, v1, ok, rfl, o1, h8, k1, k2, b1⟩
      have hown1 := ownsRow_below hown b1
      have B1 := Lib.hid (HI.out.2.trans (b1.mono HI.out.2.size))
      have hs0 := HI.out.2.size
      obtain ⟨xa, xc, rfl⟩ := row_slice o1
      have HK1 := Lib.hid k1
      have HK2 := Lib.hid k2
      clear hown b1 hrb k1 k2 HI
      have hrm := rem_eight done.length
      cases ok with
      | false =>
        have HN : Hid (∀ l, FineP l → fs = blocksL l (partsN l.length) → (false : Bool) = true ∧ ([] : List PairS) = l) := fun l hf hl => by
          have := (HK2.out _ (HKN.out l hf hl).1).1
          cases this
        go_wp2
        go_ret2
        exact ⟨[], _, false, rfl, fun h => by (cases h), HN.out, B1.out⟩
      | true =>
        by_cases h88 : done.length % 8 = 0
        · have hr0 : Int.tmod (done.length : Int) 8 = 0 := by rw [hrm, h88]; rfl
          clear hrm
          have HNX := Lib.hid (HRN.out xs h88 (HK1.out rfl).1 (HK1.out rfl).2 h8 (fun ys hy => (HK2.out ys hy).2))
          have own0 := ownsRow_base (base' := 0) hown1 (Nat.zero_le _)
          have hsrc := src_all o1 (rowP_one xs)
          have HNB := Lib.hid (fun k hk => (hown1.lt k hk).1)
          have hs1 := B1.out.size
          go_wp2_with (at_builtin; go_loud (refine wpList_app _ rfl (.tmp 28) (.tmp 29) rfl Try.underlying22 hi hz0 hz1 hz2 rfl (by decide) rfl own0 rfl hsrc ?a1 ?a2 ?_))
          case a1 => omega
          case a2 => unfold maxLen; omega
          intro v6 w6 o6 g6 l6
          have o7 : w6.ownsRow w.heap.size 39 3 v6 (done ++ xs).length (rowP (done ++ xs)) := by
            rw [List.length_append, rowP_append]
            refine ownsRow_up o6 (fun k hk => ?_)
            rcases l6 k hk with h | h
            · exact HNB.out k h
            · omega
          have B6 := Lib.hid (B1.out.grown g6 (by omega) (fun k hk => HNB.out k hk))
          clear own0 hsrc o6 g6 l6 hown1 o1 hi
          go_wp2
          go_roundw
          case rel => exact ⟨i + 1, done ++ xs, by omega, by go_num, o7, HNX.out, B6.out⟩
          case measure => exact hmeas
        · have hr0 : (Int.tmod (done.length : Int) 8 == 0) = false := by rw [hrm]; simp; omega
          have HN : Hid (∀ l, FineP l → fs = blocksL l (partsN l.length) → (false : Bool) = true ∧ ([] : List PairS) = l) := fun l hf hl => absurd (HKN.out l hf hl).2.1 h88
          clear hrm
          go_wp2
          go_ret2
          exact ⟨[], _, false, rfl, fun h => by (cases h), HN.out, B1.out⟩
    · obtain rfl : i = fs.length := by omega
      have HA := Lib.hid HI.out.1.all
      have HB := Lib.hid HI.out.2
      have HO := Lib.hid hown
      clear HI hown
      go_wp2
      go_ret2
      exact ⟨done, _, true, rfl, fun _ => ⟨HO.out, HA.out.1⟩, fun l hf hl => ⟨rfl, HA.out.2 l hf hl⟩, HB.out⟩
end Go.Proofs.Ytlakemcbfeogkaa

namespace Go.Proofs.Ytlakemcbfeogkaa
open Go.RowKit
set_option linter.unusedVariables false

/-- Has the filter the key of each pair? -/
def allHas (t : List UInt8) (l : List PairS) : Bool := l.all fun x => hasK6 t x.key
theorem allHas_iff (t : List UInt8) (l : List PairS) : allHas t l = true ↔ ∀ x ∈ l, hasK6 t x.key = true := by unfold allHas; exact List.all_eq_true
theorem allHas_next {t : List UInt8} {l : List PairS} {i : Nat} (h : i < l.length) (ha : allHas t (l.take i) = true) : allHas t (l.take (i + 1)) = hasK6 t l[i].key := by
  unfold allHas at *
  rw [List.take_succ_eq_append_getElem h, List.all_append, ha]
  simp
theorem allHas_no {t : List UInt8} {l : List PairS} {i : Nat} (h : i < l.length) (ha : hasK6 t l[i].key = false) : allHas t l = false := by
  cases hb : allHas t l with
  | false => rfl
  | true => rw [(allHas_iff t l).1 hb _ (List.getElem_mem h)] at ha; cases ha

set_option maxHeartbeats 1000000 in
set_option maxRecDepth 100000 in
theorem hasClo_any {w : World} {fb : Nat} {t : ByteArray} {x : PairS} (hc : w.cell? ⟨fb, 0, none⟩ = some (.string t)) (ht : t.size ≤ maxLen) (hx : x.key.size ≤ maxLen) :
    Calls Try.prog 87 #[x.val', .pointer (some ⟨fb, 0, none⟩)] w fun e w' => e = .returned (.bool (!hasK6 t.data.toList x.key)) ∧ Below w.heap.size w w' := by
  obtain ⟨xk, xv, xg⟩ := x
  have hb := World.block_lt_of_cell? w ⟨fb, 0, none⟩ hc
  have hB := Lib.hid ((Below.refl _ w).alloc (Nat.le_refl _) (.cells #[.string xk, .string xv, .bool xg] 39))
  have hca := fun w => has_any t xk ht hx w
  show Calls Try.prog 87 #[.agg #[.string xk, .string xv, .bool xg], .pointer (some ⟨fb, 0, none⟩)] w _
  go_enter Try.func87, Try.ntmps87
  go_wp2_with fail
  refine (hca _).mono ?_
  rintro e w1 ⟨rfl, b1⟩
  have B1 := Lib.hid (hB.out.trans (b1.mono hB.out.size))
  clear b1
  go_wp2
  go_ret
  exact ⟨rfl, B1.out⟩

set_option maxHeartbeats 1000000 in
set_option maxRecDepth 100000 in
theorem hasIdx_any {w : World} {fb : Nat} {t : ByteArray} {a : Option Addr} {c : Nat} {l : List PairS} (h : ReadP w (.slice a l.length c) l) (hf : FineP l) (hc : w.cell? ⟨fb, 0, none⟩ = some (.string t)) (ht : t.size ≤ maxLen) :
    Calls Try.prog 97 #[.slice a l.length c, .func (.func 87) #[] #[.pointer (some ⟨fb, 0, none⟩)]] w fun e w' => ∃ r : Int, e = .returned (.int .i64 r) ∧ decide (0 ≤ r) = (!allHas t.data.toList l) ∧ Below w.heap.size w w' := by
  have hmax : l.length ≤ 9223372036854775807 := by have := h.1; unfold maxLen at this; omega
  have eg : ∀ args w, (callFunc 87 args).run Try.prog w = .ok (.enter 87 args) w := enters_of Try.func87 (by kernel_rfl) rfl
  have hb := World.block_lt_of_cell? w ⟨fb, 0, none⟩ hc
  have H := Lib.hid h
  have HC := Lib.hid hc
  clear h hc
  go_enter Try.func97, Try.ntmps97
  go_wp2
  go_loopw [8] (fun iv wr => ∃ i : Nat, i ≤ l.length ∧ iv = .int .i64 (i : Int) ∧ Hid (allHas t.data.toList (l.take i) = true ∧ Below w.heap.size w wr)) (fun iv _ => l.length - (intOf iv).toNat)
  case atStart => exact ⟨0, Nat.zero_le _, rfl, rfl, Below.refl _ _⟩
  case round =>
    obtain ⟨i, hil, rfl, HI⟩ := hrel
    by_cases hlt : i < l.length
    · obtain ⟨b, o, rfl, q0, q1, q2⟩ := H.out.in HI.out.2 hlt
      have hmeas : l.length - (intOf (.int .i64 ((i : Int) + 1))).toNat < l.length - (intOf (.int .i64 (i : Int))).toNat := by simp [intOf]; omega
      have hkf := ((fine_iff _).1 (hf _ (List.getElem_mem hlt))).2.1
      have hcl := hasClo_any (x := l[i]) ((HI.out.2.cell hb).trans HC.out) ht (by unfold maxLen; omega)
      have HAN := Lib.hid (allHas_next hlt HI.out.1)
      have HNO := Lib.hid (fun e => allHas_no (t := t.data.toList) hlt e)
      generalize l[i] = X at *
      obtain ⟨xk, xv, xg⟩ := X
      unfold PairS.val' at hcl
      simp only at q0 q1 q2 hcl HAN HNO
      have HB := Lib.hid HI.out.2
      clear HI
      cases hh : hasK6 t.data.toList xk with
      | true =>
        rw [hh] at hcl HAN
        simp only [Bool.not_true] at hcl
        go_wp2_with fail
        refine hcl.mono ?_
        rintro e w1 ⟨rfl, b1⟩
        have B1 := Lib.hid (HB.out.trans (b1.mono HB.out.size))
        clear b1 hcl
        go_wp2
        go_roundw
        case rel => exact ⟨i + 1, by omega, by go_num, HAN.out, B1.out⟩
        case measure => exact hmeas
      | false =>
        rw [hh] at hcl
        simp only [Bool.not_false] at hcl
        have HF := Lib.hid (HNO.out hh)
        go_wp2_with fail
        refine hcl.mono ?_
        rintro e w1 ⟨rfl, b1⟩
        have B1 := Lib.hid (HB.out.trans (b1.mono HB.out.size))
        clear b1 hcl
        go_wp2
        go_ret
        exact ⟨(i : Int), rfl, by rw [HF.out]; simp, B1.out⟩
    · obtain rfl : i = l.length := by omega
      have HA := HI.out.1
      rw [List.take_length] at HA
      have HA2 := Lib.hid HA
      have HB := Lib.hid HI.out.2
      clear HI HA
      go_wp2
      go_ret
      exact ⟨-1, rfl, by rw [HA2.out]; simp, HB.out⟩

set_option maxHeartbeats 1000000 in
set_option maxRecDepth 100000 in
theorem hasCf_any {w : World} {fb : Nat} {t : ByteArray} {a : Option Addr} {c : Nat} {l : List PairS} (h : ReadP w (.slice a l.length c) l) (hf : FineP l) (hc : w.cell? ⟨fb, 0, none⟩ = some (.string t)) (ht : t.size ≤ maxLen) :
    Calls Try.prog 86 #[.slice a l.length c, .func (.func 87) #[] #[.pointer (some ⟨fb, 0, none⟩)]] w fun e w' => e = .returned (.bool (!allHas t.data.toList l)) ∧ Below w.heap.size w w' := by
  have hix := hasIdx_any h hf hc ht
  generalize allHas t.data.toList l = A at *
  go_enter Try.func86, Try.ntmps86
  go_wp2_with fail
  refine hix.mono ?_
  rintro e w1 ⟨r, rfl, hd, b1⟩
  have B1 := Lib.hid b1
  have HD := Lib.hid hd
  clear b1 hix hd
  go_wp2
  go_ret
  exact ⟨by rw [← HD.out]; rfl, B1.out⟩

set_option maxHeartbeats 1000000 in
set_option maxRecDepth 100000 in
theorem hasAll_any {w : World} {t : ByteArray} {a : Option Addr} {c : Nat} {l : List PairS} (h : ReadP w (.slice a l.length c) l) (hf : FineP l) (ht : t.size ≤ maxLen) :
    Calls Try.prog 62 #[.string t, .slice a l.length c] w fun e w' => e = .returned (.bool (allHas t.data.toList l)) ∧ Below w.heap.size w w' := by
  have hmf : ∀ (fn : Fn) (first cap : Array Value) (w : World), (Instr.makeFunc fn first cap).run Try.prog w = .ok (.func fn first cap) w := fun _ _ _ _ => rfl
  have hb := (Below.refl _ w).alloc (Nat.le_refl _) (.cells #[.string t] 9)
  have hix := hasCf_any (h.below hb) hf (fb := w.heap.size) (by rw [block_cell (heap_alloc_new _ _)]; rfl) ht
  have HIX := Lib.hid hix
  have HB := Lib.hid hb
  clear hix h hb
  generalize allHas t.data.toList l = A at *
  go_enter Try.func62, Try.ntmps62
  go_wp2_with fail
  refine HIX.out.mono ?_
  rintro e w1 ⟨rfl, b1⟩
  have B1 := Lib.hid (HB.out.trans (b1.mono HB.out.size))
  clear b1 HIX HB
  go_wp2
  go_ret
  exact ⟨by simp, B1.out⟩
end Go.Proofs.Ytlakemcbfeogkaa

namespace Go.Proofs.Ytlakemcbfeogkaa
open Go.RowKit
set_option linter.unusedVariables false

/-- What isFooter answers. -/
def footB (s : List UInt8) (l : List PairS) : Bool := Lib.hasPrefix s (headL l) && endS (textS (some (Lib.trimPrefix s (headL l)))).2 && allHas (textS (some (Lib.trimPrefix s (headL l)))).1 l
theorem footB_iff {s : List UInt8} {l : List PairS} (hs : s.length ≤ 1048576) : footB s l = true ↔ ∃ flt, s = footL l flt ∧ ∀ x ∈ l, hasK6 flt x.key = true := by
  unfold footB
  rw [Bool.and_eq_true, Bool.and_eq_true, allHas_iff]
  constructor
  · rintro ⟨⟨h1, h2⟩, h3⟩
    obtain ⟨rest, rfl⟩ := List.isPrefixOf_iff_prefix.1 (show (headL l).isPrefixOf s = true from h1)
    have e1 : Lib.trimPrefix (headL l ++ rest) (headL l) = rest := by
      unfold Lib.trimPrefix
      rw [if_pos h1, List.drop_left]
    rw [e1] at h2 h3
    cases ht : textS (some rest) with
    | mk flt R =>
      rw [ht] at h2 h3
      have e2 := endS_nil h2
      simp only at e2
      subst e2
      obtain ⟨_, t2⟩ := text_inv ht
      rw [List.append_nil] at t2
      exact ⟨flt, by rw [foot_head, ← t2], h3⟩
  · rintro ⟨flt, rfl, h3⟩
    rw [foot_head] at hs ⊢
    have h1 : Lib.hasPrefix (headL l ++ (putL flt.length ++ flt)) (headL l) = true := List.isPrefixOf_iff_prefix.2 (List.prefix_append _ _)
    have e1 : Lib.trimPrefix (headL l ++ (putL flt.length ++ flt)) (headL l) = putL flt.length ++ flt := by
      unfold Lib.trimPrefix
      rw [if_pos h1, List.drop_left]
    have hl : flt.length ≤ 1048576 := by
      rw [List.length_append, List.length_append] at hs
      omega
    have e2 := text_read (t := flt) (small8 (by omega)) []
    rw [List.append_nil] at e2
    rw [e1, e2]
    exact ⟨⟨h1, rfl⟩, h3⟩

set_option maxHeartbeats 1000000 in
set_option maxRecDepth 100000 in
theorem isFooter_any {w : World} {s : ByteArray} {b o c : Nat} {l : List PairS} (h : ReadP w (.slice (some ⟨b, o, none⟩) l.length c) l) (hf : FineP l) (hc : l.length ≤ c) (hN : l.length ≤ 3518437208780) (h1 : 1 ≤ l.length) (hs : s.size ≤ 1048576) :
    Calls Try.prog 36 #[.string s, .slice (some ⟨b, o, none⟩) l.length c] w fun e w' => e = .returned (.bool (footB s.data.toList l)) ∧ Below w.heap.size w w' := by
  have HW : Hid (∀ w', Below w.heap.size w w' → ReadP w' (.slice (some ⟨b, o, none⟩) l.length c) l) := fun w' hb => h.below hb
  have hhd := head_any h hf hc hN h1
  obtain ⟨HD, eHD⟩ : ∃ A : ByteArray, (⟨(headL l).toArray⟩ : ByteArray) = A := ⟨_, rfl⟩
  have dHD : HD.data.toList = headL l := by rw [← eHD]
  rw [eHD] at hhd
  have hcp := fun w => Sh.strings_CutPrefix s HD w
  rw [dHD] at hcp
  obtain ⟨rs, eR⟩ : ∃ r, Lib.trimPrefix s.data.toList (headL l) = r := ⟨_, rfl⟩
  obtain ⟨ok, eO⟩ : ∃ r, Lib.hasPrefix s.data.toList (headL l) = r := ⟨_, rfl⟩
  have hrs : rs.length ≤ 1048576 := by
    have := Lib.trimPrefix_le s.data.toList (headL l)
    rw [eR] at this
    have e : s.data.toList.length = s.size := by simp
    omega
  have HFB : Hid (footB s.data.toList l = (ok && endS (textS (some rs)).2 && allHas (textS (some rs)).1 l)) := by
    show _ = _
    unfold footB
    rw [eR, eO]
  simp only [eR, eO] at hcp
  obtain ⟨RB, eRB⟩ : ∃ A : ByteArray, (⟨rs.toArray⟩ : ByteArray) = A := ⟨_, rfl⟩
  have dRB : RB.data.toList = rs := by rw [← eRB]
  have zRB : RB.size = rs.length := by rw [← eRB, tx_size]
  simp only [eRB] at hcp
  have hrd := fun w => read_any RB (by omega) w
  simp only [dRB] at hrd
  have HHD := Lib.hid hhd
  have HCP := Lib.hid hcp
  have HRD := Lib.hid hrd
  clear hhd hcp hrd eR eO eHD dHD eRB dRB h
  go_enter Try.func36, Try.ntmps36
  go_wp2_with fail
  refine HHD.out.mono ?_
  rintro e w1 ⟨rfl, b1⟩
  have B1 := Lib.hid b1
  clear b1 HHD
  go_wp2_with fail
  refine (HCP.out _).mono ?_
  rintro e w2 ⟨rfl, rfl⟩
  go_wp2_with fail
  refine (HRD.out _).mono ?_
  rintro e w3 ⟨rfl, r3, b3⟩
  have B3 := Lib.hid (B1.out.trans (b3.mono B1.out.size))
  have hct := rtextv_any r3
  have htl := text_len7 (some rs)
  cases ht : textS (some rs) with | mk k R1 =>
  rw [ht] at hct HFB htl
  simp only at hct HFB htl
  obtain ⟨K, eK1, eK2, eK3⟩ := tv_text k
  simp only [eK1] at hct
  have hlt3 := b3.size
  have hws := B1.out.size
  clear b3 r3 ht HCP HRD
  go_wp2_with fail
  refine hct.mono ?_
  rintro e w4 ⟨rfl, l4⟩
  have hend := end_any l4.1
  have B4 := Lib.hid (B3.out.trans (l4.below (by omega) hws))
  have hha := hasAll_any (t := K) (HW.out _ B4.out) hf (by unfold maxLen; simp at htl; omega)
  rw [eK2] at hha
  generalize allHas k l = A at *
  generalize endS R1 = E at *
  clear l4 hct
  cases ok with
  | false =>
    go_wp2
    go_ret
    exact ⟨by rw [HFB.out]; rfl, B4.out⟩
  | true =>
    go_wp2_with fail
    refine hend.mono ?_
    rintro e w5 ⟨rfl, rfl⟩
    cases E with
    | false =>
      go_wp2
      go_ret
      exact ⟨by rw [HFB.out]; rfl, B4.out⟩
    | true =>
      go_wp2_with fail
      refine hha.mono ?_
      rintro e w6 ⟨rfl, b6⟩
      have B6 := Lib.hid (B4.out.trans (b6.mono B4.out.size))
      go_wp2
      go_ret
      exact ⟨by rw [HFB.out]; rfl, B6.out⟩
end Go.Proofs.Ytlakemcbfeogkaa

namespace Go.Proofs.Ytlakemcbfeogkaa
open Go.RowKit
set_option linter.unusedVariables false

theorem open_no {s rest : List UInt8} {fs : List (List UInt8)} {l : List PairS} (hs : scanL s = (fs, rest)) (ht : IsTab s l) :
    rest = [] ∧ 1 ≤ fs.length ∧ fs.take (fs.length - 1) = blocksL l (partsN l.length) ∧ FineP l ∧ checkE l = 0 ∧ footB (fs.getD (fs.length - 1) []) l = true := by
  obtain ⟨h1, h2, h3, flt, hok, h4⟩ := tab_known ht hs
  have h5 : fs.length - 1 = partsN l.length := by omega
  have h6 : fs.getD (partsN l.length) [] = footL l flt := by
    rw [h4]
    simp [List.getD, List.getElem?_append_right, blocksL_len]
  refine ⟨h1, by omega, ?_, hok.fine, checkE_zero.2 ⟨hok.ne, hok.rise, hok.fine⟩, ?_⟩
  · rw [h5, h4, List.take_append_of_le_length (by rw [blocksL_len]; omega), List.take_of_length_le (by rw [blocksL_len]; omega)]
  · rw [h5, h6]
    exact (footB_iff hok.foot).2 ⟨flt, rfl, hok.has⟩
theorem open_yes {s : List UInt8} {fs : List (List UInt8)} {l : List PairS} (hs : scanL s = (fs, [])) (hne : 1 ≤ fs.length) (hg : fs.take (fs.length - 1) = blocksL l (partsN l.length)) (hc : checkE l = 0) (hf : footB (fs.getD (fs.length - 1) []) l = true) : IsTab s l := by
  obtain ⟨h1, h2⟩ := scanL_inv fs s [] hs
  rw [List.append_nil] at h1
  have hmem : fs.getD (fs.length - 1) [] ∈ fs := by
    have hlt : fs.length - 1 < fs.length := by omega
    have e : fs.getD (fs.length - 1) [] = fs[fs.length - 1] := by simp [List.getD, hlt]
    rw [e]
    exact List.getElem_mem hlt
  have hz := h2 _ hmem
  obtain ⟨flt, e, hh⟩ := (footB_iff hz).1 hf
  obtain ⟨hne2, hr, hfi⟩ := checkE_zero.1 hc
  have hfs : fs = blocksL l (partsN l.length) ++ [footL l flt] := by
    have hlt : fs.length - 1 < fs.length := by omega
    rw [← hg, ← e]
    conv => lhs; rw [← List.take_append_drop (fs.length - 1) fs]
    congr 1
    rw [List.drop_eq_getElem_cons hlt]
    have e1 : fs.length - 1 + 1 = fs.length := by omega
    rw [e1, List.drop_length]
    simp [List.getD, hlt]
  obtain ⟨x, r, hxr⟩ := List.exists_cons_of_ne_nil hne2
  have hx := hh x (by rw [hxr]; simp)
  have hb : 1 ≤ flt.length ∧ flt.length ≤ 8192 := by
    unfold hasK6 at hx
    exact of_decide_eq_true (Bool.and_eq_true_iff.1 hx).1
  refine ⟨flt, ⟨hne2, hr, hfi, hb.1, hb.2, hh, by rw [← e]; exact hz⟩, ?_⟩
  rw [h1, hfs, tab_frames]
theorem own_cap7 {w : World} {base : Nat} {e : TypeId} {sz n c : Nat} {a : Option Addr} {xs : List Value} (h : w.ownsRow base e sz (.slice a n c) n xs) : n ≤ c ∧ c ≤ maxLen := by
  rcases h.2 with ⟨hv, h0⟩ | ⟨g, cap, cur, hv, _, _, h1, h2, _⟩
  · injection hv with _ _ e; subst e; subst h0; exact ⟨Nat.le_refl _, by decide⟩
  · injection hv with _ _ e; subst e; exact ⟨h1, h2⟩
theorem tab_few7 {s : List UInt8} {l : List PairS} (h : IsTab s l) : l.length ≤ 8388608 := by
  obtain ⟨flt, hok, _⟩ := h
  exact tab_few hok
theorem row_texts {w : World} {base g c : Nat} {fs : List (List UInt8)} (h : w.ownsRow base 9 1 (.slice (some ⟨g, 0, none⟩) fs.length c) fs.length (fs.map tx)) : ∀ i, i < fs.length → w.cell? ⟨g, i, none⟩ = some (tx (fs.getD i [])) := fun i hi => by
  obtain ⟨g', cap, e, hc⟩ := row_text h hi
  injection e with e
  injection e with e
  injection e with e
  subst e
  exact hc

/-- The table at p has the pairs l; all it has lies below B. -/
def TabAt7 (w : World) (p : Nat) (l : List PairS) (B : Nat) : Prop :=
  ∃ g c, w.heap[p]? = some (.cells #[.slice (some ⟨g, 0, none⟩) l.length c] 80 (0, 0)) ∧ w.ownsRow 0 39 3 (.slice (some ⟨g, 0, none⟩) l.length c) l.length (rowP l) ∧ p < B ∧ g < B ∧ RisingP l ∧ l.length ≤ 8388608
theorem TabAt7.below {w w' : World} {p : Nat} {l : List PairS} {B : Nat} (h : TabAt7 w p l B) (hb : Below B w w') : TabAt7 w' p l B := by
  obtain ⟨g, c, h1, h2, h3, h4, h5, h6⟩ := h
  refine ⟨g, c, (hb.block p h3).trans h1, ⟨h2.1, ?_⟩, h3, h4, h5, h6⟩
  rcases h2.2 with h | ⟨g', cap, cur, hv, g1, g2, g3⟩
  · exact .inl h
  · have hg : g = g' := by injection hv with e; injection e with e; injection e
    exact .inr ⟨g', cap, cur, hv, g1, (hb.block g' (by omega)).trans g2, g3⟩

set_option maxHeartbeats 4000000 in
set_option maxRecDepth 100000 in
theorem open_any (s : ByteArray) (w : World) (hs : s.size ≤ 1099511627776) :
    Calls Try.prog 10 #[.string s] w fun e w' => ((∃ l p, e = .returned (.tuple #[.pointer (some ⟨p, 0, none⟩), .int .i64 0]) ∧ IsTab s.data.toList l ∧ TabAt7 w' p l w'.heap.size) ∨ (e = .returned (.tuple #[.pointer none, .int .i64 60]) ∧ ∀ l, ¬ IsTab s.data.toList l)) ∧ Below w.heap.size w w' := by
  have hsl : s.data.toList.length = s.size := ba_len s
  have hscan := scan_any s hs w
  unfold ScanEnd at hscan
  cases hsc : scanL s.data.toList with | mk fs rest =>
  rw [hsc] at hscan
  simp only at hscan
  have hfew := scan_few hsc
  have hinv := scanL_inv fs _ rest hsc
  have hrl : rest.length ≤ s.size := by have := congrArg List.length hinv.1; rw [List.length_append] at this; omega
  have HNO := Lib.hid (fun l (ht : IsTab s.data.toList l) => open_no hsc ht)
  by_cases hrest : rest = []
  · subst hrest
    by_cases hf0 : 1 ≤ fs.length
    · obtain ⟨m, hm⟩ : ∃ m, fs.length = m + 1 := ⟨fs.length - 1, by omega⟩
      obtain ⟨gs, eG⟩ : ∃ gs, fs.take m = gs := ⟨_, rfl⟩
      obtain ⟨ft, eF⟩ : ∃ ft, fs.getD m [] = ft := ⟨_, rfl⟩
      have hgl : gs.length = m := by rw [← eG, List.length_take]; omega
      have hgz : ∀ i, (gs.getD i []).length ≤ 1048576 := fun i => by
        by_cases hi : i < gs.length
        · have e : gs.getD i [] = gs[i] := by simp [List.getD, hi]
          rw [e]
          refine hinv.2 _ (List.mem_of_mem_take (i := m) ?_)
          rw [eG]
          exact List.getElem_mem hi
        · have e : gs.getD i [] = [] := by simp [List.getD, Nat.le_of_not_lt hi]
          rw [e]; simp
      have hfz : ft.length ≤ 1048576 := by
        have hlt : m < fs.length := by omega
        rw [← eF, show fs.getD m [] = fs[m] by simp [List.getD, hlt]]
        exact hinv.2 _ (List.getElem_mem hlt)
      have hgg : ∀ i, i < m → fs.getD i [] = gs.getD i [] := fun i hi => by
        rw [← eG]
        simp [List.getD, hi, List.getElem?_take]
      have HYES : Hid (∀ l, gs = blocksL l (partsN l.length) → checkE l = 0 → footB ft l = true → IsTab s.data.toList l) := fun l h1 h2 h3 => by
        refine open_yes hsc hf0 ?_ h2 ?_
        · rw [hm, Nat.add_sub_cancel, eG]; exact h1
        · rw [hm, Nat.add_sub_cancel, eF]; exact h3
      have HNO2 : Hid (∀ l, IsTab s.data.toList l → gs = blocksL l (partsN l.length) ∧ FineP l ∧ checkE l = 0 ∧ footB ft l = true) := fun l ht => by
        obtain ⟨_, _, h1, h2, h3, h4⟩ := HNO.out l ht
        rw [hm, Nat.add_sub_cancel] at h1 h4
        rw [eG] at h1
        rw [eF] at h4
        exact ⟨h1, h2, h3, h4⟩
      obtain ⟨FT, eFT⟩ : ∃ A : ByteArray, (⟨ft.toArray⟩ : ByteArray) = A := ⟨_, rfl⟩
      have dFT : FT.data.toList = ft := by rw [← eFT]
      have zFT : FT.size = ft.length := by rw [← eFT, tx_size]
      obtain ⟨w1i, w2i, w3i, w4i⟩ := idx_last (nb := m) (by omega)
      have hm5 : m ≤ 219902325555 := by omega
      clear HNO hinv hf0
      go_enter Try.func10, Try.ntmps10
      go_wp2_with fail
      refine hscan.mono ?_
      rintro e w1 ⟨v1, rfl, ho1, b1⟩
      obtain ⟨g, fc, rfl, hlast⟩ := row_text ho1 (show m < fs.length by omega)
      have hrt := row_texts ho1
      have hcap := (own_cap7 ho1).1
      rw [eF] at hlast
      unfold tx at hlast
      rw [eFT] at hlast
      have hgb : g < w1.heap.size := World.block_lt_of_cell? w1 ⟨g, m, none⟩ hlast
      have B1 := Lib.hid b1
      have hrow : Row1 w1 (some ⟨g, 0, none⟩) gs.length (fun i => tx (gs.getD i [])) := ⟨by omega, .inr ⟨g, 0, rfl, hgb, fun i hi => by
        rw [Nat.zero_add, ← hgg i (by omega)]
        exact hrt i (by omega)⟩⟩
      have hrb := readBlocks_any (c := fc) hrow hgz (by omega)
      rw [hgl] at hrb
      rw [hm] at *
      have hz0 : ((s.size : Int) - (([] : List UInt8).length : Int)) = (s.size : Int) := by simp
      clear ho1 b1 hscan hrow hrt hgz hgg
      go_wp2_with fail
      refine hrb.mono ?_
      rintro e w2 ⟨xs, v2, ok, rfl, k1, k2, b2⟩
      have B2 := Lib.hid (B1.out.trans (b2.mono B1.out.size))
      have hl2 : w2.cell? ⟨g, m, none⟩ = some (.string FT) := (b2.cell hgb).trans hlast
      have hs2 := b2.size
      have HK2 : Hid (∀ l, IsTab s.data.toList l → ok = true ∧ xs = l) := fun l ht => k2 l (HNO2.out l ht).2.1 (HNO2.out l ht).1
      clear hrb b2 k2
      cases ok with
      | false =>
        have HN : Hid (∀ l, ¬ IsTab s.data.toList l) := fun l ht => by
          have := (HK2.out l ht).1
          cases this
        go_wp2
        go_ret2
        exact ⟨.inr ⟨rfl, HN.out⟩, B2.out⟩
      | true =>
        obtain ⟨o2, hgx⟩ := k1 rfl
        have hxl : xs.length ≤ 8 * m := by
          have h1 : partsN xs.length = m := by rw [← hgl, hgx, blocksL_len]
          unfold partsN at h1
          omega
        by_cases hE : checkE xs = 0
        · obtain ⟨hne, hrise, hfi⟩ := checkE_zero.1 hE
          have hx1 : 1 ≤ xs.length := List.length_pos_iff.2 hne
          obtain ⟨gx, xc, rfl⟩ : ∃ gx c, v2 = .slice (some ⟨gx, 0, none⟩) xs.length c := by
            rcases o2.2 with ⟨_, h0⟩ | ⟨g', cap, cur, hv, _⟩
            · omega
            · exact ⟨g', cap, hv⟩
          have hcx := (own_cap7 o2).1
          have hchk := check_any (ReadP.own o2)
          rw [hE] at hchk
          have O2 := Lib.hid o2
          clear k1 o2
          go_wp2_with fail
          refine hchk.mono ?_
          rintro e w3 ⟨rfl, b3⟩
          have O3 := Lib.hid (ownsRow_below O2.out b3)
          have hl3 : w3.cell? ⟨g, m, none⟩ = some (.string FT) := (b3.cell (by have := World.block_lt_of_cell? w2 ⟨g, m, none⟩ hl2; simpa using this)).trans hl2
          have B3 := Lib.hid (B2.out.trans (b3.mono B2.out.size))
          have hif := isFooter_any (s := FT) (ReadP.own O3.out) hfi hcx (by omega) hx1 (by omega)
          rw [dFT] at hif
          clear b3 hchk O2 hl2
          go_wp2_with fail
          refine hif.mono ?_
          rintro e w4 ⟨rfl, b4⟩
          have O4 := Lib.hid (ownsRow_below O3.out b4)
          have B4 := Lib.hid (B3.out.trans (b4.mono B3.out.size))
          clear b4 hif hl3 O3
          cases hfb : footB ft xs with
          | true =>
            have HY := Lib.hid (HYES.out xs hgx hE hfb)
            have hnew := heap_alloc_new w4 (.cells #[.slice (some ⟨gx, 0, none⟩) xs.length xc] 80)
            have hba := Lib.hid ((Below.refl _ w4).alloc (Nat.le_refl _) (.cells #[.slice (some ⟨gx, 0, none⟩) xs.length xc] 80))
            have hsz : (w4.alloc (.cells #[.slice (some ⟨gx, 0, none⟩) xs.length xc] 80)).heap.size = w4.heap.size + 1 := by simp
            have HT : Hid (TabAt7 (w4.alloc (.cells #[.slice (some ⟨gx, 0, none⟩) xs.length xc] 80)) w4.heap.size xs (w4.alloc (.cells #[.slice (some ⟨gx, 0, none⟩) xs.length xc] 80)).heap.size) :=
              ⟨gx, xc, hnew, ownsRow_base (ownsRow_below O4.out hba.out) (Nat.zero_le _), by omega, by have := (O4.out.lt gx rfl).2; omega, hrise, tab_few7 HY.out⟩
            have HBZ := Lib.hid (B4.out.trans (hba.out.mono B4.out.size))
            clear hnew hba hsz O4
            go_wp2
            go_ret2
            exact ⟨.inl ⟨xs, _, rfl, HY.out, HT.out⟩, HBZ.out⟩
          | false =>
            have HN : Hid (∀ l, ¬ IsTab s.data.toList l) := fun l ht => by
              have h1 := (HNO2.out l ht).2.2.2
              rw [← (HK2.out l ht).2, hfb] at h1
              cases h1
            go_wp2
            go_ret2
            exact ⟨.inr ⟨rfl, HN.out⟩, B4.out⟩
        · have HN : Hid (∀ l, ¬ IsTab s.data.toList l) := fun l ht => hE (by rw [(HK2.out l ht).2]; exact (HNO2.out l ht).2.2.1)
          obtain ⟨xa, xc, rfl⟩ := row_slice o2
          have hchk := check_any (ReadP.own o2)
          have hc1 : ((checkE xs : Int) == 0) = false := by simp; omega
          generalize checkE xs = E at *
          clear k1 o2
          go_wp2_with fail
          refine hchk.mono ?_
          rintro e w3 ⟨rfl, b3⟩
          have B3 := Lib.hid (B2.out.trans (b3.mono B2.out.size))
          clear b3 hchk
          go_wp2
          go_ret2
          exact ⟨.inr ⟨rfl, HN.out⟩, B3.out⟩
    · have hf1 : fs = [] := List.eq_nil_of_length_eq_zero (by omega)
      subst hf1
      have HN : Hid (∀ l, ¬ IsTab s.data.toList l) := fun l ht => by
        have := (HNO.out l ht).2.1
        simp at this
      clear hinv hfew
      go_enter Try.func10, Try.ntmps10
      go_wp2_with fail
      refine hscan.mono ?_
      rintro e w1 ⟨v1, rfl, ho1, b1⟩
      obtain ⟨fa, fc, rfl⟩ := row_slice ho1
      have B1 := Lib.hid b1
      clear ho1 b1 hscan
      go_wp2
      go_ret2
      exact ⟨.inr ⟨rfl, HN.out⟩, B1.out⟩
  · have HN : Hid (∀ l, ¬ IsTab s.data.toList l) := fun l ht => hrest (HNO.out l ht).1
    have hr1 : 0 < rest.length := List.length_pos_iff.2 hrest
    have hlt : ((s.size : Int) - (rest.length : Int)) < (s.size : Int) := by omega
    clear hinv hfew
    go_enter Try.func10, Try.ntmps10
    go_wp2_with fail
    refine hscan.mono ?_
    rintro e w1 ⟨v1, rfl, ho1, b1⟩
    obtain ⟨fa, fc, rfl⟩ := row_slice ho1
    have B1 := Lib.hid b1
    clear ho1 b1 hscan
    go_wp2
    go_ret2
    exact ⟨.inr ⟨rfl, HN.out⟩, B1.out⟩
end Go.Proofs.Ytlakemcbfeogkaa

namespace Go.Proofs.Ytlakemcbfeogkaa
open Go.RowKit Go.Lib Go.Sort
set_option linter.unusedVariables false

theorem place_count {k : ByteArray} : ∀ {l : List PairS}, RisingP l → l.countP (fun x => befB x.key k) = placeP k l
  | [], _ => rfl
  | x :: r, h => by
    have h2 := List.pairwise_cons.1 h
    rw [List.countP_cons]
    unfold placeP
    cases hb : befB x.key k with
    | true => rw [if_pos rfl, if_pos rfl, place_count h2.2]
    | false =>
      rw [if_neg (by simp), if_neg (by simp)]
      rw [List.countP_eq_zero.2]
      intro y hy hy2
      have h3 := h2.1 y hy
      rw [befB_trans h3 hy2] at hb
      cases hb
theorem place_range {k : ByteArray} {l : List PairS} (h : RisingP l) : (List.range l.length).countP (fun i => !(!befB (l.getD i zeroP).key k)) = placeP k l := by
  rw [← place_count h]
  have e : l = (List.range l.length).map (fun i => l.getD i zeroP) := by
    apply List.ext_getElem
    · simp
    · intro i h1 h2
      simp [List.getD, h1]
  conv => rhs; rw [e]
  rw [List.countP_map]
  congr 1
  funext i
  simp
theorem seek_mono {k : ByteArray} {l : List PairS} (h : RisingP l) : ∀ a b, a ≤ b → b < l.length → (!befB (l.getD a zeroP).key k) = true → (!befB (l.getD b zeroP).key k) = true := by
  intro a b hab hb ha
  rcases Nat.lt_or_ge a b with hlt | hge
  · have ha' : a < l.length := by omega
    have e1 : l.getD a zeroP = l[a] := by simp [List.getD, ha']
    have e2 : l.getD b zeroP = l[b] := by simp [List.getD, hb]
    rw [e1] at ha
    rw [e2]
    have h3 := List.pairwise_iff_getElem.1 h a b ha' hb hlt
    cases hc : befB l[b].key k with
    | false => rfl
    | true => rw [befB_trans h3 hc] at ha; cases ha
  · obtain rfl : a = b := by omega
    exact ha

set_option maxRecDepth 100000 in
set_option maxHeartbeats 1000000 in
theorem seekClo_any {W : World} {tb kb p g n c i : Nat} {xk k : ByteArray} (h1 : W.cell? ⟨tb, 0, none⟩ = some (.pointer (some ⟨p, 0, none⟩))) (h2 : W.cell? ⟨kb, 0, none⟩ = some (.string k)) (h3 : W.cell? ⟨p, 0, none⟩ = some (.slice (some ⟨g, 0, none⟩) n c)) (h4 : W.cell? ⟨g, i * 3, none⟩ = some (.string xk)) (hi : i < n) (hn : n ≤ 8388608) :
    Calls Try.prog 68 #[.int .i64 (i : Int), .pointer (some ⟨tb, 0, none⟩), .pointer (some ⟨kb, 0, none⟩)] W fun e w' => e = .returned (.bool (!befB xk k)) ∧ ∃ q, w' = W.drewN q := by
  have d1 : W.drew.cell? ⟨tb, 0, none⟩ = some (.pointer (some ⟨p, 0, none⟩)) := h1
  have d2 : W.drew.cell? ⟨kb, 0, none⟩ = some (.string k) := h2
  have d3 : W.drew.cell? ⟨p, 0, none⟩ = some (.slice (some ⟨g, 0, none⟩) n c) := h3
  have d4 : W.drew.cell? ⟨g, i * 3, none⟩ = some (.string xk) := h4
  go_enter Try.func68, Try.ntmps68
  go_wp2
  go_region
  all_goals (go_wp2; go_ret; exact ⟨by unfold befB; rfl, 1, rfl⟩)

/-- The pairs from a key on, sliced. -/
theorem from_slice {w : World} {g cap : Nat} {l : List PairS} (k : ByteArray) (h : w.ownsRow 0 39 3 (.slice (some ⟨g, 0, none⟩) l.length cap) l.length (rowP l)) :
    ∃ a c, (∀ wx, (Instr.slice 22 (.slice (some ⟨g, 0, none⟩) l.length cap) (some (.int .i64 (placeP k l : Nat))) none none).run Try.prog wx = .ok (.slice a (fromP k l).length c) wx) ∧ (∀ wx, Below w.heap.size w wx → ReadP wx (.slice a (fromP k l).length c) (fromP k l)) ∧ ∃ o, a = some ⟨g, o, none⟩ := by
  have hle := placeP_le k l
  have hcap := own_cap7 h
  have hlen : (fromP k l).length = l.length - placeP k l := by simp [fromP]
  have hsl : ∀ wx, (Instr.slice 22 (.slice (some ⟨g, 0, none⟩) l.length cap) (some (.int .i64 (placeP k l : Nat))) none none).run Try.prog wx = .ok (.slice (if cap = placeP k l then some ⟨g, 0, none⟩ else some ⟨g, placeP k l * 3, none⟩) (l.length - placeP k l) (cap - placeP k l)) wx := fun wx => by
    have := run_slice_l (P := Try.prog) (w := wx) 22 (some ⟨g, 0, none⟩) l.length cap slPair .i64 (placeP k l : Nat) (by omega) (by omega)
    rw [szPair] at this
    rw [this]
    show Result.ok (sliced (some ⟨g, 0, none⟩) (((placeP k l : Nat) : Int).toNat) l.length cap 3) wx = _
    unfold sliced
    rw [Int.toNat_natCast]
    split
    · rfl
    · rw [Option.map_some, Addr.add_lit, Nat.zero_add]
  refine ⟨if cap = placeP k l then some ⟨g, 0, none⟩ else some ⟨g, placeP k l * 3, none⟩, cap - placeP k l, fun wx => by rw [hlen]; exact hsl wx, fun wx hb => ⟨by unfold fromP; rw [List.length_drop]; omega, ?_⟩, ?_⟩
  · by_cases hc : cap = placeP k l
    · rw [if_pos hc]
      exact ⟨_, _, rfl, .inl (List.eq_nil_of_length_eq_zero (by omega))⟩
    · rw [if_neg hc]
      refine ⟨_, _, rfl, .inr ⟨_, _, rfl, fun i hi => ?_⟩⟩
      have hi2 : placeP k l + i < l.length := by omega
      obtain ⟨g', cap', hv, _, _, q0, q1, q2⟩ := row_pair h hi2
      injection hv with hv
      injection hv with hv
      injection hv with hv
      subst hv
      have e : (fromP k l)[i] = l[placeP k l + i] := by simp [fromP]
      rw [e, show placeP k l * 3 + i * 3 = (placeP k l + i) * 3 by omega]
      have tk : ∀ {o : Nat} {u : Value}, w.cell? ⟨g, o, none⟩ = some u → wx.cell? ⟨g, o, none⟩ = some u := fun {o u} hc => (hb.cell (World.block_lt_of_cell? w ⟨g, o, none⟩ hc)).trans hc
      exact ⟨tk q0, tk q1, tk q2⟩
  · split
    · exact ⟨_, rfl⟩
    · exact ⟨_, rfl⟩

set_option maxRecDepth 100000 in
set_option maxHeartbeats 2000000 in
theorem seek_any {w : World} {p : Nat} {l : List PairS} {B : Nat} (k : ByteArray) (h : TabAt7 w p l B) (hB : B ≤ w.heap.size) :
    Calls Try.prog 43 #[.pointer (some ⟨p, 0, none⟩), .string k] w fun e w' => ∃ a c, e = .returned (.slice a (fromP k l).length c) ∧ ReadP w' (.slice a (fromP k l).length c) (fromP k l) ∧ (∀ b o, a = some ⟨b, o, none⟩ → (fromP k l) ≠ [] → b < B) ∧ Below w.heap.size w w' := by
  obtain ⟨g, cap, hp, hown, hpB, hgB, hrise, hl⟩ := h
  have hmf : ∀ (fn : Fn) (first cap : Array Value) (w : World), (Instr.makeFunc fn first cap).run Try.prog w = .ok (.func fn first cap) w := fun _ _ _ _ => rfl
  have eg : ∀ args w, (callFunc 68 args).run Try.prog w = .ok (.enter 68 args) w := enters_of Try.func68 (by kernel_rfl) rfl
  obtain ⟨W0, hW0⟩ : ∃ W0, (w.alloc (.cells #[.pointer (some ⟨p, 0, none⟩)] 30)).alloc (.cells #[.string k] 9) = W0 := ⟨_, rfl⟩
  have hb0 : Below w.heap.size w W0 := by rw [← hW0]; exact ((Below.refl _ w).alloc (Nat.le_refl _) _).alloc (by simp) _
  have hsz : W0.heap.size = w.heap.size + 2 := by rw [← hW0]; simp
  have ht0 : W0.heap[w.heap.size]? = some (.cells #[.pointer (some ⟨p, 0, none⟩)] 30 (0, 0)) := by
    rw [← hW0, Below.heap_alloc _ _ _ (by simp)]; exact heap_alloc_new _ _
  have hk0 : W0.heap[w.heap.size + 1]? = some (.cells #[.string k] 9 (0, 0)) := by
    have := heap_alloc_new (w.alloc (.cells #[.pointer (some ⟨p, 0, none⟩)] 30)) (.cells #[.string k] 9)
    rw [World.size_alloc, hW0] at this
    exact this
  have hp0 := (hb0.block p (by omega)).trans hp
  have z0 : W0.cell? ⟨w.heap.size, 0, none⟩ = some (.pointer (some ⟨p, 0, none⟩)) := by rw [block_cell ht0]; rfl
  have z1 : W0.cell? ⟨w.heap.size + 1, 0, none⟩ = some (.string k) := by rw [block_cell hk0]; rfl
  have z2 : W0.cell? ⟨p, 0, none⟩ = some (.slice (some ⟨g, 0, none⟩) l.length cap) := by rw [block_cell hp0]; rfl
  have hS := Sh.sort_Search 68 #[.pointer (some ⟨w.heap.size, 0, none⟩), .pointer (some ⟨w.heap.size + 1, 0, none⟩)] l.length (fun i => !befB (l.getD i zeroP).key k) W0 eg (by omega) (fun m os i hi => by
    have old : ∀ {b o : Nat} {u : Value}, W0.cell? ⟨b, o, none⟩ = some u → (grow (W0.drewN m) os).cell? ⟨b, o, none⟩ = some u := fun {b o u} hc =>
      (World.cell?_of_block (w := W0) (a := ⟨b, o, none⟩) (heap_grow_old (W0.drewN m) os (World.block_lt_of_cell? W0 ⟨b, o, none⟩ hc))).trans hc
    obtain ⟨g', cap', hv, _, _, q0, _⟩ := row_pair hown hi
    injection hv with hv
    injection hv with hv
    injection hv with hv
    subst hv
    have e1 : l.getD i zeroP = l[i] := by simp [List.getD, hi]
    have q0' : W0.cell? ⟨g, i * 3, none⟩ = some (.string l[i].key) := (hb0.cell (World.block_lt_of_cell? w ⟨g, i * 3, none⟩ q0)).trans q0
    have hc := seekClo_any (old z0) (old z1) (old z2) (old q0') hi hl
    rw [e1]
    refine hc.mono ?_
    rintro e w' ⟨rfl, q, rfl⟩
    exact ⟨rfl, q, #[], by rw [grow_empty]⟩) (seek_mono hrise)
  rw [place_range hrise] at hS
  obtain ⟨a, c, hsl, hrd, o, rfl⟩ := from_slice k hown
  have HRD : Hid (∀ wx, Below w.heap.size w wx → ReadP wx (.slice (some ⟨g, o, none⟩) (fromP k l).length c) (fromP k l)) := hrd
  have HS := Lib.hid hS
  have HB0 := Lib.hid hb0
  have hplb : p < w.heap.size := block_lt hp
  have hle := placeP_le k l
  clear hS hrd hown hp0 ht0 hk0 hb0 hp
  generalize placeP k l = pl at *
  generalize (fromP k l).length = fl at *
  go_enter Try.func43, Try.ntmps43
  go_wp2_with fail
  refine HS.out.mono ?_
  rintro e w1 ⟨rfl, q, os, rfl⟩
  have hb1 : Below W0.heap.size W0 (grow (W0.drewN q) os) := below_grown_sl W0.heap.size W0 q os (Nat.le_refl _)
  have y0 : (grow (W0.drewN q) os).cell? ⟨w.heap.size, 0, none⟩ = some (.pointer (some ⟨p, 0, none⟩)) := (hb1.cell (by simp only; omega)).trans z0
  have y2 : (grow (W0.drewN q) os).cell? ⟨p, 0, none⟩ = some (.slice (some ⟨g, 0, none⟩) l.length cap) := (hb1.cell (by simp only; omega)).trans z2
  have B1 := Lib.hid (HB0.out.trans (hb1.mono (by omega)))
  clear hb1 z0 z1 z2
  generalize grow (W0.drewN q) os = w1 at *
  go_wp2
  go_ret
  exact ⟨some ⟨g, o, none⟩, c, rfl, HRD.out _ B1.out, fun b o' e _ => by injection e with e; injection e with e; omega, B1.out⟩
end Go.Proofs.Ytlakemcbfeogkaa

namespace Go.Proofs.Ytlakemcbfeogkaa
open Go.RowKit
set_option linter.unusedVariables false

theorem get_none {k : ByteArray} {l : List PairS} (h : fromP k l = []) : getP k l = none := by
  have h1 : l[placeP k l]? = none := by
    have := congrArg (fun r : List PairS => r[0]?) h
    simp only [fromP, List.getElem?_drop] at this
    simpa using this
  unfold getP thereP
  rw [h1]
  rfl
theorem get_cons {k : ByteArray} {l r : List PairS} {x : PairS} (h : fromP k l = x :: r) : getP k l = if x.key = k then some x else none := by
  have h1 : l[placeP k l]? = some x := by
    have := congrArg (fun r : List PairS => r[0]?) h
    simp only [fromP, List.getElem?_drop] at this
    simpa using this
  unfold getP thereP
  rw [h1]
  simp

set_option maxRecDepth 100000 in
set_option maxHeartbeats 1000000 in
theorem len7_any {w : World} {p : Nat} {l : List PairS} {B : Nat} (h : TabAt7 w p l B) :
    Calls Try.prog 14 #[.pointer (some ⟨p, 0, none⟩)] w fun e w' => e = .returned (.int .i64 (l.length : Nat)) ∧ Below w.heap.size w w' := by
  obtain ⟨g, cap, hp, hown, hpB, hgB, hrise, hl⟩ := h
  have z2 : w.cell? ⟨p, 0, none⟩ = some (.slice (some ⟨g, 0, none⟩) l.length cap) := by rw [block_cell hp]; rfl
  clear hown hp
  go_enter Try.func14, Try.ntmps14
  go_wp2
  go_ret
  exact ⟨rfl, Below.refl _ _⟩

set_option maxRecDepth 100000 in
set_option maxHeartbeats 1000000 in
theorem from7_any {w : World} {p : Nat} {l : List PairS} {B : Nat} (k : ByteArray) (h : TabAt7 w p l B) (hB : B ≤ w.heap.size) :
    Calls Try.prog 17 #[.pointer (some ⟨p, 0, none⟩), .string k] w fun e w' => ∃ g lb G, e = .returned (.func (.func g) #[] lb) ∧ (∀ args w, (callFunc g args).run Try.prog w = .ok (.enter g args) w) ∧ (∀ w'', Below w'.heap.size w' w'' → GivesP Fence.wide 4 g lb G (fromP k l) w'') ∧ (∀ j, G j → j < w'.heap.size) ∧ Below w.heap.size w w' ∧ ∀ j, G j → j < B ∨ w.heap.size ≤ j := by
  have hsk := seek_any k h hB
  clear h
  go_enter Try.func17, Try.ntmps17
  go_wp2_with fail
  refine hsk.mono ?_
  rintro e w1 ⟨a, c, rfl, hr, hb, b1⟩
  have hva := values_any hr
  have B1 := Lib.hid b1
  have HBB := Lib.hid hb
  have hs1 := b1.size
  clear hsk hr hb b1
  go_wp2_with fail
  refine hva.mono ?_
  rintro e w2 ⟨g, lb, G, rfl, eg, hg, hG, b2, hG2⟩
  have H2 : Hid ((∀ w'', Below w2.heap.size w2 w'' → GivesP Fence.wide 4 g lb G (fromP k l) w'') ∧ (∀ j, G j → j < w2.heap.size) ∧ ∀ j, G j → j < B ∨ w.heap.size ≤ j) := ⟨fun w'' hb => hg 4 (by omega) w'' (Keeps.of_below hb hG) hb.size, hG, fun j hj => by
    rcases hG2 j hj with h | ⟨b, o, ha, rfl, hne⟩
    · exact .inr (by omega)
    · exact .inl (HBB.out _ _ ha hne)⟩
  have B2 := Lib.hid (B1.out.trans (b2.mono B1.out.size))
  have EG := Lib.hid eg
  clear hva hg hG b2 hG2 eg
  go_wp2
  go_ret
  exact ⟨g, lb, G, rfl, EG.out, H2.out.1, H2.out.2.1, B2.out, H2.out.2.2⟩

set_option maxRecDepth 100000 in
set_option maxHeartbeats 2000000 in
theorem get7_any {w : World} {p : Nat} {l : List PairS} {B : Nat} (k : ByteArray) (h : TabAt7 w p l B) (hB : B ≤ w.heap.size) :
    Calls Try.prog 12 #[.pointer (some ⟨p, 0, none⟩), .string k] w fun e w' => e = .returned (.tuple #[((getP k l).getD zeroP).val', .bool (getP k l).isSome]) ∧ Below w.heap.size w w' := by
  have hb0 := (Below.refl _ w).alloc (Nat.le_refl _) (.cells #[.string ⟨#[]⟩, .string ⟨#[]⟩, .bool false] 39)
  have hnew := heap_alloc_new w (.cells #[.string ⟨#[]⟩, .string ⟨#[]⟩, .bool false] 39)
  have hsk := seek_any k (h.below (hb0.mono hB)) (by simp; omega)
  have HSK := Lib.hid hsk
  have HN := Lib.hid hnew
  have HB0 := Lib.hid hb0
  clear h hb0 hnew hsk
  go_enter Try.func12, Try.ntmps12
  go_wp2_with fail
  generalize w.alloc (.cells #[.string ⟨#[]⟩, .string ⟨#[]⟩, .bool false] 39) = w0 at *
  refine HSK.out.mono ?_
  rintro e w1 ⟨a, c, rfl, hr, -, b1⟩
  have hN1 := (b1.block _ (block_lt HN.out)).trans HN.out
  have B1 := Lib.hid (HB0.out.trans (b1.mono HB0.out.size))
  have f0 := block_free hN1 0
  have f1 := block_free hN1 1
  have f2 := block_free hN1 2
  have e0 : w1.cell? ⟨w.heap.size, 0, none⟩ = some (.string ⟨#[]⟩) := by rw [block_cell hN1]; rfl
  have e1 : w1.cell? ⟨w.heap.size, 1, none⟩ = some (.string ⟨#[]⟩) := by rw [block_cell hN1]; rfl
  have e2 : w1.cell? ⟨w.heap.size, 2, none⟩ = some (.bool false) := by rw [block_cell hN1]; rfl
  clear HSK HN b1 hN1
  cases hfr : fromP k l with
  | nil =>
    have HG := Lib.hid (get_none hfr)
    rw [hfr] at hr
    clear hr
    go_wp2
    (try simp only [Exit.inBlock, Exit.then])
    refine bodyPost_ret (v := .tuple #[zeroP.val', .bool false]) ?_ rfl ⟨by rw [HG.out]; rfl, ?_⟩
    · rw [results_cell_tmp rfl]
      go_simp
      rfl
    · exact ((B1.out.setCell (Nat.le_refl _) _).setCell (Nat.le_refl _) _).setCell (Nat.le_refl _) _
  | cons x r =>
    have HG := Lib.hid (get_cons hfr)
    rw [hfr] at hr
    have hlen : 0 < (x :: r).length := by simp
    obtain ⟨b, o, rfl, q0, q1, q2⟩ := hr.at hlen
    simp only [List.getElem_cons_zero, Nat.zero_mul, Nat.add_zero] at q0 q1 q2
    generalize (x :: r).length = n at *
    have hn0 : ((n : Int) == 0) = false := by simp; omega
    clear hr
    obtain ⟨xk, xv, xg⟩ := x
    simp only at q0 q1 q2 HG
    by_cases hk : xk = k
    · have hkb : (xk.toList == k.toList) = true := by rw [keyEq, decide_eq_true hk]
      go_wp2
      (try simp only [Exit.inBlock, Exit.then])
      refine bodyPost_ret (v := .tuple #[.agg #[.string xk, .string xv, .bool xg], .bool true]) ?_ rfl ⟨by rw [HG.out, if_pos hk]; rfl, ?_⟩
      · rw [results_cell_tmp rfl]
        go_simp
      · exact ((B1.out.setCell (Nat.le_refl _) _).setCell (Nat.le_refl _) _).setCell (Nat.le_refl _) _
    · have hkb : (xk.toList == k.toList) = false := by rw [keyEq, decide_eq_false hk]
      go_wp2
      (try simp only [Exit.inBlock, Exit.then])
      refine bodyPost_ret (v := .tuple #[zeroP.val', .bool false]) ?_ rfl ⟨by rw [HG.out, if_neg hk]; rfl, ?_⟩
      · rw [results_cell_tmp rfl]
        go_simp
        rfl
      · exact ((B1.out.setCell (Nat.le_refl _) _).setCell (Nat.le_refl _) _).setCell (Nat.le_refl _) _

/-- What a table's calls do. -/
theorem tableK : TableK TabAt7 where
  below h hb := h.below hb
  build h hc hn := build_any h hc hn
  opn s w hs := open_any s w hs
  len h hB := len7_any h
  get k h hB := get7_any k h hB
  seq k h hB hk := from7_any k h hB
end Go.Proofs.Ytlakemcbfeogkaa
