/- Joined: R08 R08b R08c R08d R08e R08f M08 M08b. -/
import Derived.Test.YtebiipmaimdocaaG5
import Derived.WalkArith
import Derived.OpenShut
import Derived.Test.YtebiipmaimdocaaG1
import Derived.Test.YtebiipmaimdocaaG2

namespace Go.Proofs.Ytebiipmaimdocaa
open Go.RowKit
set_option linter.unusedVariables false

/-- The pairs that are not gone. -/
def liveP (l : List PairS) : List PairS := l.filter fun x => !x.gone
theorem liveP_next {l : List PairS} {i : Nat} (h : i < l.length) : liveP (l.take (i + 1)) = if l[i].gone then liveP (l.take i) else liveP (l.take i) ++ [l[i]] := by
  rw [List.take_succ_eq_append_getElem h]
  unfold liveP
  rw [List.filter_append]
  cases hg : l[i].gone <;> simp [hg]
theorem liveP_len (l : List PairS) : (liveP l).length ≤ l.length := List.length_filter_le _ _
/-- Is a pair below the bound? -/
def belowTo (to : ByteArray) (x : PairS) : Bool := decide (to.size = 0) || befB x.key to
def someP (l : List PairS) (to : ByteArray) (most : Int) : List PairS := (l.takeWhile (belowTo to)).take most.toNat
theorem toList_none {k : ByteArray} (h : k.size = 0) : k.toList.isEmpty = true := by rw [toList_nil.2 h]; rfl
theorem toList_some {k : ByteArray} (h : ¬ k.size = 0) : k.toList.isEmpty = false := by
  have : ¬ k.toList = [] := fun e => h (toList_nil.1 e)
  simpa using this
/-- The first k pairs are below the bound, as many as are wanted, so far. -/
theorem some_stop {l : List PairS} {to : ByteArray} {most : Int} {i : Nat} (hi : i ≤ l.length) (hb : ∀ x ∈ l.take i, belowTo to x = true) (hm : (i : Int) ≤ max 0 most)
    (hs : i = l.length ∨ most ≤ (i : Int) ∨ ∃ h : i < l.length, belowTo to l[i] = false) : someP l to most = l.take i := by
  have e1 : ∀ k, (∀ x ∈ l.take k, belowTo to x = true) → k ≤ l.length → (l.takeWhile (belowTo to)).take k = l.take k := by
    intro k hk hkl
    have : l.takeWhile (belowTo to) = l.take k ++ (l.drop k).takeWhile (belowTo to) := by
      conv => lhs; rw [← List.take_append_drop k l]
      rw [List.takeWhile_append_of_pos hk]
    rw [this, List.take_append_of_le_length (by rw [List.length_take]; omega), List.take_take]
    congr 1; omega
  unfold someP
  rcases hs with hs | hs | ⟨h, hs⟩
  · subst hs
    rw [List.take_length] at hb
    have e2 : l.takeWhile (belowTo to) = l := by
      have := e1 l.length (by rw [List.take_length]; exact hb) (Nat.le_refl _)
      rw [List.take_length] at this
      have h3 : (l.takeWhile (belowTo to)).length ≤ l.length := (List.takeWhile_prefix _).length_le
      rwa [List.take_of_length_le h3] at this
    rw [e2, List.take_length, List.take_of_length_le (by omega)]
  · have : most.toNat = i := by omega
    rw [this, e1 i hb hi]
  · have e2 : l.takeWhile (belowTo to) = l.take i := by
      conv => lhs; rw [← List.take_append_drop i l]
      rw [List.takeWhile_append_of_pos hb, List.drop_eq_getElem_cons h, List.takeWhile_cons, hs]
      simp
    rw [e2, List.take_take]
    congr 1
    omega

set_option maxHeartbeats 1000000 in
set_option maxRecDepth 100000 in
theorem rlive_any {w : World} {a : Option Addr} {c : Nat} {l : List PairS} (h : ReadP w (.slice a l.length c) l) (hN : l.length ≤ 3518437208780) :
    Calls Try.prog 17 #[.slice a l.length c] w fun e w' => ∃ v, e = .returned v ∧ w'.ownsRow w.heap.size 29 3 v (liveP l).length (rowP (liveP l)) ∧ Below w.heap.size w w' := by
  obtain ⟨i0, hi, hz0, hz1, hz2⟩ := info_parts infoPair
  have H := Lib.hid h
  clear h
  go_enter Try.func17, Try.ntmps17
  go_wp2
  go_loopw [3, 4] (fun v iv wr => ∃ i : Nat, i ≤ l.length ∧ iv = .int .i64 (i : Int) ∧ wr.ownsRow w.heap.size 29 3 v (liveP (l.take i)).length (rowP (liveP (l.take i))) ∧ Hid (Below w.heap.size w wr)) (fun _ iv _ => l.length - (intOf iv).toNat)
  case atStart => exact ⟨0, Nat.zero_le _, rfl, World.ownsRow_nil _ _ _ _, Below.refl _ _⟩
  case round =>
    obtain ⟨i, hil, rfl, hown, HB⟩ := hrel
    by_cases hlt : i < l.length
    · obtain ⟨b, o, rfl, q0, q1, q2⟩ := H.out.in HB.out hlt
      have hnx := liveP_next hlt
      have hll := liveP_len (l.take i)
      rw [List.length_take] at hll
      have hws := HB.out.size
      have hmes : l.length - (intOf (.int .i64 ((i : Int) + 1))).toNat < l.length - (intOf (.int .i64 (i : Int))).toNat := by simp [intOf]; omega
      generalize l[i] = X at *
      obtain ⟨xk, xv, xg⟩ := X
      simp only at q0 q1 q2 hnx
      generalize liveP (l.take i) = L at *
      cases xg with
      | true =>
        rw [if_pos rfl] at hnx
        have HNX := Lib.hid hnx
        clear hnx
        go_wp2
        go_roundw
        case rel => exact ⟨i + 1, by omega, by go_num, by rw [HNX.out]; exact hown, HB⟩
        case measure => exact hmes
      | false =>
        rw [if_neg (by simp)] at hnx
        have HNX := Lib.hid hnx
        clear hnx
        go_wp2_with (at_builtin; go_loud (refine wpList_append_own _ rfl (.tmp 17) (.tmp 22) 26 rfl w.heap.size 29 i0 _ 3 40 Try.underlying26 hi hz0 hz1 hz2 rfl (by decide) _ _ _ rfl (hown.alloc _) ⟨wr.heap.size, 0, none⟩ 1 1 [.string xk, .string xv, .bool false] rfl rfl (cells_new wr ⟨xk, xv, false⟩) (three_one ⟨xk, xv, false⟩) ?a3 ?a4 ?a5 ?_))
        case a3 => unfold maxLen; omega
        case a4 => omega
        case a5 => first | omega | (simp; omega)
        intro v' w4 hown' hgrow _
        have hrow' : w4.ownsRow w.heap.size 29 3 v' (L ++ [(⟨xk, xv, false⟩ : PairS)]).length (rowP (L ++ [(⟨xk, xv, false⟩ : PairS)])) := by
          rw [List.length_append, rowP_snoc]
          exact hown'
        have HB4 := Lib.hid ((HB.out.alloc hws _).grown hgrow (by simp; omega) (fun j hj => (hown.lt j hj).1))
        clear hown' hgrow hi hown
        go_wp2
        go_roundw
        case rel => exact ⟨i + 1, by omega, by go_num, by rw [HNX.out]; exact hrow', HB4.out⟩
        case measure => exact hmes
    · obtain rfl : i = l.length := by omega
      rw [List.take_length] at hown
      have HO := Lib.hid hown
      clear hown hi
      go_wp2
      go_ret
      exact ⟨_, rfl, HO.out, HB.out⟩
end Go.Proofs.Ytebiipmaimdocaa

namespace Go.Proofs.Ytebiipmaimdocaa
open Go.RowKit
set_option linter.unusedVariables false

set_option maxHeartbeats 1000000 in
set_option maxRecDepth 100000 in
theorem rsome_any {w : World} {a : Option Addr} {c : Nat} {l : List PairS} (h : ReadP w (.slice a l.length c) l) (hN : l.length ≤ 3518437208780) (to : ByteArray) (most : Int) (hm : (Lit.int .i64 most).wf = true) :
    Calls Try.prog 19 #[.slice a l.length c, .string to, .int .i64 most] w fun e w' => ∃ v, e = .returned v ∧ w'.ownsRow w.heap.size 29 3 v (someP l to most).length (rowP (someP l to most)) ∧ Below w.heap.size w w' := by
  have hmb := bounds_i64 hm
  obtain ⟨i0, hi, hz0, hz1, hz2⟩ := info_parts infoPair
  have H := Lib.hid h
  have HS : Hid (∀ i, i ≤ l.length → (∀ x ∈ l.take i, belowTo to x = true) → (i : Int) ≤ max 0 most → (i = l.length ∨ most ≤ (i : Int) ∨ ∃ h : i < l.length, belowTo to l[i] = false) → someP l to most = l.take i) := fun i h1 h2 h3 h4 => some_stop h1 h2 h3 h4
  clear h hm
  go_enter Try.func19, Try.ntmps19
  go_wp2
  go_loopw [7, 8] (fun v iv wr => ∃ i : Nat, i ≤ l.length ∧ iv = .int .i64 (i : Int) ∧ wr.ownsRow w.heap.size 29 3 v i (rowP (l.take i)) ∧ Hid ((∀ x ∈ l.take i, belowTo to x = true) ∧ (i : Int) ≤ max 0 most ∧ Below w.heap.size w wr)) (fun _ iv _ => l.length - (intOf iv).toNat)
  case atStart => exact ⟨0, Nat.zero_le _, rfl, World.ownsRow_nil _ _ _ _, (fun x hx => by simp at hx), by omega, Below.refl _ _⟩
  case round =>
    obtain ⟨i, hil, rfl, hown, HI⟩ := hrel
    obtain ⟨va, vc, rfl⟩ := row_slice hown
    have HOW : ∀ q, someP l to most = q → q = l.take i → wr.ownsRow w.heap.size 29 3 (.slice va i vc) (someP l to most).length (rowP (someP l to most)) := fun q h1 h2 => by
      rw [h1, h2, List.length_take, show min i l.length = i by omega]; exact hown
    have HOO := Lib.hid HOW
    clear HOW
    by_cases hlt : i < l.length
    · by_cases hmo : (i : Int) < most
      · obtain ⟨b, o, rfl, q0, q1, q2⟩ := H.out.in HI.out.2.2 hlt
        have hws := HI.out.2.2.size
        have hmes : l.length - (intOf (.int .i64 ((i : Int) + 1))).toNat < l.length - (intOf (.int .i64 (i : Int))).toNat := by simp [intOf]; omega
        have HTK : Hid (l.take (i + 1) = l.take i ++ [l[i]]) := List.take_succ_eq_append_getElem hlt
        have HST : Hid (belowTo to l[i] = false → someP l to most = l.take i) := fun h => HS.out i hil HI.out.1 HI.out.2.1 (.inr (.inr ⟨hlt, h⟩))
        generalize l[i] = X at *
        obtain ⟨xk, xv, xg⟩ := X
        simp only at q0 q1 q2
        by_cases hgo : belowTo to ⟨xk, xv, xg⟩ = true
        · have hc : to.toList.isEmpty = true ∨ (to.toList.isEmpty = false ∧ befB xk to = true) := by
            unfold belowTo at hgo
            by_cases h0 : to.size = 0
            · exact .inl (toList_none h0)
            · rw [decide_eq_false h0, Bool.false_or] at hgo
              exact .inr ⟨toList_some h0, hgo⟩
          have HAL : Hid (∀ x ∈ l.take (i + 1), belowTo to x = true) := fun x hx => by
            rw [HTK.out] at hx
            rcases List.mem_append.1 hx with hx | hx
            · exact HI.out.1 x hx
            · rw [List.mem_singleton.1 hx]; exact hgo
          clear hgo
          unfold befB at hc
          rcases hc with hc | ⟨hc, hc2⟩
          · go_wp2_with (at_builtin; go_loud (refine wpList_append_own _ rfl (.tmp 34) (.tmp 39) 26 rfl w.heap.size 29 i0 _ 3 40 Try.underlying26 hi hz0 hz1 hz2 rfl (by decide) _ _ _ rfl (hown.alloc _) ⟨wr.heap.size, 0, none⟩ 1 1 [.string xk, .string xv, .bool xg] rfl rfl (cells_new wr ⟨xk, xv, xg⟩) (three_one ⟨xk, xv, xg⟩) ?a3 ?a4 ?a5 ?_))
            case a3 => unfold maxLen; omega
            case a4 => omega
            case a5 => first | omega | (simp; omega)
            intro v' w4 hown' hgrow _
            have hrow' : w4.ownsRow w.heap.size 29 3 v' (i + 1) (rowP (l.take (i + 1))) := by
              rw [HTK.out, rowP_snoc]
              exact hown'
            have HB4 := Lib.hid ((HI.out.2.2.alloc hws _).grown hgrow (by simp; omega) (fun j hj => (hown.lt j hj).1))
            clear hown' hgrow hi hown
            go_wp2
            go_roundw
            case rel => exact ⟨i + 1, by omega, by go_num, hrow', HAL.out, by omega, HB4.out⟩
            case measure => exact hmes
          · go_wp2_with (at_builtin; go_loud (refine wpList_append_own _ rfl (.tmp 34) (.tmp 39) 26 rfl w.heap.size 29 i0 _ 3 40 Try.underlying26 hi hz0 hz1 hz2 rfl (by decide) _ _ _ rfl (hown.alloc _) ⟨wr.heap.size, 0, none⟩ 1 1 [.string xk, .string xv, .bool xg] rfl rfl (cells_new wr ⟨xk, xv, xg⟩) (three_one ⟨xk, xv, xg⟩) ?b3 ?b4 ?b5 ?_))
            case b3 => unfold maxLen; omega
            case b4 => omega
            case b5 => first | omega | (simp; omega)
            intro v' w4 hown' hgrow _
            have hrow' : w4.ownsRow w.heap.size 29 3 v' (i + 1) (rowP (l.take (i + 1))) := by
              rw [HTK.out, rowP_snoc]
              exact hown'
            have HB4 := Lib.hid ((HI.out.2.2.alloc hws _).grown hgrow (by simp; omega) (fun j hj => (hown.lt j hj).1))
            clear hown' hgrow hi hown
            go_wp2
            go_roundw
            case rel => exact ⟨i + 1, by omega, by go_num, hrow', HAL.out, by omega, HB4.out⟩
            case measure => exact hmes
        · have hgo2 : belowTo to ⟨xk, xv, xg⟩ = false := by simpa using hgo
          have HSP := Lib.hid (HST.out hgo2)
          obtain ⟨hc, hc2⟩ : to.toList.isEmpty = false ∧ befB xk to = false := by
            unfold belowTo at hgo2
            by_cases h0 : to.size = 0
            · rw [decide_eq_true h0] at hgo2; cases hgo2
            · rw [decide_eq_false h0, Bool.false_or] at hgo2
              exact ⟨toList_some h0, hgo2⟩
          clear hgo hgo2 hi hown
          unfold befB at hc2
          go_wp2
          go_ret
          exact ⟨_, rfl, HOO.out _ HSP.out rfl, HI.out.2.2⟩
      · have HSP := Lib.hid (HS.out i hil HI.out.1 HI.out.2.1 (.inr (.inl (by omega))))
        clear hi hown
        go_wp2
        go_ret
        exact ⟨_, rfl, HOO.out _ HSP.out rfl, HI.out.2.2⟩
    · have HSP := Lib.hid (HS.out i hil HI.out.1 HI.out.2.1 (.inl (by omega)))
      clear hi hown
      go_wp2
      go_ret
      exact ⟨_, rfl, HOO.out _ HSP.out rfl, HI.out.2.2⟩
end Go.Proofs.Ytebiipmaimdocaa

namespace Go.Proofs.Ytebiipmaimdocaa
open Go.RowKit
set_option linter.unusedVariables false

/-- Lists of pairs in a row that can be read. -/
def ReadL (w : World) (x : Value) (ls : List (List PairS)) : Prop :=
  ls.length ≤ 9223372036854775807 ∧ ∃ a c, x = .slice a ls.length c ∧ (ls = [] ∨ ∃ b o, a = some ⟨b, o, none⟩ ∧ ∀ i (h : i < ls.length), ∃ v, w.cell? ⟨b, o + i, none⟩ = some v ∧ ReadP w v ls[i])
theorem ReadL.below {w w' : World} {x : Value} {ls : List (List PairS)} (h : ReadL w x ls) (t : Below w.heap.size w w') : ReadL w' x ls := by
  obtain ⟨hm, a, c, rfl, h1⟩ := h
  refine ⟨hm, a, c, rfl, ?_⟩
  rcases h1 with h1 | ⟨b, o, rfl, h1⟩
  · exact .inl h1
  · refine .inr ⟨b, o, rfl, fun i hi => ?_⟩
    obtain ⟨v, q, r⟩ := h1 i hi
    exact ⟨v, (t.cell (World.block_lt_of_cell? w ⟨b, o + i, none⟩ q)).trans q, r.below t⟩
theorem ReadL.at {w wr : World} {a : Option Addr} {n c : Nat} {ls : List (List PairS)} (h : ReadL w (.slice a n c) ls) (t : Below w.heap.size w wr) {i : Nat} (hi : i < ls.length) : ∃ b o v, a = some ⟨b, o, none⟩ ∧ wr.cell? ⟨b, o + i, none⟩ = some v ∧ ReadP wr v ls[i] := by
  obtain ⟨hm, a', c', hv, h1⟩ := h
  injection hv with h2 h3 h4
  subst h2
  rcases h1 with rfl | ⟨b, o, rfl, h1⟩
  · simp at hi
  · obtain ⟨v, q, r⟩ := h1 i hi
    exact ⟨b, o, v, rfl, (t.cell (World.block_lt_of_cell? w ⟨b, o + i, none⟩ q)).trans q, r.below t⟩

/-- How many pairs lists have together. -/
def sumL8 (ls : List (List PairS)) : Nat := (ls.map List.length).sum
/-- The pairs of the lists from the i-th on, the last list first. -/
def revP (ls : List (List PairS)) (i : Nat) : List PairS := (ls.drop i).reverse.flatten
def allP (ls : List (List PairS)) : List PairS := putsP (revP ls 0)
theorem revP_all (ls : List (List PairS)) : revP ls ls.length = [] := by simp [revP]
theorem revP_next {ls : List (List PairS)} {i : Nat} (h : i < ls.length) : revP ls i = revP ls (i + 1) ++ ls[i] := by
  unfold revP
  rw [List.drop_eq_getElem_cons h, List.reverse_cons, List.flatten_append]
  simp
theorem revP_len (ls : List (List PairS)) (i : Nat) : (revP ls i).length ≤ sumL8 ls := by
  have h1 : (revP ls i).length = sumL8 (ls.drop i) := by
    unfold revP sumL8
    rw [List.length_flatten, List.map_reverse, List.sum_reverse]
  have h2 : sumL8 ls = sumL8 (ls.take i) + sumL8 (ls.drop i) := by
    unfold sumL8
    rw [← List.sum_append, ← List.map_append, List.take_append_drop]
  omega
theorem puts_snoc (l : List PairS) (x : PairS) : putsP (l ++ [x]) = putIf x (putsP l) := putsP_snoc l x
theorem puts_len (l : List PairS) : (putsP l).length ≤ l.length := by
  have := putsP_len l l.length
  rwa [List.take_length] at this

/-- A table of the reference that the call alone has. -/
def OwnT (w wr : World) (q : Nat) (l : List PairS) : Prop := ∃ F, RTabAt wr q l F ∧ (∀ j, F j → w.heap.size ≤ j ∧ j < wr.heap.size) ∧ Below w.heap.size w wr
theorem OwnT.new (w w0 : World) (h : Below w.heap.size w w0) : OwnT w (w0.alloc (.cells #[.slice none 0 0] 46)) w0.heap.size [] :=
  ⟨fun j => j = w0.heap.size, ⟨_, heap_alloc_new _ _, World.ownsRow_nil _ _ _ _, rfl, fun k hk => by simp [Value.ownBlock] at hk⟩, fun j hj => ⟨by have := h.size; omega, by simp; omega⟩, h.alloc h.size _⟩
theorem OwnT.later {w wr w' : World} {q : Nat} {l : List PairS} (h : OwnT w wr q l) (t : Below wr.heap.size wr w') : OwnT w w' q l := by
  obtain ⟨F, h1, h2, h3⟩ := h
  exact ⟨F, h1.below t, fun j hj => ⟨(h2 j hj).1, by have := (h2 j hj).2; have := t.size; omega⟩, h3.trans (t.mono h3.size)⟩
theorem OwnT.below {w wr : World} {q : Nat} {l : List PairS} (h : OwnT w wr q l) : Below w.heap.size w wr := by obtain ⟨F, _, _, h3⟩ := h; exact h3
theorem OwnT.put {w wr : World} {q : Nat} {l : List PairS} (h : OwnT w wr q l) (x : PairS) (hz : l.length < 3518437208880) :
    Calls Try.prog 20 #[.pointer (some ⟨q, 0, none⟩), x.val'] wr fun e w' => e = .returned (.int .i64 (wrongP x : Nat)) ∧ OwnT w w' q (putIf x l) := by
  obtain ⟨F, h1, h2, h3⟩ := h
  refine (rput5_any h1 x hz).mono ?_
  rintro e w' ⟨rfl, hA, tA⟩
  have hs4 := h3.size
  have hs5 := tA.size
  refine ⟨rfl, _, hA, fun j hj => ?_, h3.trans (tA.below (fun j hj => (h2 j hj).1) hs4)⟩
  rcases hj with hj | hj
  · exact ⟨(h2 j hj).1, by have := (h2 j hj).2; omega⟩
  · exact ⟨by omega, hj.2⟩

set_option maxHeartbeats 2000000 in
set_option maxRecDepth 100000 in
theorem rall_any {w : World} {a : Option Addr} {c : Nat} {ls : List (List PairS)} (h : ReadL w (.slice a ls.length c) ls) (hN : sumL8 ls ≤ 3518437208780) :
    Calls Try.prog 14 #[.slice a ls.length c] w fun e w' => ∃ v, e = .returned v ∧ w'.ownsRow 0 29 3 v (allP ls).length (rowP (allP ls)) ∧ Below w.heap.size w w' := by
  have hm := h.1
  have hst := OwnT.new w w (Below.refl _ w)
  have H := Lib.hid h
  have HST := Lib.hid hst
  have hwr : ∀ m : Int, m = (ls.length : Int) - 1 → wrap64 m = (ls.length : Int) - 1 := by
    rintro m rfl
    exact IntWalk.wrap64_in _ (by omega)
  clear h hst
  go_enter Try.func14, Try.ntmps14
  go_wp2
  generalize w.alloc (.cells #[.slice none 0 0] 46) = w0 at *
  go_loopw [4] (fun iv wr => ∃ m : Nat, m ≤ ls.length ∧ iv = .int .i64 ((m : Int) - 1) ∧ Hid (OwnT w wr w.heap.size (putsP (revP ls m)))) (fun iv _ => (intOf iv + 1).toNat)
  case atStart => exact ⟨ls.length, Nat.le_refl _, by first | rfl | simp, by rw [revP_all]; exact HST.out⟩
  case round =>
    clear HST
    obtain ⟨m, hml, rfl, HR⟩ := hrel
    cases m with
    | zero =>
      obtain ⟨F, ⟨v, h1⟩, h2, h3⟩ := HR.out
      have c0 := h1.c0
      have HV : Hid (wr.ownsRow 0 29 3 v (allP ls).length (rowP (allP ls))) := h1.row
      have HB := Lib.hid h3
      obtain ⟨va, vc, rfl⟩ := row_slice h1.row
      clear h1 h2 h3 HR
      go_wp2
      go_ret
      exact ⟨_, rfl, HV.out, HB.out⟩
    | succ j =>
      have hj1 : (((j + 1 : Nat) : Int) - 1) = (j : Int) := by omega
      rw [hj1]
      have hjl : j < ls.length := by omega
      have HRN := Lib.hid (revP_next hjl)
      have hwj : ∀ m : Int, m = (j : Int) - 1 → wrap64 m = (j : Int) - 1 := by
        rintro m rfl
        exact IntWalk.wrap64_in _ (by omega)
      go_wp2
      go_loopw [5] (fun kv wr => ∃ k : Nat, k ≤ ls[j].length ∧ kv = .int .i64 (k : Int) ∧ Hid (OwnT w wr w.heap.size (putsP (revP ls (j + 1) ++ ls[j].take k)))) (fun kv _ => ls[j].length - (intOf kv).toNat)
      case atStart => exact ⟨0, Nat.zero_le _, rfl, by rw [List.take_zero, List.append_nil]; exact HR.out⟩
      case round =>
        clear HR
        obtain ⟨k, hkl, rfl, HR⟩ := hrel
        obtain ⟨b, o, v, rfl, qv, hrp⟩ := H.out.at HR.out.below hjl
        have hrl := revP_len ls j
        rw [HRN.out, List.length_append] at hrl
        have hmx : ls[j].length ≤ 9223372036854775807 := by have := hrp.1; unfold maxLen at this; omega
        obtain ⟨a2, c2, rfl⟩ := hrp.slice
        have hj0 : (0 : Int) ≤ (j : Int) := Int.natCast_nonneg _
        have hjl2 : (j : Int) < (ls.length : Int) := by omega
        by_cases hlt : k < ls[j].length
        · obtain ⟨b2, o2, rfl, q0, q1, q2⟩ := hrp.at hlt
          have HPN : Hid (putsP (revP ls (j + 1) ++ ls[j].take (k + 1)) = putIf ls[j][k] (putsP (revP ls (j + 1) ++ ls[j].take k))) := by
            show _ = _
            rw [List.take_succ_eq_append_getElem hlt, ← List.append_assoc, puts_snoc]
          have hpl := puts_len (revP ls (j + 1) ++ ls[j].take k)
          rw [List.length_append, List.length_take] at hpl
          have hmes : ls[j].length - (intOf (.int .i64 ((k : Int) + 1))).toNat < ls[j].length - (intOf (.int .i64 (k : Int))).toNat := by simp [intOf]; omega
          generalize putsP (revP ls (j + 1) ++ ls[j].take k) = L at *
          generalize ls[j][k] = X at *
          obtain ⟨xk, xv, xg⟩ := X
          simp only at q0 q1 q2
          have HPT := Lib.hid (HR.out.put ⟨xk, xv, xg⟩ (by omega))
          clear hrp hrl hpl
          go_wp2_with fail
          refine HPT.out.mono ?_
          rintro e w5 ⟨rfl, h5⟩
          have H5 := Lib.hid h5
          clear h5 q0 q1 q2 qv
          go_wp2
          go_roundw
          case rel => exact ⟨k + 1, by omega, by go_num, by rw [HPN.out]; exact H5.out⟩
          case measure => exact hmes
        · obtain rfl : k = ls[j].length := by omega
          rw [List.take_length, ← HRN.out] at HR
          clear hrp hrl
          go_wp2
          go_roundw
          case rel => exact ⟨j, by omega, rfl, HR.out⟩
          case measure => first | (simp [intOf]; done) | (simp [intOf]; omega)
end Go.Proofs.Ytebiipmaimdocaa

namespace Go.Proofs.Ytebiipmaimdocaa
open Go.RowKit
set_option linter.unusedVariables false

theorem infoSl : (Try.prog.info? 26).map (fun i => (i.zero, i.size, i.bytes)) = some (some (.slice none 0 0), 1, 24) := by kernel_rfl
theorem rows_apart {w : World} {b1 b2 : Nat} {E1 E2 : TypeId} {s1 s2 : Nat} {v1 v2 : Value} {n1 n2 : Nat} {x1 x2 : List Value} (h1 : w.ownsRow b1 E1 s1 v1 n1 x1) (h2 : w.ownsRow b2 E2 s2 v2 n2 x2) (hE : E1 ≠ E2) : v1.ownBlock = none ∨ v1.ownBlock ≠ v2.ownBlock := by
  rcases h1.2 with ⟨rfl, _⟩ | ⟨g, cap, cur, rfl, _, hg, _⟩
  · exact .inl rfl
  · rcases h2.2 with ⟨rfl, _⟩ | ⟨g2, cap2, cur2, rfl, _, hg2, _⟩
    · exact .inr (by simp [Value.ownBlock])
    · refine .inr (fun e => ?_)
      simp [Value.ownBlock] at e
      subst e
      rw [hg] at hg2
      injection hg2 with hg2
      injection hg2 with _ e2
      exact hE e2
/-- Lists of pairs that the call alone has. -/
structure OwnL (w : World) (base : Nat) (v : Value) (xs : List Value) (ls : List (List PairS)) : Prop where
  row : w.ownsRow base 26 1 v ls.length xs
  each : ∀ i (h : i < ls.length), ∃ u, xs[i]? = some u ∧ w.ownsRow 0 29 3 u ls[i].length (rowP ls[i])
theorem OwnL.nil (w : World) (base : Nat) : OwnL w base (.slice none 0 0) [] [] := ⟨World.ownsRow_nil _ _ _ _, fun i h => by simp at h⟩
theorem OwnL.below {w w' : World} {base : Nat} {v : Value} {xs : List Value} {ls : List (List PairS)} (h : OwnL w base v xs ls) (t : Below w.heap.size w w') : OwnL w' base v xs ls :=
  ⟨ownsRow_below h.row t, fun i hi => by obtain ⟨u, h1, h2⟩ := h.each i hi; exact ⟨u, h1, ownsRow_below h2 t⟩⟩
theorem OwnL.read {w : World} {base : Nat} {v : Value} {xs : List Value} {ls : List (List PairS)} (h : OwnL w base v xs ls) : ReadL w v ls := by
  have hr := h.row
  rcases h.row.2 with ⟨rfl, h0⟩ | ⟨g, cap, cur, rfl, _, hg, hle, hcm, _⟩
  · have : ls = [] := List.eq_nil_of_length_eq_zero h0
    subst this
    exact ⟨by simp, none, 0, rfl, .inl rfl⟩
  · refine ⟨by unfold maxLen at hcm; omega, some ⟨g, 0, none⟩, cap, rfl, .inr ⟨g, 0, rfl, fun i hi => ?_⟩⟩
    obtain ⟨u, h1, h2⟩ := h.each i hi
    rw [Nat.zero_add]
    exact ⟨u, (hr.cellAt i (by omega)).trans h1, ReadP.own h2⟩
theorem OwnL.add {w w' : World} {base : Nat} {v v' : Value} {xs : List Value} {ls : List (List PairS)} {u : Value} {l : List PairS} (h : OwnL w base v xs ls) (hu : w.ownsRow 0 29 3 u l.length (rowP l)) (hg : w.grownBy w' v.ownBlock) (ho : w'.ownsRow base 26 1 v' (ls.length + 1) (xs ++ [u])) : OwnL w' base v' (xs ++ [u]) (ls ++ [l]) := by
  have hne : (29 : TypeId) ≠ 26 := by decide
  have hxl : xs.length = ls.length := by have := h.row.1; omega
  refine ⟨by rw [List.length_append]; exact ho, fun i hi => ?_⟩
  by_cases hlt : i < ls.length
  · obtain ⟨x, h1, h2⟩ := h.each i hlt
    refine ⟨x, by rw [List.getElem?_append_left (by omega)]; exact h1, ?_⟩
    rw [List.getElem_append_left hlt]
    exact h2.kept hg (rows_apart h2 h.row hne)
  · have : i = ls.length := by rw [List.length_append] at hi; simp at hi; omega
    subst this
    refine ⟨u, by rw [← hxl]; simp, ?_⟩
    rw [List.getElem_append_right (Nat.le_refl _)]
    simp only [Nat.sub_self, List.getElem_cons_zero]
    exact hu.kept hg (rows_apart hu h.row hne)
/-- Each list's pairs, put. -/
def ordP (ls : List (List PairS)) : List (List PairS) := ls.map putsP
theorem ordP_next {ls : List (List PairS)} {i : Nat} (h : i < ls.length) : ordP (ls.take (i + 1)) = ordP (ls.take i) ++ [putsP ls[i]] := by
  rw [List.take_succ_eq_append_getElem h]
  unfold ordP
  rw [List.map_append]
  rfl
theorem ordP_len (ls : List (List PairS)) : (ordP ls).length = ls.length := by simp [ordP]
theorem one_slice (u : Value) (a : Option Addr) (n c : Nat) (h : u = .slice a n c) : ∀ x ∈ [u], x.oneCell' = true := by intro x hx; simp at hx; subst hx; subst h; rfl

set_option maxHeartbeats 2000000 in
set_option maxRecDepth 100000 in
theorem ordered_any {w : World} {a : Option Addr} {c : Nat} {ls : List (List PairS)} (h : ReadL w (.slice a ls.length c) ls) (hN : ls.length ≤ 3518437208780) (hM : ∀ l ∈ ls, l.length ≤ 3518437208780) :
    Calls Try.prog 9 #[.slice a ls.length c] w fun e w' => ∃ v xs, e = .returned v ∧ OwnL w' w.heap.size v xs (ordP ls) ∧ Below w.heap.size w w' := by
  obtain ⟨i0, hi, hz0, hz1, hz2⟩ := info_parts infoSl
  have H := Lib.hid h
  have hMM := Lib.hid hM
  clear h hM
  go_enter Try.func9, Try.ntmps9
  go_wp2
  go_loopw [3, 11] (fun v iv wr => ∃ (i : Nat) (xs : List Value), i ≤ ls.length ∧ iv = .int .i64 (i : Int) ∧ wr.ownsRow w.heap.size 26 1 v i xs ∧ Hid (OwnL wr w.heap.size v xs (ordP (ls.take i)) ∧ Below w.heap.size w wr)) (fun _ iv _ => ls.length - (intOf iv).toNat)
  case atStart => exact ⟨0, [], Nat.zero_le _, rfl, World.ownsRow_nil _ _ _ _, OwnL.nil _ _, Below.refl _ _⟩
  case round =>
    obtain ⟨i, xs, hil, rfl, hown, HI⟩ := hrel
    obtain ⟨va, vc, rfl⟩ := row_slice hown
    by_cases hlt : i < ls.length
    · obtain ⟨b, o, lv, rfl, qv, hrp⟩ := H.out.at HI.out.2 hlt
      have HON := Lib.hid (ordP_next hlt)
      have hml := hMM.out ls[i] (List.getElem_mem hlt)
      generalize ls[i] = l at *
      obtain ⟨la, lc, rfl⟩ := hrp.slice
      have HST := Lib.hid (OwnT.new wr wr (Below.refl _ wr))
      have HRP := Lib.hid hrp
      have hmes : ls.length - (intOf (.int .i64 ((i : Int) + 1))).toNat < ls.length - (intOf (.int .i64 (i : Int))).toNat := by simp [intOf]; omega
      clear hrp hown
      obtain ⟨w1, rfl⟩ : ∃ w1, w1 = wr := ⟨_, rfl⟩
      go_wp2
      generalize w1.alloc (.cells #[.slice none 0 0] 46) = w0 at *
      go_loopw [19] (fun kv wx => ∃ k : Nat, k ≤ l.length ∧ kv = .int .i64 (k : Int) ∧ Hid (OwnT w1 wx w1.heap.size (putsP (l.take k)))) (fun kv _ => l.length - (intOf kv).toNat)
      case atStart => exact ⟨0, Nat.zero_le _, rfl, HST.out⟩
      case round =>
        clear HST
        obtain ⟨k, hkl, rfl, HR⟩ := hrel
        by_cases hlt2 : k < l.length
        · obtain ⟨b2, o2, rfl, q0, q1, q2⟩ := HRP.out.in HR.out.below hlt2
          have HPN : Hid (putsP (l.take (k + 1)) = putIf l[k] (putsP (l.take k))) := putsP_next hlt2
          have hpl := putsP_len l k
          have hmes2 : l.length - (intOf (.int .i64 ((k : Int) + 1))).toNat < l.length - (intOf (.int .i64 (k : Int))).toNat := by simp [intOf]; omega
          generalize putsP (l.take k) = L at *
          generalize l[k] = X at *
          obtain ⟨xk, xv, xg⟩ := X
          simp only at q0 q1 q2
          have HPT := Lib.hid ((HR.out.later ((Below.refl _ wr).alloc (Nat.le_refl _) (.cells #[.string xk, .string xv, .bool xg] 29))).put ⟨xk, xv, xg⟩ (by omega))
          clear hpl HR
          go_wp2_with fail
          refine HPT.out.mono ?_
          rintro e w5 ⟨rfl, h5⟩
          have H5 := Lib.hid h5
          clear h5 q0 q1 q2 HPT
          go_wp2
          go_roundw
          case rel => exact ⟨k + 1, by omega, by go_num, by rw [HPN.out]; exact H5.out⟩
          case measure => exact hmes2
        · obtain rfl : k = l.length := by omega
          rw [List.take_length] at HR
          have hOL := HI.out.1.below HR.out.below
          obtain ⟨F, ⟨v, h1⟩, h2, h3⟩ := HR.out
          have c0 := h1.c0
          have HV := Lib.hid h1.row
          have HB := Lib.hid (HI.out.2.trans (h3.mono HI.out.2.size))
          have hbs := HB.out.size
          obtain ⟨ta, tc, rfl⟩ := row_slice h1.row
          have hrow := hOL.row
          rw [ordP_len, List.length_take, show min i ls.length = i by omega] at hrow
          have HOL := Lib.hid (hOL.below ((Below.refl _ wr).alloc (Nat.le_refl _) (.cells #[.slice ta (putsP l).length tc] 26)))
          have HV2 := Lib.hid (ownsRow_below HV.out ((Below.refl _ wr).alloc (Nat.le_refl _) (.cells #[.slice ta (putsP l).length tc] 26)))
          clear h1 h2 h3 HR hOL
          go_wp2_with (at_builtin; go_loud (refine wpList_append_own _ rfl (.tmp 27) (.tmp 32) 22 rfl w.heap.size 26 i0 (.slice none 0 0) 1 24 Try.underlying22 hi hz0 hz1 hz2 rfl (by decide) _ _ _ rfl (hrow.alloc _) ⟨wr.heap.size, 0, none⟩ 1 1 [.slice ta (putsP l).length tc] rfl rfl (new_one _ _ _) (one_slice _ ta _ tc rfl) ?a3 ?a4 ?a5 ?_))
          case a3 => unfold maxLen; omega
          case a4 => omega
          case a5 => first | omega | (simp; omega)
          intro v' w4 hown' hgrow _
          have HB4 := Lib.hid ((HB.out.alloc hbs _).grown hgrow (by simp; omega) (fun j hj => (hrow.lt j hj).1))
          have HNL := Lib.hid (HOL.out.add HV2.out hgrow (by rw [ordP_len, List.length_take, show min i ls.length = i by omega]; exact hown'))
          have hown2 := hown'
          clear hgrow hi hown' c0
          go_wp2
          go_roundw
          case rel => exact ⟨i + 1, _, by omega, by go_num, hown2, by rw [HON.out]; exact HNL.out, HB4.out⟩
          case measure => exact hmes
    · obtain rfl : i = ls.length := by omega
      rw [List.take_length] at HI
      clear hown hi
      go_wp2
      go_ret
      exact ⟨_, xs, rfl, HI.out.1, HI.out.2⟩
end Go.Proofs.Ytebiipmaimdocaa

namespace Go.Proofs.Ytebiipmaimdocaa
open Go.RowKit Go.Shelf
set_option linter.unusedVariables false

/-- A sequence as a value: nil, or a function that gives these pairs from here on, while G's blocks stay. -/
def SeqV (w : World) (v : Value) (l : List PairS) (G : Nat → Prop) : Prop :=
  (v = .nilFunc ∧ l = []) ∨ ∃ g lb, v = .func (.func g) #[] lb ∧ (∀ args w, (callFunc g args).run Try.prog w = .ok (.enter g args) w) ∧ (∀ w'', Keeps G w w'' → w.heap.size ≤ w''.heap.size → RunsC g lb G l w'') ∧ ∀ j, G j → j < w.heap.size
theorem SeqV.keeps {w w' : World} {v : Value} {l : List PairS} {G : Nat → Prop} (h : SeqV w v l G) (t : Keeps G w w') (hs : w.heap.size ≤ w'.heap.size) : SeqV w' v l G := by
  rcases h with h | ⟨g, lb, h1, h2, h3, h4⟩
  · exact .inl h
  · exact .inr ⟨g, lb, h1, h2, fun w'' hw hz => h3 w'' (t.trans hw) (Nat.le_trans hs hz), fun j hj => Nat.lt_of_lt_of_le (h4 j hj) hs⟩
theorem SeqV.one {w : World} {v : Value} {l : List PairS} {G : Nat → Prop} (h : SeqV w v l G) : ∀ x ∈ [v], x.oneCell' = true := by
  intro x hx
  simp at hx
  subst hx
  rcases h with ⟨rfl, _⟩ | ⟨g, lb, rfl, _⟩ <;> rfl
theorem infoSeq : (Try.prog.info? 31).map (fun i => (i.zero, i.size, i.bytes)) = some (some .nilFunc, 1, 8) := by kernel_rfl
/-- Sequences in a row that the call alone has. -/
structure OwnS (P : Nat → Prop) (w : World) (base : Nat) (v : Value) (xs : List Value) (ls : List (List PairS)) : Prop where
  row : w.ownsRow base 31 1 v ls.length xs
  each : ∀ i (h : i < ls.length), ∃ u G, xs[i]? = some u ∧ SeqV w u ls[i] G ∧ ∀ j, G j → (v.ownBlock ≠ some j ∧ j < w.heap.size) ∧ P j
theorem OwnS.nil (P : Nat → Prop) (w : World) (base : Nat) : OwnS P w base (.slice none 0 0) [] [] := ⟨World.ownsRow_nil _ _ _ _, fun i h => by simp at h⟩
theorem OwnS.below {P : Nat → Prop} {w w' : World} {base : Nat} {v : Value} {xs : List Value} {ls : List (List PairS)} (h : OwnS P w base v xs ls) (t : Below w.heap.size w w') : OwnS P w' base v xs ls :=
  ⟨ownsRow_below h.row t, fun i hi => by
    obtain ⟨u, G, h1, h2, h3⟩ := h.each i hi
    exact ⟨u, G, h1, h2.keeps (Keeps.of_below t (fun k hk => (h3 k hk).1.2)) t.size, fun j hj => ⟨⟨(h3 j hj).1.1, Nat.lt_of_lt_of_le (h3 j hj).1.2 t.size⟩, (h3 j hj).2⟩⟩⟩
theorem OwnS.add {P : Nat → Prop} {w w' : World} {base : Nat} {v v' : Value} {xs : List Value} {ls : List (List PairS)} {u : Value} {l : List PairS} {G : Nat → Prop} (h : OwnS P w base v xs ls) (hu : SeqV w u l G) (hG : ∀ j, G j → (v.ownBlock ≠ some j ∧ j < w.heap.size) ∧ P j) (hg : w.grownBy w' v.ownBlock) (hv : ∀ k, v'.ownBlock = some k → v.ownBlock = some k ∨ w.heap.size ≤ k)
    (ho : w'.ownsRow base 31 1 v' (ls.length + 1) (xs ++ [u])) : OwnS P w' base v' (xs ++ [u]) (ls ++ [l]) := by
  have hxl : xs.length = ls.length := by have := h.row.1; omega
  have kp : ∀ {x : Value} {m : List PairS} {F : Nat → Prop}, SeqV w x m F → (∀ j, F j → (v.ownBlock ≠ some j ∧ j < w.heap.size) ∧ P j) → SeqV w' x m F ∧ ∀ j, F j → (v'.ownBlock ≠ some j ∧ j < w'.heap.size) ∧ P j := fun {x m F} h1 h2 => by
    refine ⟨h1.keeps (fun k hk => hg.block k (h2 k hk).1.2 (fun e => (h2 k hk).1.1 e.symm)) hg.size, fun j hj => ⟨⟨fun e => ?_, Nat.lt_of_lt_of_le (h2 j hj).1.2 hg.size⟩, (h2 j hj).2⟩⟩
    rcases hv j e with e2 | e2
    · exact (h2 j hj).1.1 e2
    · have := (h2 j hj).1.2; omega
  refine ⟨by rw [List.length_append]; exact ho, fun i hi => ?_⟩
  by_cases hlt : i < ls.length
  · obtain ⟨x, F, h1, h2, h3⟩ := h.each i hlt
    obtain ⟨k1, k2⟩ := kp h2 h3
    exact ⟨x, F, by rw [List.getElem?_append_left (by omega)]; exact h1, by rw [List.getElem_append_left hlt]; exact k1, k2⟩
  · have : i = ls.length := by rw [List.length_append] at hi; simp at hi; omega
    subst this
    obtain ⟨k1, k2⟩ := kp hu hG
    refine ⟨u, G, by rw [← hxl]; simp, ?_, k2⟩
    rw [List.getElem_append_right (Nat.le_refl _)]
    simp only [Nat.sub_self, List.getElem_cons_zero]
    exact k1
end Go.Proofs.Ytebiipmaimdocaa

namespace Go.Proofs.Ytebiipmaimdocaa
open Go.RowKit Go.Shelf
set_option linter.unusedVariables false

/-- Lists of pairs in a row that can be read, each a row of its own. -/
def ReadT (P : Nat → Prop) (w : World) (x : Value) (ls : List (List PairS)) : Prop :=
  ls.length ≤ 9223372036854775807 ∧ ∃ a c, x = .slice a ls.length c ∧ (ls = [] ∨ ∃ b o, a = some ⟨b, o, none⟩ ∧ ∀ i (h : i < ls.length), ∃ v, w.cell? ⟨b, o + i, none⟩ = some v ∧ w.ownsRow 0 29 3 v ls[i].length (rowP ls[i]) ∧ ∀ k, v.ownBlock = some k → P k)
theorem ReadT.at {P : Nat → Prop} {w wr : World} {a : Option Addr} {n c : Nat} {ls : List (List PairS)} (h : ReadT P w (.slice a n c) ls) (t : Below w.heap.size w wr) {i : Nat} (hi : i < ls.length) : ∃ b o v, a = some ⟨b, o, none⟩ ∧ wr.cell? ⟨b, o + i, none⟩ = some v ∧ wr.ownsRow 0 29 3 v ls[i].length (rowP ls[i]) ∧ ∀ k, v.ownBlock = some k → P k := by
  obtain ⟨hm, a', c', hv, h1⟩ := h
  injection hv with h2 h3 h4
  subst h2
  rcases h1 with rfl | ⟨b, o, rfl, h1⟩
  · simp at hi
  · obtain ⟨v, q, r, r2⟩ := h1 i hi
    exact ⟨b, o, v, rfl, (t.cell (World.block_lt_of_cell? w ⟨b, o + i, none⟩ q)).trans q, ownsRow_below r t, r2⟩
theorem OwnL.readTP {P : Nat → Prop} {w : World} {base : Nat} {v : Value} {xs : List Value} {ls : List (List PairS)} (h : OwnL w base v xs ls) (hP : ∀ (k : Nat) (cs : Array Value) (r : Nat × Nat), w.heap[k]? = some (.cells cs 29 r) → P k) : ReadT P w v ls := by
  have hr := h.row
  rcases h.row.2 with ⟨rfl, h0⟩ | ⟨g, cap, cur, rfl, _, hg, hle, hcm, _⟩
  · have : ls = [] := List.eq_nil_of_length_eq_zero h0
    subst this
    exact ⟨by simp, none, 0, rfl, .inl rfl⟩
  · refine ⟨by unfold maxLen at hcm; omega, some ⟨g, 0, none⟩, cap, rfl, .inr ⟨g, 0, rfl, fun i hi => ?_⟩⟩
    obtain ⟨u, h1, h2⟩ := h.each i hi
    rw [Nat.zero_add]
    refine ⟨u, (hr.cellAt i (by omega)).trans h1, h2, fun k hk => ?_⟩
    rcases h2.2 with ⟨rfl, _⟩ | ⟨g2, cap2, cur2, rfl, _, hg2, _⟩
    · simp [Value.ownBlock] at hk
    · simp [Value.ownBlock] at hk
      subst hk
      exact hP _ _ _ hg2
theorem OwnL.readT {w : World} {base : Nat} {v : Value} {xs : List Value} {ls : List (List PairS)} (h : OwnL w base v xs ls) : ReadT (fun _ => True) w v ls := h.readTP fun _ _ _ _ => trivial

set_option maxHeartbeats 2000000 in
set_option maxRecDepth 100000 in
theorem seqs_anyP {P : Nat → Prop} {w : World} {a : Option Addr} {c : Nat} {ls : List (List PairS)} (h : ReadT P w (.slice a ls.length c) ls) (hP : ∀ k, w.heap.size ≤ k → P k) (hN : ls.length ≤ 3518437208780) :
    Calls Try.prog 13 #[.slice a ls.length c] w fun e w' => ∃ v xs, e = .returned v ∧ OwnS P w' w.heap.size v xs ls ∧ Below w.heap.size w w' := by
  obtain ⟨i0, hi, hz0, hz1, hz2⟩ := info_parts infoSeq
  have H := Lib.hid h
  have HPP := Lib.hid hP
  clear h hP
  go_enter Try.func13, Try.ntmps13
  go_wp2
  go_loopw [3, 8] (fun v iv wr => ∃ (i : Nat) (xs : List Value), i ≤ ls.length ∧ iv = .int .i64 (i : Int) ∧ wr.ownsRow w.heap.size 31 1 v i xs ∧ Hid (OwnS P wr w.heap.size v xs (ls.take i) ∧ Below w.heap.size w wr)) (fun _ iv _ => ls.length - (intOf iv).toNat)
  case atStart => exact ⟨0, [], Nat.zero_le _, rfl, World.ownsRow_nil _ _ _ _, OwnS.nil _ _ _, Below.refl _ _⟩
  case round =>
    obtain ⟨i, xs, hil, rfl, hown, HI⟩ := hrel
    obtain ⟨va, vc, rfl⟩ := row_slice hown
    by_cases hlt : i < ls.length
    · obtain ⟨b, o, lv, rfl, qv, hrp, hPk⟩ := H.out.at HI.out.2 hlt
      have HPK := Lib.hid hPk
      clear hPk
      have HTK : Hid (ls.take (i + 1) = ls.take i ++ [ls[i]]) := List.take_succ_eq_append_getElem hlt
      have hmes : ls.length - (intOf (.int .i64 ((i : Int) + 1))).toNat < ls.length - (intOf (.int .i64 (i : Int))).toNat := by simp [intOf]; omega
      have hws := HI.out.2.size
      have htl : (ls.take i).length = i := by rw [List.length_take]; omega
      generalize ls[i] = l at *
      obtain ⟨la, lc, rfl⟩ := row_slice hrp
      by_cases hl0 : l = []
      · have hl00 : l.length = 0 := by rw [hl0]; rfl
        have hg0 : ((l.length : Int) == 0) = true := by rw [hl00]; rfl
        have HOS := Lib.hid (HI.out.1.below ((Below.refl _ wr).alloc (Nat.le_refl _) (.cells #[.nilFunc] 31)))
        have HSV : Hid (SeqV (wr.alloc (.cells #[.nilFunc] 31)) .nilFunc l (fun _ => False)) := .inl ⟨rfl, hl0⟩
        clear hrp hl00
        go_wp2_with (at_builtin; go_loud (refine wpList_app _ rfl (.tmp 15) (.tmp 16) rfl Try.underlying33 hi hz0 hz1 hz2 rfl (by decide) rfl (ownsRow_base (base' := 0) (hown.alloc _) (Nat.zero_le _)) rfl (src_new (sz := 1) wr #[.nilFunc] 31 rfl HSV.out.one) ?a3 ?a4 ?_))
        case a3 => omega
        case a4 => unfold maxLen; omega
        intro v' w4 hown0 hgrow hwh
        have hown' := ownsRow_up (base' := w.heap.size) hown0 (fun k hk => by rcases hwh k hk with h | h; exact (hown.lt k h).1; (first | omega | (have h' := h; simp at h'; omega)))
        have HB4 := Lib.hid ((HI.out.2.alloc hws _).grown hgrow (by simp; omega) (fun j hj => (hown.lt j hj).1))
        have HNL := Lib.hid (HOS.out.add HSV.out (fun j hj => hj.elim) hgrow (fun k hk => by rcases hwh k hk with h | h; exact .inl h; (exact .inr (by simpa using h))) (by rw [htl]; exact hown'))
        have hown2 := hown'
        clear hgrow hi hown' hwh hown hown0
        go_wp2
        go_roundw
        case rel => exact ⟨i + 1, _, by omega, by go_num, hown2, by rw [HTK.out]; exact HNL.out, HB4.out⟩
        case measure => exact hmes
      · have hg0 : ((l.length : Int) == 0) = false := by
          have := List.length_pos_iff.2 hl0
          simp; omega
        have HVC := Lib.hid (values_anyC (ReadP.own hrp))
        have HRP := Lib.hid hrp
        clear hrp
        go_wp2_with fail
        refine HVC.out.mono ?_
        rintro e w2 ⟨g, lb, G, rfl, eg, hgv, hGs, b2, hGw⟩
        have hpj : Hid (∀ j, G j → P j) := fun j hj => by
          rcases hGw j hj with h | ⟨bb, oo, ha, rfl, _⟩
          · exact HPP.out j (Nat.le_trans hws h)
          · subst ha
            rcases HRP.out.2 with ⟨hv0, _⟩ | ⟨gg, cp, cr, hv0, _⟩
            · injection hv0 with hv0; cases hv0
            · injection hv0 with hv0
              injection hv0 with hv0
              injection hv0 with hv0
              subst hv0
              exact HPK.out _ (by simp [Value.ownBlock])
        have hap : Hid (∀ j, G j → (Value.slice va i vc).ownBlock ≠ some j ∧ j < w2.heap.size) := fun j hj => by
          refine ⟨fun e => ?_, hGs j hj⟩
          rcases hGw j hj with h | ⟨bb, oo, ha, rfl, _⟩
          · have := (hown.lt j e).2; omega
          · subst ha
            rcases rows_apart hown HRP.out (by decide) with h | h
            · rw [h] at e; cases e
            · rcases HRP.out.2 with ⟨hv0, _⟩ | ⟨gg, cp, cr, hv0, _⟩
              · injection hv0 with hv0; cases hv0
              · injection hv0 with hv0
                injection hv0 with hv0
                injection hv0 with hv0
                subst hv0
                exact h (by rw [e]; simp [Value.ownBlock])
        have hown1 := ownsRow_below hown b2
        have HB2 := Lib.hid (HI.out.2.trans (b2.mono hws))
        have hws2 := HB2.out.size
        have HOS := Lib.hid ((HI.out.1.below b2).below ((Below.refl _ w2).alloc (Nat.le_refl _) (.cells #[.func (.func g) #[] lb] 31)))
        have hsv : SeqV w2 (.func (.func g) #[] lb) l G := .inr ⟨g, lb, rfl, eg, hgv, hGs⟩
        have HSV := Lib.hid (hsv.keeps (Keeps.of_below ((Below.refl _ w2).alloc (Nat.le_refl _) (.cells #[.func (.func g) #[] lb] 31)) hGs) (by simp))
        clear b2 hsv hgv hGs hGw HVC hown
        go_wp2_with (at_builtin; go_loud (refine wpList_app _ rfl (.tmp 18) (.tmp 21) rfl Try.underlying33 hi hz0 hz1 hz2 rfl (by decide) rfl (ownsRow_base (base' := 0) (hown1.alloc _) (Nat.zero_le _)) rfl (src_new (sz := 1) w2 #[.func (.func g) #[] lb] 31 rfl HSV.out.one) ?b3 ?b4 ?_))
        case b3 => omega
        case b4 => unfold maxLen; omega
        intro v' w4 hown0 hgrow hwh
        have hown' := ownsRow_up (base' := w.heap.size) hown0 (fun k hk => by rcases hwh k hk with h | h; exact (hown1.lt k h).1; (first | omega | (have h' := h; simp at h'; omega)))
        have HB4 := Lib.hid ((HB2.out.alloc hws2 _).grown hgrow (by simp; omega) (fun j hj => (hown1.lt j hj).1))
        have HNL := Lib.hid (HOS.out.add HSV.out (fun j hj => ⟨⟨(hap.out j hj).1, by have := (hap.out j hj).2; simp; omega⟩, hpj.out j hj⟩) hgrow (fun k hk => by rcases hwh k hk with h | h; exact .inl h; (exact .inr (by simpa using h))) (by rw [htl]; exact hown'))
        have hown2 := hown'
        clear hgrow hi hown' hwh hown1 hown0
        go_wp2
        go_roundw
        case rel => exact ⟨i + 1, _, by omega, by go_num, hown2, by rw [HTK.out]; exact HNL.out, HB4.out⟩
        case measure => exact hmes
    · obtain rfl : i = ls.length := by omega
      rw [List.take_length] at HI
      clear hown hi
      go_wp2
      go_ret
      exact ⟨_, xs, rfl, HI.out.1, HI.out.2⟩
theorem seqs_any {w : World} {a : Option Addr} {c : Nat} {ls : List (List PairS)} (h : ReadT (fun _ => True) w (.slice a ls.length c) ls) (hN : ls.length ≤ 3518437208780) :
    Calls Try.prog 13 #[.slice a ls.length c] w fun e w' => ∃ v xs, e = .returned v ∧ OwnS (fun _ => True) w' w.heap.size v xs ls ∧ Below w.heap.size w w' := seqs_anyP h (fun _ _ => trivial) hN
end Go.Proofs.Ytebiipmaimdocaa

namespace Go.Proofs.Ytebiipmaimdocaa
set_option linter.unusedVariables false

/-- l's pairs put over T's. -/
def overP (l T : List PairS) : List PairS := l.foldl (fun l x => putIf x l) T
theorem overP_cons (x : PairS) (r T : List PairS) : overP (x :: r) T = overP r (putIf x T) := rfl
theorem overP_rising : ∀ (l : List PairS) {T : List PairS}, RisingP T → RisingP (overP l T)
  | [], _, h => h
  | x :: r, _, h => overP_rising r (putIf_rising h)
theorem overP_fine (l : List PairS) {T : List PairS} (h : FineP T) : FineP (overP l T) := puts_fine l T h
theorem overP_len : ∀ (l T : List PairS), (overP l T).length ≤ T.length + l.length
  | [], T => Nat.le_refl _
  | x :: r, T => by
    have h1 := overP_len r (putIf x T)
    have h2 := putIf_len x T
    rw [overP_cons, List.length_cons]
    omega
theorem mem_overP : ∀ (l : List PairS) {T : List PairS}, RisingP T → RisingP l → FineP l → ∀ y, y ∈ overP l T ↔ y ∈ l ∨ (y ∈ T ∧ ∀ z ∈ l, z.key ≠ y.key)
  | [], T, _, _, _, y => by simp [overP]
  | x :: r, T, hT, hl, hf, y => by
    have hx : wrongP x = 0 := hf x (by simp)
    have hp : putIf x T = putP x T := if_pos hx
    have hl2 := List.pairwise_cons.1 hl
    have hne : ∀ z ∈ r, z.key ≠ x.key := fun z hz e => by
      have := hl2.1 z hz
      rw [e, befB_irrefl] at this
      cases this
    rw [overP_cons, mem_overP r (putIf_rising hT) hl2.2 (fun z hz => hf z (by simp [hz])) y, hp, mem_putP_iff hT]
    constructor
    · rintro (h | ⟨rfl | ⟨h1, h2⟩, h3⟩)
      · exact .inl (by simp [h])
      · exact .inl (by simp)
      · refine .inr ⟨h1, fun z hz => ?_⟩
        rcases List.mem_cons.1 hz with rfl | hz
        · exact fun e => h2 e.symm
        · exact h3 z hz
    · rintro (h | ⟨h1, h2⟩)
      · rcases List.mem_cons.1 h with rfl | h
        · exact .inr ⟨.inl rfl, hne⟩
        · exact .inl h
      · exact .inr ⟨.inr ⟨h1, fun e => h2 x (by simp) e.symm⟩, fun z hz => h2 z (by simp [hz])⟩

theorem allP_nil : allP [] = [] := rfl
theorem allP_cons (l : List PairS) (r : List (List PairS)) : allP (l :: r) = overP l (allP r) := by
  unfold allP revP putsP overP
  simp [List.foldl_append]
theorem allP_rising : ∀ L : List (List PairS), RisingP (allP L)
  | [] => List.Pairwise.nil
  | l :: r => by rw [allP_cons]; exact overP_rising l (allP_rising r)
theorem allP_fine : ∀ L : List (List PairS), FineP (allP L)
  | [] => fun _ h => by cases h
  | l :: r => by rw [allP_cons]; exact overP_fine l (allP_fine r)
theorem allP_len : ∀ L : List (List PairS), (allP L).length ≤ sumL8 L
  | [] => Nat.zero_le _
  | l :: r => by
    have h1 := allP_len r
    have h2 := overP_len l (allP r)
    rw [allP_cons]
    unfold sumL8 at h1 ⊢
    rw [List.map_cons, List.sum_cons]
    omega
theorem sumL8_append (a b : List (List PairS)) : sumL8 (a ++ b) = sumL8 a + sumL8 b := by
  unfold sumL8
  rw [List.map_append, List.sum_append]
/-- Each list in order, its pairs as they may be. -/
def GoodL (L : List (List PairS)) : Prop := ∀ l ∈ L, RisingP l ∧ FineP l
theorem GoodL.ord (ls : List (List PairS)) : GoodL (ordP ls) := fun l hl => by
  obtain ⟨m, _, rfl⟩ := List.mem_map.1 hl
  exact ⟨putsP_rise m, putsP_fine m⟩
theorem GoodL.cons {l : List PairS} {r : List (List PairS)} (h : GoodL (l :: r)) : (RisingP l ∧ FineP l) ∧ GoodL r := ⟨h l (by simp), fun m hm => h m (by simp [hm])⟩
theorem mem_allP_cons {l : List PairS} {r : List (List PairS)} (h : GoodL (l :: r)) (y : PairS) : y ∈ allP (l :: r) ↔ y ∈ l ∨ (y ∈ allP r ∧ ∀ z ∈ l, z.key ≠ y.key) := by
  rw [allP_cons]
  exact mem_overP l (allP_rising r) h.cons.1.1 h.cons.1.2 y
theorem key_apart {P : Prop} (l : List PairS) (y : PairS) (h1 : (∀ z ∈ l, z.key ≠ y.key) → P) (h2 : (∃ z ∈ l, z.key = y.key) → P) : P := by
  by_cases h : ∃ z ∈ l, z.key = y.key
  · exact h2 h
  · exact h1 fun z hz e => h ⟨z, hz, e⟩
/-- Merged in parts. -/
theorem allP_append : ∀ {A B : List (List PairS)}, GoodL A → allP (A ++ B) = overP (allP A) (allP B)
  | [], B, _ => rfl
  | l :: A, B, h => by
    have ih := allP_append (B := B) h.cons.2
    have hA := allP_rising A
    have hB := allP_rising B
    have hAf := allP_fine A
    rw [List.cons_append, allP_cons, ih, allP_cons]
    refine rising_ext (overP_rising _ (overP_rising _ hB)) (overP_rising _ hB) fun y => ?_
    rw [mem_overP l (overP_rising _ hB) h.cons.1.1 h.cons.1.2, mem_overP _ hB hA hAf, mem_overP _ hB (overP_rising _ hA) (overP_fine _ hAf), mem_overP l hA h.cons.1.1 h.cons.1.2]
    constructor
    · rintro (h1 | ⟨h1 | ⟨h1, h2⟩, h3⟩)
      · exact .inl (.inl h1)
      · exact .inl (.inr ⟨h1, h3⟩)
      · refine .inr ⟨h1, fun z hz => ?_⟩
        rcases (mem_overP l hA h.cons.1.1 h.cons.1.2 z).1 hz with hz | ⟨hz, _⟩
        · exact h3 z hz
        · exact h2 z hz
    · rintro ((h1 | ⟨h1, h2⟩) | ⟨h1, h2⟩)
      · exact .inl h1
      · exact .inr ⟨.inl h1, h2⟩
      · have k1 : ∀ z ∈ l, z.key ≠ y.key := fun z hz => h2 z ((mem_overP l hA h.cons.1.1 h.cons.1.2 z).2 (.inl hz))
        refine .inr ⟨.inr ⟨h1, fun z hz e => ?_⟩, k1⟩
        exact h2 z ((mem_overP l hA h.cons.1.1 h.cons.1.2 z).2 (.inr ⟨hz, fun u hu eu => k1 u hu (eu.trans e)⟩)) e
theorem GoodL.two (A B : List (List PairS)) : GoodL [allP A, allP B] := fun l hl => by
  rcases List.mem_cons.1 hl with rfl | hl
  · exact ⟨allP_rising A, allP_fine A⟩
  · rw [List.mem_singleton.1 hl]; exact ⟨allP_rising B, allP_fine B⟩
theorem over_none {l : List PairS} (hr : RisingP l) (hf : FineP l) : overP l [] = l :=
  rising_ext (overP_rising l List.Pairwise.nil) hr fun y => by
    rw [mem_overP l List.Pairwise.nil hr hf]
    simp
theorem allP_parts {L : List (List PairS)} (h : GoodL L) (k : Nat) : allP [allP (L.take k), allP (L.drop k)] = allP L := by
  have e : allP L = overP (allP (L.take k)) (allP (L.drop k)) := by
    conv => lhs; rw [← List.take_append_drop k L]
    exact allP_append fun l hl => h l (List.mem_of_mem_take hl)
  rw [e, allP_cons, allP_cons, allP_nil, over_none (allP_rising _) (allP_fine _)]
/-- Whose key was met first is the one that is there. -/
theorem first_all : ∀ {L : List (List PairS)}, GoodL L → ∀ {x q : PairS} {i : Nat} (hi : i < L.length), x ∈ allP L → q ∈ L[i] → q.key = x.key → (∀ j (hj : j < L.length), j < i → ∀ z ∈ L[j], z.key ≠ x.key) → q = x
  | [], _, _, _, _, hi, _, _, _, _ => by simp at hi
  | l :: r, h, x, q, 0, hi, hx, hq, e, _ => by
    rcases (mem_allP_cons h x).1 hx with hx | ⟨_, h2⟩
    · exact rising_one h.cons.1.1 hq hx e
    · exact absurd e (h2 q hq)
  | l :: r, h, x, q, i + 1, hi, hx, hq, e, hb => by
    have h0 := hb 0 (by simp) (by omega)
    rcases (mem_allP_cons h x).1 hx with hx | ⟨hx, _⟩
    · exact absurd rfl (h0 x hx)
    · exact first_all h.cons.2 (i := i) (by simpa using hi) hx hq e fun j hj hji z hz => hb (j + 1) (by simpa using hj) (by omega) z hz
theorem some_all : ∀ {L : List (List PairS)}, GoodL L → ∀ {x : PairS}, x ∈ allP L → ∃ i, ∃ hi : i < L.length, x ∈ L[i]
  | [], _, _, h => by cases h
  | l :: r, h, x, hx => by
    rcases (mem_allP_cons h x).1 hx with hx | ⟨hx, _⟩
    · exact ⟨0, by simp, hx⟩
    · obtain ⟨i, hi, h1⟩ := some_all h.cons.2 hx
      exact ⟨i + 1, by simpa using hi, h1⟩
def lastK8 (l : List PairS) : ByteArray := match l.getLast? with | some x => x.key | none => ⟨#[]⟩
theorem lastK8_snoc (l : List PairS) (x : PairS) : lastK8 (l ++ [x]) = x.key := by simp [lastK8]
theorem bef_some8 {k : ByteArray} (h : k.size ≠ 0) : befB ⟨#[]⟩ k = true := by
  rw [befB_lt]
  show ([] : List UInt8) < k.data.toList
  cases hd : k.data.toList with
  | nil =>
    have h1 : k.data.toList.length = 0 := by rw [hd]; rfl
    exact absurd (by simpa using h1) h
  | cons a r => simp
theorem good8_at {l pre : List PairS} {x : PairS} (hr : RisingP l) (hf : FineP l) (hp : pre ++ [x] <+: l) : x ∈ l ∧ befB (lastK8 pre) x.key = true := by
  obtain ⟨r, hl⟩ := hp
  have hx : x ∈ l := by rw [← hl]; simp
  refine ⟨hx, ?_⟩
  rcases List.eq_nil_or_concat pre with rfl | ⟨q, y, rfl⟩
  · have h := hf x hx
    refine bef_some8 fun h0 => ?_
    unfold wrongP at h
    rw [if_pos (.inl h0)] at h
    cases h
  · rw [List.concat_eq_append, lastK8_snoc]
    have h := hr
    rw [← hl, List.concat_eq_append] at h
    unfold RisingP at h
    have h2 := (List.pairwise_append.1 h).1
    exact (List.pairwise_append.1 h2).2.2 y (by simp) x (by simp)
end Go.Proofs.Ytebiipmaimdocaa

namespace Go.Proofs.Ytebiipmaimdocaa
set_option linter.unusedVariables false

/-- What stands below p. -/
def lowP (a : List PairS) (p : PairS) : List PairS := a.takeWhile fun q => befB q.key p.key
def restP (a : List PairS) (p : PairS) : List PairS := a.dropWhile fun q => befB q.key p.key
theorem low_rest (a : List PairS) (p : PairS) : lowP a p ++ restP a p = a := List.takeWhile_append_dropWhile
/-- The pair that is given for p, and what is still ahead. -/
def headP (a : List PairS) (p : PairS) : PairS × List PairS :=
  match a with
  | [] => (p, [])
  | q :: r => if q.key = p.key then (q, r) else (p, q :: r)
/-- What has been given, and what is still ahead, when the second list's first pairs have come. -/
def mixStep (s : List PairS × List PairS) (p : PairS) : List PairS × List PairS := (s.1 ++ lowP s.2 p ++ [(headP (restP s.2 p) p).1], (headP (restP s.2 p) p).2)
def mixS (a pre : List PairS) : List PairS × List PairS := pre.foldl mixStep ([], a)
theorem mixS_nil (a : List PairS) : mixS a [] = ([], a) := rfl
theorem mixS_snoc (a pre : List PairS) (x : PairS) : mixS a (pre ++ [x]) = mixStep (mixS a pre) x := by unfold mixS; rw [List.foldl_append]; rfl
def mixP (a b : List PairS) : List PairS := (mixS a b).1 ++ (mixS a b).2

theorem fold_given (r : List PairS) : ∀ (s : List PairS × List PairS), ∃ t, (r.foldl mixStep s).1 = s.1 ++ t := by
  induction r with
  | nil => exact fun s => ⟨[], by simp⟩
  | cons p r ih =>
    intro s
    obtain ⟨t, ht⟩ := ih (mixStep s p)
    refine ⟨lowP s.2 p ++ [(headP (restP s.2 p) p).1] ++ t, ?_⟩
    rw [List.foldl_cons, ht]
    simp [mixStep]
/-- What was given so far is a first part of the whole. -/
theorem mixS_prefix {a b pre : List PairS} (h : pre <+: b) : (mixS a pre).1 <+: mixP a b := by
  obtain ⟨r, rfl⟩ := h
  unfold mixP mixS
  rw [List.foldl_append]
  obtain ⟨t, ht⟩ := fold_given r (pre.foldl mixStep ([], a))
  rw [ht, List.append_assoc]
  exact List.prefix_append _ _
theorem mixS_ahead {a b pre : List PairS} {x : PairS} (h : pre ++ [x] <+: b) {i : Nat} (hi : i ≤ (lowP (mixS a pre).2 x).length) : (mixS a pre).1 ++ (mixS a pre).2.take i <+: mixP a b := by
  refine List.IsPrefix.trans ?_ (mixS_prefix h)
  rw [mixS_snoc]
  unfold mixStep
  have e : (mixS a pre).2.take i = (lowP (mixS a pre).2 x).take i := by
    conv => lhs; rw [← low_rest (mixS a pre).2 x]
    rw [List.take_append_of_le_length hi]
  rw [e]
  refine ⟨(lowP (mixS a pre).2 x).drop i ++ [(headP (restP (mixS a pre).2 x) x).1], ?_⟩
  simp only [List.append_assoc]
  rw [← List.append_assoc (List.take i _), List.take_append_drop]
theorem mixS_behind {a b : List PairS} (i : Nat) : (mixS a b).1 ++ (mixS a b).2.take i <+: mixP a b := by
  unfold mixP
  refine ⟨(mixS a b).2.drop i, ?_⟩
  rw [List.append_assoc, List.take_append_drop]

/-! ### The same as over -/
def mixR : List PairS → List PairS → List PairS
  | a, [] => a
  | a, p :: r => lowP a p ++ (headP (restP a p) p).1 :: mixR (headP (restP a p) p).2 r
theorem fold_mixR (r : List PairS) : ∀ (s : List PairS × List PairS), (r.foldl mixStep s).1 ++ (r.foldl mixStep s).2 = s.1 ++ mixR s.2 r := by
  induction r with
  | nil => exact fun s => rfl
  | cons p r ih =>
    intro s
    rw [List.foldl_cons, ih]
    simp [mixStep, mixR]
theorem mixP_eq (a b : List PairS) : mixP a b = mixR a b := by
  have := fold_mixR b ([], a)
  rw [List.nil_append] at this
  exact this
theorem rest_ge {a : List PairS} (hr : RisingP a) (p : PairS) : ∀ z ∈ restP a p, befB z.key p.key = false := by
  induction a with
  | nil => intro z hz; cases hz
  | cons q r ih =>
    have h2 := List.pairwise_cons.1 hr
    intro z hz
    unfold restP at hz ih
    rw [List.dropWhile_cons] at hz
    by_cases hq : befB q.key p.key = true
    · rw [if_pos hq] at hz
      exact ih h2.2 z hz
    · rw [if_neg hq] at hz
      have hq' : befB q.key p.key = false := by simpa using hq
      rcases List.mem_cons.1 hz with rfl | hz
      · exact hq'
      · cases hc : befB z.key p.key with
        | false => rfl
        | true => rw [befB_trans (h2.1 z hz) hc] at hq'; cases hq'
theorem low_lt (a : List PairS) (p : PairS) : ∀ z ∈ lowP a p, befB z.key p.key = true := fun z hz => by
  unfold lowP at hz
  exact List.all_eq_true.1 List.all_takeWhile z hz
theorem head_spec {a : List PairS} (hr : RisingP a) {p : PairS} (hg : ∀ z ∈ a, befB z.key p.key = false) :
    (headP a p).1.key = p.key ∧ RisingP (headP a p).2 ∧ (∀ z ∈ (headP a p).2, befB p.key z.key = true) ∧ ∀ y, (y ∈ a ↔ (y = (headP a p).1 ∧ (headP a p).1 ∈ a) ∨ y ∈ (headP a p).2) ∧ (y = (headP a p).1 → ¬ y ∈ a → y = p ∧ ∀ z ∈ a, z.key ≠ p.key) := by
  cases a with
  | nil => exact ⟨rfl, List.Pairwise.nil, fun z hz => (by cases hz), fun y => ⟨by simp [headP], fun h _ => ⟨h, fun z hz => (by cases hz)⟩⟩⟩
  | cons q r =>
    have h2 := List.pairwise_cons.1 hr
    by_cases hk : q.key = p.key
    · have e : headP (q :: r) p = (q, r) := if_pos hk
      rw [e]
      refine ⟨hk, h2.2, fun z hz => hk ▸ h2.1 z hz, fun y => ⟨by simp, fun h hn => absurd (by simp [h]) hn⟩⟩
    · have e : headP (q :: r) p = (p, q :: r) := if_neg hk
      have hq : befB p.key q.key = true := befB_total hk (hg q (by simp))
      have hall : ∀ z ∈ q :: r, befB p.key z.key = true := fun z hz => by
        rcases List.mem_cons.1 hz with rfl | hz
        · exact hq
        · exact befB_trans hq (h2.1 z hz)
      have hne : ∀ z ∈ q :: r, z.key ≠ p.key := fun z hz e2 => by
        have := hall z hz
        rw [e2, befB_irrefl] at this
        cases this
      rw [e]
      refine ⟨rfl, hr, hall, fun y => ⟨?_, fun h hn => ⟨h, hne⟩⟩⟩
      constructor
      · exact fun h => .inr h
      · rintro (⟨rfl, h⟩ | h)
        · exact h
        · exact h
theorem rising_app {a b : List PairS} (ha : RisingP a) (hb : RisingP b) (h : ∀ x ∈ a, ∀ y ∈ b, befB x.key y.key = true) : RisingP (a ++ b) := List.pairwise_append.2 ⟨ha, hb, h⟩
theorem mixR_all : ∀ (b : List PairS) {a : List PairS}, RisingP a → RisingP b → RisingP (mixR a b) ∧ ∀ y, y ∈ mixR a b ↔ y ∈ a ∨ (y ∈ b ∧ ∀ z ∈ a, z.key ≠ y.key)
  | [], a, ha, _ => ⟨ha, fun y => by simp [mixR]⟩
  | p :: r, a, ha, hb => by
    have hb2 := List.pairwise_cons.1 hb
    have hlr := low_rest a p
    have hra : RisingP (lowP a p ++ restP a p) := by rw [hlr]; exact ha
    have hra2 := List.pairwise_append.1 hra
    have hge := rest_ge ha p
    have hlt := low_lt a p
    obtain ⟨hk, hr2, hgt, hsp⟩ := head_spec hra2.2.1 hge
    have hmem : ∀ y, y ∈ a ↔ y ∈ lowP a p ∨ y ∈ restP a p := fun y => by
      have := congrArg (fun l => y ∈ l) hlr
      simp only [List.mem_append] at this
      exact iff_of_eq this.symm
    obtain ⟨ih1, ih2⟩ := mixR_all r hr2 hb2.2
    generalize hh : headP (restP a p) p = hd at *
    have hbig : ∀ y ∈ mixR hd.2 r, befB p.key y.key = true := fun y hy => by
      rcases (ih2 y).1 hy with h | ⟨h, _⟩
      · exact hgt y h
      · exact hb2.1 y h
    have hunf : mixR a (p :: r) = lowP a p ++ hd.1 :: mixR hd.2 r := by rw [← hh]; rfl
    rw [hunf]
    refine ⟨rising_app hra2.1 (List.pairwise_cons.2 ⟨fun y hy => by rw [hk]; exact hbig y hy, ih1⟩) fun x hx y hy => ?_, fun y => ?_⟩
    · rcases List.mem_cons.1 hy with rfl | hy
      · rw [hk]; exact hlt x hx
      · exact befB_trans (hlt x hx) (hbig y hy)
    · have hlow : ∀ z ∈ lowP a p, z.key ≠ p.key := fun z hz e => by
        have := hlt z hz
        rw [e, befB_irrefl] at this
        cases this
      rw [List.mem_append, List.mem_cons, ih2 y]
      constructor
      · rintro (h | h | h | ⟨h1, h2⟩)
        · exact .inl ((hmem y).2 (.inl h))
        · by_cases hin : y ∈ restP a p
          · exact .inl ((hmem y).2 (.inr hin))
          · obtain ⟨e1, e2⟩ := (hsp y).2 h hin
            refine .inr ⟨by simp [e1], fun z hz => ?_⟩
            rw [e1]
            rcases (hmem z).1 hz with hz | hz
            · exact hlow z hz
            · exact e2 z hz
        · exact .inl ((hmem y).2 (.inr ((hsp y).1.2 (.inr h))))
        · refine .inr ⟨by simp [h1], fun z hz e => ?_⟩
          rcases (hmem z).1 hz with hz | hz
          · have := befB_trans (hlt z hz) (hb2.1 y h1)
            rw [e, befB_irrefl] at this
            cases this
          · rcases (hsp z).1.1 hz with ⟨h3, _⟩ | h3
            · have := hb2.1 y h1
              rw [← e, h3, hk, befB_irrefl] at this
              cases this
            · exact h2 z h3 e
      · rintro (h | ⟨h1, h2⟩)
        · rcases (hmem y).1 h with h | h
          · exact .inl h
          · rcases (hsp y).1.1 h with ⟨h3, _⟩ | h3
            · exact .inr (.inl h3)
            · exact .inr (.inr (.inl h3))
        · rcases List.mem_cons.1 h1 with rfl | h1
          · refine .inr (.inl ?_)
            have hn : ¬ hd.1 ∈ restP a y := fun hin => h2 hd.1 ((hmem _).2 (.inr hin)) hk
            exact ((hsp hd.1).2 rfl hn).1.symm
          · refine .inr (.inr (.inr ⟨h1, fun z hz => h2 z ((hmem z).2 (.inr ((hsp z).1.2 (.inr hz))))⟩))
theorem mixP_over {a b : List PairS} (ha : RisingP a) (hb : RisingP b) (hf : FineP a) : mixP a b = overP a b := by
  obtain ⟨h1, h2⟩ := mixR_all b ha hb
  rw [mixP_eq]
  refine rising_ext h1 (overP_rising a hb) fun y => ?_
  rw [h2 y, mem_overP a hb ha hf]
theorem fold_len (r : List PairS) : ∀ (s : List PairS × List PairS), (r.foldl mixStep s).2.length ≤ s.2.length := by
  induction r with
  | nil => exact fun s => Nat.le_refl _
  | cons p r ih =>
    intro s
    rw [List.foldl_cons]
    refine Nat.le_trans (ih _) ?_
    have h := low_rest s.2 p
    have h2 : (headP (restP s.2 p) p).2.length ≤ (restP s.2 p).length := by
      cases restP s.2 p with
      | nil => exact Nat.le_refl _
      | cons q r =>
        unfold headP
        simp only
        split
        · simp
        · simp
    have h3 : s.2.length = (lowP s.2 p).length + (restP s.2 p).length := by
      have := congrArg List.length h
      rw [List.length_append] at this
      exact this.symm
    show (headP (restP s.2 p) p).2.length ≤ _
    omega
theorem mixS_len (a pre : List PairS) : (mixS a pre).2.length ≤ a.length := fold_len pre ([], a)
theorem rest_head {a : List PairS} {p q : PairS} {r : List PairS} (h : restP a p = q :: r) : befB q.key p.key = false := by
  have := List.head?_dropWhile_not (fun q : PairS => befB q.key p.key) a
  unfold restP at h
  rw [h] at this
  simpa using this
theorem low_at {a : List PairS} {p q : PairS} {r : List PairS} {i : Nat} (hi : i ≤ (lowP a p).length) (hd : a.drop i = q :: r) : (befB q.key p.key = true → i + 1 ≤ (lowP a p).length) ∧ (befB q.key p.key = false → i = (lowP a p).length) := by
  have hlr := low_rest a p
  by_cases hlt : i < (lowP a p).length
  · have h2 : (lowP a p).drop i = (lowP a p)[i] :: (lowP a p).drop (i + 1) := List.drop_eq_getElem_cons hlt
    have h3 : a.drop i = (lowP a p)[i] :: ((lowP a p).drop (i + 1) ++ restP a p) := by
      conv => lhs; rw [← hlr]
      rw [List.drop_append_of_le_length (Nat.le_of_lt hlt), h2]
      rfl
    rw [h3] at hd
    injection hd with hq _
    have := low_lt a p _ (List.getElem_mem hlt)
    rw [hq] at this
    exact ⟨fun _ => hlt, fun h => by rw [h] at this; cases this⟩
  · have he : i = (lowP a p).length := by omega
    refine ⟨fun h => ?_, fun _ => he⟩
    have h3 : a.drop i = restP a p := by
      conv => lhs; rw [← hlr]
      rw [he, List.drop_left]
    rw [h3] at hd
    rw [rest_head hd] at h
    cases h
theorem low_end {a : List PairS} {p : PairS} {i : Nat} (hi : i ≤ (lowP a p).length) (hd : a.drop i = []) : i = (lowP a p).length := by
  have h1 : a.length ≤ i := List.drop_eq_nil_iff.1 hd
  have h2 := congrArg List.length (low_rest a p)
  rw [List.length_append] at h2
  omega
theorem low_done (a : List PairS) (p : PairS) : a.take (lowP a p).length = lowP a p ∧ a.drop (lowP a p).length = restP a p := by
  have hlr := low_rest a p
  generalize lowP a p = lo at *
  generalize restP a p = hi at *
  subst hlr
  exact ⟨List.take_left, List.drop_left⟩
end Go.Proofs.Ytebiipmaimdocaa
