/- Layer 8: the walk of MergeKeys, whatever the merge. -/
import Derived.Test.YtebiipmaimdocaaK08e
import Derived.Laws.ResultCell
namespace Go.Proofs.Ytebiipmaimdocaa
open Go.RowKit Go.Maps Go.WideMaps Go.Shelf
set_option linter.unusedVariables false

attribute [local go_sem] Oper.semAt_some

theorem results_cell8 {fn : Func} {p : Tmp} {ty : TypeId} (h : fn.results = #[.cell p ty]) (tmps : Array Value) (P : Program) (w : World) :
    (results fn tmps).run P w = ((asAddr (tmps.getD p undef)).run P w).andThen fun a w₁ => (loadVar ty a).run P w₁ := by
  simp only [results, h]
  simp [Sem.run_bind, Result.andThen]
theorem others_below {w w' : World} (h : Below w.heap.size w w') : KeepsOthers w w' := KeepsOthers.of_grownBy (grown_of8 h none) (fun j o e => by cases e)
/-- What a flag's cell holds. -/
@[irreducible] def flagAt (w : World) (b : Nat) : Bool := match w.cell? ⟨b, 0, none⟩ with | some (.bool x) => x | _ => false
theorem flagAt_is {w : World} {b : Nat} {x : Bool} (h : w.cell? ⟨b, 0, none⟩ = some (.bool x)) : w.cell? ⟨b, 0, none⟩ = some (.bool (flagAt w b)) := by
  unfold flagAt
  rw [h]
/-- None of the pairs so far has the key. -/
def NotYet (L : List (List PairS)) (i k : Nat) (key : ByteArray) : Prop := (∀ j (hj : j < L.length), j < i → ∀ z ∈ L[j], z.key ≠ key) ∧ ∀ hi : i < L.length, ∀ z ∈ L[i].take k, z.key ≠ key
theorem NotYet.start (L : List (List PairS)) (key : ByteArray) : NotYet L 0 0 key := ⟨fun j hj h => by omega, fun hi z hz => by simp at hz⟩
theorem NotYet.next {L : List (List PairS)} {i k : Nat} {key : ByteArray} (h : NotYet L i k key) (hi : i < L.length) (hk : k < L[i].length) (hne : L[i][k].key ≠ key) : NotYet L i (k + 1) key :=
  ⟨h.1, fun hi' z hz => by
    rw [List.take_succ_eq_append_getElem hk] at hz
    rcases List.mem_append.1 hz with hz | hz
    · exact h.2 hi' z hz
    · rw [List.mem_singleton.1 hz]; exact hne⟩
theorem NotYet.row {L : List (List PairS)} {i : Nat} {key : ByteArray} (hi : i < L.length) (h : NotYet L i L[i].length key) : NotYet L (i + 1) 0 key :=
  ⟨fun j hj hlt z hz => by
    by_cases e : j = i
    · subst e
      exact h.2 hj z (by rw [List.take_length]; exact hz)
    · exact h.1 j hj (by omega) z hz, fun hi z hz => by simp at hz⟩
theorem NotYet.first {L : List (List PairS)} (hg : GoodL L) {i k : Nat} {x q : PairS} (h : NotYet L i k x.key) (hi : i < L.length) (hk : k < L[i].length) (hq : L[i][k] = q) (hx : x ∈ allP L) (e : q.key = x.key) : q = x :=
  first_all hg hi hx (by rw [← hq]; exact List.getElem_mem hk) e h.1
theorem NotYet.none {L : List (List PairS)} (hg : GoodL L) {x : PairS} (h : NotYet L L.length 0 x.key) : ¬ x ∈ allP L := fun hx => by
  obtain ⟨i, hi, hm⟩ := some_all hg hx
  exact h.1 i hi hi x hm rfl

set_option maxHeartbeats 8000000 in
set_option maxRecDepth 100000 in
theorem keys8_walk (K : MergeK) (a0 : Option Addr) (c0 : Nat) (ls : List (List PairS)) (w : World) (h0 : ReadL w (.slice a0 ls.length c0) ls) (hN : sumL8 ls + ls.length ≤ 1099511627776) :
    Calls Try.prog 7 #[.slice a0 ls.length c0] w fun e w' => e = .returned (.bool true) ∧ Below w.heap.size w w' := by
  obtain ⟨W0, hW0⟩ : ∃ W0, w.alloc (.cells #[.bool false] 4) = W0 := ⟨_, rfl⟩
  have hb0 : Below w.heap.size w W0 := by rw [← hW0]; exact (Below.refl _ w).alloc (Nat.le_refl _) _
  have hs0 : W0.heap.size = w.heap.size + 1 := by rw [← hW0]; simp
  have hrb : W0.heap[w.heap.size]? = some (.cells #[.bool false] 4 (0, 0)) := by rw [← hW0]; exact heap_alloc_new _ _
  have hor := fun w' (b : Below W0.heap.size W0 w') => ordered_any ((h0.below hb0).below b) (by omega) (fun l hl => by have := sum_mem8 hl; omega)
  have hos := ordP_sum ls
  have hol := ordP_len ls
  have hgd := GoodL.ord ls
  have hal := allP_len (ordP ls)
  have hall := allP_rising (ordP ls)
  have half := allP_fine (ordP ls)
  generalize ordP ls = L at *
  have hb1 : (allP L).length ≤ 3518437208780 := by omega
  have hb2 : sumL8 L ≤ 3518437208780 := by omega
  have hb3 : L.length ≤ 3518437208780 := by omega
  have hb4 : (liveP (allP L)).length ≤ 3518437208780 := Nat.le_trans (liveP_len _) hb1
  have hLN : sumL8 L + L.length ≤ 1099511627776 := by omega
  have HOR := Lib.hid hor
  have HGD := Lib.hid hgd
  have HB0 := Lib.hid hb0
  have HRB := Lib.hid hrb
  have HS0 := Lib.hid hs0
  have HRI := Lib.hid hall
  have HFI := Lib.hid half
  clear hor h0 hgd hos hol hal hN hb0 hrb hs0 hall half
  refine (callsIn_wide (n := 6)).1 ?_
  refine callsIn_of_wp_marks Try.func7 rfl trivial ?_ rfl
  simp only [Try.ntmps7, List.size_toArray, List.length_cons, List.length_nil, Nat.reduceAdd, Nat.reduceSub, Array.replicate_succ, Array.replicate_zero, List.push_toArray, List.append_toArray, List.nil_append, List.cons_append]
  refine wpIn_wide.2 ?_
  go_wp2_with fail
  refine (awake8_any K _).mono ?_
  rintro e w1 ⟨rfl, b1⟩
  have B1 := Lib.hid b1
  clear b1
  go_wp2_with fail
  refine (HOR.out w1 B1.out).mono ?_
  rintro e w2 ⟨v, xs, rfl, o2, b2⟩
  have B2 := Lib.hid (B1.out.trans (b2.mono B1.out.size))
  obtain ⟨va, vc, rfl⟩ := row_slice o2.row
  have O2 := Lib.hid o2
  clear b2 o2 HOR
  obtain ⟨lo, hlo⟩ : ∃ lo, w2.heap.size = lo := ⟨_, rfl⟩
  obtain ⟨W3, hW3⟩ : ∃ W3, w2.alloc (.cells #[.slice va L.length vc] 22) = W3 := ⟨_, rfl⟩
  obtain ⟨W4, hW4⟩ : ∃ W4, W3.alloc (.cells #[.string ⟨#[]⟩] 9) = W4 := ⟨_, rfl⟩
  have h3s : W3.heap.size = lo + 1 := by rw [← hW3, World.size_alloc, hlo]
  have h4s : W4.heap.size = lo + 2 := by rw [← hW4, World.size_alloc, h3s]
  have b23 : Below lo w2 W3 := by rw [← hW3, ← hlo]; exact (Below.refl _ _).alloc (Nat.le_refl _) _
  have b34 : Below (lo + 1) W3 W4 := by rw [← hW4, ← h3s]; exact (Below.refl _ _).alloc (Nat.le_refl _) _
  have b24 : Below lo w2 W4 := b23.trans (b34.mono (by omega))
  have hlb : W4.heap[lo]? = some (.cells #[.slice va L.length vc] 22 (0, 0)) := by
    rw [b34.block lo (by omega), ← hW3, ← hlo]
    exact heap_alloc_new _ _
  have hbb : Boxed W4 (lo + 1) 9 (.string ⟨#[]⟩) := by
    have := Boxed.new W3 9 (.string ⟨#[]⟩)
    rw [hW4, h3s] at this
    exact this
  have hl0 : W4.cell? ⟨lo, 0, none⟩ = some (.slice va L.length vc) := by rw [block_cell hlb]; rfl
  have h02 : W0.heap.size ≤ lo := by have := B2.out.size; omega
  have O4 := Lib.hid (O2.out.below (by rw [hlo]; exact b24))
  have hT : ReadT (fun j => j ≠ lo + 1) W4 (.slice va L.length vc) L := O4.out.readTP fun k cs r hk e => by
    subst e
    rw [show W4.heap[lo + 1]? = _ from hbb] at hk
    injection hk with hk
    injection hk with _ hk _
    exact absurd hk (by decide)
  have hsq := seqs_anyP hT (fun k hk => by omega) hb3
  have HLO := Lib.hid hlo
  have H4S := Lib.hid h4s
  have HLB := Lib.hid hlb
  have HBB := Lib.hid hbb
  have B24 := Lib.hid b24
  have B4 := Lib.hid (B2.out.trans ((show Below w2.heap.size w2 W4 by rw [hlo]; exact b24).mono B2.out.size))
  have HSQ := Lib.hid hsq
  have HW4 := Lib.hid hW4
  have l3 : (W3.alloc (.cells #[.string ⟨#[]⟩] 9)).cell? ⟨lo, 0, none⟩ = some (.slice va L.length vc) := by rw [hW4]; exact hl0
  clear h4s b23 b34 b24 hlb hbb hT hsq hW4 hl0
  go_wp2_with fail
  rw [HW4.out]
  refine HSQ.out.mono ?_
  rintro e w5 ⟨v5, xs5, rfl, o5, b5⟩
  have B5 := Lib.hid b5
  obtain ⟨sa, sc, rfl⟩ := row_slice o5.row
  have hG := o5.seqsP (fun k hk => by have := H4S.out; omega)
  have hall := K.all hG HGD.out hLN
  clear b5 o5 HSQ hG l3
  go_wp2_with fail
  refine hall.mono ?_
  rintro e w6 ⟨g, lb, G', rfl, hs6, b6, hGG⟩
  have B6 := Lib.hid (B5.out.trans (b6.mono B5.out.size))
  obtain ⟨eg, hgi, hG⟩ := hs6.func
  have HGN : Hid (∀ j, G' j → j ≠ lo + 1) := fun j hj e => by
    have h5 := B5.out.size
    have h4 := H4S.out
    rcases hGG j hj with h | h
    · exact h.1 e
    · omega
  have h6s : lo + 2 ≤ w6.heap.size := by have := B6.out.size; have := H4S.out; omega
  have HB6 := Lib.hid ((B6.out.block (lo + 1) (by have := H4S.out; omega)).trans HBB.out)
  have HL6 := Lib.hid ((B6.out.block lo (by have := H4S.out; omega)).trans HLB.out)
  have B46 := Lib.hid (B4.out.trans (B6.out.mono B4.out.size))
  have HR6 := Lib.hid ((B46.out.block w.heap.size (by have := HS0.out; omega)).trans HRB.out)
  have RL2 := Lib.hid O2.out.read
  have B26 : Hid (Below w2.heap.size w2 w6) := by
    rw [HLO.out]
    exact B24.out.trans (B6.out.mono (by have := H4S.out; omega))
  clear b6 hs6 hGG hall
  go_wp2_with fail
  have HH4 := Lib.hid HS0.out
  have hw0 : w.heap.size < lo := by have := HS0.out; omega
  refine range_boxC 5 18 5 rfl eg hgi hG rfl
    (fun pre C W => (Boxed W (lo + 1) 9 (.string (lastK8 pre)) ∧ C (lo + 1)) ∧ LowC (lo + 1) w6 C W)
    (fun c pre _ _ => c = .ret ∧ ¬ pre <+: allP L)
    (AbidesC.and (fun s C C' W W' h t hc => ⟨(t.block _ h.2).trans h.1, hc _ h.2⟩) (lowC_abides _ _))
    (fun c => abidesC_pure _)
    (fun k => k < w6.heap.size) (fun k hk => hk)
    ⟨⟨HB6.out, by omega⟩, Below.refl _ _, fun k hk => by omega⟩
    ?assign ?body ?hend
  case assign =>
    intro l x W K' hK
    unfold PairS.val' at *
    gi_wp2
    exact hK _ _ (Nat.le_refl _) (PairBox.new W x) ((Below.refl _ W).alloc (Nat.le_refl _) _)
  case body =>
    rintro l pre x Bx C W ⟨⟨h1, hCB⟩, hBC⟩ hC hWs hp hCx hBx hbx
    have hB := hBC.1
    have HP := Lib.hid hp
    have HCB := Lib.hid hCB
    have HBC := Lib.hid hBC
    clear hp hCB hBC
    have HIX : Hid (¬ (x ∈ allP L ∧ befB (lastK8 pre) x.key = true) → ¬ pre ++ [x] <+: allP L) := fun hn hp => hn (good8_at HRI.out HFI.out hp)
    have HLK := Lib.hid (lastK8_snoc pre x)
    have c1 := h1.cell
    have f1 := h1.frozen
    have hs := hB.size
    have hrW := (hB.block w.heap.size (by omega)).trans HR6.out
    have r0 : W.cell? ⟨w.heap.size, 0, none⟩ = some (.bool false) := by rw [block_cell hrW]; rfl
    have r1 : W.frozen? ⟨w.heap.size, 0, none⟩ = false := block_free hrW 0
    have l0 : W.cell? ⟨lo, 0, none⟩ = some (.slice va L.length vc) := by rw [block_cell ((hB.block _ (by omega)).trans HL6.out)]; rfl
    have hlq := leq_any x.key (lastK8 pre)
    have HXL : Hid (∀ z : PairS, z = x → ¬ z ∈ allP L → ¬ x ∈ allP L) := fun z e h => e ▸ h
    obtain ⟨x0, x1, x2⟩ : W.cell? ⟨Bx, 0, none⟩ = some (.string x.key) ∧ W.cell? ⟨Bx, 1, none⟩ = some (.string x.val) ∧ W.cell? ⟨Bx, 2, none⟩ = some (.bool x.gone) := ⟨hbx.c0, hbx.c1, hbx.c2⟩
    unfold PairS.val'
    by_cases hbf : befB (lastK8 pre) x.key = true
    · have hlq2 : ∀ w, (binOp BinOp.leq 9 (.string x.key) (.string (lastK8 pre))).run Try.prog w = .ok (.bool false) w := fun w => by rw [hlq, hbf]; rfl
      have B2W : Hid (Below w2.heap.size w2 W) := B26.out.trans (hB.mono (by rw [HLO.out]; omega))
      clear hlq
      gi_wp2
      have KP1 : Hid (Keeps G' W (W.setCell ⟨lo + 1, 0, none⟩ (.string x.key))) := fun k hk => block_other8 (HGN.out k hk)
      have BX1 := Lib.hid (h1.set (.string x.key))
      have B21 := Lib.hid (B2W.out.setCell (p := ⟨lo + 1, 0, none⟩) (by rw [HLO.out]; exact Nat.le_succ _) (.string x.key))
      have BL1 := Lib.hid ((Below.refl (lo + 1) W).setCell (p := ⟨lo + 1, 0, none⟩) (Nat.le_refl _) (.string x.key))
      have HX1 : Hid (PairBox (W.setCell ⟨lo + 1, 0, none⟩ (.string x.key)) Bx x) := (block_other8 (by omega)).trans hbx
      have RW1 : Hid ((W.setCell ⟨lo + 1, 0, none⟩ (.string x.key)).heap[w.heap.size]? = some (.cells #[.bool false] 4 (0, 0))) := (block_other8 (by omega)).trans hrW
      have KO1 : Hid (Turn C W (W.setCell ⟨lo + 1, 0, none⟩ (.string x.key))) := (Turn.refl C W).setCell (p := ⟨lo + 1, 0, none⟩) (.inl HCB.out) _
      have hsz1 : W.heap.size = (W.setCell ⟨lo + 1, 0, none⟩ (.string x.key)).heap.size := by simp
      have HSZ := Lib.hid hsz1
      clear c1 f1 r0 r1 l0 x0 x1 x2 hlq2 h1 hB hrW hbx B2W hsz1
      generalize W.setCell ⟨lo + 1, 0, none⟩ (.string x.key) = W1 at *
      gi_loopw [6, 27] (fun fv iv wr => ∃ (i : Nat) (b : Bool), i ≤ L.length ∧ iv = .int .i64 (i : Int) ∧ fv = .bool b ∧ Hid (Below W1.heap.size W1 wr ∧ (b = false → NotYet L i 0 x.key))) (fun _ iv _ => L.length - (intOf iv).toNat)
      case atStart => exact ⟨0, false, Nat.zero_le _, rfl, rfl, Below.refl _ _, fun _ => NotYet.start _ _⟩
      case round =>
        obtain ⟨i, b, hil, rfl, rfl, HI⟩ := hrel
        by_cases hlt2 : i < L.length
        · obtain ⟨bL, oL, lv, rfl, qv1, hrp⟩ := RL2.out.at B21.out hlt2
          have qv := (HI.out.1.cell (World.block_lt_of_cell? W1 ⟨bL, oL + i, none⟩ qv1)).trans qv1
          have hmes : L.length - (intOf (.int .i64 ((i : Int) + 1))).toNat < L.length - (intOf (.int .i64 (i : Int))).toNat := by simp [intOf]; omega
          obtain ⟨la, lc, rfl⟩ := hrp.slice
          have hmx : L[i].length ≤ 9223372036854775807 := by have := hrp.1; unfold maxLen at this; omega
          have HRP : Hid (∀ w', Below W1.heap.size W1 w' → ReadP w' (.slice la L[i].length lc) L[i]) := fun w' t => hrp.below t
          have HNR : Hid (NotYet L i L[i].length x.key → NotYet L (i + 1) 0 x.key) := fun h => h.row hlt2
          have HNX : Hid (∀ (k : Nat) (hk : k < L[i].length), NotYet L i k x.key → L[i][k].key ≠ x.key → NotYet L i (k + 1) x.key) := fun k hk h hne => h.next hlt2 hk hne
          have HNF : Hid (∀ (k : Nat) (hk : k < L[i].length) (q : PairS), NotYet L i k x.key → L[i][k] = q → q.key = x.key → x ∈ allP L → q = x) := fun k hk q h e1 e2 hx => h.first HGD.out hlt2 hk e1 hx e2
          clear hrp qv1
          generalize L[i] = m at *
          have hi0 : (0 : Int) ≤ (i : Int) := Int.natCast_nonneg _
          have hilt : (i : Int) < (L.length : Int) := by omega
          gi_wp2
          gi_loopw [6, 33] (fun fv kv wr2 => ∃ (k : Nat) (b2 : Bool), k ≤ m.length ∧ kv = .int .i64 (k : Int) ∧ fv = .bool b2 ∧ Hid (Below W1.heap.size W1 wr2 ∧ (b2 = false → NotYet L i k x.key))) (fun _ kv _ => m.length - (intOf kv).toNat)
          case atStart => exact ⟨0, b, Nat.zero_le _, rfl, rfl, HI.out.1, HI.out.2⟩
          case round =>
            obtain ⟨k, b2, hkl, rfl, rfl, HJ⟩ := hrel
            clear HI qv
            by_cases hlt3 : k < m.length
            · obtain ⟨bm, om, rfl, q0, q1, q2⟩ := (HRP.out _ HJ.out.1).at hlt3
              have HN1 := Lib.hid (HNX.out k hlt3)
              have HN2 := Lib.hid (fun h1 h2 h3 => HNF.out k hlt3 _ h1 rfl h2 h3)
              have hmes3 : m.length - (intOf (.int .i64 ((k : Int) + 1))).toNat < m.length - (intOf (.int .i64 (k : Int))).toNat := by simp [intOf]; omega
              generalize m[k] = q at *
              have hk0 : (0 : Int) ≤ (k : Int) := Int.natCast_nonneg _
              have hklt : (k : Int) < (m.length : Int) := by omega
              have hbl : Below W1.heap.size W1 (wr.alloc (.cells #[.string q.key, .string q.val, .bool q.gone] 29)) := HJ.out.1.alloc HJ.out.1.size _
              obtain ⟨y0, y1, y2⟩ : _ ∧ _ ∧ _ := ⟨(PairBox.new wr q).c0, (PairBox.new wr q).c1, (PairBox.new wr q).c2⟩
              have hxb : PairBox (wr.alloc (.cells #[.string q.key, .string q.val, .bool q.gone] 29)) Bx x := (hbl.block Bx (block_lt HX1.out)).trans HX1.out
              obtain ⟨x0, x1, x2⟩ : _ ∧ _ ∧ _ := ⟨hxb.c0, hxb.c1, hxb.c2⟩
              have hrw := (hbl.block w.heap.size (block_lt RW1.out)).trans RW1.out
              have r0 : (wr.alloc (.cells #[.string q.key, .string q.val, .bool q.gone] 29)).cell? ⟨w.heap.size, 0, none⟩ = some (.bool false) := by rw [block_cell hrw]; rfl
              have r1 : (wr.alloc (.cells #[.string q.key, .string q.val, .bool q.gone] 29)).frozen? ⟨w.heap.size, 0, none⟩ = false := block_free hrw 0
              have BJ := Lib.hid hbl
              clear hbl hxb hrw
              obtain ⟨qk, qv, qg⟩ := q
              obtain ⟨xk, xv, xg⟩ := x
              simp only at q0 q1 q2 y0 y1 y2 x0 x1 x2
              cases b2 with
              | true =>
                gi_wp2
                exact ⟨⟨k + 1, true, by omega, by go_num, rfl, BJ.out, fun h => by cases h⟩, hmes3⟩
              | false =>
                have HNY : Hid (NotYet L i k xk) := HJ.out.2 rfl
                by_cases hg1 : qk.toList = xk.toList
                · by_cases hg2 : qv.toList = xv.toList
                  · by_cases hg3 : qg = xg
                    · obtain rfl := toList_inj hg1
                      obtain rfl := toList_inj hg2
                      subst hg3
                      clear hg1 hg2
                      gi_wp2
                      exact ⟨⟨k + 1, true, by omega, by go_num, rfl, BJ.out, fun h => by cases h⟩, hmes3⟩
                    · gi_wp2
                      exact (HIX.out (fun hh => hg3 (congrArg PairS.gone (HN2.out HNY.out (toList_inj hg1) hh.1))) HP.out).elim
                  · gi_wp2
                    exact (HIX.out (fun hh => hg2 (congrArg (fun p : PairS => p.val.toList) (HN2.out HNY.out (toList_inj hg1) hh.1))) HP.out).elim
                · have hq1 : (qk.toList == xk.toList) = false := by simpa using hg1
                  gi_wp2
                  exact ⟨⟨k + 1, false, by omega, by go_num, rfl, BJ.out, fun _ => HN1.out HNY.out (fun e => hg1 (congrArg ByteArray.toList e))⟩, hmes3⟩
            · obtain rfl : k = m.length := by omega
              gi_wp2
              exact ⟨⟨i + 1, b2, by omega, by go_num, rfl, HJ.out.1, fun h => HNR.out (HJ.out.2 h)⟩, hmes⟩
        · obtain rfl : i = L.length := by omega
          have hG1 : ∀ j, G' j → j < W1.heap.size := fun j hj => by have := hG j hj; have := HSZ.out; omega
          have hrw := (HI.out.1.block w.heap.size (block_lt RW1.out)).trans RW1.out
          have r0 : wr.cell? ⟨w.heap.size, 0, none⟩ = some (.bool false) := by rw [block_cell hrw]; rfl
          have r1 : wr.frozen? ⟨w.heap.size, 0, none⟩ = false := block_free hrw 0
          clear hrw
          cases b with
          | true =>
            gi_wp2
            refine ⟨KO1.out.trans (Turn.of_below (fun _ => False) HI.out.1) (fun _ h => h.elim), KP1.out.trans (Keeps.of_below HI.out.1 hG1), ⟨?_, .inl HCB.out⟩, HBC.out.1.trans (BL1.out.trans (HI.out.1.mono (by have := HSZ.out; omega))), fun k hk => .inl (HBC.out.2 k hk)⟩
            rw [HLK.out]
            exact (HI.out.1.block _ BX1.out.lt).trans BX1.out
          | false =>
            have HNY : Hid (NotYet L L.length 0 x.key) := HI.out.2 rfl
            gi_wp2
            exact (HIX.out (fun hh => NotYet.none HGD.out HNY.out hh.1) HP.out).elim
    · have hlq2 : ∀ w, (binOp BinOp.leq 9 (.string x.key) (.string (lastK8 pre))).run Try.prog w = .ok (.bool true) w := fun w => by rw [hlq]; simp [hbf]
      clear hlq
      gi_wp2
      exact (HIX.out (fun hh => hbf hh.2) HP.out).elim
  case hend =>
    refine ⟨fun D C W hD hnD hCW ⟨h1, hBC⟩ hK => ?_, fun D c pre C W hD _ _ hp ⟨_, hn⟩ hK => absurd hp hn⟩
    have hB := hBC.1
    clear hnD hCW
    have hs := hB.size
    have B2W : Hid (Below w2.heap.size w2 W) := B26.out.trans (hB.mono (by rw [HLO.out]; omega))
    have OW := Lib.hid (O2.out.below B2W.out)
    have HT := Lib.hid (OwnL.readT OW.out)
    have hrW := (hB.block w.heap.size (by omega)).trans HR6.out
    have hlW := (hB.block lo (by omega)).trans HL6.out
    have HRW := Lib.hid hrW
    have HK := Lib.hid hK
    have HBE : Hid (Below w.heap.size w W) := HB0.out.trans ((B2.out.trans (B2W.out.mono B2.out.size)).mono HB0.out.size)
    have SB : Hid (∀ w', Below W.heap.size W w' → w'.cell? ⟨lo, 0, none⟩ = some (.slice va L.length vc) ∧ w'.cell? ⟨w.heap.size, 0, none⟩ = some (.bool (flagAt w' w.heap.size)) ∧ w'.frozen? ⟨w.heap.size, 0, none⟩ = false) := fun w' t => by
      have e1 := (t.block lo (by omega)).trans hlW
      have e2 := (t.block w.heap.size (by omega)).trans hrW
      exact ⟨by rw [block_cell e1]; rfl, flagAt_is (x := false) (by rw [block_cell e2]; rfl), block_free e2 0⟩
    have SS : Hid (∀ w', Below W.heap.size W w' → (w'.setCell ⟨w.heap.size, 0, none⟩ (.bool true)).cell? ⟨lo, 0, none⟩ = some (.slice va L.length vc) ∧ (w'.setCell ⟨w.heap.size, 0, none⟩ (.bool true)).cell? ⟨w.heap.size, 0, none⟩ = some (.bool (flagAt (w'.setCell ⟨w.heap.size, 0, none⟩ (.bool true)) w.heap.size)) ∧ (w'.setCell ⟨w.heap.size, 0, none⟩ (.bool true)).frozen? ⟨w.heap.size, 0, none⟩ = false) := fun w' t => by
      have e1 := (t.block lo (by omega)).trans hlW
      have e2 := (t.block w.heap.size (by omega)).trans hrW
      have e3 : (w'.setCell ⟨w.heap.size, 0, none⟩ (.bool true)).heap[lo]? = w'.heap[lo]? := block_other8 (by omega)
      exact ⟨by rw [block_cell (e3.trans e1)]; rfl, flagAt_is (x := true) (by rw [block_cell (block_set e2 0 (.bool true))]; rfl), block_free (block_set e2 0 (.bool true)) 0⟩
    have hDn : D ≠ w.heap.size := by omega
    have HDN := Lib.hid hDn
    have HWW : Hid (w.heap.size ≤ W.heap.size ∧ w.heap.size ≤ D) := ⟨by omega, by omega⟩
    clear h1 hB hBC hrW hlW hK hgi eg hG hDn
    go_upto_region 25 with (fail)
    go_region_held3 (fun w' => w'.cell? ⟨lo, 0, none⟩ = some (.slice va L.length vc) ∧ w'.cell? ⟨w.heap.size, 0, none⟩ = some (.bool (flagAt w' w.heap.size)) ∧ w'.frozen? ⟨w.heap.size, 0, none⟩ = false) (first | (refine SB.out _ ?_; (repeat (first | exact BG.out | exact BF.out | exact BE.out | exact BD.out | exact BC.out | exact BB.out | exact BA.out | exact Below.refl _ _ | apply Below.drew)); done) | exact SS.out wG BG.out)
      (first
      | (go_at_call 13; refine (seqs_any (OwnL.readT (OW.out.below (by repeat (first | exact Below.refl _ _ | apply Below.drew)))) hb3).mono ?_; rintro e wA ⟨vA, xsA, rfl, oA, bA⟩; have BA : Hid (Below W.heap.size W wA) := below_next (by repeat (first | exact Below.refl _ _ | apply Below.drew)) (Nat.le_refl _) bA; obtain ⟨GA, gA⟩ := oA.seqs; have SA := Lib.hid gA; obtain ⟨aA, cA, rfl⟩ := row_slice oA.row; clear oA gA bA)
      | (go_at_call 12; refine (K.all (SA.out.below (by repeat (first | exact Below.refl _ _ | apply Below.drew))) HGD.out hLN).mono ?_; rintro e wB ⟨gB, lbB, GB, rfl, sB, bB, -⟩; have BB : Hid (Below W.heap.size W wB) := below_next (by repeat (first | exact BA.out | apply Below.drew)) (Nat.le_refl _) bB; have TB := Lib.hid sB; clear sB bB)
      | (go_at_call 15; refine (K.live (TB.out.below (by repeat (first | exact Below.refl _ _ | apply Below.drew))) hb1).mono ?_; rintro e wC ⟨gC, lbC, GC, rfl, sC, bC, -⟩; have BC : Hid (Below W.heap.size W wC) := below_next (by repeat (first | exact BB.out | apply Below.drew)) (Nat.le_refl _) bC; have TC := Lib.hid sC; clear sC bC)
      | (go_at_call 11; refine (made_collect (TC.out.below (by repeat (first | exact Below.refl _ _ | apply Below.drew))) hb4).mono ?_; rintro e wD ⟨aD, cD, rfl, rD, bD⟩; have BD : Hid (Below W.heap.size W wD) := below_next (by repeat (first | exact BC.out | apply Below.drew)) (Nat.le_refl _) bD; have RD := Lib.hid rD; clear rD bD)
      | (go_at_call 14; refine (rall_any (OW.out.below (by repeat (first | exact BD.out | apply Below.drew))).read hb2).mono ?_; rintro e wE ⟨vE, rfl, oE, bE⟩; have BE : Hid (Below W.heap.size W wE) := below_next (by repeat (first | exact BD.out | apply Below.drew)) (Nat.le_refl _) bE; have RE := Lib.hid (ReadP.own oE); have RD2 := Lib.hid ((RD.out.below (by repeat (first | exact Below.refl _ _ | apply Below.drew))).below bE); obtain ⟨aE, cE, rfl⟩ := row_slice oE; clear oE bE)
      | (go_at_call 17; refine (rlive_any (RE.out.below (by repeat (first | exact Below.refl _ _ | apply Below.drew))) hb1).mono ?_; rintro e wF ⟨vF, rfl, oF, bF⟩; have BF : Hid (Below W.heap.size W wF) := below_next (by repeat (first | exact BE.out | apply Below.drew)) (Nat.le_refl _) bF; have RF := Lib.hid (ReadP.own oF); have RD3 := Lib.hid ((RD2.out.below (by repeat (first | exact Below.refl _ _ | apply Below.drew))).below bF); clear oF bF)
      | (go_at_call 10; refine (same8_true (RD3.out.below (by repeat (first | exact Below.refl _ _ | apply Below.drew))) (RF.out.below (by repeat (first | exact Below.refl _ _ | apply Below.drew)))).mono ?_; rintro e wG ⟨rfl, hw⟩; have BG : Hid (Below W.heap.size W wG) := (by obtain ⟨n, hn⟩ := hw; subst hn; exact below_drewN (by repeat (first | exact BF.out | exact below_drewN BF.out _ | apply Below.drew)) n); clear hw)
      )
    all_goals
      have hrG := Lib.hid ((BG.out.block _ (block_lt HRW.out)).trans HRW.out)
      have hKG := Lib.hid ((BG.out.block _ (block_lt HK.out)).trans HK.out)
      have hBG := Lib.hid (HBE.out.trans (BG.out.mono HBE.out.size))
      have hbE : Hid (Below w.heap.size w (wG.setCell ⟨w.heap.size, 0, none⟩ (.bool true))) := hBG.out.setCell (p := ⟨w.heap.size, 0, none⟩) (Nat.le_refl _) _
      go_wp2_with fail
      have hKE : (wG.setCell ⟨w.heap.size, 0, none⟩ (.bool true)).heap[D]? = some (.deferred (some [])) := (KeepsOthers.setCell wG ⟨w.heap.size, 0, none⟩ (.bool true)).same D _ hKG.out rfl
      refine ⟨by simp, .inl ⟨_, _, rfl, run_takeDeferred hKE, ?_⟩⟩
      have hres : ((wG.setCell ⟨w.heap.size, 0, none⟩ (.bool true)).putObj D (.deferred none)).cell? ⟨w.heap.size, 0, none⟩ = some (.bool true) := by
        have e1 : ((wG.setCell ⟨w.heap.size, 0, none⟩ (.bool true)).putObj D (.deferred none)).heap[w.heap.size]? = (wG.setCell ⟨w.heap.size, 0, none⟩ (.bool true)).heap[w.heap.size]? := World.putObj_heap_other (fun e => HDN.out e.symm)
        have e2 := block_set hrG.out 0 (.bool true)
        rw [block_cell (e1.trans e2)]
        rfl
      refine ⟨_, ?_, rfl, hbE.out.trans (belowK_b (w := w) (Nat.le_refl _) _ D _ _ HWW.out.2 hKE rfl rfl)⟩
      rw [results_cell8 rfl]
      go_simp
end Go.Proofs.Ytebiipmaimdocaa
