/- Layer 5: contract of Put. -/
import Derived.Test.YtmmamgnbonpkiaaDoorW05e
import Derived.Deep.RegionWith
namespace Go.Proofs.YtmmamgnbonpkiaaDoor
open Go.RowKit Go.Maps Go.WideMaps
set_option linter.unusedVariables false

theorem validP_wrong {x : PairS} (h : validP x = false) : wrongP x = 1 := by
  obtain ⟨k, v, g⟩ := x
  unfold validP at h
  simp only at h
  by_cases hk : k.toList = []
  · exact wrongP_key hk
  · have : k.toList.isEmpty = false := by simpa using hk
    rw [this] at h
    cases g
    · simp at h
    · by_cases hv : v.toList = []
      · rw [hv] at h; simp at h
      · exact wrongP_gone hv
theorem validP_fine {x : PairS} (h : validP x = true) : wrongP x = if 64 < x.key.size ∨ 8192 < x.val.size then 2 else 0 := by
  obtain ⟨k, v, g⟩ := x
  unfold validP at h
  simp only [Bool.and_eq_true, Bool.not_eq_true', Bool.or_eq_true] at h
  obtain ⟨h1, h2⟩ := h
  have hk : ¬ k.toList = [] := by simpa using h1
  have hg : g = false ∨ v.toList = [] := by rcases h2 with h2 | h2; exact .inr (by simpa using h2); exact .inl h2
  by_cases h3 : 64 < k.size ∨ 8192 < v.size
  · rw [if_pos h3]; exact wrongP_long hk hg (by omega)
  · rw [if_neg h3]; exact wrongP_fine hk hg (by omega)

/-- Put, behind the search: the node at nb is that of the key; it still has the value v0. -/
def PutMid (w wx : World) (p : Nat) (x : PairS) (l : List PairS) (F : Nat → Prop) (nb : Nat) (v0 : ByteArray) (sn : Nat) : Prop :=
  ∃ (N : List NodeS) (i : Nat) (hi : i < N.length), Skip wx p N ((putP x l).length : Nat) (sn : Nat) (Grown F w wx) ∧ N[i].blk = nb ∧ N[i].pr.key = x.key ∧ N[i].pr.val = v0 ∧ (N.set i { N[i] with pr := x }).map NodeS.pr = putP x l ∧
    sn + x.val.size = sizeP (putP x l) + v0.size ∧ (∀ y ∈ N, 1 ≤ y.high) ∧ Turn F w wx ∧ RisingP (putP x l)
theorem mid_there {w wx : World} {p : Nat} {x : PairS} {l : List PairS} {F : Nat → Prop} {N : List NodeS} (h : TabP w p l F N) (hb : Below w.heap.size w wx) (hi : placeP x.key l < N.length) (he : N[placeP x.key l].pr.key = x.key) :
    PutMid w wx p x l F N[placeP x.key l].blk N[placeP x.key l].pr.val (sizeP l) := by
  have hl : placeP x.key l < l.length := by rw [← h.len]; exact hi
  have hat := h.at hi
  have ht : thereP x.key l = true := by rw [thereP_of hl rfl, ← hat]; simpa using he
  have hp : putP x l = l.set (placeP x.key l) x := by
    unfold putP
    rw [ht, if_pos rfl, List.set_eq_take_append_cons_drop, if_pos hl]
  have hsz : sizeP (putP x l) + (l[placeP x.key l].key.size + l[placeP x.key l].val.size) = sizeP l + (x.key.size + x.val.size) := by
    have e1 := sizeP_append (l.take (placeP x.key l)) (l.drop (placeP x.key l))
    rw [List.take_append_drop, List.drop_eq_getElem_cons hl, sizeP_cons] at e1
    unfold putP
    rw [ht, if_pos rfl, sizeP_append, sizeP_cons]
    omega
  have hlen : (putP x l).length = l.length := by rw [hp, List.length_set]
  refine ⟨N, _, hi, ?_, rfl, he, rfl, ?_, ?_, h.hi, (Turn.of_below F hb), putP_rising h.rising⟩
  · rw [hlen]
    exact SkipL.mono (SkipL.below h.sk hb) (fun i hi => .inl hi)
  · rw [List.map_set, h.prs, hp]
  · rw [hat] at he ⊢
    rw [he] at hsz
    omega
theorem mid_new {w wx : World} {p nb hg : Nat} {x : PairS} {l : List PairS} {F : Nat → Prop} {N : List NodeS} (h : TabP w p l F N) (ht : thereP x.key l = false) (g1 : 1 ≤ hg)
    (hs : Skip wx p (withNode N (placeP x.key l) ⟨nb, ⟨x.key, ⟨#[]⟩, false⟩, hg⟩) ((l.length : Nat) + 1) ((sizeP l : Nat) + (x.key.size : Nat)) (Grown F w wx)) (t : Turn F w wx) :
    PutMid w wx p x l F nb ⟨#[]⟩ (sizeP l + x.key.size) := by
  have hle := placeP_le x.key l
  have hle' : placeP x.key l ≤ N.length := by rw [h.len]; exact hle
  have hp : putP x l = l.take (placeP x.key l) ++ x :: l.drop (placeP x.key l) := by
    unfold putP
    rw [ht]
    simp
  have hsz : sizeP (putP x l) = sizeP l + (x.key.size + x.val.size) := by
    have e1 := sizeP_append (l.take (placeP x.key l)) (l.drop (placeP x.key l))
    rw [List.take_append_drop] at e1
    rw [hp, sizeP_append, sizeP_cons]
    omega
  have hlen : (putP x l).length = l.length + 1 := by
    rw [hp, List.length_append, List.length_cons, List.length_take, List.length_drop]
    omega
  have hwl := withNode_len hle' ⟨nb, ⟨x.key, ⟨#[]⟩, false⟩, hg⟩
  have hat : (withNode N (placeP x.key l) ⟨nb, ⟨x.key, ⟨#[]⟩, false⟩, hg⟩)[placeP x.key l]? = some ⟨nb, ⟨x.key, ⟨#[]⟩, false⟩, hg⟩ := by rw [withNode_at hle', if_neg (by omega), if_pos rfl]
  obtain ⟨hi, hat⟩ := List.getElem?_eq_some_iff.1 hat
  refine ⟨_, _, hi, ?_, by rw [hat], by rw [hat], by rw [hat], ?_, ?_, fun y hy => ?_, t, putP_rising h.rising⟩
  · rw [hlen]
    exact hs
  · rw [hat, hp]
    have e : (withNode N (placeP x.key l) ⟨nb, ⟨x.key, ⟨#[]⟩, false⟩, hg⟩).set (placeP x.key l) ⟨nb, x, hg⟩ = withNode N (placeP x.key l) ⟨nb, x, hg⟩ := by
      unfold withNode
      have hl : (N.take (placeP x.key l)).length = placeP x.key l := by simp; omega
      rw [List.set_append_right _ _ (by omega), hl]
      simp
    rw [e]
    unfold withNode
    rw [List.map_append, List.map_cons, List.map_take, List.map_drop, h.prs]
  · show _ = _ + 0
    omega
  · unfold withNode at hy
    rcases List.mem_append.1 hy with hy | hy
    · exact h.hi _ (List.mem_of_mem_take hy)
    · rcases List.mem_cons.1 hy with rfl | hy
      · exact g1
      · exact h.hi _ (List.mem_of_mem_drop hy)
theorem SkipL.setHead {w : World} {p i : Nat} {N : List NodeS} {c s : Int} {F : Nat → Prop} {L : Nat → Nat → Option Nat} (h : SkipL w p N c s F L) (hi : i < N.length) : w.frozen? ⟨N[i].blk, 1, none⟩ = false ∧ w.frozen? ⟨N[i].blk, 2, none⟩ = false := by
  have h1 := SkipL.free h (q := i + 1) (by omega)
  rw [blkAt_succ hi] at h1
  exact ⟨h1 1, h1 2⟩
/-- What the tail of Put makes of it. -/
theorem PutMid.done {w wx w1 : World} {p nb sn : Nat} {x : PairS} {l : List PairS} {F : Nat → Prop} {v0 : ByteArray} (h : PutMid w wx p x l F nb v0 sn)
    (b : Below wx.heap.size ((wx.setCell ⟨p, 16, none⟩ (.int .i64 ((sn : Int) + ((x.val.size : Int) - (v0.size : Int))))).drew) w1) (hF : F p) :
    TabAt ((w1.setCell ⟨nb, 1, none⟩ (.string x.val)).setCell ⟨nb, 2, none⟩ (.bool x.gone)) p (putP x l) (Grown F w ((w1.setCell ⟨nb, 1, none⟩ (.string x.val)).setCell ⟨nb, 2, none⟩ (.bool x.gone))) ∧ Turn F w ((w1.setCell ⟨nb, 1, none⟩ (.string x.val)).setCell ⟨nb, 2, none⟩ (.bool x.gone)) := by
  obtain ⟨N, i, hi, hs, hb, hk, hv, hp, hz, hh, ht, hr⟩ := h
  have hsz : ((wx.setCell ⟨p, 16, none⟩ (.int .i64 ((sn : Int) + ((x.val.size : Int) - (v0.size : Int))))).drew).heap.size = wx.heap.size := by simp [World.setCell]
  have h1 := SkipL.kept (SkipL.setBytes hs ((sn : Int) + ((x.val.size : Int) - (v0.size : Int)))) (w' := (wx.setCell ⟨p, 16, none⟩ (.int .i64 ((sn : Int) + ((x.val.size : Int) - (v0.size : Int))))).drew) (fun _ _ => rfl)
  have h2 := SkipL.below h1 (by rw [hsz]; exact b)
  have hgb := SkipL.fn hs _ (List.getElem_mem hi)
  rw [hb] at hgb
  have h3 := SkipL.setPair h2 hi ⟨x.key, x.val, N[i].pr.gone⟩ 1 (.string x.val) (by omega) (by rw [if_neg (by omega), hk]) (by rw [if_pos rfl]) (by rw [if_neg (by omega)])
  have hi2 : i < (N.set i { N[i] with pr := ⟨x.key, x.val, N[i].pr.gone⟩ }).length := by simpa using hi
  have h4 := SkipL.setPair h3 hi2 x 2 (.bool x.gone) (by omega) (by rw [if_neg (by omega)]; simp) (by rw [if_neg (by omega)]; simp) (by rw [if_pos rfl])
  simp only [List.getElem_set_self, List.set_set, hb] at h4
  have hmap : ∀ q j, lkAt (N.set i ⟨nb, x, N[i].high⟩) q j = lkAt N q j := by
    have hhi : ∀ a, hiAt (N.set i ⟨nb, x, N[i].high⟩) a = hiAt N a := fun a => by
      unfold hiAt
      by_cases e : i = a
      · subst e; simp [hi]
      · rw [List.getElem?_set_ne e]
    have hnx : ∀ j q, nxL j ((N.set i ⟨nb, x, N[i].high⟩).drop q) = nxL j (N.drop q) := fun j q => by
      have key : ∀ (A B : List NodeS), A.map (fun z => (z.blk, z.high)) = B.map (fun z => (z.blk, z.high)) → nxL j A = nxL j B := by
        intro A
        induction A with
        | nil => intro B e; cases B with
          | nil => rfl
          | cons y r => simp at e
        | cons y r ih => intro B e; cases B with
          | nil => simp at e
          | cons z r2 =>
            simp only [List.map_cons, List.cons.injEq, Prod.mk.injEq] at e
            rw [nxL_cons, nxL_cons, e.1.1, e.1.2, ih _ e.2]
      apply key
      rw [List.map_drop, List.map_drop, List.map_set]
      congr 1
      apply List.ext_getElem?
      intro a
      by_cases e : i = a
      · subst e; simp [hi, hb]
      · rw [List.getElem?_set_ne e]
    intro q j
    unfold lkAt onB
    simp only [hhi, hnx]
  have hszI : ((sn : Int) + ((x.val.size : Int) - (v0.size : Int))) = ((sizeP (putP x l) : Nat) : Int) := by omega
  have hg1 : w1.heap.size = ((w1.setCell ⟨nb, 1, none⟩ (.string x.val)).setCell ⟨nb, 2, none⟩ (.bool x.gone)).heap.size := by simp [World.setCell]
  have hg2 := b.size
  rw [hsz] at hg2
  refine ⟨⟨N.set i ⟨nb, x, N[i].high⟩, ?_, ?_, fun y hy => ?_, hr⟩, ?_⟩
  · have h5 := SkipL.congr h4 (L' := lkAt (N.set i ⟨nb, x, N[i].high⟩)) (fun q _ j _ => (hmap q j).symm)
    rw [hszI] at h5
    exact SkipL.mono h5 (fun k hk => hk.imp id (fun hk => ⟨hk.1, by omega⟩))
  · have hp2 : (N.set i ⟨N[i].blk, x, N[i].high⟩).map NodeS.pr = putP x l := hp
    rw [hb] at hp2; exact hp2
  · rcases List.mem_or_eq_of_mem_set hy with hy | rfl
    · exact hh _ hy
    · show 1 ≤ N[i].high
      exact hh N[i] (List.getElem_mem hi)
  · have hnb : F nb ∨ w.heap.size ≤ nb := hgb.imp id (fun h => h.1)
    have t1 : Turn F w ((wx.setCell ⟨p, 16, none⟩ (.int .i64 ((sn : Int) + ((x.val.size : Int) - (v0.size : Int))))).drew) := (ht.setCell (p := ⟨p, 16, none⟩) (.inl hF) _).drew
    exact ((t1.trans (Turn.of_below (fun _ => False) (by rw [hsz]; exact b)) (fun _ h => h.elim)).setCell (p := ⟨nb, 1, none⟩) hnb _).setCell (p := ⟨nb, 2, none⟩) hnb _

set_option maxHeartbeats 2000000 in
set_option maxRecDepth 100000 in
theorem put_bad {w : World} {p : Nat} (x : PairS) (hx : wrongP x ≠ 0) :
    Calls Tryd.prog 9 #[.pointer (some ⟨p, 0, none⟩), x.val'] w fun e w' => e = .returned (.int .i64 (wrongP x : Nat)) ∧ Below w.heap.size w w' := by
  obtain ⟨k, v, g⟩ := x
  have hv := isValid_any ⟨k, v, g⟩ (w.alloc (.cells #[.string k, .string v, .bool g] 31))
  show Calls Tryd.prog 9 #[.pointer (some ⟨p, 0, none⟩), .agg #[.string k, .string v, .bool g]] w _
  cases hb : validP ⟨k, v, g⟩ with
  | false =>
    have HN := Lib.hid (validP_wrong hb)
    rw [HN.out]
    rw [hb] at hv
    clear hx hb
    unfold PairS.val' at hv
    go_enter Tryd.func9, Tryd.ntmps9
    go_wp2_with fail
    refine hv.mono ?_
    rintro e w1 ⟨rfl, b1⟩
    have B1 := Lib.hid (((Below.refl _ w).alloc (Nat.le_refl _) _).trans (b1.mono (by simp)))
    clear b1
    go_wp2
    go_ret
    exact ⟨rfl, B1.out⟩
  | true =>
    have hn := validP_fine hb
    have hlong : 64 < k.size ∨ 8192 < v.size := by
      by_cases h : 64 < k.size ∨ 8192 < v.size
      · exact h
      · rw [if_neg h] at hn; exact absurd hn hx
    rw [if_pos hlong] at hn
    have HN := Lib.hid hn
    rw [HN.out]
    rw [hb] at hv
    clear hx hb hn
    unfold PairS.val' at hv
    have hn0 := heap_alloc_new w (.cells #[.string k, .string v, .bool g] 31)
    have HB : Hid (w.heap.size < (w.alloc (.cells #[.string k, .string v, .bool g] 31)).heap.size) := by show _ < _; simp
    have HNB := Lib.hid hn0
    clear hn0
    go_enter Tryd.func9, Tryd.ntmps9
    go_wp2_with fail
    refine hv.mono ?_
    rintro e w1 ⟨rfl, b1⟩
    have hn1 := (b1.block w.heap.size HB.out).trans HNB.out
    have k0 : w1.cell? ⟨w.heap.size, 0, none⟩ = some (.string k) := by rw [block_cell hn1]; rfl
    have k1 : w1.cell? ⟨w.heap.size, 1, none⟩ = some (.string v) := by rw [block_cell hn1]; rfl
    have B1 := Lib.hid (((Below.refl _ w).alloc (Nat.le_refl _) _).trans (b1.mono (by simp)))
    clear b1 hn1
    by_cases hk : 64 < (k.size : Int)
    · go_wp2
      all_goals first
        | (exfalso; omega)
        | (go_ret; exact ⟨rfl, B1.out⟩)
    · have hv2 : 8192 < (v.size : Int) := by omega
      go_wp2
      all_goals first
        | (exfalso; omega)
        | (go_ret; exact ⟨rfl, B1.out⟩)

set_option maxHeartbeats 4000000 in
set_option maxRecDepth 100000 in
theorem put_core {w : World} {p : Nat} {l : List PairS} {F : Nat → Prop} (hFl : ∀ i, F i → i < w.heap.size) (hQ : Tab64 w) (x : PairS) (hx : wrongP x = 0) (ht : TabAt w p l F) (hl1 : l.length < 3518437208880) (hl2 : sizeP l ≤ 36028797018963968) :
    Calls Tryd.prog 9 #[.pointer (some ⟨p, 0, none⟩), x.val'] w fun e w' => e = .returned (.int .i64 0) ∧ TabAt w' p (putP x l) (Grown F w w') ∧ Turn F w w' := by
  obtain ⟨N, h⟩ := ht
  obtain ⟨k, v, g⟩ := x
  have hvalid : validP ⟨k, v, g⟩ = true := by
    cases hb : validP ⟨k, v, g⟩ with
    | true => rfl
    | false => rw [validP_wrong hb] at hx; cases hx
  have hshort : k.size ≤ 64 ∧ v.size ≤ 8192 := by
    have := validP_fine hvalid
    rw [hx] at this
    by_cases hh : 64 < k.size ∨ 8192 < v.size
    · rw [if_pos hh] at this; cases this
    · simp only [not_or] at hh; omega
  obtain ⟨hk64, hv64⟩ := hshort
  have hv := isValid_any ⟨k, v, g⟩ (w.alloc (.cells #[.string k, .string v, .bool g] 31))
  rw [hvalid] at hv
  unfold PairS.val' at hv
  clear hvalid hx
  have hn0 := heap_alloc_new w (.cells #[.string k, .string v, .bool g] 31)
  have HB : Hid (w.heap.size < (w.alloc (.cells #[.string k, .string v, .bool g] 31)).heap.size) := by show _ < _; simp
  have HNB := Lib.hid hn0
  clear hn0
  show Calls Tryd.prog 9 #[.pointer (some ⟨p, 0, none⟩), .agg #[.string k, .string v, .bool g]] w _
  obtain ⟨B, hB⟩ : ∃ B : Nat → Nat, ∀ j, j < 12 → B j = blkAt p N (lastOn j N (placeP k l)) := ⟨_, fun _ _ => rfl⟩
  go_enter Tryd.func9, Tryd.ntmps9
  go_wp2_with fail
  refine hv.mono ?_
  rintro e w1 ⟨rfl, b1⟩
  have hn1 := (b1.block w.heap.size HB.out).trans HNB.out
  have k0 : w1.cell? ⟨w.heap.size, 0, none⟩ = some (.string k) := by rw [block_cell hn1]; rfl
  have k1 : w1.cell? ⟨w.heap.size, 1, none⟩ = some (.string v) := by rw [block_cell hn1]; rfl
  have hb1 := ((Below.refl _ w).alloc (Nat.le_refl _) (.cells #[.string k, .string v, .bool g] 31)).trans (b1.mono (by simp))
  have B1 := Lib.hid hb1
  have HN1 := Lib.hid hn1
  have hbf := before_any (h.below hb1) k B hB
  unfold befV at hbf
  have HBB := Lib.hid hB
  clear b1 hn1 hv hb1 HB HNB hB
  go_upto_region 5 with (fail)
  go_wp2_with fail
  refine hbf.mono ?_
  rintro e w2 ⟨rfl, b2⟩
  have B2 := Lib.hid (B1.out.trans (b2.mono B1.out.size))
  have HN2 := Lib.hid ((b2.block w.heap.size (block_lt HN1.out)).trans HN1.out)
  clear b2 k0 k1 hbf HN1 B1
  go_upto_region 6 with (fail)
  have ha3 := (Below.refl _ w2).alloc (Nat.le_refl _) (.cells (arr12 B) 52)
  have hn3 := heap_alloc_new w2 (.cells (arr12 B) 52)
  have B3 := Lib.hid (B2.out.trans (ha3.mono B2.out.size))
  have HP3 := Lib.hid ((ha3.block w.heap.size (block_lt HN2.out)).trans HN2.out)
  have HB3 := Lib.hid hn3
  show Code.wp _ _ _ _ (w2.alloc (.cells (arr12 B) 52))
  clear ha3 hn3 HN2 B2
  have g2 := B3.out.size
  generalize hb5 : w2.heap.size = b5 at *
  generalize w2.alloc (.cells (arr12 B) 52) = w3 at *
  clear hb5 w2
  have H3 := Lib.hid (h.below B3.out)
  have hle := placeP_le k l
  rw [← h.len] at hle
  have HL0 : Hid (w3.cell? ⟨B 0, 3, none⟩ = some (ptrV (N[placeP k l]?.map NodeS.blk))) := by
    have h1 := SkipL.link H3.out.sk (q := placeP k l) (j := 0) hle (by omega)
    have hon : onB N (placeP k l) 0 := by
      by_cases e : placeP k l = 0
      · exact .inl e
      · have := h.one (i := placeP k l - 1) (by omega)
        exact .inr (by omega)
    rw [lkAt_on hon, h.next0] at h1
    have hb0 := HBB.out 0 (by omega)
    rw [lastOn_zero (fun i hi => h.one (by omega))] at hb0
    rw [hb0]
    exact h1
  have HBX : Hid (w3.cell? ⟨b5, 0, none⟩ = some (.pointer (some ⟨B 0, 0, none⟩))) := by
    show _ = _
    rw [block_cell HB3.out]; rfl
  have K0 : Hid (w3.cell? ⟨w.heap.size, 0, none⟩ = some (.string k)) := by show _ = _; rw [block_cell HP3.out]; rfl
  have hpk := placeP_key h k
  obtain ⟨o, ho⟩ : ∃ o, ptrV (N[placeP k l]?.map NodeS.blk) = .pointer o := ⟨_, rfl⟩
  have HO := Lib.hid ho
  rw [ho] at HL0
  clear ho
  have c0 := HL0.out
  have c5 := HBX.out
  go_upto_region 7 with (fail)
  clear c0 c5
  go_cut [45] from 34 to 45 (fun bv wx => bv = .bool (!thereP k l) ∧ ∃ n, wx = w3.drewN n)
  case first =>
    have k0 := K0.out
    rcases hpk with ⟨e1, e2⟩ | ⟨hi, e2, e3⟩
    · obtain rfl : o = none := by have := HO.out; rw [e1] at this; injection this with t; exact t.symm
      have HE := Lib.hid e2
      clear e1 e2
      go_quiet (fail)
      go_wp2_with fail
      go_meet
      exact ⟨by rw [HE.out]; rfl, _, rfl⟩
    · obtain rfl : o = some ⟨N[placeP k l].blk, 0, none⟩ := by have := HO.out; rw [List.getElem?_eq_getElem hi] at this; injection this with t; exact t.symm
      have x0 := (SkipL.key H3.out.sk hi).1
      have HE := Lib.hid e2
      clear e2 e3
      generalize N[placeP k l] = y at *
      obtain ⟨yb, ⟨yk, yv, yg⟩, yh⟩ := y
      simp only at *
      by_cases hk : yk = k
      · subst hk
        have hkk : (yk.toList == yk.toList) = true := by simp
        go_quiet (fail)
        go_wp2_with fail
        go_meet
        exact ⟨by rw [HE.out]; simp, _, rfl⟩
      · have hkk : (yk.toList == k.toList) = false := by rw [keyEq]; simpa using hk
        go_quiet (fail)
        go_wp2_with fail
        go_meet
        exact ⟨by rw [HE.out, decide_eq_false hk]; rfl, _, rfl⟩
  case rest =>
    obtain ⟨rfl, nq, rfl⟩ := hcut
    have bq := drawn_below w3 nq
    have B4 := Lib.hid (B3.out.trans (bq.mono B3.out.size))
    have HP4 := Lib.hid ((bq.block w.heap.size (block_lt HP3.out)).trans HP3.out)
    have HB4 := Lib.hid ((bq.block b5 (block_lt HB3.out)).trans HB3.out)
    have H4 := Lib.hid (H3.out.below bq)
    have K4 : Hid ((w3.drewN nq).cell? ⟨w.heap.size, 0, none⟩ = some (.string k)) := by show _ = _; rw [block_cell HP4.out]; rfl
    clear bq K0 HL0 HBX HB3 HP3 H3 B3 g2
    generalize w3.drewN nq = w4 at *
    clear nq w3
    have hF0 : w.heap.size ≤ w4.heap.size := B4.out.size
    generalize hth : thereP k l = th at *
    have HTH := Lib.hid hth
    clear hth
    go_upto_if 45 with (fail)
    go_cut [6] from 46 to 50 (fun nv wx => ∃ nb v0 sn, nv = .pointer (some ⟨nb, 0, none⟩) ∧ Hid (PutMid w wx p ⟨k, v, g⟩ l F nb v0 sn ∧ sn ≤ 72057594037927936 ∧ wx.heap[w.heap.size]? = some (.cells #[.string k, .string v, .bool g] 31 (0, 0))))
    case first =>
      cases th with
      | true =>
        obtain ⟨hi, e2, e3⟩ : ∃ hi : placeP k l < N.length, true = decide (N[placeP k l].pr.key = k) ∧ N[placeP k l].pr = l[placeP k l]'(by rw [← h.len]; exact hi) := by
          rcases hpk with ⟨_, e2⟩ | h2
          · cases e2
          · exact h2
        obtain rfl : o = some ⟨N[placeP k l].blk, 0, none⟩ := by have := HO.out; rw [List.getElem?_eq_getElem hi] at this; injection this with t; exact t.symm
        have HM := Lib.hid (mid_there h (x := ⟨k, v, g⟩) B4.out hi (by simpa using e2.symm))
        clear e2 e3
        go_wp2_with fail
        go_meet
        exact ⟨_, _, _, rfl, HM.out, by omega, HP4.out⟩
      | false =>
        have hin := insert_any H4.out (hQ.below B4.out) k hk64 hl1 hl2 B HBB.out
        unfold befV at hin
        have c4 := K4.out
        have hall : Twelve w4 b5 B := fun j hj => by
          rw [block_cell HB4.out]
          match j, hj with
          | 0, _ | 1, _ | 2, _ | 3, _ | 4, _ | 5, _ | 6, _ | 7, _ | 8, _ | 9, _ | 10, _ | 11, _ => rfl
        have t0 := hall 0 (by omega)
        have t1 := hall 1 (by omega)
        have t2 := hall 2 (by omega)
        have t3 := hall 3 (by omega)
        have t4 := hall 4 (by omega)
        have t5 := hall 5 (by omega)
        have t6 := hall 6 (by omega)
        have t7 := hall 7 (by omega)
        have t8 := hall 8 (by omega)
        have t9 := hall 9 (by omega)
        have t10 := hall 10 (by omega)
        have t11 := hall 11 (by omega)
        clear hall hpk
        go_wp2_with fail
        refine hin.mono ?_
        rintro e w5 ⟨nb, hg, rfl, g1, g3, s5, u5⟩
        have s5' := SkipL.mono s5 (G := Grown F w w5) (fun i hi => by
          rcases hi with hi | hi
          · exact .inl hi
          · exact .inr ⟨Nat.le_trans hF0 hi.1, hi.2⟩)
        have u5' : Turn F w w5 := ((Turn.of_below F B4.out).trans u5 (fun i hi => .inl hi))
        have hnF : ¬ F w.heap.size := fun hf => Nat.lt_irrefl _ (hFl _ hf)
        have HP5 := Lib.hid (u5.keeps HP4.out hnF)
        have HM := Lib.hid (mid_new (x := ⟨k, v, g⟩) h HTH.out g1 s5' u5')
        clear t0 t1 t2 t3 t4 t5 t6 t7 t8 t9 t10 t11 c4 s5 s5' u5 u5' hin
        go_wp2_with fail
        go_meet
        exact ⟨_, _, _, rfl, HM.out, by show _ + k.size ≤ _; omega, HP5.out⟩
    case rest =>
      obtain ⟨nb, v0, sn, rfl, HM⟩ := hcut
      have hpb : p ≠ w.heap.size := Nat.ne_of_lt (SkipL.lt h.sk)
      have HFp := Lib.hid (SkipL.fp h.sk)
      clear hpk H4 HB4 HP4 B4 hF0 K4 HO HBB HTH hQ h hle
      obtain ⟨hmid, hsn, hpx⟩ := HM.out
      have HMID := Lib.hid hmid
      obtain ⟨N', i, hi, hs, hb, hk, hv, hp, hz, hh, hT, hr⟩ := hmid
      have x1 := (SkipL.key hs hi).2.1
      rw [hb, hv] at x1
      have c16 := (SkipL.counts hs).2
      have f16 : wc.frozen? ⟨p, 16, none⟩ = false := SkipL.free hs (q := 0) (Nat.zero_le _) 16
      have k1 : wc.cell? ⟨w.heap.size, 1, none⟩ = some (.string v) := by rw [block_cell hpx]; rfl
      have hv0 : v0.size ≤ sn + v.size := by simp only at hz; omega
      have HS := Lib.hid hs
      have HB' := Lib.hid hb
      have hne2 : nb ≠ w.heap.size := by
        intro e
        have h2 := (SkipL.node hs i hi)
        obtain ⟨cs, h3, h4, _⟩ := h2
        rw [hb, e, hpx] at h3
        injection h3 with h3
        injection h3 with h3
        rw [← h3] at h4
        cases h4
      have HPX := Lib.hid hpx
      clear hs hb hk hv hp hz hh hT hr hpx HM
      go_upto_region 9 with (fail)
      go_region
      go_wp2_with fail
      have HDONE := Lib.hid (fun w1 b => PutMid.done HMID.out (w1 := w1) b HFp.out)
      refine (clone_any v _ (by omega)).mono ?_
      rintro e w1 ⟨rfl, b1⟩
      have hW : ((wc.setCell ⟨p, 16, none⟩ (.int .i64 ((sn : Int) + ((v.size : Int) - (v0.size : Int))))).drew).heap.size = wc.heap.size := by simp [World.setCell]
      have b1' : Below wc.heap.size ((wc.setCell ⟨p, 16, none⟩ (.int .i64 ((sn : Int) + ((v.size : Int) - (v0.size : Int))))).drew) w1 := by rw [← hW]; exact b1
      have HD := Lib.hid (HDONE.out w1 b1')
      have hs1 := SkipL.below (SkipL.kept (SkipL.setBytes HS.out ((sn : Int) + ((v.size : Int) - (v0.size : Int)))) (w' := (wc.setCell ⟨p, 16, none⟩ (.int .i64 ((sn : Int) + ((v.size : Int) - (v0.size : Int))))).drew) (fun _ _ => rfl)) b1
      obtain ⟨y0, y1, y2⟩ := SkipL.key hs1 hi
      obtain ⟨z1, z2⟩ := SkipL.setHead hs1 hi
      rw [HB'.out] at y1 y2 z1 z2
      have hpx1 : w1.heap[w.heap.size]? = some (.cells #[.string k, .string v, .bool g] 31 (0, 0)) := by
        rw [b1.block w.heap.size (by rw [hW]; exact block_lt HPX.out)]
        show (wc.setCell ⟨p, 16, none⟩ _).heap[w.heap.size]? = _
        rw [heap_set_other hpb.symm]
        exact HPX.out
      have q2 : w1.cell? ⟨w.heap.size, 2, none⟩ = some (.bool g) := by rw [block_cell hpx1]; rfl
      clear hs1 hpx1 b1 b1' hW y0 HDONE x1 c16 f16 k1
      go_wp2
      go_ret
      exact ⟨rfl, HD.out⟩

/-- Put of a pair that may be. -/
theorem put_ok {w : World} {p : Nat} {l : List PairS} {F : Nat → Prop} (hQ : Tab64 w) (x : PairS) (hx : wrongP x = 0) (ht : TabAt w p l F) (hl1 : l.length < 3518437208880) (hl2 : sizeP l ≤ 36028797018963968) :
    Calls Tryd.prog 9 #[.pointer (some ⟨p, 0, none⟩), x.val'] w fun e w' => e = .returned (.int .i64 0) ∧ TabAt w' p (putP x l) (Grown F w w') ∧ Turn F w w' := by
  obtain ⟨N, h⟩ := ht
  have h' : TabP w p l (fun i => F i ∧ i < w.heap.size) N := ⟨⟨SkipL.head h.sk, SkipL.node h.sk, ⟨SkipL.fp h.sk, SkipL.lt h.sk⟩, fun y hy => ⟨SkipL.fn h.sk y hy, SkipL.nlt h.sk hy⟩, SkipL.apart h.sk⟩, h.prs, h.hi, h.rising⟩
  refine (put_core (F := fun i => F i ∧ i < w.heap.size) (fun i hi => hi.2) hQ x hx ⟨N, h'⟩ hl1 hl2).mono fun e w' ⟨h1, h2, h3⟩ => ⟨h1, h2.mono (fun i hi => hi.imp (fun a => a.1) id), h3.mono (fun i hi => .inl hi.1)⟩
end Go.Proofs.YtmmamgnbonpkiaaDoor
