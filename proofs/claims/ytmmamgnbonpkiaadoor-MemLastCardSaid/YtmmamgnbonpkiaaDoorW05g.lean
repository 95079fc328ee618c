/- Layer 5: the sequence that From gives. -/
import Derived.Test.YtmmamgnbonpkiaaDoorW05f
import Derived.Test.YtmmamgnbonpkiaaDoorI01
namespace Go.Proofs.YtmmamgnbonpkiaaDoor
open Go.RowKit Go.Shelf Go.Maps Go.WideMaps
set_option linter.unusedVariables false

attribute [local go_sem] Oper.semAt_some

theorem grown_of_below {w w' : World} (h : Below w.heap.size w w') (row : Option Nat) : w.grownBy w' row := ⟨h.os, h.tape, h.output, h.size, fun k hk _ => h.block k hk⟩
/-- How many nodes are still to come. -/
def remN (N : List NodeS) (v : Value) : Nat := match v with
  | .pointer (some a) => N.length - N.findIdx (fun x => x.blk == a.block)
  | _ => 0
theorem remN_at {N : List NodeS} {p : Nat} (h : (p :: N.map NodeS.blk).Nodup) {i : Nat} (hi : i < N.length) : remN N (.pointer (some ⟨N[i].blk, 0, none⟩)) = N.length - i := by
  show N.length - N.findIdx (fun x => x.blk == N[i].blk) = _
  congr 1
  rw [List.findIdx_eq hi]
  refine ⟨by simp, fun j hj => ?_⟩
  have : N[j].blk ≠ N[i].blk := fun e => by
    have := blkAt_inj (p := p) h (q := j + 1) (r := i + 1) (by omega) (by omega) (by rw [blkAt_succ (show j < N.length by omega), blkAt_succ hi, e])
    omega
  simpa using this
/-- What has come when the nodes from pl up to j have. -/
def cameN (N : List NodeS) (pl j : Nat) : List PairS := ((N.drop pl).take (j - pl)).map NodeS.pr
theorem cameN_next {N : List NodeS} {pl j : Nat} (h1 : pl ≤ j) (h2 : j < N.length) : cameN N pl (j + 1) = cameN N pl j ++ [N[j].pr] := by
  unfold cameN
  have h3 : j - pl < (N.drop pl).length := by rw [List.length_drop]; omega
  rw [show j + 1 - pl = j - pl + 1 by omega, List.take_succ_eq_append_getElem h3, List.map_append]
  simp [show pl + (j - pl) = j by omega]

set_option maxRecDepth 100000 in
set_option maxHeartbeats 4000000 in
theorem from_in (n : Nat) (hn : 1 ≤ n) (y tb kb p : Nat) (k : ByteArray) (l : List PairS) (F G : Nat → Prop) (N : List NodeS) (hFG : ∀ i, F i → G i) (hGt : G tb) (hGk : G kb) (J Jx : List PairS → World → Prop) (W : World)
    (hJ : AbidesFrom W.heap.size J)
    (hY : ∀ pre x W1, J pre W1 → pre.length < (fromP k l).length → x ∈ fromP k l → YieldAt Fence.wide (n - 1) Tryd.prog y #[PairS.val' x] W1 fun e W' => (e = .returned (.bool true) ∧ J (pre ++ [x]) W' ∧ Keeps G W1 W') ∨ (e = .returned (.bool false) ∧ Jx (pre ++ [x]) W'))
    (hT : TabP W p l F N) (ht : W.cell? ⟨tb, 0, none⟩ = some (.pointer (some ⟨p, 0, none⟩))) (hk : W.cell? ⟨kb, 0, none⟩ = some (.string k)) (h0 : J [] W) :
    CallsIn Fence.wide n Tryd.prog 27 #[.func (.yield y) #[] #[], .pointer (some ⟨tb, 0, none⟩), .pointer (some ⟨kb, 0, none⟩)] W fun e W' => (∃ v, e = .returned v) ∧ ((∃ xs, xs = fromP k l ∧ J xs W') ∨ (∃ pre, pre <+: fromP k l ∧ Jx pre W')) := by
  have hfi := first_any hT k
  have hfrom : Hid (fromP k l = (N.drop (placeP k l)).map NodeS.pr) := by
    show _ = _
    unfold fromP
    rw [List.map_drop, hT.prs]
  have hle := placeP_le k l
  rw [← hT.len] at hle
  generalize placeP k l = pl at *
  obtain ⟨o, ho⟩ : ∃ o, ptrV (N[pl]?.map NodeS.blk) = .pointer o := ⟨_, rfl⟩
  rw [ho] at hfi
  have HO := Lib.hid ho
  have HT := Lib.hid hT
  clear ho hT
  refine callsIn_of_wp Tryd.func27 rfl trivial ?_ rfl
  simp only [Tryd.ntmps27, List.size_toArray, List.length_cons, List.length_nil, Nat.reduceAdd, Nat.reduceSub, Array.replicate_succ, Array.replicate_zero, List.push_toArray, List.append_toArray, List.nil_append, List.cons_append]
  gi_wp2_with (refine ⟨trivial, ?_⟩; gi_at_call 25; refine (callsIn_wide.2 hfi).mono ?_; rintro e w1 ⟨rfl, b1⟩)
  have hJ1 : J [] w1 := hJ _ _ _ none h0 (grown_of_below b1 none) (fun r e => by cases e)
  have HT1 := Lib.hid (HT.out.below b1)
  have hap := Lib.hid (SkipL.apart HT.out.sk)
  clear b1 HT h0 ht hk hfi
  gi_loopw [4] (fun pv wr => ∃ j o', pl ≤ j ∧ j ≤ N.length ∧ pv = .pointer o' ∧ Hid (ptrV (N[j]?.map NodeS.blk) = .pointer o') ∧ Hid (TabP wr p l F N) ∧ Hid (J (cameN N pl j) wr)) (fun pv _ => remN N pv)
  case atStart => exact ⟨pl, o, Nat.le_refl _, hle, rfl, HO, HT1, by show J _ _; unfold cameN; rw [Nat.sub_self]; exact hJ1⟩
  case round =>
    obtain ⟨j, o', h1, h2, rfl, ho', hT, hj⟩ := hrel
    clear HT1 HO hJ1
    by_cases hlt : j < N.length
    · obtain rfl : o' = some ⟨N[j].blk, 0, none⟩ := by have := ho'.out; rw [List.getElem?_eq_getElem hlt] at this; injection this with t; exact t.symm
      obtain ⟨x0, x1, x2⟩ := SkipL.key hT.out.sk hlt
      have hlen : (cameN N pl j).length < (fromP k l).length := by
        rw [hfrom.out]
        unfold cameN
        simp
        omega
      have hmem : N[j].pr ∈ fromP k l := by
        rw [hfrom.out]
        exact List.mem_map.2 ⟨N[j], List.mem_iff_getElem.2 ⟨j - pl, by rw [List.length_drop]; omega, by rw [List.getElem_drop]; congr 1; omega⟩, rfl⟩
      have hyy := hY (cameN N pl j) N[j].pr wr hj.out hlen hmem
      have HCN := Lib.hid (cameN_next h1 hlt)
      have HRM := Lib.hid (remN_at hap.out hlt)
      have hnx : Hid (∀ w' : World, (∀ i, F i → w'.heap[i]? = wr.heap[i]?) → w'.cell? ⟨N[j].blk, 3, none⟩ = some (ptrV (N[j + 1]?.map NodeS.blk))) := fun w' hw => by
        have := SkipL.link (SkipL.kept hT.out.sk hw) (q := j + 1) (j := 0) (by omega) (by omega)
        rw [blkAt_succ hlt, lkAt_on (.inr (by rw [Nat.add_sub_cancel]; have := hT.out.one hlt; omega)), hT.out.next0] at this
        exact this
      clear hlen ho' hmem
      rw [← HCN.out] at hyy
      generalize hxb : N[j].blk = xb at *
      generalize N[j].pr = x at *
      obtain ⟨xk, xv, xg⟩ := x
      unfold PairS.val' at hyy
      simp only at x0 x1 x2 hyy
      obtain ⟨fn, tmps, assign, body, hy, hR⟩ := hyy
      obtain ⟨o2, ho2⟩ : ∃ o2, ptrV (N[j + 1]?.map NodeS.blk) = .pointer o2 := ⟨_, rfl⟩
      rw [ho2] at hnx
      have HO2 := Lib.hid ho2
      clear ho2
      gi_wp2
      refine hR.mono ?_
      rintro e W3 (⟨rfl, hJ3, hk3⟩ | ⟨rfl, hJx3⟩)
      · have q3 := hnx.out W3 (fun i hi => hk3 i (hFG i hi))
        have HT3 : Hid (TabP W3 p l F N) := ⟨SkipL.kept hT.out.sk (fun i hi => hk3 i (hFG i hi)), hT.out.prs, hT.out.hi, hT.out.rising⟩
        have HM : Hid (remN N (.pointer o2) < remN N (.pointer (some ⟨xb, 0, none⟩))) := by
          show _ < _
          rw [HRM.out]
          by_cases hj1 : j + 1 < N.length
          · obtain rfl : o2 = some ⟨N[j + 1].blk, 0, none⟩ := by have := HO2.out; rw [List.getElem?_eq_getElem hj1] at this; injection this with t; exact t.symm
            rw [remN_at hap.out hj1]
            omega
          · obtain rfl : o2 = none := by have := HO2.out; rw [List.getElem?_eq_none (by omega)] at this; injection this with t; exact t.symm
            show 0 < _
            omega
        gi_wp2
        exact ⟨⟨j + 1, o2, by omega, by omega, rfl, HO2, HT3, hJ3⟩, HM.out⟩
      · gi_wp2
        refine bodyPost_ret (results_none rfl _ _ _) rfl ?_
        refine ⟨⟨_, rfl⟩, .inr ⟨cameN N pl (j + 1), ?_, hJx3⟩⟩
        rw [hfrom.out]
        unfold cameN
        exact (List.take_prefix _ _).map _
    · obtain rfl : j = N.length := by omega
      obtain rfl : o' = none := by have := ho'.out; rw [List.getElem?_eq_none (Nat.le_refl _)] at this; injection this with t; exact t.symm
      have HC : Hid (cameN N pl N.length = fromP k l) := by
        show _ = _
        unfold cameN
        rw [hfrom.out, List.take_of_length_le (by simp)]
      gi_wp2
      go_end0
      exact ⟨⟨_, rfl⟩, .inl ⟨_, rfl, by rw [← HC.out]; exact hj.out⟩⟩

set_option maxRecDepth 100000 in
set_option maxHeartbeats 2000000 in
theorem seq_any {w : World} {p : Nat} {l : List PairS} {F : Nat → Prop} (hT : TabAt w p l F) (k : ByteArray) (hk : k.size ≤ 281474976710656) :
    Calls Tryd.prog 17 #[.pointer (some ⟨p, 0, none⟩), .string k] w fun e w' => ∃ g lb G, e = .returned (.func (.func g) #[] lb) ∧ (∀ args w, (callFunc g args).run Tryd.prog w = .ok (.enter g args) w) ∧
      (∀ m, 1 ≤ m → ∀ w'', Below w'.heap.size w' w'' → GivesP Fence.wide m g lb G (fromP k l) w'') ∧ (∀ j, G j → j < w'.heap.size) ∧ Below w.heap.size w w' ∧ (∀ j, G j → F j ∨ w.heap.size ≤ j) ∧ ∀ dec : PairS → PairS, (∀ x ∈ fromP k l, dec x = x) → ∀ m, 1 ≤ m → ∀ w'', Below w'.heap.size w' w'' → GivesD Fence.wide m g lb G dec (fromP k l) w'' := by
  obtain ⟨N, hT⟩ := hT
  have HT : Hid (TabP w p l (fun i => F i ∧ i < w.heap.size) N) := ⟨⟨SkipL.head hT.sk, SkipL.node hT.sk, ⟨SkipL.fp hT.sk, SkipL.lt hT.sk⟩, fun y hy => ⟨SkipL.fn hT.sk y hy, SkipL.nlt hT.sk hy⟩, SkipL.apart hT.sk⟩, hT.prs, hT.hi, hT.rising⟩
  clear hT
  obtain ⟨W0, hW0⟩ : ∃ W0, (w.alloc (.cells #[.pointer (some ⟨p, 0, none⟩)] 25)).alloc (.cells #[.string k] 9) = W0 := ⟨_, rfl⟩
  have hb0 : Below w.heap.size w W0 := by rw [← hW0]; exact ((Below.refl _ w).alloc (Nat.le_refl _) _).alloc (by simp) _
  have hsz : W0.heap.size = w.heap.size + 2 := by rw [← hW0]; simp
  have ht0 : W0.heap[w.heap.size]? = some (.cells #[.pointer (some ⟨p, 0, none⟩)] 25 (0, 0)) := by
    rw [← hW0, Below.heap_alloc _ _ _ (by simp)]; exact heap_alloc_new _ _
  have hk0 : W0.heap[w.heap.size + 1]? = some (.cells #[.string k] 9 (0, 0)) := by
    have := heap_alloc_new (w.alloc (.cells #[.pointer (some ⟨p, 0, none⟩)] 25)) (.cells #[.string k] 9)
    rw [World.size_alloc, hW0] at this
    exact this
  have HB0 := Lib.hid hb0
  have HSZ := Lib.hid hsz
  have HT0 := Lib.hid ht0
  have HK0 := Lib.hid hk0
  have z2 : W0.cell? ⟨w.heap.size + 1, 0, none⟩ = some (.string k) := by rw [block_cell hk0]; rfl
  clear hb0 hsz ht0 hk0
  have hmf : ∀ (fn : Fn) (first cap : Array Value) (w : World), (Instr.makeFunc fn first cap).run Tryd.prog w = .ok (.func fn first cap) w := fun _ _ _ _ => rfl
  go_enter Tryd.func17, Tryd.ntmps17
  go_wp2_with fail
  refine (clone_any k _ hk).mono ?_
  rintro e w1 ⟨rfl, b1⟩
  have hs := HSZ.out
  have ht1 := (b1.block w.heap.size (by omega)).trans HT0.out
  have hk1 := (b1.block (w.heap.size + 1) (by omega)).trans HK0.out
  have B1 := Lib.hid (HB0.out.trans (b1.mono (by omega)))
  have z0 : w1.cell? ⟨w.heap.size + 1, 0, none⟩ = some (.string k) := by rw [block_cell hk1]; rfl
  have z1 : w1.frozen? ⟨w.heap.size + 1, 0, none⟩ = false := block_free hk1 0
  have HG1 : Hid (w.heap.size + 2 ≤ w1.heap.size) := by show _ ≤ _; have := b1.size; omega
  have HT1 := Lib.hid ht1
  have HK1 := Lib.hid hk1
  clear b1 ht1 hk1 hs hW0
  go_wp2
  go_ret
  have hbe : Below w.heap.size w (w1.setCell ⟨w.heap.size + 1, 0, none⟩ (.string k)) := B1.out.setCell (p := ⟨w.heap.size + 1, 0, none⟩) (by simp) _
  have hse : (w1.setCell ⟨w.heap.size + 1, 0, none⟩ (.string k)).heap.size = w1.heap.size := by simp [World.setCell]
  have hte : (w1.setCell ⟨w.heap.size + 1, 0, none⟩ (.string k)).cell? ⟨w.heap.size, 0, none⟩ = some (.pointer (some ⟨p, 0, none⟩)) := by
    rw [block_cell ((heap_set_other (by omega)).trans HT1.out)]; rfl
  have hke : (w1.setCell ⟨w.heap.size + 1, 0, none⟩ (.string k)).cell? ⟨w.heap.size + 1, 0, none⟩ = some (.string k) := by
    rw [block_cell (block_set HK1.out 0 _)]; rfl
  have hg1 := HG1.out
  have key : ∀ dec : PairS → PairS, (∀ x ∈ fromP k l, dec x = x) → ∀ m, 1 ≤ m → ∀ w'', Below (w1.setCell ⟨w.heap.size + 1, 0, none⟩ (.string k)).heap.size (w1.setCell ⟨w.heap.size + 1, 0, none⟩ (.string k)) w'' →
      GivesD Fence.wide m 27 #[.pointer (some ⟨w.heap.size, 0, none⟩), .pointer (some ⟨w.heap.size + 1, 0, none⟩)] (fun i => (F i ∧ i < w.heap.size) ∨ i = w.heap.size ∨ i = w.heap.size + 1) dec (fromP k l) w'' := by
    intro dec hdec m hm w'' hw y J Jx W hW hJ hJx hY h0
    have hWW := hw.trans (hW.mono hw.size)
    exact from_in m hm y w.heap.size (w.heap.size + 1) p k l (fun i => F i ∧ i < w.heap.size) (fun i => (F i ∧ i < w.heap.size) ∨ i = w.heap.size ∨ i = w.heap.size + 1) N (fun i hi => .inl hi) (.inr (.inl rfl)) (.inr (.inr rfl)) J Jx W hJ (fun pre x W1 h1 h2 h3 => by have h := hY pre x W1 h1 h2; dsimp only at h; rwa [hdec x h3] at h) ((HT.out.below hbe).below hWW)
      ((hWW.cell (p := ⟨w.heap.size, 0, none⟩) (by simp [hse]; omega)).trans hte) ((hWW.cell (p := ⟨w.heap.size + 1, 0, none⟩) (by simp [hse]; omega)).trans hke) h0
  refine ⟨27, _, fun i => (F i ∧ i < w.heap.size) ∨ i = w.heap.size ∨ i = w.heap.size + 1, rfl, enters_of Tryd.func27 (by kernel_rfl) rfl, key id (fun _ _ => rfl), fun j hj => ?_, hbe, fun j hj => ?_, key⟩
  · rw [hse]
    rcases hj with hj | hj | hj
    · have := hj.2; omega
    · omega
    · omega
  · rcases hj with hj | hj | hj
    · exact .inl hj.1
    · exact .inr (by omega)
    · exact .inr (by omega)
end Go.Proofs.YtmmamgnbonpkiaaDoor
