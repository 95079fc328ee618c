/- Parts of the proof. -/
import Derived.Test.YtnafjlhohbhcoaaGreatDoorChecked
import Derived.RangeFuncBox
import Derived.RangeFuncNested
import Derived.RangeFuncBound
import Derived.RangeFuncCalls
import Derived.RangeFuncLeaves
import Derived.Shelf.Abstract
import Derived.Shelf.RegionOpen
import Derived.WalkKit
import Derived.OwnWalkIn
import Derived.TacticsInMore
import Derived.LoopNIn
import Derived.LoopIn
import Derived.Maps.AppendAt
import Derived.Outline
import Derived.Lib.Strings
namespace Go.Proofs.YtnafjlhohbhcoaaGreatDoor
set_option linter.unusedVariables false
section
open Go.RowKit Go.Shelf
attribute [local go_sem] Oper.semAt_some
structure Aa where
 key : ByteArray
 val : ByteArray
 gone : Bool
deriving DecidableEq
def Aa.val' (p : Aa) : Value:=.agg #[.string p.key,.string p.val,.bool p.gone]
def Aa.cells (p : Aa) : List Value:=[.string p.key,.string p.val,.bool p.gone]
def AA (ps : List Aa) : List Value:=ps.flatMap Aa.cells
theorem DH (ps : List Aa) (p : Aa) : AA (ps ++ [p]) = AA ps ++ [.string p.key,.string p.val,.bool p.gone]:=by simp [AA,Aa.cells]
def A8 (F : Nat -> Prop) (W W' : World) : Prop:=∀ k,F k -> W'.heap[k]? = W.heap[k]?
theorem A8.trans {F : Nat -> Prop} {A B C : World} (h : A8 F A B) (k : A8 F B C) : A8 F A C:=fun i hi => (k i hi).trans (h i hi)
theorem A8.refl (F : Nat -> Prop) (A : World) : A8 F A A:=fun _ _ => rfl
theorem A8.of_below {F : Nat -> Prop} {n : Nat} {A B : World} (h : Below n A B) (hF : ∀ k,F k -> k < n) : A8 F A B:=fun i hi => h.block i (hF i hi)
theorem A8.put {F : Nat -> Prop} {n : Nat} (hF : ∀ k,F k -> k < n) (W : World) (l : Nat) (o o' : Obj) (hl : n <= l) (_ : W.heap[l]? = some o) (_ : o.isCells = false) (_ : o.isWalk = false) : A8 F W (W.putObj l o'):=fun i hi => World.putObj_heap_other (fun e => by have:=hF i hi; omega)
theorem Ev (W : World) (x : Aa) : ∀ j u,[Value.string x.key,.string x.val,.bool x.gone][j]? = some u -> (W.alloc (.cells #[.string x.key,.string x.val,.bool x.gone] 57)).cell? ((⟨W.heap.size,0,none⟩ : Addr).add j) = some u:=by
 intro j u h
 have hb:=World.alloc_heap_new W (.cells #[.string x.key,.string x.val,.bool x.gone] 57)
 rw [Addr.add_lit,Nat.zero_add,World.cell?,hb]
 match j,h with
 | 0,h => exact h
 | 1,h => exact h
 | 2,h => exact h
theorem DL (x : Aa) : ∀ u ∈ [Value.string x.key,.string x.val,.bool x.gone],u.oneCell' = true:=by
 intro u hu
 simp at hu
 rcases hu with rfl | rfl | rfl <;> rfl
theorem infoPair : (Tryz.prog.info? 57).map (fun i => (i.zero,i.size,i.bytes)) = some (some (.agg #[.string ⟨#[]⟩,.string ⟨#[]⟩,.bool false]),3,40):=by kernel_rfl
end
section
open Go.RowKit
def AO (a b : ByteArray) : Bool:=Op.bytesLess a.toList b.toList
theorem less_lt : ∀ a b : List UInt8,Op.bytesLess a b = true ↔ a < b
 | [],[] => by simp [Op.bytesLess]
 | [],_ :: _ => by simp [Op.bytesLess]
 | _ :: _,[] => by simp [Op.bytesLess]
 | a :: r,b :: s => by
   rw [List.cons_lt_cons_iff,<- less_lt r s]
   simp [Op.bytesLess]
theorem EI (a b : ByteArray) : AO a b = true ↔ a.data.toList < b.data.toList:=by
 unfold AO
 rw [ByteArray.toList_eq,ByteArray.toList_eq,less_lt]
def placeP (k : ByteArray) : List Aa -> Nat
 | [] => 0
 | y :: r => if AO y.key k then placeP k r + 1 else 0
def Bd (k : ByteArray) (l : List Aa) : Bool:=match l[placeP k l]? with | some y => decide (y.key = k) | none => false
def DS (k : ByteArray) (l : List Aa) : Option Aa:=if Bd k l then l[placeP k l]? else none
def AG (k : ByteArray) (l : List Aa) : List Aa:=l.drop (placeP k l)
def C2 (p : Aa) (l : List Aa) : List Aa:=l.take (placeP p.key l) ++ p :: l.drop (placeP p.key l + if Bd p.key l then 1 else 0)
def At (l : List Aa) : Nat:=(l.map fun p => p.key.size + p.val.size).sum
def zeroP : Aa:=⟨⟨#[]⟩,⟨#[]⟩,false⟩
def Aw (p : Aa) : Nat:=
 if p.key.size = 0 \/ (p.gone = true /\ p.val.size ≠ 0) then 1 else if 64 < p.key.size \/ 8192 < p.val.size then 2 else 0
def Ak (l : List Aa) : Prop:=l.Pairwise fun a b => AO a.key b.key = true
theorem Bt (a : ByteArray) : AO a a = false:=by
 cases h : AO a a with
 | false => rfl
 | true => exact absurd ((EI _ _).1 h) (List.lt_irrefl _)
theorem Ns {a b : ByteArray} (h : AO a b = true) : AO b a = false:=by
 cases h2 : AO b a with
 | false => rfl
 | true => exact absurd (List.lt_trans ((EI _ _).1 h) ((EI _ _).1 h2)) (List.lt_irrefl _)
theorem Bq {a b c : ByteArray} (h : AO a b = true) (k : AO b c = true) : AO a c = true:=(EI _ _).2 (List.lt_trans ((EI _ _).1 h) ((EI _ _).1 k))
theorem Fv {a b : ByteArray} (h : a ≠ b) (h2 : AO a b = false) : AO b a = true:=by
 rw [EI]
 have h3 : ¬ a.data.toList < b.data.toList:=fun hl => by rw [(EI a b).2 hl] at h2; cases h2
 rcases Classical.em (b.data.toList < a.data.toList) with h4 | h4
 · exact h4
 · exact absurd (ByteArray.ext (Array.toList_inj.1 (List.le_antisymm (List.not_lt.1 h4) (List.not_lt.1 h3)))) h
theorem JC (a b : ByteArray) : (a.toList == b.toList) = decide (a = b):=by
 rw [ByteArray.toList_eq,ByteArray.toList_eq]
 by_cases h : a = b
 · subst h; simp
 · have h2 : ¬ a.data = b.data:=fun e => h (ByteArray.ext e)
   simp [h,h2]
theorem CF (a b : List Aa) : At (a ++ b) = At a + At b:=by simp [At]
theorem Cw (x : Aa) (l : List Aa) : At (x :: l) = x.key.size + x.val.size + At l:=by simp [At]
theorem Ko (l : List Aa) (i : Nat) : At (l.take i) <= At l:=by
 have:=CF (l.take i) (l.drop i)
 rw [List.take_append_drop] at this
 omega
theorem UC (l : List Aa) (i : Nat) : At (l.drop i) <= At l:=by
 have:=CF (l.take i) (l.drop i)
 rw [List.take_append_drop] at this
 omega
theorem Jc (k : ByteArray) (y : Aa) (r : List Aa) : placeP k (y :: r) = if AO y.key k then placeP k r + 1 else 0:=rfl
theorem C8 (k : ByteArray) (l : List Aa) : placeP k l <= l.length:=by
 induction l with
 | nil => simp [placeP]
 | cons y r ih => unfold placeP; split <;> simp <;> omega
theorem Ls {k : ByteArray} {l : List Aa} {i : Nat} (hi : i <= l.length) (h1 : ∀ j (h : j < l.length),j < i -> AO l[j].key k = true) (h2 : ∀ h : i < l.length,AO l[i].key k = false) : placeP k l = i:=by
 induction l generalizing i with
 | nil => simp at hi; subst hi; rfl
 | cons y r ih =>
   unfold placeP
   cases i with
   | zero =>
     have:=h2 (by simp)
     simp only [List.getElem_cons_zero] at this
     rw [this]; rfl
   | succ i =>
     have:=h1 0 (by simp) (by omega)
     simp only [List.getElem_cons_zero] at this
     rw [if_pos this,ih (by simpa using hi) (fun j h hj => by have:=h1 (j + 1) (by simpa using h) (by omega); simpa using this) (fun h => by have:=h2 (by simpa using h); simpa using this)]
theorem Dq {k : ByteArray} : ∀ {l : List Aa} {j : Nat} (h : j < l.length),j < placeP k l -> AO l[j].key k = true
 | [],_,h,_ => absurd h (by simp)
 | y :: r,j,h,hj => by
   unfold placeP at hj
   split at hj
   · rename_i hy
     cases j with
     | zero => exact hy
     | succ j => exact Dq (l:=r) (by simpa using h) (by omega)
   · omega
theorem Fd {k : ByteArray} : ∀ {l : List Aa} (h : placeP k l < l.length),AO l[placeP k l].key k = false
 | [],h => absurd h (by simp)
 | y :: r,h => by
   by_cases hy : AO y.key k = true
   · have e : placeP k (y :: r) = placeP k r + 1:=by rw [Jc,if_pos hy]
     have hl : placeP k r < r.length:=by rw [e] at h; simpa using h
     have:=Fd hl
     simp only [e,List.getElem_cons_succ]
     exact this
   · have e : placeP k (y :: r) = 0:=by rw [Jc,if_neg hy]
     simp only [e,List.getElem_cons_zero]
     simpa using hy
theorem Fx {k : ByteArray} {l : List Aa} (h : Bd k l = true) : ∃ h : placeP k l < l.length,l[placeP k l].key = k:=by
 unfold Bd at h
 split at h
 · rename_i y hy
   obtain ⟨h1,h2⟩:=List.getElem?_eq_some_iff.1 hy
   exact ⟨h1,by rw [h2]; simpa using h⟩
 · cases h
theorem Fy {k : ByteArray} {l : List Aa} {i : Nat} (hi : i < l.length) (hp : placeP k l = i) : Bd k l = decide (l[i].key = k):=by
 unfold Bd
 rw [hp,List.getElem?_eq_getElem hi]
theorem Mh {k : ByteArray} {l : List Aa} (hp : placeP k l = l.length) : Bd k l = false:=by
 unfold Bd
 rw [hp,List.getElem?_eq_none (Nat.le_refl _)]
theorem FE (a b : List Aa) : AA (a ++ b) = AA a ++ AA b:=by simp [AA]
theorem EB (x : Aa) (l : List Aa) : AA (x :: l) = [.string x.key,.string x.val,.bool x.gone] ++ AA l:=rfl
theorem Wx (l : List Aa) (k : Nat) : (AA l).take (k * 3) = AA (l.take k):=by
 induction l generalizing k with
 | nil => simp [AA]
 | cons x r ih =>
   cases k with
   | zero => simp [AA]
   | succ k =>
     rw [EB,List.take_succ_cons,EB,show (k + 1) * 3 = [Value.string x.key,.string x.val,.bool x.gone].length + k * 3 by simp; omega,List.take_length_add_append,ih]
theorem WM (l : List Aa) (k : Nat) : (AA l).drop (k * 3) = AA (l.drop k):=by
 induction l generalizing k with
 | nil => simp [AA]
 | cons x r ih =>
   cases k with
   | zero => simp [AA]
   | succ k =>
     rw [EB,List.drop_succ_cons,show (k + 1) * 3 = [Value.string x.key,.string x.val,.bool x.gone].length + k * 3 by simp; omega,List.drop_length_add_append,ih]
theorem rowP_at : ∀ (l : List Aa) (i : Nat) (h : i < l.length),(AA l)[i * 3]? = some (.string l[i].key) /\ (AA l)[i * 3 + 1]? = some (.string l[i].val) /\ (AA l)[i * 3 + 2]? = some (.bool l[i].gone)
 | x :: r,0,_ => ⟨rfl,rfl,rfl⟩
 | x :: r,i + 1,h => by
   have hi : i < r.length:=by simpa using h
   have:=rowP_at r i hi
   rw [EB]
   refine ⟨?_,?_,?_⟩
   · rw [List.getElem?_append_right (by simp; omega)]
     show (AA r)[(i + 1) * 3 - 3]? = some (.string r[i].key)
     rw [show (i + 1) * 3 - 3 = i * 3 by omega]; exact this.1
   · rw [List.getElem?_append_right (by simp; omega)]
     show (AA r)[(i + 1) * 3 + 1 - 3]? = some (.string r[i].val)
     rw [show (i + 1) * 3 + 1 - 3 = i * 3 + 1 by omega]; exact this.2.1
   · rw [List.getElem?_append_right (by simp; omega)]
     show (AA r)[(i + 1) * 3 + 2 - 3]? = some (.bool r[i].gone)
     rw [show (i + 1) * 3 + 2 - 3 = i * 3 + 2 by omega]; exact this.2.2
theorem KC (l : List Aa) : ∀ u ∈ AA l,u.oneCell' = true:=by
 intro u hu
 unfold AA Aa.cells at hu
 obtain ⟨x,_,hx⟩:=List.mem_flatMap.1 hu
 simp only [List.mem_cons,List.not_mem_nil,or_false] at hx
 rcases hx with rfl | rfl | rfl <;> rfl
theorem ZZ (p : Aa) (l : List Aa) : (C2 p l).length <= l.length + 1:=by
 have:=C8 p.key l
 unfold C2
 rw [List.length_append,List.length_take,List.length_cons,List.length_drop]
 split <;> omega
theorem Tz {p q : Aa} {l : List Aa} (h : q ∈ C2 p l) : q = p \/ q ∈ l:=by
 unfold C2 at h
 rcases List.mem_append.1 h with h | h
 · exact .inr (List.mem_of_mem_take h)
 · rcases List.mem_cons.1 h with h | h
   · exact .inl h
   · exact .inr (List.mem_of_mem_drop h)
theorem Da {p : Aa} {l : List Aa} (h : Ak l) : Ak (C2 p l):=by
 have h3 : ∀ b ∈ l.drop (placeP p.key l + if Bd p.key l then 1 else 0),AO p.key b.key = true:=by
  intro b hb
  obtain ⟨i,hi⟩:=List.mem_iff_getElem?.1 hb
  rw [List.getElem?_drop] at hi
  obtain ⟨h4,h5⟩:=List.getElem?_eq_some_iff.1 hi
  have hpl : placeP p.key l < l.length:=by omega
  by_cases he : placeP p.key l = placeP p.key l + (if Bd p.key l then 1 else 0) + i
  · have ht : Bd p.key l = false:=by
      cases ht : Bd p.key l with
      | false => rfl
      | true => rw [ht] at he; simp at he; omega
    rw [Fy hpl rfl] at ht
    have h6 : l[placeP p.key l] = b:=by
     simp only [<- he] at h5
     exact h5
    rw [h6] at ht
    have h7:=Fd hpl
    rw [h6] at h7
    exact Fv (by simpa using ht) h7
  · have h6:=List.pairwise_iff_getElem.1 h _ _ hpl h4 (by omega)
    rw [h5] at h6
    have h7:=Fd hpl
    by_cases h8 : l[placeP p.key l].key = p.key
    · rw [h8] at h6; exact h6
    · exact Bq (Fv h8 h7) h6
 unfold Ak C2
 rw [List.pairwise_append]
 refine ⟨h.sublist (List.take_sublist _ _),List.pairwise_cons.2 ⟨h3,h.sublist (List.drop_sublist _ _)⟩,fun a ha b hb => ?_⟩
 obtain ⟨i,hi⟩:=List.mem_iff_getElem?.1 ha
 rw [List.getElem?_take] at hi
 split at hi
 · rename_i hl
   obtain ⟨h4,h5⟩:=List.getElem?_eq_some_iff.1 hi
   have hap:=Dq h4 hl
   rw [h5] at hap
   rcases List.mem_cons.1 hb with rfl | hb
   · exact hap
   · exact Bq hap (h3 b hb)
 · cases hi
end
section
open Go.RowKit
structure Aq where
 blk : Nat
 pr : Aa
 high : Nat
def Es (N : List Aq) (i : Nat) : Nat:=(N[i]?.map Aq.high).getD 0
def nxL (j : Nat) : List Aq -> Option Nat
 | [] => none
 | x :: r => if j < x.high then some x.blk else nxL j r
theorem CY (j : Nat) (x : Aq) (r : List Aq) : nxL j (x :: r) = if j < x.high then some x.blk else nxL j r:=rfl
def Cc (p : Nat) (N : List Aq) : Nat -> Nat
 | 0 => p
 | i + 1 => (N[i]?.map Aq.blk).getD 0
def Br (j : Nat) (N : List Aq) : Nat -> Nat
 | 0 => 0
 | i + 1 => if j < Es N i then i + 1 else Br j N i
def onB (N : List Aq) (q j : Nat) : Prop:=q = 0 \/ j < Es N (q - 1)
instance (N : List Aq) (q j : Nat) : Decidable (onB N q j):=by unfold onB; infer_instance
def Lo (N : List Aq) (q j : Nat) : Option Nat:=if onB N q j then nxL j (N.drop q) else none
theorem KG {N : List Aq} {i : Nat} (h : i < N.length) : Es N i = N[i].high:=by simp [Es,h]
theorem BN {p : Nat} {N : List Aq} {i : Nat} (h : i < N.length) : Cc p N (i + 1) = N[i].blk:=by simp [Cc,h]
theorem Gh (j : Nat) (N : List Aq) : ∀ pl,Br j N pl <= pl
 | 0 => Nat.le_refl _
 | i + 1 => by unfold Br; split; exact Nat.le_refl _; exact Nat.le_succ_of_le (Gh j N i)
theorem Jz (j : Nat) (N : List Aq) : ∀ pl,onB N (Br j N pl) j
 | 0 => .inl rfl
 | i + 1 => by unfold Br; split; (rename_i h; exact .inr h); exact Jz j N i
theorem Iv (j : Nat) (N : List Aq) : ∀ pl k,Br j N pl <= k -> k < pl -> Es N k <= j
 | 0,k,_,h => absurd h (by omega)
 | i + 1,k,h1,h2 => by
   unfold Br at h1
   split at h1
   · omega
   · rename_i h
     by_cases e : k = i
     · subst e; omega
     · exact Iv j N i k h1 (by omega)
theorem LF {j : Nat} {N : List Aq} : ∀ {pl q : Nat},q <= pl -> onB N q j -> (∀ k,q <= k -> k < pl -> Es N k <= j) -> Br j N pl = q
 | 0,q,h,_,_ => by simp [Br]; omega
 | i + 1,q,h,ho,hg => by
   unfold Br
   by_cases e : q = i + 1
   · subst e
     rcases ho with ho | ho
     · omega
     · exact if_pos ho
   · have:=hg i (by omega) (by omega)
     rw [if_neg (by omega)]
     exact LF (by omega) ho (fun k a b => hg k a (by omega))
theorem Ml {N : List Aq} {pl : Nat} (h : ∀ i,i < pl -> 1 <= Es N i) : Br 0 N pl = pl:=by
 cases pl with
 | zero => rfl
 | succ i => have:=h i (by omega); unfold Br; rw [if_pos (by omega)]
theorem Rc (j : Nat) : ∀ (N : List Aq),(nxL j N = none /\ ∀ i,Es N i <= j) \/ ∃ i,∃ h : i < N.length,nxL j N = some N[i].blk /\ j < N[i].high /\ ∀ k,k < i -> Es N k <= j
 | [] => .inl ⟨rfl,fun i => by simp [Es]⟩
 | x :: r => by
   by_cases hx : j < x.high
   · exact .inr ⟨0,by simp,by simp [nxL,hx],hx,fun k hk => absurd hk (by omega)⟩
   · rcases Rc j r with ⟨h1,h2⟩ | ⟨i,hi,h1,h2,h3⟩
     · refine .inl ⟨by simp [nxL,hx,h1],fun i => ?_⟩
       cases i with
       | zero => simp [Es]; omega
       | succ i => exact h2 i
     · refine .inr ⟨i + 1,by simpa using hi,by simp [nxL,hx,h1],by simpa using h2,fun k hk => ?_⟩
       cases k with
       | zero => simp [Es]; omega
       | succ k => exact h3 k (by omega)
theorem Pm (N : List Aq) (q i : Nat) : Es (N.drop q) i = Es N (q + i):=by simp [Es,List.getElem?_drop]
theorem YE (j : Nat) (N : List Aq) (q : Nat) : (nxL j (N.drop q) = none /\ ∀ i,q <= i -> Es N i <= j) \/ ∃ i,∃ h : i < N.length,q <= i /\ nxL j (N.drop q) = some N[i].blk /\ j < N[i].high /\ ∀ k,q <= k -> k < i -> Es N k <= j:=by
 rcases Rc j (N.drop q) with ⟨h1,h2⟩ | ⟨i,hi,h1,h2,h3⟩
 · refine .inl ⟨h1,fun i hq => ?_⟩
   have:=h2 (i - q)
   rw [Pm,show q + (i - q) = i by omega] at this
   exact this
 · have hl : q + i < N.length:=by simp at hi; omega
   refine .inr ⟨q + i,hl,by omega,by rw [h1]; simp,by simpa using h2,fun k a b => ?_⟩
   have:=h3 (k - q) (by omega)
   rw [Pm,show q + (k - q) = k by omega] at this
   exact this
theorem Ve {j : Nat} {N : List Aq} {q r : Nat} (hqr : q <= r) (h : ∀ k,q <= k -> k < r -> Es N k <= j) : nxL j (N.drop q) = nxL j (N.drop r):=by
 obtain ⟨d,rfl⟩ : ∃ d,r = q + d:=⟨r - q,by omega⟩
 clear hqr
 induction d with
 | zero => rfl
 | succ d ih =>
   rw [ih (fun k a b => h k a (by omega))]
   by_cases hl : q + d < N.length
   · have:=h (q + d) (by omega) (by omega)
     rw [KG hl] at this
     rw [List.drop_eq_getElem_cons hl,CY,if_neg (by omega)]; rfl
   · rw [List.drop_of_length_le (by omega),List.drop_of_length_le (by omega)]
theorem YP {j : Nat} {N : List Aq} {q : Nat} (hl : q < N.length) (h : j < N[q].high) : nxL j (N.drop q) = some N[q].blk:=by
 rw [List.drop_eq_getElem_cons hl,CY,if_pos h]
theorem Wz {l : List Nat} (h : l.Nodup) {i j : Nat} (hi : i < l.length) (e : l[i]? = l[j]?) : i = j:=(List.getElem?_inj hi h).1 e
theorem Hc {p : Nat} {N : List Aq} (h : (p :: N.map Aq.blk).Nodup) {q r : Nat} (hq : q <= N.length) (hr : r <= N.length) (e : Cc p N q = Cc p N r) : q = r:=by
 have key : ∀ i,i <= N.length -> (p :: N.map Aq.blk)[i]? = some (Cc p N i):=fun i hi => by
  cases i with
  | zero => rfl
  | succ i => simp [Cc,show i < N.length by omega]
 have h1:=key q hq
 have h2:=key r hr
 rw [<- e] at h2
 exact Wz h (by simp; omega) (h1.trans h2.symm)
theorem Wo {p : Nat} {N : List Aq} {F : Nat -> Prop} (hp : F p) (hN : ∀ x ∈ N,F x.blk) {q : Nat} (hq : q <= N.length) : F (Cc p N q):=by
 cases q with
 | zero => exact hp
 | succ i => rw [BN (show i < N.length by omega)]; exact hN _ (List.getElem_mem _)
def Ap (N : List Aq) (pl : Nat) (x : Aq) : List Aq:=N.take pl ++ x :: N.drop pl
theorem EE {N : List Aq} {pl : Nat} (h : pl <= N.length) (x : Aq) : (Ap N pl x).length = N.length + 1:=by simp [Ap]; omega
theorem Cq {N : List Aq} {pl : Nat} (h : pl <= N.length) (x : Aq) (i : Nat) : (Ap N pl x)[i]? = if i < pl then N[i]? else if i = pl then some x else N[i - 1]?:=by
 unfold Ap
 by_cases h1 : i < pl
 · rw [if_pos h1,List.getElem?_append_left (by simp; omega),List.getElem?_take_of_lt h1]
 · rw [if_neg h1,List.getElem?_append_right (by simp; omega)]
   have hl : (N.take pl).length = pl:=by simp; omega
   rw [hl]
   by_cases h2 : i = pl
   · subst h2; simp
   · rw [if_neg h2]
     obtain ⟨d,rfl⟩ : ∃ d,i = pl + d + 1:=⟨i - pl - 1,by omega⟩
     rw [show pl + d + 1 - pl = d + 1 by omega,List.getElem?_cons_succ,List.getElem?_drop,show pl + d + 1 - 1 = pl + d by omega]
theorem X4 {N : List Aq} {pl : Nat} (h : pl <= N.length) (x : Aq) (i : Nat) : Es (Ap N pl x) i = if i < pl then Es N i else if i = pl then x.high else Es N (i - 1):=by
 unfold Es
 rw [Cq h]
 split
 · rfl
 · split <;> rfl
theorem DV {N : List Aq} {pl : Nat} (h : pl <= N.length) (x : Aq) (q : Nat) (hq : pl < q) : (Ap N pl x).drop q = N.drop (q - 1):=by
 apply List.ext_getElem?
 intro i
 rw [List.getElem?_drop,List.getElem?_drop,Cq h,if_neg (by omega),if_neg (by omega)]
 congr 1
 omega
theorem Ks {N : List Aq} {pl : Nat} (h : pl <= N.length) (x : Aq) : (Ap N pl x).drop pl = x :: N.drop pl:=by
 have hl : (N.take pl).length = pl:=by simp; omega
 unfold Ap
 rw [List.drop_append_of_le_length (by omega),List.drop_of_length_le (by omega)]
 rfl
theorem DP {N : List Aq} {pl : Nat} (h : pl <= N.length) {x : Aq} {j : Nat} (hx : x.high <= j) : ∀ (d q : Nat),q + d = pl -> nxL j ((Ap N pl x).drop q) = nxL j (N.drop q)
 | 0,q,e => by
   obtain rfl : q = pl:=by omega
   rw [Ks h,CY,if_neg (by omega)]
 | d + 1,q,e => by
   have hl : q < N.length:=by omega
   have h2 : (Ap N pl x)[q]? = some N[q]:=by rw [Cq h,if_pos (by omega)]; simp [hl]
   obtain ⟨h3,h4⟩:=List.getElem?_eq_some_iff.1 h2
   rw [List.drop_eq_getElem_cons h3,List.drop_eq_getElem_cons hl,h4,CY,CY,DP h hx d (q + 1) (by omega)]
theorem FY {N : List Aq} {pl : Nat} (h : pl <= N.length) {x : Aq} {j : Nat} (hx : j < x.high) : ∀ (d q : Nat),q + d = pl -> (∀ k,q <= k -> k < pl -> Es N k <= j) -> nxL j ((Ap N pl x).drop q) = some x.blk
 | 0,q,e,_ => by
   obtain rfl : q = pl:=by omega
   rw [Ks h,CY,if_pos hx]
 | d + 1,q,e,g => by
   have hl : q < N.length:=by omega
   have h2 : (Ap N pl x)[q]? = some N[q]:=by rw [Cq h,if_pos (by omega)]; simp [hl]
   obtain ⟨h3,h4⟩:=List.getElem?_eq_some_iff.1 h2
   have h5:=g q (by omega) (by omega)
   rw [KG hl] at h5
   rw [List.drop_eq_getElem_cons h3,h4,CY,if_neg (by omega)]
   exact FY h hx d (q + 1) (by omega) (fun k a b => g k (by omega) b)
theorem Ga {N : List Aq} {pl : Nat} (h : pl <= N.length) {x : Aq} {j k : Nat} (hk : k < pl) (hj : j < Es N k) : ∀ (d q : Nat),q + d = k -> nxL j ((Ap N pl x).drop q) = nxL j (N.drop q)
 | 0,q,e => by
   obtain rfl : q = k:=by omega
   have hl : q < N.length:=by omega
   have h2 : (Ap N pl x)[q]? = some N[q]:=by rw [Cq h,if_pos (by omega)]; simp [hl]
   obtain ⟨h3,h4⟩:=List.getElem?_eq_some_iff.1 h2
   rw [KG hl] at hj
   rw [List.drop_eq_getElem_cons h3,List.drop_eq_getElem_cons hl,h4,CY,CY,if_pos hj,if_pos hj]
 | d + 1,q,e => by
   have hl : q < N.length:=by omega
   have h2 : (Ap N pl x)[q]? = some N[q]:=by rw [Cq h,if_pos (by omega)]; simp [hl]
   obtain ⟨h3,h4⟩:=List.getElem?_eq_some_iff.1 h2
   rw [List.drop_eq_getElem_cons h3,List.drop_eq_getElem_cons hl,h4,CY,CY,Ga h hk hj d (q + 1) (by omega)]
theorem KM {N : List Aq} {pl : Nat} (h : pl <= N.length) (x : Aq) (q j : Nat) : onB (Ap N pl x) q j ↔ if q <= pl then onB N q j else if q = pl + 1 then j < x.high else onB N (q - 1) j:=by
 unfold onB
 cases q with
 | zero => simp
 | succ i =>
   rw [Nat.add_sub_cancel,X4 h]
   rcases Nat.lt_trichotomy i pl with h1 | h1 | h1
   · rw [if_pos h1,if_pos (show i + 1 <= pl by omega)]
   · rw [if_neg (show ¬ i < pl by omega),if_pos h1,if_neg (show ¬ i + 1 <= pl by omega),if_pos (show i + 1 = pl + 1 by omega)]
     simp
   · rw [if_neg (show ¬ i < pl by omega),if_neg (show ¬ i = pl by omega),if_neg (show ¬ i + 1 <= pl by omega),if_neg (show ¬ i + 1 = pl + 1 by omega)]
     constructor
     · rintro (a | a)
       · omega
       · exact .inr a
     · rintro (a | a)
       · omega
       · exact .inr a
theorem CG {N : List Aq} {q j : Nat} (h : onB N q j) : Lo N q j = nxL j (N.drop q):=if_pos h
theorem DF {N : List Aq} {q j : Nat} (h : ¬ onB N q j) : Lo N q j = none:=if_neg h
theorem Aai {N : List Aq} {pl : Nat} (h : pl <= N.length) {x : Aq} (hx : x.high = 0) (q j : Nat) : Lo (Ap N pl x) q j = if q <= pl then Lo N q j else if q = pl + 1 then none else Lo N (q - 1) j:=by
 have ho:=KM h x q j
 by_cases h1 : q <= pl
 · rw [if_pos h1] at ho ⊢
   have e : nxL j ((Ap N pl x).drop q) = nxL j (N.drop q):=DP h (by omega) (pl - q) q (by omega)
   by_cases h2 : onB N q j
   · rw [CG (ho.2 h2),CG h2,e]
   · rw [DF (fun c => h2 (ho.1 c)),DF h2]
 · rw [if_neg h1] at ho ⊢
   by_cases h2 : q = pl + 1
   · rw [if_pos h2] at ho ⊢
     exact DF (fun c => by have:=ho.1 c; omega)
   · rw [if_neg h2] at ho ⊢
     by_cases h3 : onB N (q - 1) j
     · rw [CG (ho.2 h3),CG h3,DV h x q (by omega)]
     · rw [DF (fun c => h3 (ho.1 c)),DF h3]
theorem AaF {N : List Aq} {pl : Nat} (h : pl <= N.length) {x y : Aq} (hb : y.blk = x.blk) {lv : Nat} (hx : x.high = lv) (hy : y.high = lv + 1) (q j : Nat) :
 Lo (Ap N pl y) q j = if q = Br lv N pl /\ j = lv then some x.blk else if q = pl + 1 /\ j = lv then nxL lv (N.drop pl) else Lo (Ap N pl x) q j:=by
 have hq0:=Gh lv N pl
 have ox:=KM h x q j
 have oy:=KM h y q j
 by_cases h1 : q <= pl
 · rw [if_pos h1] at ox oy
   rw [if_neg (show ¬ (q = pl + 1 /\ j = lv) by omega)]
   by_cases h2 : onB N q j
   · rw [CG (oy.2 h2),CG (ox.2 h2)]
     by_cases hj : j = lv
     · subst hj
       by_cases e : q = Br j N pl
       · rw [if_pos ⟨e,rfl⟩,FY h (by omega) (pl - q) q (by omega) (fun k a b => Iv j N pl k (by omega) b),hb]
       · rw [if_neg (fun c => e c.1)]
         have hlt : q < Br j N pl:=by
          rcases Nat.lt_or_ge q (Br j N pl) with c | c
          · exact c
          · exfalso
            apply e
            refine (LF h1 h2 (fun k a b => Iv j N pl k (by omega) b)).symm
         rcases Jz j N pl with c | c
         · omega
         · rw [Ga h (k:=Br j N pl - 1) (by omega) c (Br j N pl - 1 - q) q (by omega),DP h (by omega) (pl - q) q (by omega)]
     · rw [if_neg (fun c => hj c.2)]
       by_cases h3 : j < lv
       · rcases Classical.em (∀ k,q <= k -> k < pl -> Es N k <= j) with g | g
         · rw [FY h (by omega) (pl - q) q (by omega) g,FY h (by omega) (pl - q) q (by omega) g,hb]
         · obtain ⟨k,a,b,c⟩ : ∃ k,q <= k /\ k < pl /\ j < Es N k:=by
             apply Classical.byContradiction
             intro n
             exact g (fun k a b => Nat.le_of_not_lt (fun c => n ⟨k,a,b,c⟩))
           rw [Ga h b c (k - q) q (by omega),Ga h b c (k - q) q (by omega)]
       · rw [DP h (by omega) (pl - q) q (by omega),DP h (by omega) (pl - q) q (by omega)]
   · rw [DF (fun c => h2 (oy.1 c)),DF (fun c => h2 (ox.1 c)),if_neg]
     rintro ⟨rfl,rfl⟩
     exact h2 (Jz j N pl)
 · rw [if_neg h1] at ox oy
   rw [if_neg (show ¬ (q = Br lv N pl /\ j = lv) by omega)]
   by_cases h2 : q = pl + 1
   · rw [if_pos h2] at ox oy
     by_cases hj : j = lv
     · rw [if_pos ⟨h2,hj⟩,CG (oy.2 (by omega)),DV h y q (by omega),h2,hj,Nat.add_sub_cancel]
     · rw [if_neg (show ¬ (q = pl + 1 /\ j = lv) from fun c => hj c.2)]
       by_cases h3 : j < lv
       · rw [CG (oy.2 (by omega)),CG (ox.2 (by omega)),DV h y q (by omega),DV h x q (by omega)]
       · rw [DF (fun c => by have:=oy.1 c; omega),DF (fun c => by have:=ox.1 c; omega)]
   · rw [if_neg h2] at ox oy
     rw [if_neg (show ¬ (q = pl + 1 /\ j = lv) from fun c => h2 c.1)]
     by_cases h3 : onB N (q - 1) j
     · rw [CG (oy.2 h3),CG (ox.2 h3),DV h y q (by omega),DV h x q (by omega)]
     · rw [DF (fun c => h3 (oy.1 c)),DF (fun c => h3 (ox.1 c))]
end
section
open Go.RowKit Go.Shelf
def AF (W : World) (b : Nat) (x : Aa) : Prop:=W.heap[b]? = some (.cells #[.string x.key,.string x.val,.bool x.gone] 57 (0,0))
theorem AF.new (W : World) (x : Aa) : AF (W.alloc (.cells #[.string x.key,.string x.val,.bool x.gone] 57)) W.heap.size x:=World.alloc_heap_new W _
theorem AF.c0 {W : World} {b : Nat} {x : Aa} (h : AF W b x) : W.cell? ⟨b,0,none⟩ = some (.string x.key):=by rw [World.cell?,show W.heap[b]? = _ from h]; rfl
theorem AF.c1 {W : World} {b : Nat} {x : Aa} (h : AF W b x) : W.cell? ⟨b,1,none⟩ = some (.string x.val):=by rw [World.cell?,show W.heap[b]? = _ from h]; rfl
theorem AF.c2 {W : World} {b : Nat} {x : Aa} (h : AF W b x) : W.cell? ⟨b,2,none⟩ = some (.bool x.gone):=by rw [World.cell?,show W.heap[b]? = _ from h]; rfl
end
section
open Go.RowKit Go.Maps Go.WideMaps
def Et (x : Aa) (l : List Aa) : List Aa:=if Aw x = 0 then C2 x l else l
theorem QA (k : ByteArray) : AO k ⟨#[]⟩ = false:=by
 cases h : AO k ⟨#[]⟩ with
 | false => rfl
 | true =>
   have:=(EI _ _).1 h
   exact absurd this (by simp)
theorem IH (l : List Aa) : AG ⟨#[]⟩ l = l:=by
 have e : placeP ⟨#[]⟩ l = 0:=by
  cases l with
  | nil => rfl
  | cons y r => rw [Jc,QA]; rfl
 unfold AG
 rw [e]; rfl
def Abt (ps : List Aa) : List Aa:=ps.foldl (fun l x => Et x l) []
theorem WR (x : Aa) (l : List Aa) : (Et x l).length <= l.length + 1:=by
 unfold Et
 split
 · exact ZZ x l
 · omega
theorem TE (x : Aa) (l : List Aa) : At (Et x l) <= At l + (x.key.size + x.val.size):=by
 unfold Et
 split
 · unfold C2
   rw [CF,Cw]
   have h1 : At (l.take (placeP x.key l)) + At (l.drop (placeP x.key l)) = At l:=by rw [<- CF,List.take_append_drop]
   have h2 : At (l.drop (placeP x.key l + if Bd x.key l then 1 else 0)) <= At (l.drop (placeP x.key l)):=by
    rw [<- List.drop_drop]
    exact UC _ _
   omega
 · omega
theorem Ie {x : Aa} {l : List Aa} (h : Ak l) : Ak (Et x l):=by
 unfold Et
 split
 · exact Da h
 · exact h
def Az (l : List Aa) : Prop:=∀ x ∈ l,Aw x = 0
theorem Az.size {l : List Aa} (h : Az l) : At l <= 8256 * l.length:=by
 induction l with
 | nil => simp [At]
 | cons x r ih =>
   have h1:=ih (fun y hy => h y (List.mem_cons_of_mem _ hy))
   have h2:=h x (List.mem_cons_self ..)
   have h3 : ¬ (64 < x.key.size \/ 8192 < x.val.size):=fun h3 => by
    unfold Aw at h2
    split at h2
    · cases h2
    · first | (rw [if_pos h3] at h2; cases h2) | exact absurd h2 (by decide)
   rw [Cw,List.length_cons]
   omega
theorem UN {x : Aa} {l : List Aa} (h : Az l) : Az (Et x l):=by
 unfold Et
 split
 · rename_i hx
   intro y hy
   unfold C2 at hy
   rcases List.mem_append.1 hy with hy | hy
   · exact h y (List.mem_of_mem_take hy)
   · rcases List.mem_cons.1 hy with rfl | hy
     · exact hx
     · exact h y (List.mem_of_mem_drop hy)
 · exact h
theorem puts_fine : ∀ (ps l : List Aa),Az l -> Az (ps.foldl (fun l x => Et x l) l)
 | [],_,h => h
 | x :: r,l,h => puts_fine r (Et x l) (UN h)
end
section
open Go.RowKit
theorem Lx {l : List Aa} (h : Ak l) {i : Nat} (hi : i < l.length) : placeP l[i].key l = i:=
 Ls (Nat.le_of_lt hi) (fun j hj hji => List.pairwise_iff_getElem.1 h j i hj hi hji) (fun _ => Bt _)
theorem V8 {l : List Aa} (h : Ak l) {i : Nat} (hi : i < l.length) : DS l[i].key l = some l[i]:=by
 unfold DS
 rw [Fy hi (Lx h hi),Lx h hi]
 simp [hi]
theorem Dm {l : List Aa} (h : Ak l) (k : ByteArray) (y : Aa) : DS k l = some y ↔ y ∈ l /\ y.key = k:=by
 constructor
 · intro hg
   unfold DS at hg
   split at hg
   · rename_i ht
     obtain ⟨hl,hk⟩:=Fx ht
     rw [List.getElem?_eq_getElem hl] at hg
     injection hg with hg
     subst hg
     exact ⟨List.getElem_mem hl,hk⟩
   · cases hg
 · rintro ⟨hm,rfl⟩
   obtain ⟨i,hi,rfl⟩:=List.mem_iff_getElem.1 hm
   exact V8 h hi
theorem NH {l : List Aa} (h : Ak l) {x y : Aa} (hx : x ∈ l) (hy : y ∈ l) (e : x.key = y.key) : x = y:=by
 have h1:=(Dm h x.key x).2 ⟨hx,rfl⟩
 rw [e,(Dm h y.key y).2 ⟨hy,rfl⟩] at h1
 injection h1 with h1
 exact h1.symm
theorem CC {l : List Aa} (h : Ak l) (x y : Aa) : y ∈ C2 x l ↔ y = x \/ (y ∈ l /\ y.key ≠ x.key):=by
 have hx : x ∈ C2 x l:=by unfold C2; exact List.mem_append_right _ (List.mem_cons_self ..)
 constructor
 · intro hy
   by_cases e : y.key = x.key
   · exact .inl (NH (Da h) hy hx e)
   · rcases Tz hy with rfl | hm
     · exact .inl rfl
     · exact .inr ⟨hm,e⟩
 · rintro (rfl | ⟨hm,e⟩)
   · exact hx
   · obtain ⟨i,hi,rfl⟩:=List.mem_iff_getElem.1 hm
     unfold C2
     by_cases hlt : i < placeP x.key l
     · refine List.mem_append_left _ (List.mem_iff_getElem.2 ⟨i,by rw [List.length_take]; omega,?_⟩)
       rw [List.getElem_take]
     · refine List.mem_append_right _ (List.mem_cons_of_mem _ ?_)
       have hd : placeP x.key l + (if Bd x.key l then 1 else 0) <= i:=by
        split
        · rename_i ht
          obtain ⟨hl,hk⟩:=Fx ht
          have : i ≠ placeP x.key l:=fun c => e (by subst c; exact hk)
          omega
        · omega
       refine List.mem_iff_getElem.2 ⟨i - (placeP x.key l + (if Bd x.key l then 1 else 0)),by rw [List.length_drop]; omega,?_⟩
       rw [List.getElem_drop]
       congr 1
       omega
theorem rising_ext : ∀ {a b : List Aa},Ak a -> Ak b -> (∀ x,x ∈ a ↔ x ∈ b) -> a = b
 | [],[],_,_,_ => rfl
 | [],y :: s,_,_,h => absurd ((h y).2 (List.mem_cons_self ..)) (by simp)
 | x :: r,[],_,_,h => absurd ((h x).1 (List.mem_cons_self ..)) (by simp)
 | x :: r,y :: s,ha,hb,h => by
   obtain ⟨a1,a2⟩:=List.pairwise_cons.1 ha
   obtain ⟨b1,b2⟩:=List.pairwise_cons.1 hb
   have e : x = y:=by
    rcases List.mem_cons.1 ((h x).1 (List.mem_cons_self ..)) with e | hx
    · exact e
    · rcases List.mem_cons.1 ((h y).2 (List.mem_cons_self ..)) with e | hy
      · exact e.symm
      · have h1:=b1 x hx
        have h2:=a1 y hy
        rw [Ns h1] at h2
        cases h2
   subst e
   rw [rising_ext a2 b2 (fun z => ?_)]
   have nr : ∀ {l : List Aa},(∀ z ∈ l,AO x.key z.key = true) -> x ∉ l:=fun hl hx => by have:=hl x hx; rw [Bt] at this; cases this
   constructor
   · intro hz
     rcases List.mem_cons.1 ((h z).1 (List.mem_cons_of_mem _ hz)) with rfl | hz'
     · exact absurd hz (nr a1)
     · exact hz'
   · intro hz
     rcases List.mem_cons.1 ((h z).2 (List.mem_cons_of_mem _ hz)) with rfl | hz'
     · exact absurd hz (nr b1)
     · exact hz'
end
section
def J7 (x : Aa) (m : List Aa) : List Aa:=m.take (placeP x.key m) ++ (if x.gone then [] else [x]) ++ m.drop (placeP x.key m + if Bd x.key m then 1 else 0)
def AP (m l : List Aa) : List Aa:=l.foldl (fun m x => J7 x m) m
theorem UY (m : List Aa) : AP m [] = m:=rfl
theorem SE {m l : List Aa} {i : Nat} (h : i < l.length) : AP m (l.take (i + 1)) = J7 l[i] (AP m (l.take i)):=by
 unfold AP
 rw [List.take_succ_eq_append_getElem h,List.foldl_append]
 rfl
theorem RG {x : Aa} (h : x.gone = false) (m : List Aa) : J7 x m = C2 x m:=by
 unfold J7 C2
 rw [h]
 simp
theorem YT (x : Aa) (m : List Aa) : (J7 x m).length <= m.length + 1:=by
 unfold J7
 have:=C8 x.key m
 simp only [List.length_append,List.length_take,List.length_drop]
 have h1 : (if x.gone then [] else [x] : List Aa).length <= 1:=by split <;> simp
 generalize (if x.gone then [] else [x] : List Aa).length = a at *
 generalize (if Bd x.key m = true then 1 else 0) = b
 omega
theorem writeP_len : ∀ (l m : List Aa),(AP m l).length <= m.length + l.length
 | [],m => by simp [AP]
 | x :: r,m => by
   have h1:=writeP_len r (J7 x m)
   have h2:=YT x m
   show (AP (J7 x m) r).length <= _
   rw [List.length_cons]
   omega
theorem Ra {x : Aa} {m : List Aa} (h : Ak m) (y : Aa) : y ∈ J7 x m ↔ (x.gone = false /\ y = x) \/ (y ∈ m /\ y.key ≠ x.key):=by
 cases hg : x.gone with
 | false =>
   rw [RG hg,CC h]
   simp
 | true =>
   unfold J7
   rw [hg]
   simp only [↓reduceIte,List.append_nil,Bool.true_eq_false,false_and,false_or]
   constructor
   · intro hy
     rcases List.mem_append.1 hy with hy | hy
     · obtain ⟨i,hi,e⟩:=List.mem_iff_getElem.1 hy
       rw [List.length_take] at hi
       rw [List.getElem_take] at e
       refine ⟨List.mem_of_mem_take hy,fun e2 => ?_⟩
       have:=Dq (k:=x.key) (l:=m) (j:=i) (by omega) (by omega)
       rw [e,e2,Bt] at this
       cases this
     · obtain ⟨i,hi,e⟩:=List.mem_iff_getElem.1 hy
       rw [List.length_drop] at hi
       rw [List.getElem_drop] at e
       refine ⟨List.mem_of_mem_drop hy,fun e2 => ?_⟩
       have hlt : placeP x.key m < m.length:=by split at hi <;> omega
       by_cases ht : Bd x.key m = true
       · obtain ⟨_,hk⟩:=Fx ht
         have hlt2:=hi
         rw [if_pos ht] at hi
         have h2:=List.pairwise_iff_getElem.1 h (placeP x.key m) (placeP x.key m + 1 + i) hlt (by omega) (by omega)
         simp only [ht,↓reduceIte] at e
         rw [hk,e,e2,Bt] at h2
         cases h2
       · have hn : Bd x.key m = false:=by simpa using ht
         simp only [hn,Bool.false_eq_true,↓reduceIte,Nat.add_zero] at e
         rw [Fy hlt rfl] at hn
         have hne : m[placeP x.key m].key ≠ x.key:=by simpa using hn
         have hat:=Fd (k:=x.key) (l:=m) hlt
         have hb : AO x.key m[placeP x.key m].key = true:=Fv hne hat
         by_cases hi0 : i = 0
         · subst hi0
           exact hne (by simp only [Nat.add_zero] at e; rw [e]; exact e2)
         · have h2:=List.pairwise_iff_getElem.1 h (placeP x.key m) (placeP x.key m + i) hlt (by rw [if_neg ht] at hi; omega) (by omega)
           rw [e] at h2
           have:=Bq hb h2
           rw [e2,Bt] at this
           cases this
   · rintro ⟨hy,hne⟩
     have hk:=(CC h x y).2 (.inr ⟨hy,hne⟩)
     unfold C2 at hk
     rcases List.mem_append.1 hk with hk | hk
     · exact List.mem_append.2 (.inl hk)
     · rcases List.mem_cons.1 hk with rfl | hk
       · exact absurd rfl hne
       · exact List.mem_append.2 (.inr hk)
theorem LZ {x : Aa} {m : List Aa} (h : Ak m) : Ak (J7 x m):=by
 cases hg : x.gone with
 | false => rw [RG hg]; exact Da h
 | true =>
   have h2 : Ak (C2 x m):=Da h
   unfold J7
   rw [hg]
   simp only [↓reduceIte,List.append_nil]
   unfold C2 at h2
   refine List.Pairwise.sublist (List.Sublist.append (List.Sublist.refl _) ?_) h2
   exact List.sublist_cons_self _ _
def Abs (m : List Aa) : Prop:=∀ x ∈ m,Aw x = 0 /\ x.gone = false
def CE (k : ByteArray) (m : List Aa) : ByteArray × Bool:=match DS k m with | some x => (x.val,true) | none => (⟨#[]⟩,false)
def inM (fr tu : ByteArray) (x : Aa) : Bool:=!AO x.key fr && (decide (tu.size = 0) || AO x.key tu)
def I8 (m : List Aa) (fr tu : ByteArray) (most : Int) : List Aa:=(m.filter (inM fr tu)).take most.toNat
def A5 (l : List Aa) : Nat:=if l.length = 0 then 1 else if 64 < l.length then 2 else match l.find? (fun x => Aw x != 0) with | some x => Aw x | none => 0
theorem Ma {l : List Aa} (h : A5 l = 0) : l ≠ [] /\ l.length <= 64 /\ Az l:=by
 unfold A5 at h
 by_cases h0 : l.length = 0
 · rw [if_pos h0] at h; cases h
 rw [if_neg h0] at h
 by_cases h1 : 64 < l.length
 · rw [if_pos h1] at h; cases h
 rw [if_neg h1] at h
 refine ⟨fun e => h0 (by rw [e]; rfl),by omega,fun x hx => ?_⟩
 cases hf : l.find? (fun x => Aw x != 0) with
 | none =>
   have:=List.find?_eq_none.1 hf x hx
   simpa using this
 | some y =>
   rw [hf] at h
   have:=List.find?_some hf
   simp only [bne_iff_ne,ne_eq] at this
   exact absurd h this
theorem M0 {k : ByteArray} : k.toList = [] ↔ k.size = 0:=by
 rw [ByteArray.toList_eq]
 constructor
 · intro h
   have : k.data.toList.length = 0:=by rw [h]; rfl
   simpa using this
 · intro h
   refine List.eq_nil_of_length_eq_zero ?_
   simpa using h
theorem Hz {k : ByteArray} (h : k.size = 0) : k.toList.isEmpty = true:=by rw [M0.2 h]; rfl
theorem DI {k : ByteArray} (h : ¬ k.size = 0) : k.toList.isEmpty = false:=by
 have : ¬ k.toList = []:=fun e => h (M0.1 e)
 simpa using this
end
section
open Go.RowKit
def D9 (m : List Aa) (c : Aa) : Bool:=if c.gone then !(CE c.key m).2 else (CE c.key m).2 && decide ((CE c.key m).1 = c.val)
def GL (m cs : List Aa) : Nat:=if cs.all (D9 m) then 0 else 100
def doC (m cs l : List Aa) : Nat:=if 64 < cs.length then 2 else if A5 l ≠ 0 then A5 l else GL m cs
def Dw (m cs l : List Aa) : List Aa:=if doC m cs l = 0 then AP m l else m
def Dh (m cs l : List Aa) (n : Nat) : Nat:=if doC m cs l = 0 then n + 1 else n
def behR : List UInt8 -> List UInt8
 | [] => []
 | c :: r => match behR r with
   | [] => if c < 255 then [c + 1] else []
   | b :: s => c :: b :: s
def I6 (p : ByteArray) : ByteArray:=⟨(behR p.data.toList).toArray⟩
def NL (a b : ByteArray) : ByteArray:=if AO a b then b else a
def LC (pre fr : ByteArray) (x : Aa) : Bool:=Lib.hasPrefix x.key.data.toList pre.data.toList && !AO x.key fr
def BI (m : List Aa) (pre fr : ByteArray) (most : Int) : List Aa:=(m.filter (LC pre fr)).take most.toNat
theorem Hd (c : UInt8) (r : List UInt8) : behR (c :: r) = if behR r = [] then (if c < 255 then [c + 1] else []) else c :: behR r:=by
 rw [behR]
 cases behR r <;> simp
theorem Td (q r : List UInt8) : behR (q ++ r) = if behR r = [] then behR q else q ++ behR r:=by
 induction q with
 | nil => simp only [List.nil_append]; split <;> simp_all [behR]
 | cons c q ih =>
   rw [List.cons_append,Hd,ih,Hd]
   by_cases h : behR r = []
   · simp [h]
   · simp [h]
theorem Oh (a : List UInt8) : Op.bytesLess a [] = false:=by cases a <;> rfl
theorem Zo (p k : List UInt8) : p.isPrefixOf k = (!Op.bytesLess k p && (decide (behR p = []) || Op.bytesLess k (behR p))):=by
 induction p generalizing k with
 | nil => simp [behR,Oh]
 | cons c r ih =>
   cases k with
   | nil => simp [Op.bytesLess]
   | cons d k =>
     rw [Hd]
     simp only [List.isPrefixOf,Op.bytesLess,ih k]
     by_cases hd : d = c
     · subst hd
       have h0 : ¬ d < d:=UInt8.lt_irrefl d
       by_cases hb : behR r = []
       · rw [if_pos hb]
         by_cases hc : d < 255
         · have h1 : d < d + 1:=by rw [UInt8.lt_iff_toNat_lt] at hc ⊢; rw [UInt8.toNat_add]; have : (255 : UInt8).toNat = 255:=rfl; have : (1 : UInt8).toNat = 1:=rfl; omega
           simp [hb,hc,h0,h1,Op.bytesLess]
         · simp [hb,hc,h0]
       · rw [if_neg hb]
         simp [hb,h0,Op.bytesLess]
     · have hd2 : (c == d) = false:=by simpa using fun e => hd e.symm
       have hd3 : (d == c) = false:=by simpa using hd
       simp only [hd2,hd3,Bool.false_and,Bool.or_false]
       by_cases hl : d < c
       · simp [hl]
       · have hg : c < d:=by
           rw [UInt8.lt_iff_toNat_lt] at hl ⊢
           have : d.toNat ≠ c.toNat:=fun e => hd (UInt8.toNat_inj.1 e)
           omega
         have hc : c < 255:=by rw [UInt8.lt_iff_toNat_lt] at hg ⊢; have:=UInt8.toNat_lt d; have : (255 : UInt8).toNat = 255:=rfl; omega
         have h1 : ¬ d < c + 1:=by rw [UInt8.lt_iff_toNat_lt] at hg hc ⊢; rw [UInt8.toNat_add]; have : (255 : UInt8).toNat = 255:=rfl; have : (1 : UInt8).toNat = 1:=rfl; omega
         by_cases hb : behR r = []
         · simp [hb,hc,hl,h1,Op.bytesLess,Oh]
         · simp [hb,hl,hd,Op.bytesLess]
theorem AaJ (k a b : ByteArray) : AO k (NL a b) = (AO k a || AO k b):=by
 unfold NL
 cases h : AO a b with
 | true =>
   rw [if_pos rfl]
   cases h1 : AO k a with
   | true => rw [Bq h1 h]; rfl
   | false => simp
 | false =>
   rw [if_neg (by simp)]
   cases h1 : AO k b with
   | false => simp
   | true =>
     by_cases e : a = b
     · subst e; rw [h1]; rfl
     · rw [Bq h1 (Fv e h)]; rfl
theorem AaA (pre fr : ByteArray) (x : Aa) : inM (NL pre fr) (I6 pre) x = LC pre fr x:=by
 unfold inM LC Lib.hasPrefix
 rw [AaJ,Zo]
 have e0 : decide ((I6 pre).size = 0) = decide (behR pre.data.toList = []):=by
  have : (I6 pre).size = (behR pre.data.toList).length:=by simp [I6,ByteArray.size]
  rw [this]
  simp [List.length_eq_zero_iff]
 have e1 : AO x.key (I6 pre) = Op.bytesLess x.key.data.toList (behR pre.data.toList):=by simp [AO,I6,ByteArray.toList_eq]
 have e2 : AO x.key pre = Op.bytesLess x.key.data.toList pre.data.toList:=by simp [AO,ByteArray.toList_eq]
 rw [e0,e1,e2]
 cases Op.bytesLess x.key.data.toList pre.data.toList <;> cases AO x.key fr <;> simp
theorem Zw (m : List Aa) (pre fr : ByteArray) (most : Int) : I8 m (NL pre fr) (I6 pre) most = BI m pre fr most:=by
 unfold I8 BI
 rw [show inM (NL pre fr) (I6 pre) = LC pre fr from funext (AaA pre fr)]
theorem KV {m cs l : List Aa} (h : 64 < cs.length) : doC m cs l = 2:=if_pos h
theorem J2 {m cs l : List Aa} (h : ¬ 64 < cs.length) (h1 : A5 l ≠ 0) : doC m cs l = A5 l:=by unfold doC; rw [if_neg h,if_pos h1]
theorem Hj {m cs l : List Aa} (h : ¬ 64 < cs.length) (h1 : A5 l = 0) : doC m cs l = GL m cs:=by unfold doC; rw [if_neg h,if_neg (by simpa using h1)]
theorem Yy {m cs l : List Aa} (h : doC m cs l = 0) : cs.length <= 64 /\ A5 l = 0 /\ cs.all (D9 m) = true:=by
 by_cases h0 : 64 < cs.length
 · rw [KV h0] at h; cases h
 by_cases h1 : A5 l = 0
 · rw [Hj h0 h1] at h
   by_cases h2 : cs.all (D9 m) = true
   · exact ⟨by omega,h1,h2⟩
   · unfold GL at h; rw [if_neg h2] at h; cases h
 · rw [J2 h0 h1] at h; exact absurd h h1
theorem Jp {m cs l : List Aa} (h : doC m cs l ≠ 0) : Dw m cs l = m:=if_neg h
theorem GO {m cs l : List Aa} {n : Nat} (h : doC m cs l ≠ 0) : Dh m cs l n = n:=if_neg h
theorem KF {m cs l : List Aa} (h : doC m cs l = 0) : Dw m cs l = AP m l:=if_pos h
theorem KS {m cs l : List Aa} {n : Nat} (h : doC m cs l = 0) : Dh m cs l n = n + 1:=if_pos h
theorem Sx {m cs : List Aa} {i : Nat} (h : i < cs.length) (h1 : (cs.take i).all (D9 m) = true) (h2 : D9 m cs[i] = true) : (cs.take (i + 1)).all (D9 m) = true:=by
 rw [List.take_succ_eq_append_getElem h,List.all_append,h1]
 simp [h2]
theorem Ku {m cs : List Aa} {i : Nat} (h : i < cs.length) (h2 : D9 m cs[i] = false) : GL m cs = 100:=by
 have h3 : cs.all (D9 m) = false:=by
  rw [List.all_eq_false]
  exact ⟨cs[i],List.getElem_mem h,by simp [h2]⟩
 unfold GL
 rw [h3]
 rfl
theorem Oi {m cs : List Aa} (h : cs.all (D9 m) = true) : GL m cs = 0:=by unfold GL; rw [if_pos h]
theorem SL (m cs : List Aa) : GL m cs = 0 \/ GL m cs = 100:=by unfold GL; split <;> simp
end
end Go.Proofs.YtnafjlhohbhcoaaGreatDoor
