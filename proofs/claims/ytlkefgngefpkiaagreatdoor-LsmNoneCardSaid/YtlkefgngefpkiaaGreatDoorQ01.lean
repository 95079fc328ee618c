/- Parts of the proof. -/
import Derived.Test.YtlkefgngefpkiaaGreatDoorChecked
import Derived.RangeFuncBox
import Derived.RangeFuncNested
import Derived.RangeFuncBound
import Derived.RangeFuncCalls
import Derived.RangeFuncLeaves
import Derived.Shelf.Abstract
import Derived.Shelf.RegionOpen
import Derived.WalkKit
import Derived.OwnWalkIn
import Derived.TacticsInMore
import Derived.LoopNIn
import Derived.LoopIn
import Derived.Maps.AppendAt
import Derived.Outline
namespace Go.Proofs.YtlkefgngefpkiaaGreatDoor
set_option linter.unusedVariables false
section
open Go.RowKit Go.Shelf
attribute [local go_sem] Oper.semAt_some
structure Aa where
 key : ByteArray
 val : ByteArray
 gone : Bool
deriving DecidableEq
def Aa.val' (p : Aa) : Value:=.agg #[.string p.key,.string p.val,.bool p.gone]
def Aa.cells (p : Aa) : List Value:=[.string p.key,.string p.val,.bool p.gone]
def AH (ps : List Aa) : List Value:=ps.flatMap Aa.cells
theorem DL (ps : List Aa) (p : Aa) : AH (ps ++ [p]) = AH ps ++ [.string p.key,.string p.val,.bool p.gone]:=by simp [AH,Aa.cells]
def A5 (F : Nat -> Prop) (W W' : World) : Prop:=∀ k,F k -> W'.heap[k]? = W.heap[k]?
theorem A5.trans {F : Nat -> Prop} {A B C : World} (h : A5 F A B) (k : A5 F B C) : A5 F A C:=fun i hi => (k i hi).trans (h i hi)
theorem A5.refl (F : Nat -> Prop) (A : World) : A5 F A A:=fun _ _ => rfl
theorem A5.of_below {F : Nat -> Prop} {n : Nat} {A B : World} (h : Below n A B) (hF : ∀ k,F k -> k < n) : A5 F A B:=fun i hi => h.block i (hF i hi)
theorem A5.put {F : Nat -> Prop} {n : Nat} (hF : ∀ k,F k -> k < n) (W : World) (l : Nat) (o o' : Obj) (hl : n <= l) (_ : W.heap[l]? = some o) (_ : o.isCells = false) (_ : o.isWalk = false) : A5 F W (W.putObj l o'):=fun i hi => World.putObj_heap_other (fun e => by have:=hF i hi; omega)
theorem Fi (W : World) (x : Aa) : ∀ j u,[Value.string x.key,.string x.val,.bool x.gone][j]? = some u -> (W.alloc (.cells #[.string x.key,.string x.val,.bool x.gone] 61)).cell? ((⟨W.heap.size,0,none⟩ : Addr).add j) = some u:=by
 intro j u h
 have hb:=World.alloc_heap_new W (.cells #[.string x.key,.string x.val,.bool x.gone] 61)
 rw [Addr.add_lit,Nat.zero_add,World.cell?,hb]
 match j,h with
 | 0,h => exact h
 | 1,h => exact h
 | 2,h => exact h
theorem DQ (x : Aa) : ∀ u ∈ [Value.string x.key,.string x.val,.bool x.gone],u.oneCell' = true:=by
 intro u hu
 simp at hu
 rcases hu with rfl | rfl | rfl <;> rfl
theorem infoPair : (Tryz.prog.info? 61).map (fun i => (i.zero,i.size,i.bytes)) = some (some (.agg #[.string ⟨#[]⟩,.string ⟨#[]⟩,.bool false]),3,40):=by kernel_rfl
end
section
open Go.RowKit
def AR (a b : ByteArray) : Bool:=Op.bytesLess a.toList b.toList
theorem less_lt : ∀ a b : List UInt8,Op.bytesLess a b = true ↔ a < b
 | [],[] => by simp [Op.bytesLess]
 | [],_ :: _ => by simp [Op.bytesLess]
 | _ :: _,[] => by simp [Op.bytesLess]
 | a :: r,b :: s => by
   rw [List.cons_lt_cons_iff,<- less_lt r s]
   simp [Op.bytesLess]
theorem DR (a b : ByteArray) : AR a b = true ↔ a.data.toList < b.data.toList:=by
 unfold AR
 rw [ByteArray.toList_eq,ByteArray.toList_eq,less_lt]
def placeP (k : ByteArray) : List Aa -> Nat
 | [] => 0
 | y :: r => if AR y.key k then placeP k r + 1 else 0
def Bh (k : ByteArray) (l : List Aa) : Bool:=match l[placeP k l]? with | some y => decide (y.key = k) | none => false
def CG (k : ByteArray) (l : List Aa) : Option Aa:=if Bh k l then l[placeP k l]? else none
def AF (k : ByteArray) (l : List Aa) : List Aa:=l.drop (placeP k l)
def Cn (p : Aa) (l : List Aa) : List Aa:=l.take (placeP p.key l) ++ p :: l.drop (placeP p.key l + if Bh p.key l then 1 else 0)
def At (l : List Aa) : Nat:=(l.map fun p => p.key.size + p.val.size).sum
def zeroP : Aa:=⟨⟨#[]⟩,⟨#[]⟩,false⟩
def Av (p : Aa) : Nat:=
 if p.key.size = 0 \/ (p.gone = true /\ p.val.size ≠ 0) then 1 else if 64 < p.key.size \/ 8192 < p.val.size then 2 else 0
def Aj (l : List Aa) : Prop:=l.Pairwise fun a b => AR a.key b.key = true
theorem Br (a : ByteArray) : AR a a = false:=by
 cases h : AR a a with
 | false => rfl
 | true => exact absurd ((DR _ _).1 h) (List.lt_irrefl _)
theorem Kk {a b : ByteArray} (h : AR a b = true) : AR b a = false:=by
 cases h2 : AR b a with
 | false => rfl
 | true => exact absurd (List.lt_trans ((DR _ _).1 h) ((DR _ _).1 h2)) (List.lt_irrefl _)
theorem BY {a b c : ByteArray} (h : AR a b = true) (k : AR b c = true) : AR a c = true:=(DR _ _).2 (List.lt_trans ((DR _ _).1 h) ((DR _ _).1 k))
theorem G3 {a b : ByteArray} (h : a ≠ b) (h2 : AR a b = false) : AR b a = true:=by
 rw [DR]
 have h3 : ¬ a.data.toList < b.data.toList:=fun hl => by rw [(DR a b).2 hl] at h2; cases h2
 rcases Classical.em (b.data.toList < a.data.toList) with h4 | h4
 · exact h4
 · exact absurd (ByteArray.ext (Array.toList_inj.1 (List.le_antisymm (List.not_lt.1 h4) (List.not_lt.1 h3)))) h
theorem Oj (a b : ByteArray) : (a.toList == b.toList) = decide (a = b):=by
 rw [ByteArray.toList_eq,ByteArray.toList_eq]
 by_cases h : a = b
 · subst h; simp
 · have h2 : ¬ a.data = b.data:=fun e => h (ByteArray.ext e)
   simp [h,h2]
theorem CP (a b : List Aa) : At (a ++ b) = At a + At b:=by simp [At]
theorem CF (x : Aa) (l : List Aa) : At (x :: l) = x.key.size + x.val.size + At l:=by simp [At]
theorem JO (l : List Aa) (i : Nat) : At (l.take i) <= At l:=by
 have:=CP (l.take i) (l.drop i)
 rw [List.take_append_drop] at this
 omega
theorem Uc (l : List Aa) (i : Nat) : At (l.drop i) <= At l:=by
 have:=CP (l.take i) (l.drop i)
 rw [List.take_append_drop] at this
 omega
theorem IS (k : ByteArray) (y : Aa) (r : List Aa) : placeP k (y :: r) = if AR y.key k then placeP k r + 1 else 0:=rfl
theorem C9 (k : ByteArray) (l : List Aa) : placeP k l <= l.length:=by
 induction l with
 | nil => simp [placeP]
 | cons y r ih => unfold placeP; split <;> simp <;> omega
theorem LS {k : ByteArray} {l : List Aa} {i : Nat} (hi : i <= l.length) (h1 : ∀ j (h : j < l.length),j < i -> AR l[j].key k = true) (h2 : ∀ h : i < l.length,AR l[i].key k = false) : placeP k l = i:=by
 induction l generalizing i with
 | nil => simp at hi; subst hi; rfl
 | cons y r ih =>
   unfold placeP
   cases i with
   | zero =>
     have:=h2 (by simp)
     simp only [List.getElem_cons_zero] at this
     rw [this]; rfl
   | succ i =>
     have:=h1 0 (by simp) (by omega)
     simp only [List.getElem_cons_zero] at this
     rw [if_pos this,ih (by simpa using hi) (fun j h hj => by have:=h1 (j + 1) (by simpa using h) (by omega); simpa using this) (fun h => by have:=h2 (by simpa using h); simpa using this)]
theorem Du {k : ByteArray} : ∀ {l : List Aa} {j : Nat} (h : j < l.length),j < placeP k l -> AR l[j].key k = true
 | [],_,h,_ => absurd h (by simp)
 | y :: r,j,h,hj => by
   unfold placeP at hj
   split at hj
   · rename_i hy
     cases j with
     | zero => exact hy
     | succ j => exact Du (l:=r) (by simpa using h) (by omega)
   · omega
theorem Fs {k : ByteArray} : ∀ {l : List Aa} (h : placeP k l < l.length),AR l[placeP k l].key k = false
 | [],h => absurd h (by simp)
 | y :: r,h => by
   by_cases hy : AR y.key k = true
   · have e : placeP k (y :: r) = placeP k r + 1:=by rw [IS,if_pos hy]
     have hl : placeP k r < r.length:=by rw [e] at h; simpa using h
     have:=Fs hl
     simp only [e,List.getElem_cons_succ]
     exact this
   · have e : placeP k (y :: r) = 0:=by rw [IS,if_neg hy]
     simp only [e,List.getElem_cons_zero]
     simpa using hy
theorem E0 {k : ByteArray} {l : List Aa} (h : Bh k l = true) : ∃ h : placeP k l < l.length,l[placeP k l].key = k:=by
 unfold Bh at h
 split at h
 · rename_i y hy
   obtain ⟨h1,h2⟩:=List.getElem?_eq_some_iff.1 hy
   exact ⟨h1,by rw [h2]; simpa using h⟩
 · cases h
theorem Fo {k : ByteArray} {l : List Aa} {i : Nat} (hi : i < l.length) (hp : placeP k l = i) : Bh k l = decide (l[i].key = k):=by
 unfold Bh
 rw [hp,List.getElem?_eq_getElem hi]
theorem Mo {k : ByteArray} {l : List Aa} (hp : placeP k l = l.length) : Bh k l = false:=by
 unfold Bh
 rw [hp,List.getElem?_eq_none (Nat.le_refl _)]
theorem ED (a b : List Aa) : AH (a ++ b) = AH a ++ AH b:=by simp [AH]
theorem Ez (x : Aa) (l : List Aa) : AH (x :: l) = [.string x.key,.string x.val,.bool x.gone] ++ AH l:=rfl
theorem XW (l : List Aa) (k : Nat) : (AH l).take (k * 3) = AH (l.take k):=by
 induction l generalizing k with
 | nil => simp [AH]
 | cons x r ih =>
   cases k with
   | zero => simp [AH]
   | succ k =>
     rw [Ez,List.take_succ_cons,Ez,show (k + 1) * 3 = [Value.string x.key,.string x.val,.bool x.gone].length + k * 3 by simp; omega,List.take_length_add_append,ih]
theorem X8 (l : List Aa) (k : Nat) : (AH l).drop (k * 3) = AH (l.drop k):=by
 induction l generalizing k with
 | nil => simp [AH]
 | cons x r ih =>
   cases k with
   | zero => simp [AH]
   | succ k =>
     rw [Ez,List.drop_succ_cons,show (k + 1) * 3 = [Value.string x.key,.string x.val,.bool x.gone].length + k * 3 by simp; omega,List.drop_length_add_append,ih]
theorem rowP_at : ∀ (l : List Aa) (i : Nat) (h : i < l.length),(AH l)[i * 3]? = some (.string l[i].key) /\ (AH l)[i * 3 + 1]? = some (.string l[i].val) /\ (AH l)[i * 3 + 2]? = some (.bool l[i].gone)
 | x :: r,0,_ => ⟨rfl,rfl,rfl⟩
 | x :: r,i + 1,h => by
   have hi : i < r.length:=by simpa using h
   have:=rowP_at r i hi
   rw [Ez]
   refine ⟨?_,?_,?_⟩
   · rw [List.getElem?_append_right (by simp; omega)]
     show (AH r)[(i + 1) * 3 - 3]? = some (.string r[i].key)
     rw [show (i + 1) * 3 - 3 = i * 3 by omega]; exact this.1
   · rw [List.getElem?_append_right (by simp; omega)]
     show (AH r)[(i + 1) * 3 + 1 - 3]? = some (.string r[i].val)
     rw [show (i + 1) * 3 + 1 - 3 = i * 3 + 1 by omega]; exact this.2.1
   · rw [List.getElem?_append_right (by simp; omega)]
     show (AH r)[(i + 1) * 3 + 2 - 3]? = some (.bool r[i].gone)
     rw [show (i + 1) * 3 + 2 - 3 = i * 3 + 2 by omega]; exact this.2.2
theorem KM (l : List Aa) : ∀ u ∈ AH l,u.oneCell' = true:=by
 intro u hu
 unfold AH Aa.cells at hu
 obtain ⟨x,_,hx⟩:=List.mem_flatMap.1 hu
 simp only [List.mem_cons,List.not_mem_nil,or_false] at hx
 rcases hx with rfl | rfl | rfl <;> rfl
theorem ZE (p : Aa) (l : List Aa) : (Cn p l).length <= l.length + 1:=by
 have:=C9 p.key l
 unfold Cn
 rw [List.length_append,List.length_take,List.length_cons,List.length_drop]
 split <;> omega
theorem Ss {p q : Aa} {l : List Aa} (h : q ∈ Cn p l) : q = p \/ q ∈ l:=by
 unfold Cn at h
 rcases List.mem_append.1 h with h | h
 · exact .inr (List.mem_of_mem_take h)
 · rcases List.mem_cons.1 h with h | h
   · exact .inl h
   · exact .inr (List.mem_of_mem_drop h)
theorem Cz {p : Aa} {l : List Aa} (h : Aj l) : Aj (Cn p l):=by
 have h3 : ∀ b ∈ l.drop (placeP p.key l + if Bh p.key l then 1 else 0),AR p.key b.key = true:=by
  intro b hb
  obtain ⟨i,hi⟩:=List.mem_iff_getElem?.1 hb
  rw [List.getElem?_drop] at hi
  obtain ⟨h4,h5⟩:=List.getElem?_eq_some_iff.1 hi
  have hpl : placeP p.key l < l.length:=by omega
  by_cases he : placeP p.key l = placeP p.key l + (if Bh p.key l then 1 else 0) + i
  · have ht : Bh p.key l = false:=by
      cases ht : Bh p.key l with
      | false => rfl
      | true => rw [ht] at he; simp at he; omega
    rw [Fo hpl rfl] at ht
    have h6 : l[placeP p.key l] = b:=by
     simp only [<- he] at h5
     exact h5
    rw [h6] at ht
    have h7:=Fs hpl
    rw [h6] at h7
    exact G3 (by simpa using ht) h7
  · have h6:=List.pairwise_iff_getElem.1 h _ _ hpl h4 (by omega)
    rw [h5] at h6
    have h7:=Fs hpl
    by_cases h8 : l[placeP p.key l].key = p.key
    · rw [h8] at h6; exact h6
    · exact BY (G3 h8 h7) h6
 unfold Aj Cn
 rw [List.pairwise_append]
 refine ⟨h.sublist (List.take_sublist _ _),List.pairwise_cons.2 ⟨h3,h.sublist (List.drop_sublist _ _)⟩,fun a ha b hb => ?_⟩
 obtain ⟨i,hi⟩:=List.mem_iff_getElem?.1 ha
 rw [List.getElem?_take] at hi
 split at hi
 · rename_i hl
   obtain ⟨h4,h5⟩:=List.getElem?_eq_some_iff.1 hi
   have hap:=Du h4 hl
   rw [h5] at hap
   rcases List.mem_cons.1 hb with rfl | hb
   · exact hap
   · exact BY hap (h3 b hb)
 · cases hi
end
section
open Go.RowKit
structure Ap where
 blk : Nat
 pr : Aa
 high : Nat
def Eq (N : List Ap) (i : Nat) : Nat:=(N[i]?.map Ap.high).getD 0
def nxL (j : Nat) : List Ap -> Option Nat
 | [] => none
 | x :: r => if j < x.high then some x.blk else nxL j r
theorem De (j : Nat) (x : Ap) (r : List Ap) : nxL j (x :: r) = if j < x.high then some x.blk else nxL j r:=rfl
def Cj (p : Nat) (N : List Ap) : Nat -> Nat
 | 0 => p
 | i + 1 => (N[i]?.map Ap.blk).getD 0
def Bz (j : Nat) (N : List Ap) : Nat -> Nat
 | 0 => 0
 | i + 1 => if j < Eq N i then i + 1 else Bz j N i
def onB (N : List Ap) (q j : Nat) : Prop:=q = 0 \/ j < Eq N (q - 1)
instance (N : List Ap) (q j : Nat) : Decidable (onB N q j):=by unfold onB; infer_instance
def Lu (N : List Ap) (q j : Nat) : Option Nat:=if onB N q j then nxL j (N.drop q) else none
theorem KU {N : List Ap} {i : Nat} (h : i < N.length) : Eq N i = N[i].high:=by simp [Eq,h]
theorem Ca {p : Nat} {N : List Ap} {i : Nat} (h : i < N.length) : Cj p N (i + 1) = N[i].blk:=by simp [Cj,h]
theorem Gj (j : Nat) (N : List Ap) : ∀ pl,Bz j N pl <= pl
 | 0 => Nat.le_refl _
 | i + 1 => by unfold Bz; split; exact Nat.le_refl _; exact Nat.le_succ_of_le (Gj j N i)
theorem J7 (j : Nat) (N : List Ap) : ∀ pl,onB N (Bz j N pl) j
 | 0 => .inl rfl
 | i + 1 => by unfold Bz; split; (rename_i h; exact .inr h); exact J7 j N i
theorem Iy (j : Nat) (N : List Ap) : ∀ pl k,Bz j N pl <= k -> k < pl -> Eq N k <= j
 | 0,k,_,h => absurd h (by omega)
 | i + 1,k,h1,h2 => by
   unfold Bz at h1
   split at h1
   · omega
   · rename_i h
     by_cases e : k = i
     · subst e; omega
     · exact Iy j N i k h1 (by omega)
theorem LX {j : Nat} {N : List Ap} : ∀ {pl q : Nat},q <= pl -> onB N q j -> (∀ k,q <= k -> k < pl -> Eq N k <= j) -> Bz j N pl = q
 | 0,q,h,_,_ => by simp [Bz]; omega
 | i + 1,q,h,ho,hg => by
   unfold Bz
   by_cases e : q = i + 1
   · subst e
     rcases ho with ho | ho
     · omega
     · exact if_pos ho
   · have:=hg i (by omega) (by omega)
     rw [if_neg (by omega)]
     exact LX (by omega) ho (fun k a b => hg k a (by omega))
theorem M9 {N : List Ap} {pl : Nat} (h : ∀ i,i < pl -> 1 <= Eq N i) : Bz 0 N pl = pl:=by
 cases pl with
 | zero => rfl
 | succ i => have:=h i (by omega); unfold Bz; rw [if_pos (by omega)]
theorem Tb (j : Nat) : ∀ (N : List Ap),(nxL j N = none /\ ∀ i,Eq N i <= j) \/ ∃ i,∃ h : i < N.length,nxL j N = some N[i].blk /\ j < N[i].high /\ ∀ k,k < i -> Eq N k <= j
 | [] => .inl ⟨rfl,fun i => by simp [Eq]⟩
 | x :: r => by
   by_cases hx : j < x.high
   · exact .inr ⟨0,by simp,by simp [nxL,hx],hx,fun k hk => absurd hk (by omega)⟩
   · rcases Tb j r with ⟨h1,h2⟩ | ⟨i,hi,h1,h2,h3⟩
     · refine .inl ⟨by simp [nxL,hx,h1],fun i => ?_⟩
       cases i with
       | zero => simp [Eq]; omega
       | succ i => exact h2 i
     · refine .inr ⟨i + 1,by simpa using hi,by simp [nxL,hx,h1],by simpa using h2,fun k hk => ?_⟩
       cases k with
       | zero => simp [Eq]; omega
       | succ k => exact h3 k (by omega)
theorem PI (N : List Ap) (q i : Nat) : Eq (N.drop q) i = Eq N (q + i):=by simp [Eq,List.getElem?_drop]
theorem ZL (j : Nat) (N : List Ap) (q : Nat) : (nxL j (N.drop q) = none /\ ∀ i,q <= i -> Eq N i <= j) \/ ∃ i,∃ h : i < N.length,q <= i /\ nxL j (N.drop q) = some N[i].blk /\ j < N[i].high /\ ∀ k,q <= k -> k < i -> Eq N k <= j:=by
 rcases Tb j (N.drop q) with ⟨h1,h2⟩ | ⟨i,hi,h1,h2,h3⟩
 · refine .inl ⟨h1,fun i hq => ?_⟩
   have:=h2 (i - q)
   rw [PI,show q + (i - q) = i by omega] at this
   exact this
 · have hl : q + i < N.length:=by simp at hi; omega
   refine .inr ⟨q + i,hl,by omega,by rw [h1]; simp,by simpa using h2,fun k a b => ?_⟩
   have:=h3 (k - q) (by omega)
   rw [PI,show q + (k - q) = k by omega] at this
   exact this
theorem UE {j : Nat} {N : List Ap} {q r : Nat} (hqr : q <= r) (h : ∀ k,q <= k -> k < r -> Eq N k <= j) : nxL j (N.drop q) = nxL j (N.drop r):=by
 obtain ⟨d,rfl⟩ : ∃ d,r = q + d:=⟨r - q,by omega⟩
 clear hqr
 induction d with
 | zero => rfl
 | succ d ih =>
   rw [ih (fun k a b => h k a (by omega))]
   by_cases hl : q + d < N.length
   · have:=h (q + d) (by omega) (by omega)
     rw [KU hl] at this
     rw [List.drop_eq_getElem_cons hl,De,if_neg (by omega)]; rfl
   · rw [List.drop_of_length_le (by omega),List.drop_of_length_le (by omega)]
theorem Ze {j : Nat} {N : List Ap} {q : Nat} (hl : q < N.length) (h : j < N[q].high) : nxL j (N.drop q) = some N[q].blk:=by
 rw [List.drop_eq_getElem_cons hl,De,if_pos h]
theorem WI {l : List Nat} (h : l.Nodup) {i j : Nat} (hi : i < l.length) (e : l[i]? = l[j]?) : i = j:=(List.getElem?_inj hi h).1 e
theorem He {p : Nat} {N : List Ap} (h : (p :: N.map Ap.blk).Nodup) {q r : Nat} (hq : q <= N.length) (hr : r <= N.length) (e : Cj p N q = Cj p N r) : q = r:=by
 have key : ∀ i,i <= N.length -> (p :: N.map Ap.blk)[i]? = some (Cj p N i):=fun i hi => by
  cases i with
  | zero => rfl
  | succ i => simp [Cj,show i < N.length by omega]
 have h1:=key q hq
 have h2:=key r hr
 rw [<- e] at h2
 exact WI h (by simp; omega) (h1.trans h2.symm)
theorem WE {p : Nat} {N : List Ap} {F : Nat -> Prop} (hp : F p) (hN : ∀ x ∈ N,F x.blk) {q : Nat} (hq : q <= N.length) : F (Cj p N q):=by
 cases q with
 | zero => exact hp
 | succ i => rw [Ca (show i < N.length by omega)]; exact hN _ (List.getElem_mem _)
def An (N : List Ap) (pl : Nat) (x : Ap) : List Ap:=N.take pl ++ x :: N.drop pl
theorem EK {N : List Ap} {pl : Nat} (h : pl <= N.length) (x : Ap) : (An N pl x).length = N.length + 1:=by simp [An]; omega
theorem C3 {N : List Ap} {pl : Nat} (h : pl <= N.length) (x : Ap) (i : Nat) : (An N pl x)[i]? = if i < pl then N[i]? else if i = pl then some x else N[i - 1]?:=by
 unfold An
 by_cases h1 : i < pl
 · rw [if_pos h1,List.getElem?_append_left (by simp; omega),List.getElem?_take_of_lt h1]
 · rw [if_neg h1,List.getElem?_append_right (by simp; omega)]
   have hl : (N.take pl).length = pl:=by simp; omega
   rw [hl]
   by_cases h2 : i = pl
   · subst h2; simp
   · rw [if_neg h2]
     obtain ⟨d,rfl⟩ : ∃ d,i = pl + d + 1:=⟨i - pl - 1,by omega⟩
     rw [show pl + d + 1 - pl = d + 1 by omega,List.getElem?_cons_succ,List.getElem?_drop,show pl + d + 1 - 1 = pl + d by omega]
theorem Xr {N : List Ap} {pl : Nat} (h : pl <= N.length) (x : Ap) (i : Nat) : Eq (An N pl x) i = if i < pl then Eq N i else if i = pl then x.high else Eq N (i - 1):=by
 unfold Eq
 rw [C3 h]
 split
 · rfl
 · split <;> rfl
theorem DO {N : List Ap} {pl : Nat} (h : pl <= N.length) (x : Ap) (q : Nat) (hq : pl < q) : (An N pl x).drop q = N.drop (q - 1):=by
 apply List.ext_getElem?
 intro i
 rw [List.getElem?_drop,List.getElem?_drop,C3 h,if_neg (by omega),if_neg (by omega)]
 congr 1
 omega
theorem KR {N : List Ap} {pl : Nat} (h : pl <= N.length) (x : Ap) : (An N pl x).drop pl = x :: N.drop pl:=by
 have hl : (N.take pl).length = pl:=by simp; omega
 unfold An
 rw [List.drop_append_of_le_length (by omega),List.drop_of_length_le (by omega)]
 rfl
theorem DS {N : List Ap} {pl : Nat} (h : pl <= N.length) {x : Ap} {j : Nat} (hx : x.high <= j) : ∀ (d q : Nat),q + d = pl -> nxL j ((An N pl x).drop q) = nxL j (N.drop q)
 | 0,q,e => by
   obtain rfl : q = pl:=by omega
   rw [KR h,De,if_neg (by omega)]
 | d + 1,q,e => by
   have hl : q < N.length:=by omega
   have h2 : (An N pl x)[q]? = some N[q]:=by rw [C3 h,if_pos (by omega)]; simp [hl]
   obtain ⟨h3,h4⟩:=List.getElem?_eq_some_iff.1 h2
   rw [List.drop_eq_getElem_cons h3,List.drop_eq_getElem_cons hl,h4,De,De,DS h hx d (q + 1) (by omega)]
theorem Gd {N : List Ap} {pl : Nat} (h : pl <= N.length) {x : Ap} {j : Nat} (hx : j < x.high) : ∀ (d q : Nat),q + d = pl -> (∀ k,q <= k -> k < pl -> Eq N k <= j) -> nxL j ((An N pl x).drop q) = some x.blk
 | 0,q,e,_ => by
   obtain rfl : q = pl:=by omega
   rw [KR h,De,if_pos hx]
 | d + 1,q,e,g => by
   have hl : q < N.length:=by omega
   have h2 : (An N pl x)[q]? = some N[q]:=by rw [C3 h,if_pos (by omega)]; simp [hl]
   obtain ⟨h3,h4⟩:=List.getElem?_eq_some_iff.1 h2
   have h5:=g q (by omega) (by omega)
   rw [KU hl] at h5
   rw [List.drop_eq_getElem_cons h3,h4,De,if_neg (by omega)]
   exact Gd h hx d (q + 1) (by omega) (fun k a b => g k (by omega) b)
theorem Gc {N : List Ap} {pl : Nat} (h : pl <= N.length) {x : Ap} {j k : Nat} (hk : k < pl) (hj : j < Eq N k) : ∀ (d q : Nat),q + d = k -> nxL j ((An N pl x).drop q) = nxL j (N.drop q)
 | 0,q,e => by
   obtain rfl : q = k:=by omega
   have hl : q < N.length:=by omega
   have h2 : (An N pl x)[q]? = some N[q]:=by rw [C3 h,if_pos (by omega)]; simp [hl]
   obtain ⟨h3,h4⟩:=List.getElem?_eq_some_iff.1 h2
   rw [KU hl] at hj
   rw [List.drop_eq_getElem_cons h3,List.drop_eq_getElem_cons hl,h4,De,De,if_pos hj,if_pos hj]
 | d + 1,q,e => by
   have hl : q < N.length:=by omega
   have h2 : (An N pl x)[q]? = some N[q]:=by rw [C3 h,if_pos (by omega)]; simp [hl]
   obtain ⟨h3,h4⟩:=List.getElem?_eq_some_iff.1 h2
   rw [List.drop_eq_getElem_cons h3,List.drop_eq_getElem_cons hl,h4,De,De,Gc h hk hj d (q + 1) (by omega)]
theorem K8 {N : List Ap} {pl : Nat} (h : pl <= N.length) (x : Ap) (q j : Nat) : onB (An N pl x) q j ↔ if q <= pl then onB N q j else if q = pl + 1 then j < x.high else onB N (q - 1) j:=by
 unfold onB
 cases q with
 | zero => simp
 | succ i =>
   rw [Nat.add_sub_cancel,Xr h]
   rcases Nat.lt_trichotomy i pl with h1 | h1 | h1
   · rw [if_pos h1,if_pos (show i + 1 <= pl by omega)]
   · rw [if_neg (show ¬ i < pl by omega),if_pos h1,if_neg (show ¬ i + 1 <= pl by omega),if_pos (show i + 1 = pl + 1 by omega)]
     simp
   · rw [if_neg (show ¬ i < pl by omega),if_neg (show ¬ i = pl by omega),if_neg (show ¬ i + 1 <= pl by omega),if_neg (show ¬ i + 1 = pl + 1 by omega)]
     constructor
     · rintro (a | a)
       · omega
       · exact .inr a
     · rintro (a | a)
       · omega
       · exact .inr a
theorem CQ {N : List Ap} {q j : Nat} (h : onB N q j) : Lu N q j = nxL j (N.drop q):=if_pos h
theorem DJ {N : List Ap} {q j : Nat} (h : ¬ onB N q j) : Lu N q j = none:=if_neg h
theorem Zg {N : List Ap} {pl : Nat} (h : pl <= N.length) {x : Ap} (hx : x.high = 0) (q j : Nat) : Lu (An N pl x) q j = if q <= pl then Lu N q j else if q = pl + 1 then none else Lu N (q - 1) j:=by
 have ho:=K8 h x q j
 by_cases h1 : q <= pl
 · rw [if_pos h1] at ho ⊢
   have e : nxL j ((An N pl x).drop q) = nxL j (N.drop q):=DS h (by omega) (pl - q) q (by omega)
   by_cases h2 : onB N q j
   · rw [CQ (ho.2 h2),CQ h2,e]
   · rw [DJ (fun c => h2 (ho.1 c)),DJ h2]
 · rw [if_neg h1] at ho ⊢
   by_cases h2 : q = pl + 1
   · rw [if_pos h2] at ho ⊢
     exact DJ (fun c => by have:=ho.1 c; omega)
   · rw [if_neg h2] at ho ⊢
     by_cases h3 : onB N (q - 1) j
     · rw [CQ (ho.2 h3),CQ h3,DO h x q (by omega)]
     · rw [DJ (fun c => h3 (ho.1 c)),DJ h3]
theorem Abs {N : List Ap} {pl : Nat} (h : pl <= N.length) {x y : Ap} (hb : y.blk = x.blk) {lv : Nat} (hx : x.high = lv) (hy : y.high = lv + 1) (q j : Nat) :
 Lu (An N pl y) q j = if q = Bz lv N pl /\ j = lv then some x.blk else if q = pl + 1 /\ j = lv then nxL lv (N.drop pl) else Lu (An N pl x) q j:=by
 have hq0:=Gj lv N pl
 have ox:=K8 h x q j
 have oy:=K8 h y q j
 by_cases h1 : q <= pl
 · rw [if_pos h1] at ox oy
   rw [if_neg (show ¬ (q = pl + 1 /\ j = lv) by omega)]
   by_cases h2 : onB N q j
   · rw [CQ (oy.2 h2),CQ (ox.2 h2)]
     by_cases hj : j = lv
     · subst hj
       by_cases e : q = Bz j N pl
       · rw [if_pos ⟨e,rfl⟩,Gd h (by omega) (pl - q) q (by omega) (fun k a b => Iy j N pl k (by omega) b),hb]
       · rw [if_neg (fun c => e c.1)]
         have hlt : q < Bz j N pl:=by
          rcases Nat.lt_or_ge q (Bz j N pl) with c | c
          · exact c
          · exfalso
            apply e
            refine (LX h1 h2 (fun k a b => Iy j N pl k (by omega) b)).symm
         rcases J7 j N pl with c | c
         · omega
         · rw [Gc h (k:=Bz j N pl - 1) (by omega) c (Bz j N pl - 1 - q) q (by omega),DS h (by omega) (pl - q) q (by omega)]
     · rw [if_neg (fun c => hj c.2)]
       by_cases h3 : j < lv
       · rcases Classical.em (∀ k,q <= k -> k < pl -> Eq N k <= j) with g | g
         · rw [Gd h (by omega) (pl - q) q (by omega) g,Gd h (by omega) (pl - q) q (by omega) g,hb]
         · obtain ⟨k,a,b,c⟩ : ∃ k,q <= k /\ k < pl /\ j < Eq N k:=by
             apply Classical.byContradiction
             intro n
             exact g (fun k a b => Nat.le_of_not_lt (fun c => n ⟨k,a,b,c⟩))
           rw [Gc h b c (k - q) q (by omega),Gc h b c (k - q) q (by omega)]
       · rw [DS h (by omega) (pl - q) q (by omega),DS h (by omega) (pl - q) q (by omega)]
   · rw [DJ (fun c => h2 (oy.1 c)),DJ (fun c => h2 (ox.1 c)),if_neg]
     rintro ⟨rfl,rfl⟩
     exact h2 (J7 j N pl)
 · rw [if_neg h1] at ox oy
   rw [if_neg (show ¬ (q = Bz lv N pl /\ j = lv) by omega)]
   by_cases h2 : q = pl + 1
   · rw [if_pos h2] at ox oy
     by_cases hj : j = lv
     · rw [if_pos ⟨h2,hj⟩,CQ (oy.2 (by omega)),DO h y q (by omega),h2,hj,Nat.add_sub_cancel]
     · rw [if_neg (show ¬ (q = pl + 1 /\ j = lv) from fun c => hj c.2)]
       by_cases h3 : j < lv
       · rw [CQ (oy.2 (by omega)),CQ (ox.2 (by omega)),DO h y q (by omega),DO h x q (by omega)]
       · rw [DJ (fun c => by have:=oy.1 c; omega),DJ (fun c => by have:=ox.1 c; omega)]
   · rw [if_neg h2] at ox oy
     rw [if_neg (show ¬ (q = pl + 1 /\ j = lv) from fun c => h2 c.1)]
     by_cases h3 : onB N (q - 1) j
     · rw [CQ (oy.2 h3),CQ (ox.2 h3),DO h y q (by omega),DO h x q (by omega)]
     · rw [DJ (fun c => h3 (oy.1 c)),DJ (fun c => h3 (ox.1 c))]
end
section
open Go.RowKit Go.Shelf
theorem Tj {w : World} {base base' : Nat} {e : TypeId} {size : Nat} {v : Value} {n : Nat} {xs : List Value} (h : w.ownsRow base e size v n xs) (hb : base' <= base) : w.ownsRow base' e size v n xs:=by
 obtain ⟨h1,h2⟩:=h
 refine ⟨h1,?_⟩
 rcases h2 with h2 | ⟨g,cap,cur,a,b,c⟩
 · exact .inl h2
 · exact .inr ⟨g,cap,cur,a,Nat.le_trans hb b,c⟩
def AN (W : World) (b : Nat) (x : Aa) : Prop:=W.heap[b]? = some (.cells #[.string x.key,.string x.val,.bool x.gone] 61 (0,0))
theorem AN.new (W : World) (x : Aa) : AN (W.alloc (.cells #[.string x.key,.string x.val,.bool x.gone] 61)) W.heap.size x:=World.alloc_heap_new W _
theorem AN.c0 {W : World} {b : Nat} {x : Aa} (h : AN W b x) : W.cell? ⟨b,0,none⟩ = some (.string x.key):=by rw [World.cell?,show W.heap[b]? = _ from h]; rfl
theorem AN.c1 {W : World} {b : Nat} {x : Aa} (h : AN W b x) : W.cell? ⟨b,1,none⟩ = some (.string x.val):=by rw [World.cell?,show W.heap[b]? = _ from h]; rfl
theorem AN.c2 {W : World} {b : Nat} {x : Aa} (h : AN W b x) : W.cell? ⟨b,2,none⟩ = some (.bool x.gone):=by rw [World.cell?,show W.heap[b]? = _ from h]; rfl
end
section
open Go.RowKit Go.Maps Go.WideMaps
def EH (x : Aa) (l : List Aa) : List Aa:=if Av x = 0 then Cn x l else l
theorem MM (k : ByteArray) : AR k ⟨#[]⟩ = false:=by
 cases h : AR k ⟨#[]⟩ with
 | false => rfl
 | true =>
   have:=(DR _ _).1 h
   exact absurd this (by simp)
theorem Jl (l : List Aa) : AF ⟨#[]⟩ l = l:=by
 have e : placeP ⟨#[]⟩ l = 0:=by
  cases l with
  | nil => rfl
  | cons y r => rw [IS,MM]; rfl
 unfold AF
 rw [e]; rfl
def Aby (ps : List Aa) : List Aa:=ps.foldl (fun l x => EH x l) []
theorem Wf (x : Aa) (l : List Aa) : (EH x l).length <= l.length + 1:=by
 unfold EH
 split
 · exact ZE x l
 · omega
theorem Uf (x : Aa) (l : List Aa) : At (EH x l) <= At l + (x.key.size + x.val.size):=by
 unfold EH
 split
 · unfold Cn
   rw [CP,CF]
   have h1 : At (l.take (placeP x.key l)) + At (l.drop (placeP x.key l)) = At l:=by rw [<- CP,List.take_append_drop]
   have h2 : At (l.drop (placeP x.key l + if Bh x.key l then 1 else 0)) <= At (l.drop (placeP x.key l)):=by
    rw [<- List.drop_drop]
    exact Uc _ _
   omega
 · omega
theorem Iu {x : Aa} {l : List Aa} (h : Aj l) : Aj (EH x l):=by
 unfold EH
 split
 · exact Cz h
 · exact h
def Az (l : List Aa) : Prop:=∀ x ∈ l,Av x = 0
theorem Az.size {l : List Aa} (h : Az l) : At l <= 8256 * l.length:=by
 induction l with
 | nil => simp [At]
 | cons x r ih =>
   have h1:=ih (fun y hy => h y (List.mem_cons_of_mem _ hy))
   have h2:=h x (List.mem_cons_self ..)
   have h3 : ¬ (64 < x.key.size \/ 8192 < x.val.size):=fun h3 => by
    unfold Av at h2
    split at h2
    · cases h2
    · first | (rw [if_pos h3] at h2; cases h2) | exact absurd h2 (by decide)
   rw [CF,List.length_cons]
   omega
theorem Vi {x : Aa} {l : List Aa} (h : Az l) : Az (EH x l):=by
 unfold EH
 split
 · rename_i hx
   intro y hy
   unfold Cn at hy
   rcases List.mem_append.1 hy with hy | hy
   · exact h y (List.mem_of_mem_take hy)
   · rcases List.mem_cons.1 hy with rfl | hy
     · exact hx
     · exact h y (List.mem_of_mem_drop hy)
 · exact h
theorem puts_fine : ∀ (ps l : List Aa),Az l -> Az (ps.foldl (fun l x => EH x l) l)
 | [],_,h => h
 | x :: r,l,h => puts_fine r (EH x l) (Vi h)
end
section
open Go.RowKit
theorem Ln {l : List Aa} (h : Aj l) {i : Nat} (hi : i < l.length) : placeP l[i].key l = i:=
 LS (Nat.le_of_lt hi) (fun j hj hji => List.pairwise_iff_getElem.1 h j i hj hi hji) (fun _ => Br _)
theorem VV {l : List Aa} (h : Aj l) {i : Nat} (hi : i < l.length) : CG l[i].key l = some l[i]:=by
 unfold CG
 rw [Fo hi (Ln h hi),Ln h hi]
 simp [hi]
theorem BO {l : List Aa} (h : Aj l) (k : ByteArray) (y : Aa) : CG k l = some y ↔ y ∈ l /\ y.key = k:=by
 constructor
 · intro hg
   unfold CG at hg
   split at hg
   · rename_i ht
     obtain ⟨hl,hk⟩:=E0 ht
     rw [List.getElem?_eq_getElem hl] at hg
     injection hg with hg
     subst hg
     exact ⟨List.getElem_mem hl,hk⟩
   · cases hg
 · rintro ⟨hm,rfl⟩
   obtain ⟨i,hi,rfl⟩:=List.mem_iff_getElem.1 hm
   exact VV h hi
theorem NS {l : List Aa} (h : Aj l) {x y : Aa} (hx : x ∈ l) (hy : y ∈ l) (e : x.key = y.key) : x = y:=by
 have h1:=(BO h x.key x).2 ⟨hx,rfl⟩
 rw [e,(BO h y.key y).2 ⟨hy,rfl⟩] at h1
 injection h1 with h1
 exact h1.symm
theorem BM {l : List Aa} (h : Aj l) (x y : Aa) : y ∈ Cn x l ↔ y = x \/ (y ∈ l /\ y.key ≠ x.key):=by
 have hx : x ∈ Cn x l:=by unfold Cn; exact List.mem_append_right _ (List.mem_cons_self ..)
 constructor
 · intro hy
   by_cases e : y.key = x.key
   · exact .inl (NS (Cz h) hy hx e)
   · rcases Ss hy with rfl | hm
     · exact .inl rfl
     · exact .inr ⟨hm,e⟩
 · rintro (rfl | ⟨hm,e⟩)
   · exact hx
   · obtain ⟨i,hi,rfl⟩:=List.mem_iff_getElem.1 hm
     unfold Cn
     by_cases hlt : i < placeP x.key l
     · refine List.mem_append_left _ (List.mem_iff_getElem.2 ⟨i,by rw [List.length_take]; omega,?_⟩)
       rw [List.getElem_take]
     · refine List.mem_append_right _ (List.mem_cons_of_mem _ ?_)
       have hd : placeP x.key l + (if Bh x.key l then 1 else 0) <= i:=by
        split
        · rename_i ht
          obtain ⟨hl,hk⟩:=E0 ht
          have : i ≠ placeP x.key l:=fun c => e (by subst c; exact hk)
          omega
        · omega
       refine List.mem_iff_getElem.2 ⟨i - (placeP x.key l + (if Bh x.key l then 1 else 0)),by rw [List.length_drop]; omega,?_⟩
       rw [List.getElem_drop]
       congr 1
       omega
theorem Xt {l : List Aa} (h : Aj l) (x : Aa) (k : ByteArray) : CG k (Cn x l) = if k = x.key then some x else CG k l:=by
 have hr:=Cz (p:=x) h
 split
 · rename_i e
   exact (BO hr k x).2 ⟨(BM h x x).2 (.inl rfl),e.symm⟩
 · rename_i e
   cases hg : CG k l with
   | some y =>
     obtain ⟨h1,h2⟩:=(BO h k y).1 hg
     exact (BO hr k y).2 ⟨(BM h x y).2 (.inr ⟨h1,fun c => e (by rw [<- h2,c])⟩),h2⟩
   | none =>
     cases hp : CG k (Cn x l) with
     | none => rfl
     | some y =>
       obtain ⟨h1,h2⟩:=(BO hr k y).1 hp
       rcases (BM h x y).1 h1 with rfl | ⟨h3,h4⟩
       · exact absurd h2.symm e
       · rw [(BO h k y).2 ⟨h3,h2⟩] at hg; cases hg
theorem Sb (x : Aa) (l : List Aa) : (Cn x l).length = if (CG x.key l).isSome then l.length else l.length + 1:=by
 have hle:=C9 x.key l
 unfold Cn CG
 by_cases ht : Bh x.key l = true
 · obtain ⟨hl,_⟩:=E0 ht
   rw [if_pos ht,if_pos ht,List.getElem?_eq_getElem hl]
   simp
   omega
 · rw [if_neg ht,if_neg ht]
   simp
   omega
theorem rising_ext : ∀ {a b : List Aa},Aj a -> Aj b -> (∀ x,x ∈ a ↔ x ∈ b) -> a = b
 | [],[],_,_,_ => rfl
 | [],y :: s,_,_,h => absurd ((h y).2 (List.mem_cons_self ..)) (by simp)
 | x :: r,[],_,_,h => absurd ((h x).1 (List.mem_cons_self ..)) (by simp)
 | x :: r,y :: s,ha,hb,h => by
   obtain ⟨a1,a2⟩:=List.pairwise_cons.1 ha
   obtain ⟨b1,b2⟩:=List.pairwise_cons.1 hb
   have e : x = y:=by
    rcases List.mem_cons.1 ((h x).1 (List.mem_cons_self ..)) with e | hx
    · exact e
    · rcases List.mem_cons.1 ((h y).2 (List.mem_cons_self ..)) with e | hy
      · exact e.symm
      · have h1:=b1 x hx
        have h2:=a1 y hy
        rw [Kk h1] at h2
        cases h2
   subst e
   rw [rising_ext a2 b2 (fun z => ?_)]
   have nr : ∀ {l : List Aa},(∀ z ∈ l,AR x.key z.key = true) -> x ∉ l:=fun hl hx => by have:=hl x hx; rw [Br] at this; cases this
   constructor
   · intro hz
     rcases List.mem_cons.1 ((h z).1 (List.mem_cons_of_mem _ hz)) with rfl | hz'
     · exact absurd hz (nr a1)
     · exact hz'
   · intro hz
     rcases List.mem_cons.1 ((h z).2 (List.mem_cons_of_mem _ hz)) with rfl | hz'
     · exact absurd hz (nr b1)
     · exact hz'
end
section
def Jo (x : Aa) (m : List Aa) : List Aa:=m.take (placeP x.key m) ++ (if x.gone then [] else [x]) ++ m.drop (placeP x.key m + if Bh x.key m then 1 else 0)
def AS (m l : List Aa) : List Aa:=l.foldl (fun m x => Jo x m) m
theorem UI (m : List Aa) : AS m [] = m:=rfl
theorem To {m l : List Aa} {i : Nat} (h : i < l.length) : AS m (l.take (i + 1)) = Jo l[i] (AS m (l.take i)):=by
 unfold AS
 rw [List.take_succ_eq_append_getElem h,List.foldl_append]
 rfl
theorem QZ {x : Aa} (h : x.gone = false) (m : List Aa) : Jo x m = Cn x m:=by
 unfold Jo Cn
 rw [h]
 simp
theorem Y2 (x : Aa) (m : List Aa) : (Jo x m).length <= m.length + 1:=by
 unfold Jo
 have:=C9 x.key m
 simp only [List.length_append,List.length_take,List.length_drop]
 have h1 : (if x.gone then [] else [x] : List Aa).length <= 1:=by split <;> simp
 generalize (if x.gone then [] else [x] : List Aa).length = a at *
 generalize (if Bh x.key m = true then 1 else 0) = b
 omega
theorem writeP_len : ∀ (l m : List Aa),(AS m l).length <= m.length + l.length
 | [],m => by simp [AS]
 | x :: r,m => by
   have h1:=writeP_len r (Jo x m)
   have h2:=Y2 x m
   show (AS (Jo x m) r).length <= _
   rw [List.length_cons]
   omega
theorem KN {x : Aa} {m : List Aa} (h : Aj m) (y : Aa) : y ∈ Jo x m ↔ (x.gone = false /\ y = x) \/ (y ∈ m /\ y.key ≠ x.key):=by
 cases hg : x.gone with
 | false =>
   rw [QZ hg,BM h]
   simp
 | true =>
   unfold Jo
   rw [hg]
   simp only [↓reduceIte,List.append_nil,Bool.true_eq_false,false_and,false_or]
   constructor
   · intro hy
     rcases List.mem_append.1 hy with hy | hy
     · obtain ⟨i,hi,e⟩:=List.mem_iff_getElem.1 hy
       rw [List.length_take] at hi
       rw [List.getElem_take] at e
       refine ⟨List.mem_of_mem_take hy,fun e2 => ?_⟩
       have:=Du (k:=x.key) (l:=m) (j:=i) (by omega) (by omega)
       rw [e,e2,Br] at this
       cases this
     · obtain ⟨i,hi,e⟩:=List.mem_iff_getElem.1 hy
       rw [List.length_drop] at hi
       rw [List.getElem_drop] at e
       refine ⟨List.mem_of_mem_drop hy,fun e2 => ?_⟩
       have hlt : placeP x.key m < m.length:=by split at hi <;> omega
       by_cases ht : Bh x.key m = true
       · obtain ⟨_,hk⟩:=E0 ht
         have hlt2:=hi
         rw [if_pos ht] at hi
         have h2:=List.pairwise_iff_getElem.1 h (placeP x.key m) (placeP x.key m + 1 + i) hlt (by omega) (by omega)
         simp only [ht,↓reduceIte] at e
         rw [hk,e,e2,Br] at h2
         cases h2
       · have hn : Bh x.key m = false:=by simpa using ht
         simp only [hn,Bool.false_eq_true,↓reduceIte,Nat.add_zero] at e
         rw [Fo hlt rfl] at hn
         have hne : m[placeP x.key m].key ≠ x.key:=by simpa using hn
         have hat:=Fs (k:=x.key) (l:=m) hlt
         have hb : AR x.key m[placeP x.key m].key = true:=G3 hne hat
         by_cases hi0 : i = 0
         · subst hi0
           exact hne (by simp only [Nat.add_zero] at e; rw [e]; exact e2)
         · have h2:=List.pairwise_iff_getElem.1 h (placeP x.key m) (placeP x.key m + i) hlt (by rw [if_neg ht] at hi; omega) (by omega)
           rw [e] at h2
           have:=BY hb h2
           rw [e2,Br] at this
           cases this
   · rintro ⟨hy,hne⟩
     have hk:=(BM h x y).2 (.inr ⟨hy,hne⟩)
     unfold Cn at hk
     rcases List.mem_append.1 hk with hk | hk
     · exact List.mem_append.2 (.inl hk)
     · rcases List.mem_cons.1 hk with rfl | hk
       · exact absurd rfl hne
       · exact List.mem_append.2 (.inr hk)
theorem GE {x : Aa} {m : List Aa} (h : Aj m) : Aj (Jo x m):=by
 cases hg : x.gone with
 | false => rw [QZ hg]; exact Cz h
 | true =>
   have h2 : Aj (Cn x m):=Cz h
   unfold Jo
   rw [hg]
   simp only [↓reduceIte,List.append_nil]
   unfold Cn at h2
   refine List.Pairwise.sublist (List.Sublist.append (List.Sublist.refl _) ?_) h2
   exact List.sublist_cons_self _ _
def YD (m : List Aa) : Prop:=∀ x ∈ m,Av x = 0 /\ x.gone = false
def G4 (k : ByteArray) (m : List Aa) : ByteArray × Bool:=match CG k m with | some x => (x.val,true) | none => (⟨#[]⟩,false)
def inM (fr tu : ByteArray) (x : Aa) : Bool:=!AR x.key fr && (decide (tu.size = 0) || AR x.key tu)
def AZ (m : List Aa) (fr tu : ByteArray) (most : Int) : List Aa:=(m.filter (inM fr tu)).take most.toNat
def A4 (l : List Aa) : Nat:=if l.length = 0 then 1 else if 64 < l.length then 2 else match l.find? (fun x => Av x != 0) with | some x => Av x | none => 0
theorem GH {l : List Aa} (h : A4 l = 0) : l ≠ [] /\ l.length <= 64 /\ Az l:=by
 unfold A4 at h
 by_cases h0 : l.length = 0
 · rw [if_pos h0] at h; cases h
 rw [if_neg h0] at h
 by_cases h1 : 64 < l.length
 · rw [if_pos h1] at h; cases h
 rw [if_neg h1] at h
 refine ⟨fun e => h0 (by rw [e]; rfl),by omega,fun x hx => ?_⟩
 cases hf : l.find? (fun x => Av x != 0) with
 | none =>
   have:=List.find?_eq_none.1 hf x hx
   simpa using this
 | some y =>
   rw [hf] at h
   have:=List.find?_some hf
   simp only [bne_iff_ne,ne_eq] at this
   exact absurd h this
theorem Mz {k : ByteArray} : k.toList = [] ↔ k.size = 0:=by
 rw [ByteArray.toList_eq]
 constructor
 · intro h
   have : k.data.toList.length = 0:=by rw [h]; rfl
   simpa using this
 · intro h
   refine List.eq_nil_of_length_eq_zero ?_
   simpa using h
theorem Ij {k : ByteArray} (h : k.size = 0) : k.toList.isEmpty = true:=by rw [Mz.2 h]; rfl
theorem DV {k : ByteArray} (h : ¬ k.size = 0) : k.toList.isEmpty = false:=by
 have : ¬ k.toList = []:=fun e => h (Mz.1 e)
 simpa using this
end
end Go.Proofs.YtlkefgngefpkiaaGreatDoor
