/- Parts of the proof. -/
import Derived.Test.YtlkefgngefpkiaaGreatDoorQ31
import Derived.Test.YtlkefgngefpkiaaGreatDoorQ18
import Derived.Test.YtlkefgngefpkiaaGreatDoorQ29
namespace Go.Proofs.YtlkefgngefpkiaaGreatDoor
set_option linter.unusedVariables false
section
open Go.RowKit Go.Maps Go.Sort
def QV : Key:=[116,97,98,108,101]
def Aq (n : Nat) : Key:=QV ++ Lib.decDigits n
theorem Gw (u : Nat) : Lib.decDigits u = if u < 10 then [UInt8.ofNat (48 + u)] else Lib.decDigits (u / 10) ++ [UInt8.ofNat (48 + u % 10)]:=by
 by_cases h : u < 10
 · rw [if_pos h,Lib.decDigits_one h]
 · rw [if_neg h,Lib.decDigits,dif_neg h]
theorem Mj (n : Nat) : IV (Lib.decDigits n) = n:=by
 induction n using Nat.strongRecOn with
 | ind n ih =>
   rw [Gw]
   by_cases h : n < 10
   · rw [if_pos h]
     have : IV [UInt8.ofNat (48 + n)] = IV ([] ++ [UInt8.ofNat (48 + n % 10)]):=by rw [Nat.mod_eq_of_lt h]; rfl
     rw [this,Ht,Qx]
     show 10 * 0 + _ = _
     omega
   · rw [if_neg h,Ht,Qx,ih (n / 10) (by omega)]
     omega
theorem FG {a b : Nat} (h : Aq a = Aq b) : a = b:=by
 have:=List.append_cancel_left h
 rw [<- Mj a,this,Mj b]
theorem KJ (n : Nat) : AB LOG (Aq n) = 0:=by
 unfold AB
 rw [if_neg]
 rintro ⟨h,_⟩
 unfold Lib.hasPrefix Aq QV LOG at h
 simp at h
theorem Nm (n : Nat) : zK (Aq n) = false:=rfl
theorem MS (n : Nat) : zK (Af LOG n) = false:=rfl
theorem KC {n : Nat} (h : n <= limC) : (Aq n).length <= 12:=by
 unfold Aq QV
 rw [List.length_append,Lib.decDigits_length]
 have:=nDigits_le 7 n (by omega) (by unfold limC at h; omega)
 simp only [List.length_cons,List.length_nil]
 omega
theorem AbA {n : Nat} (h : n <= limC) : Cs (Aq n) = true:=by
 have:=KC h
 unfold Cs
 refine decide_eq_true ⟨?_,by omega⟩
 unfold Aq QV
 simp only [List.length_append,List.length_cons]
 omega
theorem Ka {n m : Nat} (h1 : 1 <= m) (h : m <= limC) : Af LOG m ≠ Aq n:=fun e => Gk h1 h (by rw [e]; exact KJ n)
structure FP (l : List Aa) : Prop where
 ne : l ≠ []
 rising : Aj l
 fine : Az l
 few : l.length <= 65536
def Gb (n : Nat) (l : List Aa) : List UInt8:=As n ++ (As (CJ l).size ++ (CJ l).data.toList)
def IB (n : Nat) (l : List Aa) : List UInt8:=if l = [] then [] else Gb n l
theorem Lf {l : List Aa} (h : FP l) (n : Nat) : IB n l = Gb n l:=if_neg h.ne
theorem LK {l : List Aa} (h : FP l) : Eu l = 0 /\ EP (CJ l).data.toList l:=by
 have hf:=NZ h.fine h.few
 have h0 : Eu l = 0:=by rw [U9 h.ne h.rising h.fine,if_neg (by omega)]
 exact ⟨h0,OZ h0⟩
theorem Oe {l : List Aa} (h : FP l) : (CJ l).size <= 580000000:=by
 obtain ⟨h0,flt,hok,e⟩:=LK h
 have h1:=JX h.fine (Am l.length)
 have h2 : Am l.length <= 8192:=by have:=h.few; unfold Am; omega
 have hS : CJ l = ⟨(Yj l (BR l)).toArray⟩:=by unfold CJ; rw [if_pos h0]
 rw [hS,A0]
 have h4:=Fj (l:=Di l (BR l)) (NZ h.fine h.few)
 have h5:=NZ h.fine h.few
 unfold Yj
 rw [List.length_append]
 omega
theorem Wd {n : Nat} {l : List Aa} (h : FP l) (hn : n <= limC) : (Gb n l).length <= 580000100:=by
 have h1:=Oe h
 have e1:=Au (AJ (n:=n) (by unfold limC at hn; omega))
 have e2:=Au (AJ (n:=(CJ l).size) (by omega))
 unfold Gb
 simp only [List.length_append,Array.length_toList]
 have : (CJ l).data.size = (CJ l).size:=rfl
 omega
theorem VF (n : Nat) (l : List Aa) : 0 < (Gb n l).length:=by
 have:=ET n
 unfold Gb
 rw [List.length_append]; omega
structure AO where
 newest : Nat
 runs : List (List Aa)
 mem : List Aa
 last : Nat
 logged : Nat
def AO.core (st : AO) : RS9:=⟨st.newest,st.runs.length,st.mem,st.last,st.logged⟩
def AO.map (st : AO) : List Aa:=CK st.mem st.runs
structure Dj (l : List (Key × Ae)) (newest : Nat) (runs : List (List Aa)) (P : Nat -> List UInt8 -> Prop) : Prop where
 tabs : ∀ i (h : i < runs.length),Ak (Aq (newest - i)) l = some (FV (Gb (newest - i) runs[i]))
 left : ∀ x ∈ l,zK x.1 = true \/ AB LOG x.1 ≠ 0 \/ ∃ n,1 <= n /\ n <= limC /\ x.1 = Aq n /\ ((n <= newest /\ newest < n + runs.length) \/ P n x.2.bytes)
def IF (st : AO) (n : Nat) (b : List UInt8) : Prop:=
 (n <= st.newest /\ (∃ l,FP l /\ b = Gb n l) /\ st.runs.length = 1 /\ st.newest < n + 4) \/
 (n = st.newest + 1 /\ b ≠ [] /\ (b <+: IB n (AI st.mem st.runs).1 \/ b <+: IB n (A9 st.runs)))
structure Bd (l : List (Key × Ae)) (st : AO) (A : List Bv) (P : Nat -> List UInt8 -> Prop) : Prop where
 rising : AA l
 firm : Dp l
 segs : EY l A
 chain : Da (Bl A)
 play : Cc (Bl A) = st.core
 tabs : Dj l st.newest st.runs P
structure AW (st : AO) : Prop where
 rising : Aj st.mem
 fine : Az st.mem
 runs : ∀ r ∈ st.runs,FP r
 few : st.runs.length <= 3
 newest : st.runs.length <= st.newest
theorem AW.good {st : AO} (h : AW st) : BP (st.mem :: st.runs):=BP.mk h.rising h.fine fun l hl => ⟨(h.runs l hl).rising,(h.runs l hl).fine⟩
theorem AW.goodR {st : AO} (h : AW st) : BP st.runs:=h.good.cons.2
structure Gq (st : AO) (n : Nat) : Prop where
 sum : Bo (st.mem :: st.runs) <= 64 * n
 newest : st.newest <= n
 last : st.last <= 2 * n
 logged : st.logged <= 2097152 * n
theorem Dj.mono {l : List (Key × Ae)} {newest : Nat} {runs : List (List Aa)} {P Q : Nat -> List UInt8 -> Prop} (h : Dj l newest runs P) (hp : ∀ n b,P n b -> Q n b) : Dj l newest runs Q:=
 ⟨h.tabs,fun x hx => by
   rcases h.left x hx with h1 | h1 | ⟨n,h1,h2,h3,h4⟩
   · exact .inl h1
   · exact .inr (.inl h1)
   · refine .inr (.inr ⟨n,h1,h2,h3,?_⟩)
     rcases h4 with h4 | h4
     · exact .inl h4
     · exact .inr (hp _ _ h4)⟩
theorem Abc {l : List (Key × Ae)} (h : Dp l) : BG LOG (ne9 l) = BG LOG l:=by
 unfold BG ne9
 rw [List.filter_filter]
 refine List.filter_congr fun x hx => ?_
 by_cases e : AB LOG x.1 = 0
 · simp [e]
 · have hz : zK x.1 = false:=by
     cases hk : zK x.1 with
     | false => rfl
     | true =>
       exfalso
       apply e
       obtain ⟨xk,xf⟩:=x
       simp only at hk
       cases xk with
       | nil => rfl
       | cons c r =>
         unfold zK at hk
         have hc : c = 122:=of_decide_eq_true hk
         subst hc
         unfold AB
         rw [if_neg]
         rintro ⟨h,_⟩
         unfold Lib.hasPrefix LOG at h
         simp at h
   have hp:=(h x hx).pos hz
   simp [NQ,hp]
theorem Bd.ne {l : List (Key × Ae)} {st : AO} {A : List Bv} {P : Nat -> List UInt8 -> Prop} (h : Bd l st A P) : Bd (ne9 l) st A P:=by
 refine ⟨Gz h.rising,Aa6 h.firm,h.segs.same (Abc h.firm),h.chain,h.play,⟨fun i hi => ?_,fun x hx => h.tabs.left x (List.mem_filter.1 hx).1⟩⟩
 have h1:=h.tabs.tabs i hi
 exact Hd (p:=NQ) (decide_eq_true (VF _ _)) h1
theorem Bd.mono {l : List (Key × Ae)} {st : AO} {A : List Bv} {P Q : Nat -> List UInt8 -> Prop} (h : Bd l st A P) (hp : ∀ n b,P n b -> Q n b) : Bd l st A Q:=⟨h.rising,h.firm,h.segs,h.chain,h.play,h.tabs.mono hp⟩
theorem Dj.seg {l : List (Key × Ae)} {newest : Nat} {runs : List (List Aa)} {P : Nat -> List UInt8 -> Prop} (h : Dj l newest runs P) {c : Nat} (h1 : 1 <= c) (h2 : c <= limC) (d : List UInt8) : Dj (Cq (Af LOG c) d l) newest runs P:=by
 refine ⟨fun i hi => ?_,fun x hx => ?_⟩
 · rw [NO (Ka h1 h2)]
   exact h.tabs i hi
 · rcases SJ hx with hx | ⟨e,_⟩
   · exact h.left x hx
   · exact .inr (.inl (by rw [e]; exact Gk h1 h2))
theorem Dj.dropSeg {l : List (Key × Ae)} {newest : Nat} {runs : List (List Aa)} {P : Nat -> List UInt8 -> Prop} (h : Dj l newest runs P) {c : Nat} (h1 : 1 <= c) (h2 : c <= limC) : Dj (BH (Af LOG c) l) newest runs P:=by
 refine ⟨fun i hi => ?_,fun x hx => h.left x (Hx hx).1⟩
 rw [JR,if_neg (Ka h1 h2)]
 exact h.tabs i hi
theorem Dj.dropTab {l : List (Key × Ae)} {newest : Nat} {runs : List (List Aa)} {P : Nat -> List UInt8 -> Prop} (h : Dj l newest runs P) {n : Nat} (h1 : 1 <= n) (hn : runs.length <= newest) (hno : ¬ (n <= newest /\ newest < n + runs.length)) : Dj (BH (Aq n) l) newest runs (fun k b => P k b /\ k ≠ n):=by
 refine ⟨fun i hi => ?_,fun x hx => ?_⟩
 · rw [JR,if_neg (fun e => by have:=FG e; omega)]
   exact h.tabs i hi
 · obtain ⟨hx1,hx2⟩:=Hx hx
   rcases h.left x hx1 with h1 | h1 | ⟨k,h1,h2,h3,h4⟩
   · exact .inl h1
   · exact .inr (.inl h1)
   · refine .inr (.inr ⟨k,h1,h2,h3,?_⟩)
     rcases h4 with h4 | h4
     · exact .inl h4
     · exact .inr ⟨h4,fun e => hx2 (by rw [h3,e])⟩
theorem Dj.addTab {l : List (Key × Ae)} {newest : Nat} {runs : List (List Aa)} (h : Dj l newest runs (fun _ _ => False)) (hr : AA l) (hle : runs.length <= newest) (hl : newest + 1 <= limC) (d : List UInt8) :
 Ak (Aq (newest + 1)) l = none /\ Dj (Cq (Aq (newest + 1)) d l) newest runs (fun k b => k = newest + 1 /\ b = d /\ d ≠ []) /\ BG LOG (Cq (Aq (newest + 1)) d l) = BG LOG l:=by
 have hno : Ak (Aq (newest + 1)) l = none:=by
  rw [DF]
  intro x hx e
  rcases h.left x hx with h1 | h1 | ⟨k,h1,h2,h3,h4⟩
  · rw [e,Nm] at h1; cases h1
  · rw [e,KJ] at h1; exact h1 rfl
  · rw [e] at h3
    have:=FG h3
    rcases h4 with h4 | h4
    · omega
    · exact h4
 refine ⟨hno,⟨fun i hi => ?_,fun x hx => ?_⟩,?_⟩
 · rw [NO (fun e => by have:=FG e; omega)]
   exact h.tabs i hi
 · rcases SJ hx with hx | ⟨e,b,h1,h2⟩
   · rcases h.left x hx with h1 | h1 | ⟨k,h1,h2,h3,h4⟩
     · exact .inl h1
     · exact .inr (.inl h1)
     · exact .inr (.inr ⟨k,h1,h2,h3,.inl (by rcases h4 with h4 | h4; exact h4; exact h4.elim)⟩)
   · refine .inr (.inr ⟨newest + 1,by omega,hl,e,.inr ⟨rfl,?_,?_⟩⟩)
     · rcases h2 with ⟨rfl,_⟩ | ⟨f,h2,_⟩
       · rw [h1]; rfl
       · rw [hno] at h2; cases h2
     · intro hd
       subst hd
       unfold Cq at hx
       rw [if_pos rfl] at hx
       exact absurd e (DF.1 hno x hx)
 · unfold Cq
   split
   · rfl
   · rw [hno]
     exact YJ (KJ _) l
theorem Dj.base {l : List (Key × Ae)} {st : AO} {L : List Aa} {older : List (List Aa)} (hs : AW st) (hr : AA l) (h : Dj l st.newest st.runs (fun k b => k = st.newest + 1 /\ b = Gb (st.newest + 1) L /\ Gb (st.newest + 1) L ≠ [])) (hf : Ak (Aq (st.newest + 1)) l = some (FV (Gb (st.newest + 1) L)))
 (ho : older = st.runs \/ older = []) (mem : List Aa) (la lo : Nat) : Dj l (st.newest + 1) (L :: older) (IF ⟨st.newest + 1,L :: older,mem,la,lo⟩):=by
 have hn:=hs.newest
 have h3:=hs.few
 refine ⟨fun i hi => ?_,fun x hx => ?_⟩
 · cases i with
   | zero => exact hf
   | succ i =>
     rw [List.length_cons] at hi
     rcases ho with rfl | rfl
     · rw [show st.newest + 1 - (i + 1) = st.newest - i by omega]
       exact h.tabs i (by omega)
     · simp at hi
 · rcases h.left x hx with h1 | h1 | ⟨k,h1,h2,h5,h4⟩
   · exact .inl h1
   · exact .inr (.inl h1)
   · refine .inr (.inr ⟨k,h1,h2,h5,?_⟩)
     rcases h4 with h4 | h4
     · rcases ho with rfl | rfl
       · exact .inl ⟨by omega,by rw [List.length_cons]; omega⟩
       · refine .inr (.inl ⟨by show k <= st.newest + 1; omega,?_,rfl,by show st.newest + 1 < k + 4; omega⟩)
         have ht:=h.tabs (st.newest - k) (by omega)
         rw [show st.newest - (st.newest - k) = k by omega,<- h5,KI hr hx] at ht
         injection ht with ht
         exact ⟨_,hs.runs _ (List.getElem_mem _),by rw [ht]; rfl⟩
     · exact .inl ⟨by omega,by rw [List.length_cons]; omega⟩
end
section
open Go.RowKit Go.Maps Go.Sort
def wB (n : Nat) : Nat:=1099511627776 + n * 1073741824
def OpF (l : List (Key × Ae)) (m : List Aa) (n : Nat) : Prop:=∃ st A,Bd l st A (IF st) /\ AW st /\ Gq st n /\ m = st.map /\ ∀ a ∈ A,a.1 <= 2 * n + 1
def Op9 (S : Bx) (m : List Aa) (n : Nat) : Prop:=S.down = false /\ OpF S.files m n /\ weigh S.files <= wB n /\ n <= 1001
theorem RR {S : Bx} {keep : List Int} {m : List Aa} {n : Nat} (h : OpF (Be keep S.files).1 m n) (hw : weigh S.files <= wB n) (hn : n <= 1001) : Op9 (S.crash keep) m n:=
 ⟨rfl,h,Nat.le_trans (Bx.crash_weigh S keep) hw,hn⟩
theorem AaU {S : Bx} {keep : List Int} {m : List Aa} {n : Nat} (h : OpF S.files m n) (hw : weigh S.files <= wB n) (hn : n <= 1001) : Op9 (S.crash keep) m n:=by
 refine RR ?_ hw hn
 obtain ⟨st,A,h1,h2⟩:=h
 rw [Jk h1.rising h1.firm]
 exact ⟨st,A,h1.ne,h2⟩
theorem Gq.mono {st : AO} {n m : Nat} (h : Gq st n) (hm : n <= m) : Gq st m:=⟨by have:=h.sum; omega,by have:=h.newest; omega,by have:=h.last; omega,by have:=h.logged; omega⟩
def Cd (S S' : Bx) : Prop:=(S.fuel < 0 -> S'.fuel < 0) /\ (0 <= S.fuel -> 0 <= S'.fuel)
theorem Cd.refl (S : Bx) : Cd S S:=⟨id,id⟩
theorem Cd.trans {a b c : Bx} (h : Cd a b) (k : Cd b c) : Cd a c:=⟨fun x => k.1 (h.1 x),fun x => k.2 (h.2 x)⟩
theorem Cd.burnt (S : Bx) (f : List (Key × Ae)) : Cd S { S.burnt with files:=f }:=by
 unfold Cd Bx.burnt
 simp only
 constructor <;> intro h <;> split <;> omega
theorem Cd.back {a b : Bx} (h : Cd a b) (hb : b.fuel = 0) : 0 <= a.fuel:=by
 rcases Int.lt_or_le a.fuel 0 with h1 | h1
 · have:=h.1 h1; omega
 · exact h1
inductive Chg (S : Bx) (f : List (Key × Ae)) (R : Bx × Int) : Prop
 | no (h0 : S.fuel = 0) (e : R = (S.fall,30)) : Chg S f R
 | yes (S' : Bx) (e : R = (S',0)) (hf : S'.files = f) (hd : S'.down = false) (hr : Cd S S') : Chg S f R
theorem Ue {S : Bx} {f : List (Key × Ae)} (hd : S.down = false) : Chg S f (S.change f):=by
 by_cases h0 : S.fuel = 0
 · exact .no h0 (Bx.change_no h0)
 · exact .yes _ (Bx.change_yes h0) rfl hd (Cd.burnt S f)
theorem Om {S : Bx} {n : Key} {d : List UInt8} (hd : S.down = false) (hn : Cs n = true) : Chg S (Ep n d S.files) (S.append n d):=by
 rw [Bx.append_ok hd hn]; exact Ue hd
theorem O9 {S : Bx} {n : Key} {f : Ae} (hd : S.down = false) (hf : Ak n S.files = some f) : Chg S (Bk n (JG f) S.files) (S.sync n):=by
 rw [Bx.sync_some hd hf]; exact Ue hd
theorem NX {S : Bx} {n : Key} {f : Ae} (hd : S.down = false) (hf : Ak n S.files = some f) : Chg S (BH n S.files) (S.delete n):=by
 rw [Bx.delete_some hd hf]; exact Ue hd
theorem XI {S : Bx} {n : Key} {f : Ae} (hf : Ak n S.files = some f) (hF : Uv f) : Bk n (JG f) S.files = S.files:=by
 have : JG f = f:=by unfold JG; cases f with | mk b d => have:=hF.dur; simp only at this; rw [this]
 rw [this,Lx hf]
def zF (l : List (Key × Ae)) : List (Key × Ae):=l.filter fun x => zK x.1
theorem AbF {k : Key} {f : Ae} (h : zK k = false) (l : List (Key × Ae)) : zF (Bm (k,f) l) = zF l:=by
 induction l with
 | nil => simp [Bm,zF,h]
 | cons x r ih =>
   unfold Bm
   split
   · unfold zF
     rw [List.filter_cons,if_neg (by simp [h])]
   · unfold zF at *
     rw [List.filter_cons,List.filter_cons,ih]
theorem AbE {k : Key} {f : Ae} (h : zK k = false) (l : List (Key × Ae)) : zF (Bk k f l) = zF l:=by
 induction l with
 | nil => rfl
 | cons x r ih =>
   unfold Bk
   split
   · rename_i hx
     unfold zF
     rw [List.filter_cons,List.filter_cons,if_neg (by simp [h]),if_neg (by rw [hx]; simp [h])]
   · unfold zF at *
     rw [List.filter_cons,List.filter_cons,ih]
theorem MG {k : Key} (h : zK k = false) (d : List UInt8) (l : List (Key × Ae)) : zF (Cq k d l) = zF l:=by
 unfold Cq
 split
 · rfl
 · split
   · exact AbF h l
   · exact AbE h l
theorem We {k : Key} (h : zK k = false) (l : List (Key × Ae)) : zF (BH k l) = zF l:=by
 unfold zF BH
 rw [List.filter_filter]
 refine List.filter_congr fun x _ => ?_
 by_cases e : x.1 = k
 · rw [e,h]; simp
 · have : (x.1 == k) = false:=by simpa using e
   rw [this]; simp
theorem JZ (n : Key) (d : List UInt8) (l : List (Key × Ae)) : weigh (Cq n d l) <= weigh l + d.length + 1:=by
 unfold Cq
 split
 · omega
 · cases hf : Ak n l with
   | none => simp only; rw [LI]; simp only; omega
   | some f =>
     simp only
     have:=Pg (a:=(⟨f.bytes ++ d,(f.bytes ++ d).length⟩ : Ae)) hf
     have e : (⟨f.bytes ++ d,(f.bytes ++ d).length⟩ : Ae).bytes.length = f.bytes.length + d.length:=by show (f.bytes ++ d).length = _; rw [List.length_append]
     omega
def AO.batch (st : AO) (r : A7) : AO:=⟨st.newest,st.runs,AQ r.ps st.mem,r.num,st.logged + r.bytes.length⟩
abbrev Ek : Nat -> List UInt8 -> Prop:=fun _ _ => False
theorem AO.batch_map {st : AO} (h : AW st) {r : A7} (hf : Az r.ps) : (st.batch r).map = AS st.map r.ps:=map_write r.ps h.rising h.fine h.goodR hf
theorem AW.batch {st : AO} (h : AW st) {r : A7} : AW (st.batch r):=⟨overP_rising r.ps h.rising,Iv r.ps h.fine,h.runs,h.few,h.newest⟩
theorem Gq.batch {st : AO} {n : Nat} (h : Gq st n) {r : A7} (hl : r.ps.length <= 64) (hn : r.num = st.last + 1) (hb : r.bytes.length <= 1048576) : Gq (st.batch r) (n + 1):=by
 refine ⟨?_,by have:=h.newest; show st.newest <= n + 1; omega,by have:=h.last; show r.num <= _; omega,by have:=h.logged; show st.logged + _ <= _; omega⟩
 have h1:=overP_len r.ps st.mem
 have h2:=h.sum
 show Bo (AQ r.ps st.mem :: st.runs) <= _
 unfold Bo at *
 simp only [List.map_cons,List.sum_cons] at *
 omega
theorem Uu {l : List (Key × Ae)} {st : AO} {A : List Bv} {P : Nat -> List UInt8 -> Prop} {c : Nat} {ap : Bool} {r : A7} (h : Bd l st A P) (hc : DC A c ap) (h1 : 1 <= c) (h2 : c <= limC) (hok : EJ r) (hb : r.base = none) (hn : r.num = st.last + 1) {m : Nat} (hm : m <= (Ai r.bytes).length) :
 ∃ A',(∀ x ∈ A',x.1 <= c) /\ ((m < (Ai r.bytes).length /\ Bd (Cq (Af LOG c) ((Ai r.bytes).take m) l) st A' P) \/ (m = (Ai r.bytes).length /\ DC A' c true /\ Bd (Cq (Af LOG c) ((Ai r.bytes).take m) l) (st.batch r) A' P)):=by
 obtain ⟨A',s1,s2,s3⟩:=Rx h.rising h.segs hc h1 h2 hok hm
 refine ⟨A',s2,?_⟩
 have hr:=G9 (k:=Af LOG c) (d:=(Ai r.bytes).take m) h.rising
 have hf:=Li (k:=Af LOG c) (d:=(Ai r.bytes).take m) h.firm
 have ht:=h.tabs.seg h1 h2 ((Ai r.bytes).take m)
 rcases s3 with ⟨s3,s4⟩ | ⟨s3,s4,s5⟩
 · exact .inl ⟨s3,hr,hf,s1,by rw [s4]; exact h.chain,by rw [s4]; exact h.play,ht⟩
 · refine .inr ⟨s3,s5,hr,hf,s1,?_,?_,ht⟩
   · rw [s4]
     exact h.chain.snoc hok (by rw [h.play]; exact hn)
   · rw [s4,Gy,h.play]
     unfold FM
     rw [hb]
     rfl
theorem XF {l : List (Key × Ae)} {st st2 : AO} {A : List Bv} {P Q : Nat -> List UInt8 -> Prop} {c : Nat} {ap : Bool} {r : A7} (h : Bd l st A P) (hc : DC A c ap) (h1 : 1 <= c) (h2 : c <= limC) (hok : EJ r) (hb : r.base = some (st2.newest,st2.runs.length)) (hn : r.num = st.last + 1) (hp : r.ps = st2.mem) (hl : st2.last = r.num) (hlo : st2.logged = 0) (hsh : AW st2)
 (ht2 : ∀ d,Dj (Cq (Af LOG c) d l) st2.newest st2.runs Q) {m : Nat} (hm : m <= (Ai r.bytes).length) :
 ∃ A',(∀ x ∈ A',x.1 <= c) /\ ((m < (Ai r.bytes).length /\ Bd (Cq (Af LOG c) ((Ai r.bytes).take m) l) st A' P) \/ (m = (Ai r.bytes).length /\ DC A' c true /\ (∃ B,Bl A' = B ++ [r]) /\ Bd (Cq (Af LOG c) ((Ai r.bytes).take m) l) st2 A' Q)):=by
 obtain ⟨A',s1,s2,s3⟩:=Rx h.rising h.segs hc h1 h2 hok hm
 refine ⟨A',s2,?_⟩
 have hr:=G9 (k:=Af LOG c) (d:=(Ai r.bytes).take m) h.rising
 have hf:=Li (k:=Af LOG c) (d:=(Ai r.bytes).take m) h.firm
 have ht:=h.tabs.seg h1 h2 ((Ai r.bytes).take m)
 rcases s3 with ⟨s3,s4⟩ | ⟨s3,s4,s5⟩
 · exact .inl ⟨s3,hr,hf,s1,by rw [s4]; exact h.chain,by rw [s4]; exact h.play,ht⟩
 · refine .inr ⟨s3,s5,⟨_,s4⟩,hr,hf,s1,?_,?_,ht2 _⟩
   · rw [s4]
     exact h.chain.snoc hok (by rw [h.play]; exact hn)
   · rw [s4,Gy]
     unfold FM
     rw [hb]
     show (⟨st2.newest,st2.runs.length,AQ r.ps [],r.num,0⟩ : RS9) = st2.core
     rw [hp,J0 hsh.rising hsh.fine]
     unfold AO.core
     rw [hl,hlo]
theorem Wt {l : List (Key × Ae)} {st : AO} {a : Bv} {A : List Bv} {P : Nat -> List UInt8 -> Prop} {r : A7} {B : List A7} (h : Bd l st (a :: A) P) (hb : r.base ≠ none) (hB : Bl A = B ++ [r]) : Bd (BH (Af LOG a.1) l) st A P:=by
 have hn:=h.segs.num a (by simp)
 have hc:=h.chain
 have hp:=h.play
 rw [Fv,hB,<- List.append_assoc] at hp
 rw [Fv] at hc
 refine ⟨M5 h.rising,P3 h.firm,XU h.rising h.segs,hc.right ⟨r,by rw [hB]; simp,hb⟩,?_,h.tabs.dropSeg hn.1 hn.2⟩
 rw [hB,<- hp]
 exact Vl hb
theorem Ty {l : List (Key × Ae)} {st : AO} {A : List Bv} {P : Nat -> List UInt8 -> Prop} (h : Bd l st A P) (hs : AW st) {n : Nat} (h1 : 1 <= n) (hno : ¬ (n <= st.newest /\ st.newest < n + st.runs.length)) : Bd (BH (Aq n) l) st A (fun k b => P k b /\ k ≠ n):=by
 refine ⟨M5 h.rising,P3 h.firm,h.segs.same ?_,h.chain,h.play,h.tabs.dropTab h1 hs.newest hno⟩
 rw [PM,Kh]
 rw [DF]
 intro x hx e
 have:=(Hl.1 hx).2
 rw [e,KJ] at this
 exact this rfl
end
section
open Go.RowKit Go.Maps Go.Sort
theorem JE {k : Key} {d : List UInt8} {l : List (Key × Ae)} (hn : Ak k l = none) (hd : d ≠ []) : Ak k (Cq k d l) = some (FV d):=by
 unfold Cq
 rw [if_neg hd,hn]
 simp only
 rw [J9,if_pos rfl]
 · rfl
 · exact hn
theorem WS {l : List (Key × Ae)} {A : List Bv} {c : Nat} {r : A7} {X : List A7} (hr : AA l) (h : EY (Cq (Af LOG c) (Ai r.bytes) l) A) (hn : Ak (Af LOG c) l = none) (hc : DC A c true) (h1 : 1 <= c) (h2 : c <= limC) (hX : Bl A = X ++ [r]) :
 ∃ B rs,A = B ++ [(c,rs ++ [r],[])] /\ ∀ x ∈ B,x.1 < c:=by
 have hf:=KK (G9 hr) h hc h1 h2
 have hp:=Fe r.bytes
 rw [JE hn (fun e => by rw [e] at hp; simp at hp)] at hf
 unfold DC at hc
 simp only [↓reduceIte] at hc hf
 obtain ⟨B,rs,rfl,hB⟩:=hc
 rw [List.getLastD_concat] at hf
 simp only at hf
 rcases List.eq_nil_or_concat rs with rfl | ⟨rs0,z,rfl⟩
 · injection hf with hf
   have:=congrArg Ae.bytes hf
   have e : Ai r.bytes = []:=this
   rw [e] at hp; simp at hp
 · rw [List.concat_eq_append] at hX ⊢
   rw [Dr] at hX
   have e2 : Bl [((c,rs0 ++ [z],[]) : Bv)] = rs0 ++ [z]:=by simp [Bl]
   rw [e2,<- List.append_assoc] at hX
   have:=List.append_inj_right' hX rfl
   injection this with this _
   subst this
   exact ⟨B,rs0,rfl,hB⟩
inductive Zr (S : Bx) (st : AO) (P : Nat -> List UInt8 -> Prop) (c : Nat) (rs : List A7) : Bx × Int -> Prop
 | ok (S' : Bx) (hd : S'.down = false) (hr : Cd S S') (hz : zF S'.files = zF S.files) (hw : weigh S'.files <= weigh S.files) (hD : Bd S'.files st [(c,rs,[])] P) : Zr S st P c rs (S',0)
 | no (S1 : Bx) (B : List Bv) (h0 : 0 <= S.fuel) (hz : zF S1.files = zF S.files) (hw : weigh S1.files <= weigh S.files) (hB : ∀ x ∈ B,x.1 < c) (hD : Bd S1.files st (B ++ [(c,rs,[])]) P) : Zr S st P c rs (S1.fall,30)
theorem RI {st : AO} {P : Nat -> List UInt8 -> Prop} {c : Nat} {rs : List A7} {r : A7} (hb : r.base ≠ none) (u : Int) (hu : u + 1 = (c : Int)) : ∀ (B : List Bv) (S : Bx),S.down = false -> (∀ x ∈ B,x.1 < c) -> Bd S.files st (B ++ [(c,rs ++ [r],[])]) P -> Zr S st P c (rs ++ [r]) (BU LOG u (List.map (fun x : Bv => x.1) (B ++ [((c,rs ++ [r],[]) : Bv)])) S)
 | [],S,hd,hB,hD => by
   have e : BU LOG u (List.map (fun x : Bv => x.1) ([] ++ [((c,rs ++ [r],[]) : Bv)])) S = (S,0):=by
    show BU LOG u [c] S = _
    unfold BU
    rw [if_pos (by omega)]
   rw [e]
   exact .ok S hd (Cd.refl S) rfl (Nat.le_refl _) hD
 | a :: B,S,hd,hB,hD => by
   have ha:=hB a (by simp)
   have hn:=hD.segs.num a (by simp)
   have hm : GO a ∈ BG LOG S.files:=by rw [hD.segs.segs]; exact List.mem_map.2 ⟨a,by simp,rfl⟩
   have hf:=KI hD.rising (Hl.1 hm).1
   have hB' : Bl (B ++ [((c,rs ++ [r],[]) : Bv)]) = (Bl B ++ rs) ++ [r]:=by rw [Dr]; simp [Bl]
   have hdr:=Wt (a:=a) (A:=B ++ [(c,rs ++ [r],[])]) hD hb hB'
   have e0 : BU LOG u (List.map (fun x : Bv => x.1) ((a :: B) ++ [((c,rs ++ [r],[]) : Bv)])) S = if (S.delete (Af LOG a.1)).2 = 0 then BU LOG u (List.map (fun x : Bv => x.1) (B ++ [((c,rs ++ [r],[]) : Bv)])) (S.delete (Af LOG a.1)).1 else S.delete (Af LOG a.1):=by
    rw [List.cons_append,List.map_cons]
    conv => lhs; unfold BU
    rw [if_neg (by omega)]
   rw [e0]
   cases NX (S:=S) (n:=Af LOG a.1) (f:=(GO a).2) hd hf with
   | no h0 e =>
     rw [e,if_neg (show ¬ ((30 : Int) = 0) by decide)]
     exact .no S (a :: B) (by omega) rfl (Nat.le_refl _) hB hD
   | yes S2 e hf2 hd2 hr2 =>
     rw [e,if_pos rfl]
     have hz2 : zF S2.files = zF S.files:=by rw [hf2,We (MS a.1)]
     have hw2 : weigh S2.files <= weigh S.files:=by rw [hf2]; exact NU _ _
     have ih:=RI hb u hu B S2 hd2 (fun x hx => hB x (by simp [hx])) (by rw [hf2]; exact hdr)
     generalize BU LOG u (List.map (fun x : Bv => x.1) (B ++ [((c,rs ++ [r],[]) : Bv)])) S2 = R at ih
     cases ih with
     | ok S' k1 k2 k3 k4 k5 => exact .ok S' k1 (hr2.trans k2) (k3.trans hz2) (Nat.le_trans k4 hw2) k5
     | no S1 B' k1 k2 k3 k4 k5 =>
       refine .no S1 B' ?_ (k2.trans hz2) (Nat.le_trans k3 hw2) k4 k5
       rcases Int.lt_or_le S.fuel 0 with h | h
       · have:=hr2.1 h; omega
       · exact h
theorem OpF.of {l : List (Key × Ae)} {st : AO} {A : List Bv} {P : Nat -> List UInt8 -> Prop} {m : List Aa} {n c : Nat} (hD : Bd l st A P) (hP : ∀ k b,P k b -> IF st k b) (hs : AW st) (hf : Gq st n) (hm : m = st.map) (hA : ∀ a ∈ A,a.1 <= c) (hc : c <= 2 * n + 1) : OpF l m n:=
 ⟨st,A,hD.mono hP,hs,hf,hm,fun a ha => Nat.le_trans (hA a ha) hc⟩
theorem DC.le {A : List Bv} {c : Nat} {ap : Bool} (h : DC A c ap) : ∀ x ∈ A,x.1 <= c:=fun x hx => by
 unfold DC at h
 cases ap with
 | true =>
   simp only [↓reduceIte] at h
   obtain ⟨B,rs,rfl,hB⟩:=h
   rcases List.mem_append.1 hx with hx | hx
   · exact Nat.le_of_lt (hB x hx)
   · rw [List.mem_singleton.1 hx]; exact Nat.le_refl _
 | false =>
   simp only [Bool.false_eq_true,↓reduceIte] at h
   exact Nat.le_of_lt (h x hx)
theorem DC.new {A : List Bv} {c : Nat} {ap : Bool} (h : DC A c ap) : DC A (c + 1) false:=by
 have:=h.le
 unfold DC
 simp only [Bool.false_eq_true,↓reduceIte]
 exact fun x hx => Nat.lt_succ_of_le (this x hx)
theorem OpF.ne {l : List (Key × Ae)} {m : List Aa} {n : Nat} (h : OpF l m n) : OpF (ne9 l) m n:=by
 obtain ⟨st,A,h1,h2⟩:=h
 exact ⟨st,A,h1.ne,h2⟩
theorem ZF {l : List (Key × Ae)} : ∀ x ∈ zF (ne9 l),x ∈ zF l:=fun x hx => by
 unfold zF ne9 at *
 obtain ⟨h1,h2⟩:=List.mem_filter.1 hx
 exact List.mem_filter.2 ⟨(List.mem_filter.1 h1).1,h2⟩
def Cr (l : List (Key × Ae)) (z : List (Key × Ae)) (ms : List (List Aa)) (n : Nat) : Prop:=∀ keep,(∃ m ∈ ms,OpF (Be keep l).1 m n) /\ ∀ x ∈ zF (Be keep l).1,x ∈ z
theorem Cr.firm {l z : List (Key × Ae)} {m : List Aa} {ms : List (List Aa)} {n : Nat} (h : OpF l m n) (hm : m ∈ ms) (hz : zF l = z) : Cr l z ms n:=fun keep => by
 have hne:=h.ne
 obtain ⟨st,A,h1,h2⟩:=h
 rw [Jk h1.rising h1.firm]
 exact ⟨⟨m,hm,hne⟩,fun x hx => by rw [<- hz]; exact ZF x hx⟩
theorem Cr.part {l z : List (Key × Ae)} {k : Key} {d : List UInt8} {ms : List (List Aa)} {n : Nat} (hr : AA l) (hf : Dp l) (hk : zK k = false) (hz : zF l = z) (h : ∀ i,i <= d.length -> ∃ m ∈ ms,OpF (Cq k (d.take i) l) m n) : Cr (Ep k d l) z ms n:=fun keep => by
 obtain ⟨i,hi,e⟩:=UK (keep:=keep) (k:=k) (d:=d) hr hf hk
 rw [e]
 obtain ⟨m,hm,ho⟩:=h i hi
 refine ⟨⟨m,hm,ho.ne⟩,fun x hx => ?_⟩
 have:=ZF x hx
 rw [MG hk] at this
 rw [<- hz]; exact this
theorem Cr.mono {l z : List (Key × Ae)} {ms ms' : List (List Aa)} {n : Nat} (h : Cr l z ms n) (hm : ∀ m ∈ ms,m ∈ ms') : Cr l z ms' n:=fun keep => by
 obtain ⟨⟨m,h1,h2⟩,h3⟩:=h keep
 exact ⟨⟨m,hm m h1,h2⟩,h3⟩
end
section
open Go.RowKit Go.Maps Go.Sort
theorem Da.nums {rs : List A7} (h : Da rs) (h0 : 0 < rs.length) : ∀ i (hi : i < rs.length),rs[i].num = rs[0].num + i
 | 0,_ => rfl
 | i + 1,hi => by rw [h.next i hi,Da.nums h h0 i (by omega)]; omega
theorem Da.few {rs : List A7} (h : Da rs) : rs.length <= 1000000:=by
 by_cases h0 : 0 < rs.length
 · have h1:=h.nums h0 (rs.length - 1) (by omega)
   have h2:=(h.ok _ (List.getElem_mem (show rs.length - 1 < rs.length by omega))).num
   have h3:=(h.ok _ (List.getElem_mem h0)).one
   unfold limC at h2
   omega
 · omega
theorem Da.succ {rs : List A7} (h : Da rs) {i : Nat} (hi : i < rs.length) (h0 : 0 < i) : rs[i].num = (Cc (rs.take i)).last + 1:=by
 obtain ⟨j,rfl⟩ : ∃ j,i = j + 1:=⟨i - 1,by omega⟩
 rw [Oz (by omega),h.next j hi]
theorem Mx {rs : List A7} (h : ∀ r ∈ rs,EJ r) : ∀ i,i <= rs.length -> (Cc (rs.take i)).mem.length <= 4096 * i /\ At (Cc (rs.take i)).mem <= 530000 * i /\ (Cc (rs.take i)).logged <= 1048576 * i /\ (Cc (rs.take i)).last <= limC /\ (Cc (rs.take i)).newest <= limC /\ (Cc (rs.take i)).k <= 3
 | 0,_ => by
   rw [List.take_zero]
   exact ⟨Nat.le_refl _,Nat.le_refl _,Nat.le_refl _,Nat.zero_le _,Nat.zero_le _,Nat.zero_le _⟩
 | i + 1,hi => by
   obtain ⟨h1,h2,h3,h4,h5,h6⟩:=Mx h i (by omega)
   have hr:=h _ (List.getElem_mem (show i < rs.length by omega))
   have hl:=A7.len hr
   have hn:=hr.num
   have hf:=hr.few
   have hs:=hr.size
   have hb:=hr.base
   rw [Kp (by omega)]
   generalize rs[i] = r at *
   unfold FM
   cases hbs : r.base with
   | none =>
     simp only
     have o1:=overP_len r.ps (Cc (rs.take i)).mem
     have o2:=size_over r.ps (Cc (rs.take i)).mem
     exact ⟨by omega,by omega,by omega,hn,h5,h6⟩
   | some x =>
     obtain ⟨a,k⟩:=x
     simp only
     obtain ⟨b1,b2,b3⟩:=hb a k hbs
     have o1:=overP_len r.ps []
     have o2:=size_over r.ps []
     have e1 : ([] : List Aa).length = 0:=rfl
     have e2 : At [] = 0:=rfl
     exact ⟨by omega,by omega,Nat.zero_le _,hn,b1,b2⟩
def basedB (rs : List A7) : Nat -> Bool
 | 0 => true
 | i + 1 => match rs[i]? with
   | some r => r.base.isSome || (if i = 0 then decide (r.num = 1) else basedB rs i)
   | none => true
theorem GN {rs : List A7} {i : Nat} (hi : i < rs.length) : basedB rs (i + 1) = (rs[i].base.isSome || (if i = 0 then decide (rs[i].num = 1) else basedB rs i)):=by
 conv => lhs; unfold basedB
 rw [List.getElem?_eq_getElem hi]
theorem Jd {rs : List A7} {j : Nat} (h : basedB rs (j + 1) = true) : ∀ i,j + 1 <= i -> i <= rs.length -> basedB rs i = true
 | 0,h1,_ => by omega
 | i + 1,h1,h2 => by
   by_cases e : i = j
   · rw [e]; exact h
   · have ih:=Jd h i (by omega) (by omega)
     rw [GN (by omega),if_neg (by omega),ih,Bool.or_true]
theorem Da.basedB {rs : List A7} (h : Da rs) : Go.Proofs.YtlkefgngefpkiaaGreatDoor.basedB rs rs.length = true:=by
 rcases h.based with rfl | ⟨h0,h1⟩ | ⟨r,hr,hb⟩
 · rfl
 · refine Jd (j:=0) ?_ _ (by omega) (Nat.le_refl _)
   rw [GN h0,if_pos rfl,h1]
   simp
 · obtain ⟨j,hj,rfl⟩:=List.mem_iff_getElem.1 hr
   refine Jd (j:=j) ?_ _ (by omega) (Nat.le_refl _)
   rw [GN hj]
   cases hc : rs[j].base with
   | none => exact absurd hc hb
   | some x => rfl
theorem Bd.nrec {l : List (Key × Ae)} {st : AO} {A : List Bv} {P : Nat -> List UInt8 -> Prop} (h : Bd l st A P) : (DH LOG l).length = (Bl A).length:=by rw [h.segs.recs,List.length_map]
end
end Go.Proofs.YtlkefgngefpkiaaGreatDoor
