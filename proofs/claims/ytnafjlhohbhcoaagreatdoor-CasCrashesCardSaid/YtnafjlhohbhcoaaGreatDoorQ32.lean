/- Parts of the proof. -/
import Derived.Test.YtnafjlhohbhcoaaGreatDoorQ31
import Derived.Test.YtnafjlhohbhcoaaGreatDoorQ18
import Derived.Test.YtnafjlhohbhcoaaGreatDoorQ24
namespace Go.Proofs.YtnafjlhohbhcoaaGreatDoor
set_option linter.unusedVariables false
section
open Go.RowKit Go.Maps Go.Sort
def RT : Key:=[116,97,98,108,101]
def Ar (n : Nat) : Key:=RT ++ Lib.decDigits n
theorem Gl (u : Nat) : Lib.decDigits u = if u < 10 then [UInt8.ofNat (48 + u)] else Lib.decDigits (u / 10) ++ [UInt8.ofNat (48 + u % 10)]:=by
 by_cases h : u < 10
 · rw [if_pos h,Lib.decDigits_one h]
 · rw [if_neg h,Lib.decDigits,dif_neg h]
theorem Mm (n : Nat) : IX (Lib.decDigits n) = n:=by
 induction n using Nat.strongRecOn with
 | ind n ih =>
   rw [Gl]
   by_cases h : n < 10
   · rw [if_pos h]
     have : IX [UInt8.ofNat (48 + n)] = IX ([] ++ [UInt8.ofNat (48 + n % 10)]):=by rw [Nat.mod_eq_of_lt h]; rfl
     rw [this,Hx,QH]
     show 10 * 0 + _ = _
     omega
   · rw [if_neg h,Hx,QH,ih (n / 10) (by omega)]
     omega
theorem F8 {a b : Nat} (h : Ar a = Ar b) : a = b:=by
 have:=List.append_cancel_left h
 rw [<- Mm a,this,Mm b]
theorem KI (n : Nat) : AE LOG (Ar n) = 0:=by
 unfold AE
 rw [if_neg]
 rintro ⟨h,_⟩
 unfold Lib.hasPrefix Ar RT LOG at h
 simp at h
theorem N6 (n : Nat) : zK (Ar n) = false:=rfl
theorem ND (n : Nat) : zK (Af LOG n) = false:=rfl
theorem KJ {n : Nat} (h : n <= limC) : (Ar n).length <= 12:=by
 unfold Ar RT
 rw [List.length_append,Lib.decDigits_length]
 have:=nDigits_le 7 n (by omega) (by unfold limC at h; omega)
 simp only [List.length_cons,List.length_nil]
 omega
theorem Abz {n : Nat} (h : n <= limC) : Cp (Ar n) = true:=by
 have:=KJ h
 unfold Cp
 refine decide_eq_true ⟨?_,by omega⟩
 unfold Ar RT
 simp only [List.length_append,List.length_cons]
 omega
theorem Kq {n m : Nat} (h1 : 1 <= m) (h : m <= limC) : Af LOG m ≠ Ar n:=fun e => Gp h1 h (by rw [e]; exact KI n)
structure FP (l : List Aa) : Prop where
 ne : l ≠ []
 rising : Ak l
 fine : Az l
 few : l.length <= 65536
def Gd (n : Nat) (l : List Aa) : List UInt8:=As n ++ (As (C3 l).size ++ (C3 l).data.toList)
def I5 (n : Nat) (l : List Aa) : List UInt8:=if l = [] then [] else Gd n l
theorem KN {l : List Aa} (h : FP l) (n : Nat) : I5 n l = Gd n l:=if_neg h.ne
theorem L8 {l : List Aa} (h : FP l) : Er l = 0 /\ ET (C3 l).data.toList l:=by
 have hf:=Ow h.fine h.few
 have h0 : Er l = 0:=by rw [UQ h.ne h.rising h.fine,if_neg (by omega)]
 exact ⟨h0,PO h0⟩
theorem MZ {l : List Aa} (h : FP l) : (C3 l).size <= 580000000:=by
 obtain ⟨h0,flt,hok,e⟩:=L8 h
 have h1:=JT h.fine (Ao l.length)
 have h2 : Ao l.length <= 8192:=by have:=h.few; unfold Ao; omega
 have hS : C3 l = ⟨(X1 l (BM l)).toArray⟩:=by unfold C3; rw [if_pos h0]
 rw [hS,A0]
 have h4:=Fu (l:=CX l (BM l)) (Ow h.fine h.few)
 have h5:=Ow h.fine h.few
 unfold X1
 rw [List.length_append]
 omega
theorem VP {n : Nat} {l : List Aa} (h : FP l) (hn : n <= limC) : (Gd n l).length <= 580000100:=by
 have h1:=MZ h
 have e1:=Av (AK (n:=n) (by unfold limC at hn; omega))
 have e2:=Av (AK (n:=(C3 l).size) (by omega))
 unfold Gd
 simp only [List.length_append,Array.length_toList]
 have : (C3 l).data.size = (C3 l).size:=rfl
 omega
theorem V6 (n : Nat) (l : List Aa) : 0 < (Gd n l).length:=by
 have:=EJ n
 unfold Gd
 rw [List.length_append]; omega
structure AQ where
 newest : Nat
 runs : List (List Aa)
 mem : List Aa
 last : Nat
 logged : Nat
def AQ.core (st : AQ) : RS9:=⟨st.newest,st.runs.length,st.mem,st.last,st.logged⟩
def AQ.map (st : AQ) : List Aa:=CT st.mem st.runs
structure Dc (l : List (Key × Ae)) (newest : Nat) (runs : List (List Aa)) (P : Nat -> List UInt8 -> Prop) : Prop where
 tabs : ∀ i (h : i < runs.length),Am (Ar (newest - i)) l = some (FV (Gd (newest - i) runs[i]))
 left : ∀ x ∈ l,zK x.1 = true \/ AE LOG x.1 ≠ 0 \/ ∃ n,1 <= n /\ n <= limC /\ x.1 = Ar n /\ ((n <= newest /\ newest < n + runs.length) \/ P n x.2.bytes)
def IL (st : AQ) (n : Nat) (b : List UInt8) : Prop:=
 (n <= st.newest /\ (∃ l,FP l /\ b = Gd n l) /\ st.runs.length = 1 /\ st.newest < n + 4) \/
 (n = st.newest + 1 /\ b ≠ [] /\ (b <+: I5 n (AJ st.mem st.runs).1 \/ b <+: I5 n (AB st.runs)))
structure AZ (l : List (Key × Ae)) (st : AQ) (A : List Bo) (P : Nat -> List UInt8 -> Prop) : Prop where
 rising : AC l
 firm : Dj l
 segs : Fc l A
 chain : CV (Bg A)
 play : BU (Bg A) = st.core
 tabs : Dc l st.newest st.runs P
structure AV (st : AQ) : Prop where
 rising : Ak st.mem
 fine : Az st.mem
 runs : ∀ r ∈ st.runs,FP r
 few : st.runs.length <= 3
 newest : st.runs.length <= st.newest
theorem AV.good {st : AQ} (h : AV st) : Cd (st.mem :: st.runs):=Cd.mk h.rising h.fine fun l hl => ⟨(h.runs l hl).rising,(h.runs l hl).fine⟩
theorem AV.goodR {st : AQ} (h : AV st) : Cd st.runs:=h.good.cons.2
structure Gs (st : AQ) (n : Nat) : Prop where
 sum : Bk (st.mem :: st.runs) <= 64 * n
 newest : st.newest <= n
 last : st.last <= 2 * n
 logged : st.logged <= 2097152 * n
theorem Dc.mono {l : List (Key × Ae)} {newest : Nat} {runs : List (List Aa)} {P Q : Nat -> List UInt8 -> Prop} (h : Dc l newest runs P) (hp : ∀ n b,P n b -> Q n b) : Dc l newest runs Q:=
 ⟨h.tabs,fun x hx => by
   rcases h.left x hx with h1 | h1 | ⟨n,h1,h2,h3,h4⟩
   · exact .inl h1
   · exact .inr (.inl h1)
   · refine .inr (.inr ⟨n,h1,h2,h3,?_⟩)
     rcases h4 with h4 | h4
     · exact .inl h4
     · exact .inr (hp _ _ h4)⟩
theorem AaU {l : List (Key × Ae)} (h : Dj l) : Bu LOG (ne9 l) = Bu LOG l:=by
 unfold Bu ne9
 rw [List.filter_filter]
 refine List.filter_congr fun x hx => ?_
 by_cases e : AE LOG x.1 = 0
 · simp [e]
 · have hz : zK x.1 = false:=by
     cases hk : zK x.1 with
     | false => rfl
     | true =>
       exfalso
       apply e
       obtain ⟨xk,xf⟩:=x
       simp only at hk
       cases xk with
       | nil => rfl
       | cons c r =>
         unfold zK at hk
         have hc : c = 122:=of_decide_eq_true hk
         subst hc
         unfold AE
         rw [if_neg]
         rintro ⟨h,_⟩
         unfold Lib.hasPrefix LOG at h
         simp at h
   have hp:=(h x hx).pos hz
   simp [Ng,hp]
theorem AZ.ne {l : List (Key × Ae)} {st : AQ} {A : List Bo} {P : Nat -> List UInt8 -> Prop} (h : AZ l st A P) : AZ (ne9 l) st A P:=by
 refine ⟨Gt h.rising,AaM h.firm,h.segs.same (AaU h.firm),h.chain,h.play,⟨fun i hi => ?_,fun x hx => h.tabs.left x (List.mem_filter.1 hx).1⟩⟩
 have h1:=h.tabs.tabs i hi
 exact Hs (p:=Ng) (decide_eq_true (V6 _ _)) h1
theorem AZ.mono {l : List (Key × Ae)} {st : AQ} {A : List Bo} {P Q : Nat -> List UInt8 -> Prop} (h : AZ l st A P) (hp : ∀ n b,P n b -> Q n b) : AZ l st A Q:=⟨h.rising,h.firm,h.segs,h.chain,h.play,h.tabs.mono hp⟩
theorem Dc.seg {l : List (Key × Ae)} {newest : Nat} {runs : List (List Aa)} {P : Nat -> List UInt8 -> Prop} (h : Dc l newest runs P) {c : Nat} (h1 : 1 <= c) (h2 : c <= limC) (d : List UInt8) : Dc (Cg (Af LOG c) d l) newest runs P:=by
 refine ⟨fun i hi => ?_,fun x hx => ?_⟩
 · rw [MP (Kq h1 h2)]
   exact h.tabs i hi
 · rcases RW hx with hx | ⟨e,_⟩
   · exact h.left x hx
   · exact .inr (.inl (by rw [e]; exact Gp h1 h2))
theorem Dc.dropSeg {l : List (Key × Ae)} {newest : Nat} {runs : List (List Aa)} {P : Nat -> List UInt8 -> Prop} (h : Dc l newest runs P) {c : Nat} (h1 : 1 <= c) (h2 : c <= limC) : Dc (Bw (Af LOG c) l) newest runs P:=by
 refine ⟨fun i hi => ?_,fun x hx => h.left x (Hu hx).1⟩
 rw [Kg,if_neg (Kq h1 h2)]
 exact h.tabs i hi
theorem Dc.dropTab {l : List (Key × Ae)} {newest : Nat} {runs : List (List Aa)} {P : Nat -> List UInt8 -> Prop} (h : Dc l newest runs P) {n : Nat} (h1 : 1 <= n) (hn : runs.length <= newest) (hno : ¬ (n <= newest /\ newest < n + runs.length)) : Dc (Bw (Ar n) l) newest runs (fun k b => P k b /\ k ≠ n):=by
 refine ⟨fun i hi => ?_,fun x hx => ?_⟩
 · rw [Kg,if_neg (fun e => by have:=F8 e; omega)]
   exact h.tabs i hi
 · obtain ⟨hx1,hx2⟩:=Hu hx
   rcases h.left x hx1 with h1 | h1 | ⟨k,h1,h2,h3,h4⟩
   · exact .inl h1
   · exact .inr (.inl h1)
   · refine .inr (.inr ⟨k,h1,h2,h3,?_⟩)
     rcases h4 with h4 | h4
     · exact .inl h4
     · exact .inr ⟨h4,fun e => hx2 (by rw [h3,e])⟩
theorem Dc.addTab {l : List (Key × Ae)} {newest : Nat} {runs : List (List Aa)} (h : Dc l newest runs (fun _ _ => False)) (hr : AC l) (hle : runs.length <= newest) (hl : newest + 1 <= limC) (d : List UInt8) :
 Am (Ar (newest + 1)) l = none /\ Dc (Cg (Ar (newest + 1)) d l) newest runs (fun k b => k = newest + 1 /\ b = d /\ d ≠ []) /\ Bu LOG (Cg (Ar (newest + 1)) d l) = Bu LOG l:=by
 have hno : Am (Ar (newest + 1)) l = none:=by
  rw [DA]
  intro x hx e
  rcases h.left x hx with h1 | h1 | ⟨k,h1,h2,h3,h4⟩
  · rw [e,N6] at h1; cases h1
  · rw [e,KI] at h1; exact h1 rfl
  · rw [e] at h3
    have:=F8 h3
    rcases h4 with h4 | h4
    · omega
    · exact h4
 refine ⟨hno,⟨fun i hi => ?_,fun x hx => ?_⟩,?_⟩
 · rw [MP (fun e => by have:=F8 e; omega)]
   exact h.tabs i hi
 · rcases RW hx with hx | ⟨e,b,h1,h2⟩
   · rcases h.left x hx with h1 | h1 | ⟨k,h1,h2,h3,h4⟩
     · exact .inl h1
     · exact .inr (.inl h1)
     · exact .inr (.inr ⟨k,h1,h2,h3,.inl (by rcases h4 with h4 | h4; exact h4; exact h4.elim)⟩)
   · refine .inr (.inr ⟨newest + 1,by omega,hl,e,.inr ⟨rfl,?_,?_⟩⟩)
     · rcases h2 with ⟨rfl,_⟩ | ⟨f,h2,_⟩
       · rw [h1]; rfl
       · rw [hno] at h2; cases h2
     · intro hd
       subst hd
       unfold Cg at hx
       rw [if_pos rfl] at hx
       exact absurd e (DA.1 hno x hx)
 · unfold Cg
   split
   · rfl
   · rw [hno]
     exact YZ (KI _) l
theorem Dc.base {l : List (Key × Ae)} {st : AQ} {L : List Aa} {older : List (List Aa)} (hs : AV st) (hr : AC l) (h : Dc l st.newest st.runs (fun k b => k = st.newest + 1 /\ b = Gd (st.newest + 1) L /\ Gd (st.newest + 1) L ≠ [])) (hf : Am (Ar (st.newest + 1)) l = some (FV (Gd (st.newest + 1) L)))
 (ho : older = st.runs \/ older = []) (mem : List Aa) (la lo : Nat) : Dc l (st.newest + 1) (L :: older) (IL ⟨st.newest + 1,L :: older,mem,la,lo⟩):=by
 have hn:=hs.newest
 have h3:=hs.few
 refine ⟨fun i hi => ?_,fun x hx => ?_⟩
 · cases i with
   | zero => exact hf
   | succ i =>
     rw [List.length_cons] at hi
     rcases ho with rfl | rfl
     · rw [show st.newest + 1 - (i + 1) = st.newest - i by omega]
       exact h.tabs i (by omega)
     · simp at hi
 · rcases h.left x hx with h1 | h1 | ⟨k,h1,h2,h5,h4⟩
   · exact .inl h1
   · exact .inr (.inl h1)
   · refine .inr (.inr ⟨k,h1,h2,h5,?_⟩)
     rcases h4 with h4 | h4
     · rcases ho with rfl | rfl
       · exact .inl ⟨by omega,by rw [List.length_cons]; omega⟩
       · refine .inr (.inl ⟨by show k <= st.newest + 1; omega,?_,rfl,by show st.newest + 1 < k + 4; omega⟩)
         have ht:=h.tabs (st.newest - k) (by omega)
         rw [show st.newest - (st.newest - k) = k by omega,<- h5,KY hr hx] at ht
         injection ht with ht
         exact ⟨_,hs.runs _ (List.getElem_mem _),by rw [ht]; rfl⟩
     · exact .inl ⟨by omega,by rw [List.length_cons]; omega⟩
end
section
open Go.RowKit Go.Maps Go.Sort
def wB (n : Nat) : Nat:=1099511627776 + n * 1073741824
def OpF (l : List (Key × Ae)) (m : List Aa) (n : Nat) : Prop:=∃ st A,AZ l st A (IL st) /\ AV st /\ Gs st n /\ m = st.map /\ ∀ a ∈ A,a.1 <= 2 * n + 1
def Op9 (S : Bx) (m : List Aa) (n : Nat) : Prop:=S.down = false /\ OpF S.files m n /\ weigh S.files <= wB n /\ n <= 1001
theorem Rm {S : Bx} {keep : List Int} {m : List Aa} {n : Nat} (h : OpF (AY keep S.files).1 m n) (hw : weigh S.files <= wB n) (hn : n <= 1001) : Op9 (S.crash keep) m n:=
 ⟨rfl,h,Nat.le_trans (Bx.crash_weigh S keep) hw,hn⟩
theorem AaO {S : Bx} {keep : List Int} {m : List Aa} {n : Nat} (h : OpF S.files m n) (hw : weigh S.files <= wB n) (hn : n <= 1001) : Op9 (S.crash keep) m n:=by
 refine Rm ?_ hw hn
 obtain ⟨st,A,h1,h2⟩:=h
 rw [Je h1.rising h1.firm]
 exact ⟨st,A,h1.ne,h2⟩
theorem Gs.mono {st : AQ} {n m : Nat} (h : Gs st n) (hm : n <= m) : Gs st m:=⟨by have:=h.sum; omega,by have:=h.newest; omega,by have:=h.last; omega,by have:=h.logged; omega⟩
def BR (S S' : Bx) : Prop:=(S.fuel < 0 -> S'.fuel < 0) /\ (0 <= S.fuel -> 0 <= S'.fuel)
theorem BR.refl (S : Bx) : BR S S:=⟨id,id⟩
theorem BR.trans {a b c : Bx} (h : BR a b) (k : BR b c) : BR a c:=⟨fun x => k.1 (h.1 x),fun x => k.2 (h.2 x)⟩
theorem BR.burnt (S : Bx) (f : List (Key × Ae)) : BR S { S.burnt with files:=f }:=by
 unfold BR Bx.burnt
 simp only
 constructor <;> intro h <;> split <;> omega
theorem BR.back {a b : Bx} (h : BR a b) (hb : b.fuel = 0) : 0 <= a.fuel:=by
 rcases Int.lt_or_le a.fuel 0 with h1 | h1
 · have:=h.1 h1; omega
 · exact h1
inductive Chg (S : Bx) (f : List (Key × Ae)) (R : Bx × Int) : Prop
 | no (h0 : S.fuel = 0) (e : R = (S.fall,30)) : Chg S f R
 | yes (S' : Bx) (e : R = (S',0)) (hf : S'.files = f) (hd : S'.down = false) (hr : BR S S') : Chg S f R
theorem TW {S : Bx} {f : List (Key × Ae)} (hd : S.down = false) : Chg S f (S.change f):=by
 by_cases h0 : S.fuel = 0
 · exact .no h0 (Bx.change_no h0)
 · exact .yes _ (Bx.change_yes h0) rfl hd (BR.burnt S f)
theorem OB {S : Bx} {n : Key} {d : List UInt8} (hd : S.down = false) (hn : Cp n = true) : Chg S (Eq n d S.files) (S.append n d):=by
 rw [Bx.append_ok hd hn]; exact TW hd
theorem Nj {S : Bx} {n : Key} {f : Ae} (hd : S.down = false) (hf : Am n S.files = some f) : Chg S (Bf n (JD f) S.files) (S.sync n):=by
 rw [Bx.sync_some hd hf]; exact TW hd
theorem Oa {S : Bx} {n : Key} {f : Ae} (hd : S.down = false) (hf : Am n S.files = some f) : Chg S (Bw n S.files) (S.delete n):=by
 rw [Bx.delete_some hd hf]; exact TW hd
theorem Xr {S : Bx} {n : Key} {f : Ae} (hf : Am n S.files = some f) (hF : UP f) : Bf n (JD f) S.files = S.files:=by
 have : JD f = f:=by unfold JD; cases f with | mk b d => have:=hF.dur; simp only at this; rw [this]
 rw [this,LL hf]
def zF (l : List (Key × Ae)) : List (Key × Ae):=l.filter fun x => zK x.1
theorem Ab0 {k : Key} {f : Ae} (h : zK k = false) (l : List (Key × Ae)) : zF (Bh (k,f) l) = zF l:=by
 induction l with
 | nil => simp [Bh,zF,h]
 | cons x r ih =>
   unfold Bh
   split
   · unfold zF
     rw [List.filter_cons,if_neg (by simp [h])]
   · unfold zF at *
     rw [List.filter_cons,List.filter_cons,ih]
theorem Ab8 {k : Key} {f : Ae} (h : zK k = false) (l : List (Key × Ae)) : zF (Bf k f l) = zF l:=by
 induction l with
 | nil => rfl
 | cons x r ih =>
   unfold Bf
   split
   · rename_i hx
     unfold zF
     rw [List.filter_cons,List.filter_cons,if_neg (by simp [h]),if_neg (by rw [hx]; simp [h])]
   · unfold zF at *
     rw [List.filter_cons,List.filter_cons,ih]
theorem MD {k : Key} (h : zK k = false) (d : List UInt8) (l : List (Key × Ae)) : zF (Cg k d l) = zF l:=by
 unfold Cg
 split
 · rfl
 · split
   · exact Ab0 h l
   · exact Ab8 h l
theorem VU {k : Key} (h : zK k = false) (l : List (Key × Ae)) : zF (Bw k l) = zF l:=by
 unfold zF Bw
 rw [List.filter_filter]
 refine List.filter_congr fun x _ => ?_
 by_cases e : x.1 = k
 · rw [e,h]; simp
 · have : (x.1 == k) = false:=by simpa using e
   rw [this]; simp
theorem JM (n : Key) (d : List UInt8) (l : List (Key × Ae)) : weigh (Cg n d l) <= weigh l + d.length + 1:=by
 unfold Cg
 split
 · omega
 · cases hf : Am n l with
   | none => simp only; rw [L9]; simp only; omega
   | some f =>
     simp only
     have:=Pb (a:=(⟨f.bytes ++ d,(f.bytes ++ d).length⟩ : Ae)) hf
     have e : (⟨f.bytes ++ d,(f.bytes ++ d).length⟩ : Ae).bytes.length = f.bytes.length + d.length:=by show (f.bytes ++ d).length = _; rw [List.length_append]
     omega
def AQ.batch (st : AQ) (r : A9) : AQ:=⟨st.newest,st.runs,Bc r.ps st.mem,r.num,st.logged + r.bytes.length⟩
abbrev Eg : Nat -> List UInt8 -> Prop:=fun _ _ => False
theorem AQ.batch_map {st : AQ} (h : AV st) {r : A9} (hf : Az r.ps) : (st.batch r).map = AP st.map r.ps:=map_write r.ps h.rising h.fine h.goodR hf
theorem AV.batch {st : AQ} (h : AV st) {r : A9} : AV (st.batch r):=⟨overP_rising r.ps h.rising,JN r.ps h.fine,h.runs,h.few,h.newest⟩
theorem Gs.batch {st : AQ} {n : Nat} (h : Gs st n) {r : A9} (hl : r.ps.length <= 64) (hn : r.num = st.last + 1) (hb : r.bytes.length <= 1048576) : Gs (st.batch r) (n + 1):=by
 refine ⟨?_,by have:=h.newest; show st.newest <= n + 1; omega,by have:=h.last; show r.num <= _; omega,by have:=h.logged; show st.logged + _ <= _; omega⟩
 have h1:=overP_len r.ps st.mem
 have h2:=h.sum
 show Bk (Bc r.ps st.mem :: st.runs) <= _
 unfold Bk at *
 simp only [List.map_cons,List.sum_cons] at *
 omega
theorem Ub {l : List (Key × Ae)} {st : AQ} {A : List Bo} {P : Nat -> List UInt8 -> Prop} {c : Nat} {ap : Bool} {r : A9} (h : AZ l st A P) (hc : DD A c ap) (h1 : 1 <= c) (h2 : c <= limC) (hok : ER r) (hb : r.base = none) (hn : r.num = st.last + 1) {m : Nat} (hm : m <= (Ai r.bytes).length) :
 ∃ A',(∀ x ∈ A',x.1 <= c) /\ ((m < (Ai r.bytes).length /\ AZ (Cg (Af LOG c) ((Ai r.bytes).take m) l) st A' P) \/ (m = (Ai r.bytes).length /\ DD A' c true /\ AZ (Cg (Af LOG c) ((Ai r.bytes).take m) l) (st.batch r) A' P)):=by
 obtain ⟨A',s1,s2,s3⟩:=Se h.rising h.segs hc h1 h2 hok hm
 refine ⟨A',s2,?_⟩
 have hr:=GF (k:=Af LOG c) (d:=(Ai r.bytes).take m) h.rising
 have hf:=Lg (k:=Af LOG c) (d:=(Ai r.bytes).take m) h.firm
 have ht:=h.tabs.seg h1 h2 ((Ai r.bytes).take m)
 rcases s3 with ⟨s3,s4⟩ | ⟨s3,s4,s5⟩
 · exact .inl ⟨s3,hr,hf,s1,by rw [s4]; exact h.chain,by rw [s4]; exact h.play,ht⟩
 · refine .inr ⟨s3,s5,hr,hf,s1,?_,?_,ht⟩
   · rw [s4]
     exact h.chain.snoc hok (by rw [h.play]; exact hn)
   · rw [s4,Gz,h.play]
     unfold FK
     rw [hb]
     rfl
theorem Wy {l : List (Key × Ae)} {st st2 : AQ} {A : List Bo} {P Q : Nat -> List UInt8 -> Prop} {c : Nat} {ap : Bool} {r : A9} (h : AZ l st A P) (hc : DD A c ap) (h1 : 1 <= c) (h2 : c <= limC) (hok : ER r) (hb : r.base = some (st2.newest,st2.runs.length)) (hn : r.num = st.last + 1) (hp : r.ps = st2.mem) (hl : st2.last = r.num) (hlo : st2.logged = 0) (hsh : AV st2)
 (ht2 : ∀ d,Dc (Cg (Af LOG c) d l) st2.newest st2.runs Q) {m : Nat} (hm : m <= (Ai r.bytes).length) :
 ∃ A',(∀ x ∈ A',x.1 <= c) /\ ((m < (Ai r.bytes).length /\ AZ (Cg (Af LOG c) ((Ai r.bytes).take m) l) st A' P) \/ (m = (Ai r.bytes).length /\ DD A' c true /\ (∃ B,Bg A' = B ++ [r]) /\ AZ (Cg (Af LOG c) ((Ai r.bytes).take m) l) st2 A' Q)):=by
 obtain ⟨A',s1,s2,s3⟩:=Se h.rising h.segs hc h1 h2 hok hm
 refine ⟨A',s2,?_⟩
 have hr:=GF (k:=Af LOG c) (d:=(Ai r.bytes).take m) h.rising
 have hf:=Lg (k:=Af LOG c) (d:=(Ai r.bytes).take m) h.firm
 have ht:=h.tabs.seg h1 h2 ((Ai r.bytes).take m)
 rcases s3 with ⟨s3,s4⟩ | ⟨s3,s4,s5⟩
 · exact .inl ⟨s3,hr,hf,s1,by rw [s4]; exact h.chain,by rw [s4]; exact h.play,ht⟩
 · refine .inr ⟨s3,s5,⟨_,s4⟩,hr,hf,s1,?_,?_,ht2 _⟩
   · rw [s4]
     exact h.chain.snoc hok (by rw [h.play]; exact hn)
   · rw [s4,Gz]
     unfold FK
     rw [hb]
     show (⟨st2.newest,st2.runs.length,Bc r.ps [],r.num,0⟩ : RS9) = st2.core
     rw [hp,Lz hsh.rising hsh.fine]
     unfold AQ.core
     rw [hl,hlo]
theorem WN {l : List (Key × Ae)} {st : AQ} {a : Bo} {A : List Bo} {P : Nat -> List UInt8 -> Prop} {r : A9} {B : List A9} (h : AZ l st (a :: A) P) (hb : r.base ≠ none) (hB : Bg A = B ++ [r]) : AZ (Bw (Af LOG a.1) l) st A P:=by
 have hn:=h.segs.num a (by simp)
 have hc:=h.chain
 have hp:=h.play
 rw [Fj,hB,<- List.append_assoc] at hp
 rw [Fj] at hc
 refine ⟨Ms h.rising,OV h.firm,Ww h.rising h.segs,hc.right ⟨r,by rw [hB]; simp,hb⟩,?_,h.tabs.dropSeg hn.1 hn.2⟩
 rw [hB,<- hp]
 exact US hb
theorem Uo {l : List (Key × Ae)} {st : AQ} {A : List Bo} {P : Nat -> List UInt8 -> Prop} (h : AZ l st A P) (hs : AV st) {n : Nat} (h1 : 1 <= n) (hno : ¬ (n <= st.newest /\ st.newest < n + st.runs.length)) : AZ (Bw (Ar n) l) st A (fun k b => P k b /\ k ≠ n):=by
 refine ⟨Ms h.rising,OV h.firm,h.segs.same ?_,h.chain,h.play,h.tabs.dropTab h1 hs.newest hno⟩
 rw [PF,Kc]
 rw [DA]
 intro x hx e
 have:=(He.1 hx).2
 rw [e,KI] at this
 exact this rfl
end
section
open Go.RowKit Go.Maps Go.Sort
theorem JH {k : Key} {d : List UInt8} {l : List (Key × Ae)} (hn : Am k l = none) (hd : d ≠ []) : Am k (Cg k d l) = some (FV d):=by
 unfold Cg
 rw [if_neg hd,hn]
 simp only
 rw [J3,if_pos rfl]
 · rfl
 · exact hn
theorem WX {l : List (Key × Ae)} {A : List Bo} {c : Nat} {r : A9} {X : List A9} (hr : AC l) (h : Fc (Cg (Af LOG c) (Ai r.bytes) l) A) (hn : Am (Af LOG c) l = none) (hc : DD A c true) (h1 : 1 <= c) (h2 : c <= limC) (hX : Bg A = X ++ [r]) :
 ∃ B rs,A = B ++ [(c,rs ++ [r],[])] /\ ∀ x ∈ B,x.1 < c:=by
 have hf:=KX (GF hr) h hc h1 h2
 have hp:=Fh r.bytes
 rw [JH hn (fun e => by rw [e] at hp; simp at hp)] at hf
 unfold DD at hc
 simp only [↓reduceIte] at hc hf
 obtain ⟨B,rs,rfl,hB⟩:=hc
 rw [List.getLastD_concat] at hf
 simp only at hf
 rcases List.eq_nil_or_concat rs with rfl | ⟨rs0,z,rfl⟩
 · injection hf with hf
   have:=congrArg Ae.bytes hf
   have e : Ai r.bytes = []:=this
   rw [e] at hp; simp at hp
 · rw [List.concat_eq_append] at hX ⊢
   rw [Dk] at hX
   have e2 : Bg [((c,rs0 ++ [z],[]) : Bo)] = rs0 ++ [z]:=by simp [Bg]
   rw [e2,<- List.append_assoc] at hX
   have:=List.append_inj_right' hX rfl
   injection this with this _
   subst this
   exact ⟨B,rs0,rfl,hB⟩
inductive Y6 (S : Bx) (st : AQ) (P : Nat -> List UInt8 -> Prop) (c : Nat) (rs : List A9) : Bx × Int -> Prop
 | ok (S' : Bx) (hd : S'.down = false) (hr : BR S S') (hz : zF S'.files = zF S.files) (hw : weigh S'.files <= weigh S.files) (hD : AZ S'.files st [(c,rs,[])] P) : Y6 S st P c rs (S',0)
 | no (S1 : Bx) (B : List Bo) (h0 : 0 <= S.fuel) (hz : zF S1.files = zF S.files) (hw : weigh S1.files <= weigh S.files) (hB : ∀ x ∈ B,x.1 < c) (hD : AZ S1.files st (B ++ [(c,rs,[])]) P) : Y6 S st P c rs (S1.fall,30)
theorem Ty {st : AQ} {P : Nat -> List UInt8 -> Prop} {c : Nat} {rs : List A9} {r : A9} (hb : r.base ≠ none) (u : Int) (hu : u + 1 = (c : Int)) : ∀ (B : List Bo) (S : Bx),S.down = false -> (∀ x ∈ B,x.1 < c) -> AZ S.files st (B ++ [(c,rs ++ [r],[])]) P -> Y6 S st P c (rs ++ [r]) (BK LOG u (List.map (fun x : Bo => x.1) (B ++ [((c,rs ++ [r],[]) : Bo)])) S)
 | [],S,hd,hB,hD => by
   have e : BK LOG u (List.map (fun x : Bo => x.1) ([] ++ [((c,rs ++ [r],[]) : Bo)])) S = (S,0):=by
    show BK LOG u [c] S = _
    unfold BK
    rw [if_pos (by omega)]
   rw [e]
   exact .ok S hd (BR.refl S) rfl (Nat.le_refl _) hD
 | a :: B,S,hd,hB,hD => by
   have ha:=hB a (by simp)
   have hn:=hD.segs.num a (by simp)
   have hm : GG a ∈ Bu LOG S.files:=by rw [hD.segs.segs]; exact List.mem_map.2 ⟨a,by simp,rfl⟩
   have hf:=KY hD.rising (He.1 hm).1
   have hB' : Bg (B ++ [((c,rs ++ [r],[]) : Bo)]) = (Bg B ++ rs) ++ [r]:=by rw [Dk]; simp [Bg]
   have hdr:=WN (a:=a) (A:=B ++ [(c,rs ++ [r],[])]) hD hb hB'
   have e0 : BK LOG u (List.map (fun x : Bo => x.1) ((a :: B) ++ [((c,rs ++ [r],[]) : Bo)])) S = if (S.delete (Af LOG a.1)).2 = 0 then BK LOG u (List.map (fun x : Bo => x.1) (B ++ [((c,rs ++ [r],[]) : Bo)])) (S.delete (Af LOG a.1)).1 else S.delete (Af LOG a.1):=by
    rw [List.cons_append,List.map_cons]
    conv => lhs; unfold BK
    rw [if_neg (by omega)]
   rw [e0]
   cases Oa (S:=S) (n:=Af LOG a.1) (f:=(GG a).2) hd hf with
   | no h0 e =>
     rw [e,if_neg (show ¬ ((30 : Int) = 0) by decide)]
     exact .no S (a :: B) (by omega) rfl (Nat.le_refl _) hB hD
   | yes S2 e hf2 hd2 hr2 =>
     rw [e,if_pos rfl]
     have hz2 : zF S2.files = zF S.files:=by rw [hf2,VU (ND a.1)]
     have hw2 : weigh S2.files <= weigh S.files:=by rw [hf2]; exact OA _ _
     have ih:=Ty hb u hu B S2 hd2 (fun x hx => hB x (by simp [hx])) (by rw [hf2]; exact hdr)
     generalize BK LOG u (List.map (fun x : Bo => x.1) (B ++ [((c,rs ++ [r],[]) : Bo)])) S2 = R at ih
     cases ih with
     | ok S' k1 k2 k3 k4 k5 => exact .ok S' k1 (hr2.trans k2) (k3.trans hz2) (Nat.le_trans k4 hw2) k5
     | no S1 B' k1 k2 k3 k4 k5 =>
       refine .no S1 B' ?_ (k2.trans hz2) (Nat.le_trans k3 hw2) k4 k5
       rcases Int.lt_or_le S.fuel 0 with h | h
       · have:=hr2.1 h; omega
       · exact h
theorem OpF.of {l : List (Key × Ae)} {st : AQ} {A : List Bo} {P : Nat -> List UInt8 -> Prop} {m : List Aa} {n c : Nat} (hD : AZ l st A P) (hP : ∀ k b,P k b -> IL st k b) (hs : AV st) (hf : Gs st n) (hm : m = st.map) (hA : ∀ a ∈ A,a.1 <= c) (hc : c <= 2 * n + 1) : OpF l m n:=
 ⟨st,A,hD.mono hP,hs,hf,hm,fun a ha => Nat.le_trans (hA a ha) hc⟩
theorem DD.le {A : List Bo} {c : Nat} {ap : Bool} (h : DD A c ap) : ∀ x ∈ A,x.1 <= c:=fun x hx => by
 unfold DD at h
 cases ap with
 | true =>
   simp only [↓reduceIte] at h
   obtain ⟨B,rs,rfl,hB⟩:=h
   rcases List.mem_append.1 hx with hx | hx
   · exact Nat.le_of_lt (hB x hx)
   · rw [List.mem_singleton.1 hx]; exact Nat.le_refl _
 | false =>
   simp only [Bool.false_eq_true,↓reduceIte] at h
   exact Nat.le_of_lt (h x hx)
theorem DD.new {A : List Bo} {c : Nat} {ap : Bool} (h : DD A c ap) : DD A (c + 1) false:=by
 have:=h.le
 unfold DD
 simp only [Bool.false_eq_true,↓reduceIte]
 exact fun x hx => Nat.lt_succ_of_le (this x hx)
theorem OpF.ne {l : List (Key × Ae)} {m : List Aa} {n : Nat} (h : OpF l m n) : OpF (ne9 l) m n:=by
 obtain ⟨st,A,h1,h2⟩:=h
 exact ⟨st,A,h1.ne,h2⟩
theorem YV {l : List (Key × Ae)} : ∀ x ∈ zF (ne9 l),x ∈ zF l:=fun x hx => by
 unfold zF ne9 at *
 obtain ⟨h1,h2⟩:=List.mem_filter.1 hx
 exact List.mem_filter.2 ⟨(List.mem_filter.1 h1).1,h2⟩
def Cn (l : List (Key × Ae)) (z : List (Key × Ae)) (ms : List (List Aa)) (n : Nat) : Prop:=∀ keep,(∃ m ∈ ms,OpF (AY keep l).1 m n) /\ ∀ x ∈ zF (AY keep l).1,x ∈ z
theorem Cn.firm {l z : List (Key × Ae)} {m : List Aa} {ms : List (List Aa)} {n : Nat} (h : OpF l m n) (hm : m ∈ ms) (hz : zF l = z) : Cn l z ms n:=fun keep => by
 have hne:=h.ne
 obtain ⟨st,A,h1,h2⟩:=h
 rw [Je h1.rising h1.firm]
 exact ⟨⟨m,hm,hne⟩,fun x hx => by rw [<- hz]; exact YV x hx⟩
theorem Cn.part {l z : List (Key × Ae)} {k : Key} {d : List UInt8} {ms : List (List Aa)} {n : Nat} (hr : AC l) (hf : Dj l) (hk : zK k = false) (hz : zF l = z) (h : ∀ i,i <= d.length -> ∃ m ∈ ms,OpF (Cg k (d.take i) l) m n) : Cn (Eq k d l) z ms n:=fun keep => by
 obtain ⟨i,hi,e⟩:=U6 (keep:=keep) (k:=k) (d:=d) hr hf hk
 rw [e]
 obtain ⟨m,hm,ho⟩:=h i hi
 refine ⟨⟨m,hm,ho.ne⟩,fun x hx => ?_⟩
 have:=YV x hx
 rw [MD hk] at this
 rw [<- hz]; exact this
theorem Cn.mono {l z : List (Key × Ae)} {ms ms' : List (List Aa)} {n : Nat} (h : Cn l z ms n) (hm : ∀ m ∈ ms,m ∈ ms') : Cn l z ms' n:=fun keep => by
 obtain ⟨⟨m,h1,h2⟩,h3⟩:=h keep
 exact ⟨⟨m,hm m h1,h2⟩,h3⟩
end
section
open Go.RowKit Go.Maps Go.Sort
theorem CV.nums {rs : List A9} (h : CV rs) (h0 : 0 < rs.length) : ∀ i (hi : i < rs.length),rs[i].num = rs[0].num + i
 | 0,_ => rfl
 | i + 1,hi => by rw [h.next i hi,CV.nums h h0 i (by omega)]; omega
theorem CV.few {rs : List A9} (h : CV rs) : rs.length <= 1000000:=by
 by_cases h0 : 0 < rs.length
 · have h1:=h.nums h0 (rs.length - 1) (by omega)
   have h2:=(h.ok _ (List.getElem_mem (show rs.length - 1 < rs.length by omega))).num
   have h3:=(h.ok _ (List.getElem_mem h0)).one
   unfold limC at h2
   omega
 · omega
theorem CV.succ {rs : List A9} (h : CV rs) {i : Nat} (hi : i < rs.length) (h0 : 0 < i) : rs[i].num = (BU (rs.take i)).last + 1:=by
 obtain ⟨j,rfl⟩ : ∃ j,i = j + 1:=⟨i - 1,by omega⟩
 rw [Np (by omega),h.next j hi]
theorem Mr {rs : List A9} (h : ∀ r ∈ rs,ER r) : ∀ i,i <= rs.length -> (BU (rs.take i)).mem.length <= 4096 * i /\ At (BU (rs.take i)).mem <= 530000 * i /\ (BU (rs.take i)).logged <= 1048576 * i /\ (BU (rs.take i)).last <= limC /\ (BU (rs.take i)).newest <= limC /\ (BU (rs.take i)).k <= 3
 | 0,_ => by
   rw [List.take_zero]
   exact ⟨Nat.le_refl _,Nat.le_refl _,Nat.le_refl _,Nat.zero_le _,Nat.zero_le _,Nat.zero_le _⟩
 | i + 1,hi => by
   obtain ⟨h1,h2,h3,h4,h5,h6⟩:=Mr h i (by omega)
   have hr:=h _ (List.getElem_mem (show i < rs.length by omega))
   have hl:=A9.len hr
   have hn:=hr.num
   have hf:=hr.few
   have hs:=hr.size
   have hb:=hr.base
   rw [JQ (by omega)]
   generalize rs[i] = r at *
   unfold FK
   cases hbs : r.base with
   | none =>
     simp only
     have o1:=overP_len r.ps (BU (rs.take i)).mem
     have o2:=size_over r.ps (BU (rs.take i)).mem
     exact ⟨by omega,by omega,by omega,hn,h5,h6⟩
   | some x =>
     obtain ⟨a,k⟩:=x
     simp only
     obtain ⟨b1,b2,b3⟩:=hb a k hbs
     have o1:=overP_len r.ps []
     have o2:=size_over r.ps []
     have e1 : ([] : List Aa).length = 0:=rfl
     have e2 : At [] = 0:=rfl
     exact ⟨by omega,by omega,Nat.zero_le _,hn,b1,b2⟩
def basedB (rs : List A9) : Nat -> Bool
 | 0 => true
 | i + 1 => match rs[i]? with
   | some r => r.base.isSome || (if i = 0 then decide (r.num = 1) else basedB rs i)
   | none => true
theorem GE {rs : List A9} {i : Nat} (hi : i < rs.length) : basedB rs (i + 1) = (rs[i].base.isSome || (if i = 0 then decide (rs[i].num = 1) else basedB rs i)):=by
 conv => lhs; unfold basedB
 rw [List.getElem?_eq_getElem hi]
theorem Jh {rs : List A9} {j : Nat} (h : basedB rs (j + 1) = true) : ∀ i,j + 1 <= i -> i <= rs.length -> basedB rs i = true
 | 0,h1,_ => by omega
 | i + 1,h1,h2 => by
   by_cases e : i = j
   · rw [e]; exact h
   · have ih:=Jh h i (by omega) (by omega)
     rw [GE (by omega),if_neg (by omega),ih,Bool.or_true]
theorem CV.basedB {rs : List A9} (h : CV rs) : Go.Proofs.YtnafjlhohbhcoaaGreatDoor.basedB rs rs.length = true:=by
 rcases h.based with rfl | ⟨h0,h1⟩ | ⟨r,hr,hb⟩
 · rfl
 · refine Jh (j:=0) ?_ _ (by omega) (Nat.le_refl _)
   rw [GE h0,if_pos rfl,h1]
   simp
 · obtain ⟨j,hj,rfl⟩:=List.mem_iff_getElem.1 hr
   refine Jh (j:=j) ?_ _ (by omega) (Nat.le_refl _)
   rw [GE hj]
   cases hc : rs[j].base with
   | none => exact absurd hc hb
   | some x => rfl
theorem AZ.nrec {l : List (Key × Ae)} {st : AQ} {A : List Bo} {P : Nat -> List UInt8 -> Prop} (h : AZ l st A P) : (Dy LOG l).length = (Bg A).length:=by rw [h.segs.recs,List.length_map]
end
end Go.Proofs.YtnafjlhohbhcoaaGreatDoor
