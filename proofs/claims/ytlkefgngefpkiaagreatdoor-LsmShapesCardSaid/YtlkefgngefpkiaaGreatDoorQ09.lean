/- Parts of the proof. -/
import Derived.Test.YtlkefgngefpkiaaGreatDoorQ08
import Derived.Test.YtlkefgngefpkiaaGreatDoorQ04
namespace Go.Proofs.YtlkefgngefpkiaaGreatDoor
set_option linter.unusedVariables false
section
open Go.RowKit
end
section
open Go.RowKit
def Bo (ls : List (List Aa)) : Nat:=(ls.map List.length).sum
def revP (ls : List (List Aa)) (i : Nat) : List Aa:=(ls.drop i).reverse.flatten
def Cg (ls : List (List Aa)) : List Aa:=Aby (revP ls 0)
end
section
open Go.RowKit
end
section
def AQ (l T : List Aa) : List Aa:=l.foldl (fun l x => EH x l) T
theorem Gr (x : Aa) (r T : List Aa) : AQ (x :: r) T = AQ r (EH x T):=rfl
theorem overP_rising : ∀ (l : List Aa) {T : List Aa},Aj T -> Aj (AQ l T)
 | [],_,h => h
 | x :: r,_,h => overP_rising r (Iu h)
theorem Iv (l : List Aa) {T : List Aa} (h : Az T) : Az (AQ l T):=puts_fine l T h
theorem overP_len : ∀ (l T : List Aa),(AQ l T).length <= T.length + l.length
 | [],T => Nat.le_refl _
 | x :: r,T => by
   have h1:=overP_len r (EH x T)
   have h2:=Wf x T
   rw [Gr,List.length_cons]
   omega
theorem mem_overP : ∀ (l : List Aa) {T : List Aa},Aj T -> Aj l -> Az l -> ∀ y,y ∈ AQ l T ↔ y ∈ l \/ (y ∈ T /\ ∀ z ∈ l,z.key ≠ y.key)
 | [],T,_,_,_,y => by simp [AQ]
 | x :: r,T,hT,hl,hf,y => by
   have hx : Av x = 0:=hf x (by simp)
   have hp : EH x T = Cn x T:=if_pos hx
   have hl2:=List.pairwise_cons.1 hl
   have hne : ∀ z ∈ r,z.key ≠ x.key:=fun z hz e => by
    have:=hl2.1 z hz
    rw [e,Br] at this
    cases this
   rw [Gr,mem_overP r (Iu hT) hl2.2 (fun z hz => hf z (by simp [hz])) y,hp,BM hT]
   constructor
   · rintro (h | ⟨rfl | ⟨h1,h2⟩,h3⟩)
     · exact .inl (by simp [h])
     · exact .inl (by simp)
     · refine .inr ⟨h1,fun z hz => ?_⟩
       rcases List.mem_cons.1 hz with rfl | hz
       · exact fun e => h2 e.symm
       · exact h3 z hz
   · rintro (h | ⟨h1,h2⟩)
     · rcases List.mem_cons.1 h with rfl | h
       · exact .inr ⟨.inl rfl,hne⟩
       · exact .inl h
     · exact .inr ⟨.inr ⟨h1,fun e => h2 x (by simp) e.symm⟩,fun z hz => h2 z (by simp [hz])⟩
theorem allP_nil : Cg [] = []:=rfl
theorem CN (l : List Aa) (r : List (List Aa)) : Cg (l :: r) = AQ l (Cg r):=by
 unfold Cg revP Aby AQ
 simp [List.foldl_append]
theorem allP_rising : ∀ L : List (List Aa),Aj (Cg L)
 | [] => List.Pairwise.nil
 | l :: r => by rw [CN]; exact overP_rising l (allP_rising r)
theorem allP_fine : ∀ L : List (List Aa),Az (Cg L)
 | [] => fun _ h => by cases h
 | l :: r => by rw [CN]; exact Iv l (allP_fine r)
theorem allP_len : ∀ L : List (List Aa),(Cg L).length <= Bo L
 | [] => Nat.zero_le _
 | l :: r => by
   have h1:=allP_len r
   have h2:=overP_len l (Cg r)
   rw [CN]
   unfold Bo at h1 ⊢
   rw [List.map_cons,List.sum_cons]
   omega
theorem Qh (a b : List (List Aa)) : Bo (a ++ b) = Bo a + Bo b:=by
 unfold Bo
 rw [List.map_append,List.sum_append]
def BP (L : List (List Aa)) : Prop:=∀ l ∈ L,Aj l /\ Az l
theorem BP.cons {l : List Aa} {r : List (List Aa)} (h : BP (l :: r)) : (Aj l /\ Az l) /\ BP r:=⟨h l (by simp),fun m hm => h m (by simp [hm])⟩
theorem Bj {l : List Aa} {r : List (List Aa)} (h : BP (l :: r)) (y : Aa) : y ∈ Cg (l :: r) ↔ y ∈ l \/ (y ∈ Cg r /\ ∀ z ∈ l,z.key ≠ y.key):=by
 rw [CN]
 exact mem_overP l (allP_rising r) h.cons.1.1 h.cons.1.2 y
theorem allP_append : ∀ {A B : List (List Aa)},BP A -> Cg (A ++ B) = AQ (Cg A) (Cg B)
 | [],B,_ => rfl
 | l :: A,B,h => by
   have ih:=allP_append (B:=B) h.cons.2
   have hA:=allP_rising A
   have hB:=allP_rising B
   have hAf:=allP_fine A
   rw [List.cons_append,CN,ih,CN]
   refine rising_ext (overP_rising _ (overP_rising _ hB)) (overP_rising _ hB) fun y => ?_
   rw [mem_overP l (overP_rising _ hB) h.cons.1.1 h.cons.1.2,mem_overP _ hB hA hAf,mem_overP _ hB (overP_rising _ hA) (Iv _ hAf),mem_overP l hA h.cons.1.1 h.cons.1.2]
   constructor
   · rintro (h1 | ⟨h1 | ⟨h1,h2⟩,h3⟩)
     · exact .inl (.inl h1)
     · exact .inl (.inr ⟨h1,h3⟩)
     · refine .inr ⟨h1,fun z hz => ?_⟩
       rcases (mem_overP l hA h.cons.1.1 h.cons.1.2 z).1 hz with hz | ⟨hz,_⟩
       · exact h3 z hz
       · exact h2 z hz
   · rintro ((h1 | ⟨h1,h2⟩) | ⟨h1,h2⟩)
     · exact .inl h1
     · exact .inr ⟨.inl h1,h2⟩
     · have k1 : ∀ z ∈ l,z.key ≠ y.key:=fun z hz => h2 z ((mem_overP l hA h.cons.1.1 h.cons.1.2 z).2 (.inl hz))
       refine .inr ⟨.inr ⟨h1,fun z hz e => ?_⟩,k1⟩
       exact h2 z ((mem_overP l hA h.cons.1.1 h.cons.1.2 z).2 (.inr ⟨hz,fun u hu eu => k1 u hu (eu.trans e)⟩)) e
theorem J0 {l : List Aa} (hr : Aj l) (hf : Az l) : AQ l [] = l:=
 rising_ext (overP_rising l List.Pairwise.nil) hr fun y => by
  rw [mem_overP l List.Pairwise.nil hr hf]
  simp
def Jb (l : List Aa) : ByteArray:=match l.getLast? with | some x => x.key | none => ⟨#[]⟩
theorem Mg (l : List Aa) (x : Aa) : Jb (l ++ [x]) = x.key:=by simp [Jb]
end
section
def CZ (a : List Aa) (p : Aa) : List Aa:=a.takeWhile fun q => AR q.key p.key
def Df (a : List Aa) (p : Aa) : List Aa:=a.dropWhile fun q => AR q.key p.key
theorem Hq (a : List Aa) (p : Aa) : CZ a p ++ Df a p = a:=List.takeWhile_append_dropWhile
def Ea (a : List Aa) (p : Aa) : Aa × List Aa:=
 match a with
 | [] => (p,[])
 | q :: r => if q.key = p.key then (q,r) else (p,q :: r)
def Dq (s : List Aa × List Aa) (p : Aa) : List Aa × List Aa:=(s.1 ++ CZ s.2 p ++ [(Ea (Df s.2 p) p).1],(Ea (Df s.2 p) p).2)
def CV (a pre : List Aa) : List Aa × List Aa:=pre.foldl Dq ([],a)
theorem P9 (a pre : List Aa) (x : Aa) : CV a (pre ++ [x]) = Dq (CV a pre) x:=by unfold CV; rw [List.foldl_append]; rfl
def Gl (a b : List Aa) : List Aa:=(CV a b).1 ++ (CV a b).2
theorem UM (r : List Aa) : ∀ (s : List Aa × List Aa),∃ t,(r.foldl Dq s).1 = s.1 ++ t:=by
 induction r with
 | nil => exact fun s => ⟨[],by simp⟩
 | cons p r ih =>
   intro s
   obtain ⟨t,ht⟩:=ih (Dq s p)
   refine ⟨CZ s.2 p ++ [(Ea (Df s.2 p) p).1] ++ t,?_⟩
   rw [List.foldl_cons,ht]
   simp [Dq]
theorem Mv {a b pre : List Aa} (h : pre <+: b) : (CV a pre).1 <+: Gl a b:=by
 obtain ⟨r,rfl⟩:=h
 unfold Gl CV
 rw [List.foldl_append]
 obtain ⟨t,ht⟩:=UM r (pre.foldl Dq ([],a))
 rw [ht,List.append_assoc]
 exact List.prefix_append _ _
theorem TI {a b pre : List Aa} {x : Aa} (h : pre ++ [x] <+: b) {i : Nat} (hi : i <= (CZ (CV a pre).2 x).length) : (CV a pre).1 ++ (CV a pre).2.take i <+: Gl a b:=by
 refine List.IsPrefix.trans ?_ (Mv h)
 rw [P9]
 unfold Dq
 have e : (CV a pre).2.take i = (CZ (CV a pre).2 x).take i:=by
  conv => lhs; rw [<- Hq (CV a pre).2 x]
  rw [List.take_append_of_le_length hi]
 rw [e]
 refine ⟨(CZ (CV a pre).2 x).drop i ++ [(Ea (Df (CV a pre).2 x) x).1],?_⟩
 simp only [List.append_assoc]
 rw [<- List.append_assoc (List.take i _),List.take_append_drop]
theorem R9 {a b : List Aa} (i : Nat) : (CV a b).1 ++ (CV a b).2.take i <+: Gl a b:=by
 unfold Gl
 refine ⟨(CV a b).2.drop i,?_⟩
 rw [List.append_assoc,List.take_append_drop]
def mixR : List Aa -> List Aa -> List Aa
 | a,[] => a
 | a,p :: r => CZ a p ++ (Ea (Df a p) p).1 :: mixR (Ea (Df a p) p).2 r
theorem XE (r : List Aa) : ∀ (s : List Aa × List Aa),(r.foldl Dq s).1 ++ (r.foldl Dq s).2 = s.1 ++ mixR s.2 r:=by
 induction r with
 | nil => exact fun s => rfl
 | cons p r ih =>
   intro s
   rw [List.foldl_cons,ih]
   simp [Dq,mixR]
theorem Abe (a b : List Aa) : Gl a b = mixR a b:=by
 have:=XE b ([],a)
 rw [List.nil_append] at this
 exact this
theorem AaT {a : List Aa} (hr : Aj a) (p : Aa) : ∀ z ∈ Df a p,AR z.key p.key = false:=by
 induction a with
 | nil => intro z hz; cases hz
 | cons q r ih =>
   have h2:=List.pairwise_cons.1 hr
   intro z hz
   unfold Df at hz ih
   rw [List.dropWhile_cons] at hz
   by_cases hq : AR q.key p.key = true
   · rw [if_pos hq] at hz
     exact ih h2.2 z hz
   · rw [if_neg hq] at hz
     have hq' : AR q.key p.key = false:=by simpa using hq
     rcases List.mem_cons.1 hz with rfl | hz
     · exact hq'
     · cases hc : AR z.key p.key with
       | false => rfl
       | true => rw [BY (h2.1 z hz) hc] at hq'; cases hq'
theorem Yo (a : List Aa) (p : Aa) : ∀ z ∈ CZ a p,AR z.key p.key = true:=fun z hz => by
 unfold CZ at hz
 exact List.all_eq_true.1 List.all_takeWhile z hz
theorem WM {a : List Aa} (hr : Aj a) {p : Aa} (hg : ∀ z ∈ a,AR z.key p.key = false) :
 (Ea a p).1.key = p.key /\ Aj (Ea a p).2 /\ (∀ z ∈ (Ea a p).2,AR p.key z.key = true) /\ ∀ y,(y ∈ a ↔ (y = (Ea a p).1 /\ (Ea a p).1 ∈ a) \/ y ∈ (Ea a p).2) /\ (y = (Ea a p).1 -> ¬ y ∈ a -> y = p /\ ∀ z ∈ a,z.key ≠ p.key):=by
 cases a with
 | nil => exact ⟨rfl,List.Pairwise.nil,fun z hz => (by cases hz),fun y => ⟨by simp [Ea],fun h _ => ⟨h,fun z hz => (by cases hz)⟩⟩⟩
 | cons q r =>
   have h2:=List.pairwise_cons.1 hr
   by_cases hk : q.key = p.key
   · have e : Ea (q :: r) p = (q,r):=if_pos hk
     rw [e]
     refine ⟨hk,h2.2,fun z hz => hk ▸ h2.1 z hz,fun y => ⟨by simp,fun h hn => absurd (by simp [h]) hn⟩⟩
   · have e : Ea (q :: r) p = (p,q :: r):=if_neg hk
     have hq : AR p.key q.key = true:=G3 hk (hg q (by simp))
     have hall : ∀ z ∈ q :: r,AR p.key z.key = true:=fun z hz => by
      rcases List.mem_cons.1 hz with rfl | hz
      · exact hq
      · exact BY hq (h2.1 z hz)
     have hne : ∀ z ∈ q :: r,z.key ≠ p.key:=fun z hz e2 => by
      have:=hall z hz
      rw [e2,Br] at this
      cases this
     rw [e]
     refine ⟨rfl,hr,hall,fun y => ⟨?_,fun h hn => ⟨h,hne⟩⟩⟩
     constructor
     · exact fun h => .inr h
     · rintro (⟨rfl,h⟩ | h)
       · exact h
       · exact h
theorem UN {a b : List Aa} (ha : Aj a) (hb : Aj b) (h : ∀ x ∈ a,∀ y ∈ b,AR x.key y.key = true) : Aj (a ++ b):=List.pairwise_append.2 ⟨ha,hb,h⟩
theorem mixR_all : ∀ (b : List Aa) {a : List Aa},Aj a -> Aj b -> Aj (mixR a b) /\ ∀ y,y ∈ mixR a b ↔ y ∈ a \/ (y ∈ b /\ ∀ z ∈ a,z.key ≠ y.key)
 | [],a,ha,_ => ⟨ha,fun y => by simp [mixR]⟩
 | p :: r,a,ha,hb => by
   have hb2:=List.pairwise_cons.1 hb
   have hlr:=Hq a p
   have hra : Aj (CZ a p ++ Df a p):=by rw [hlr]; exact ha
   have hra2:=List.pairwise_append.1 hra
   have hge:=AaT ha p
   have hlt:=Yo a p
   obtain ⟨hk,hr2,hgt,hsp⟩:=WM hra2.2.1 hge
   have hmem : ∀ y,y ∈ a ↔ y ∈ CZ a p \/ y ∈ Df a p:=fun y => by
    have:=congrArg (fun l => y ∈ l) hlr
    simp only [List.mem_append] at this
    exact iff_of_eq this.symm
   obtain ⟨ih1,ih2⟩:=mixR_all r hr2 hb2.2
   generalize hh : Ea (Df a p) p = hd at *
   have hbig : ∀ y ∈ mixR hd.2 r,AR p.key y.key = true:=fun y hy => by
    rcases (ih2 y).1 hy with h | ⟨h,_⟩
    · exact hgt y h
    · exact hb2.1 y h
   have hunf : mixR a (p :: r) = CZ a p ++ hd.1 :: mixR hd.2 r:=by rw [<- hh]; rfl
   rw [hunf]
   refine ⟨UN hra2.1 (List.pairwise_cons.2 ⟨fun y hy => by rw [hk]; exact hbig y hy,ih1⟩) fun x hx y hy => ?_,fun y => ?_⟩
   · rcases List.mem_cons.1 hy with rfl | hy
     · rw [hk]; exact hlt x hx
     · exact BY (hlt x hx) (hbig y hy)
   · have hlow : ∀ z ∈ CZ a p,z.key ≠ p.key:=fun z hz e => by
       have:=hlt z hz
       rw [e,Br] at this
       cases this
     rw [List.mem_append,List.mem_cons,ih2 y]
     constructor
     · rintro (h | h | h | ⟨h1,h2⟩)
       · exact .inl ((hmem y).2 (.inl h))
       · by_cases hin : y ∈ Df a p
         · exact .inl ((hmem y).2 (.inr hin))
         · obtain ⟨e1,e2⟩:=(hsp y).2 h hin
           refine .inr ⟨by simp [e1],fun z hz => ?_⟩
           rw [e1]
           rcases (hmem z).1 hz with hz | hz
           · exact hlow z hz
           · exact e2 z hz
       · exact .inl ((hmem y).2 (.inr ((hsp y).1.2 (.inr h))))
       · refine .inr ⟨by simp [h1],fun z hz e => ?_⟩
         rcases (hmem z).1 hz with hz | hz
         · have:=BY (hlt z hz) (hb2.1 y h1)
           rw [e,Br] at this
           cases this
         · rcases (hsp z).1.1 hz with ⟨h3,_⟩ | h3
           · have:=hb2.1 y h1
             rw [<- e,h3,hk,Br] at this
             cases this
           · exact h2 z h3 e
     · rintro (h | ⟨h1,h2⟩)
       · rcases (hmem y).1 h with h | h
         · exact .inl h
         · rcases (hsp y).1.1 h with ⟨h3,_⟩ | h3
           · exact .inr (.inl h3)
           · exact .inr (.inr (.inl h3))
       · rcases List.mem_cons.1 h1 with rfl | h1
         · refine .inr (.inl ?_)
           have hn : ¬ hd.1 ∈ Df a y:=fun hin => h2 hd.1 ((hmem _).2 (.inr hin)) hk
           exact ((hsp hd.1).2 rfl hn).1.symm
         · refine .inr (.inr (.inr ⟨h1,fun z hz => h2 z ((hmem z).2 (.inr ((hsp z).1.2 (.inr hz))))⟩))
theorem Xv {a b : List Aa} (ha : Aj a) (hb : Aj b) (hf : Az a) : Gl a b = AQ a b:=by
 obtain ⟨h1,h2⟩:=mixR_all b ha hb
 rw [Abe]
 refine rising_ext h1 (overP_rising a hb) fun y => ?_
 rw [h2 y,mem_overP a hb ha hf]
theorem Aas (r : List Aa) : ∀ (s : List Aa × List Aa),(r.foldl Dq s).2.length <= s.2.length:=by
 induction r with
 | nil => exact fun s => Nat.le_refl _
 | cons p r ih =>
   intro s
   rw [List.foldl_cons]
   refine Nat.le_trans (ih _) ?_
   have h:=Hq s.2 p
   have h2 : (Ea (Df s.2 p) p).2.length <= (Df s.2 p).length:=by
    cases Df s.2 p with
    | nil => exact Nat.le_refl _
    | cons q r =>
      unfold Ea
      simp only
      split
      · simp
      · simp
   have h3 : s.2.length = (CZ s.2 p).length + (Df s.2 p).length:=by
    have:=congrArg List.length h
    rw [List.length_append] at this
    exact this.symm
   show (Ea (Df s.2 p) p).2.length <= _
   omega
theorem Zm (a pre : List Aa) : (CV a pre).2.length <= a.length:=Aas pre ([],a)
theorem Wo {a : List Aa} {p q : Aa} {r : List Aa} (h : Df a p = q :: r) : AR q.key p.key = false:=by
 have:=List.head?_dropWhile_not (fun q : Aa => AR q.key p.key) a
 unfold Df at h
 rw [h] at this
 simpa using this
theorem AbD {a : List Aa} {p q : Aa} {r : List Aa} {i : Nat} (hi : i <= (CZ a p).length) (hd : a.drop i = q :: r) : (AR q.key p.key = true -> i + 1 <= (CZ a p).length) /\ (AR q.key p.key = false -> i = (CZ a p).length):=by
 have hlr:=Hq a p
 by_cases hlt : i < (CZ a p).length
 · have h2 : (CZ a p).drop i = (CZ a p)[i] :: (CZ a p).drop (i + 1):=List.drop_eq_getElem_cons hlt
   have h3 : a.drop i = (CZ a p)[i] :: ((CZ a p).drop (i + 1) ++ Df a p):=by
    conv => lhs; rw [<- hlr]
    rw [List.drop_append_of_le_length (Nat.le_of_lt hlt),h2]
    rfl
   rw [h3] at hd
   injection hd with hq _
   have:=Yo a p _ (List.getElem_mem hlt)
   rw [hq] at this
   exact ⟨fun _ => hlt,fun h => by rw [h] at this; cases this⟩
 · have he : i = (CZ a p).length:=by omega
   refine ⟨fun h => ?_,fun _ => he⟩
   have h3 : a.drop i = Df a p:=by
    conv => lhs; rw [<- hlr]
    rw [he,List.drop_left]
   rw [h3] at hd
   rw [Wo hd] at h
   cases h
theorem AaM {a : List Aa} {p : Aa} {i : Nat} (hi : i <= (CZ a p).length) (hd : a.drop i = []) : i = (CZ a p).length:=by
 have h1 : a.length <= i:=List.drop_eq_nil_iff.1 hd
 have h2:=congrArg List.length (Hq a p)
 rw [List.length_append] at h2
 omega
theorem KO (a : List Aa) (p : Aa) : a.take (CZ a p).length = CZ a p /\ a.drop (CZ a p).length = Df a p:=by
 have hlr:=Hq a p
 generalize CZ a p = lo at *
 generalize Df a p = hi at *
 subst hlr
 exact ⟨List.take_left,List.drop_left⟩
end
section
open Go.RowKit
theorem Nj {l : List Aa} {i : Nat} (h0 : l.length ≠ 0) (h1 : ¬ 64 < l.length) (hi : i < l.length) (hb : ∀ x ∈ l.take i,Av x = 0) (hw : Av l[i] ≠ 0) : A4 l = Av l[i]:=by
 have e : l.find? (fun x => Av x != 0) = some l[i]:=by
  conv => lhs; rw [<- List.take_append_drop i l,List.find?_append]
  rw [List.find?_eq_none.2 (fun x hx => by simpa using hb x hx),List.drop_eq_getElem_cons hi,List.find?_cons_of_pos (by simpa using hw)]
  rfl
 unfold A4
 rw [if_neg h0,if_neg h1,e]
theorem Nz {l : List Aa} (h0 : l.length ≠ 0) (h1 : ¬ 64 < l.length) (hb : ∀ x ∈ l,Av x = 0) : A4 l = 0:=by
 unfold A4
 rw [if_neg h0,if_neg h1,List.find?_eq_none.2 (fun x hx => by simpa using hb x hx)]
set_option maxHeartbeats 1000000 in
set_option maxRecDepth 100000 in
theorem Mr {w : World} {a : Option Addr} {c : Nat} {l : List Aa} (h : Ao w (.slice a l.length c) l) :
 Calls Tryz.prog 14 #[.slice a l.length c] w fun e w' => e = .returned (.int .i64 (A4 l : Nat)) /\ Below w.heap.size w w':=by
 have hmx : l.length <= 9223372036854775807:=by have:=h.1; unfold maxLen at this; omega
 have H:=Lib.hid h
 clear h
 by_cases h0 : l.length = 0
 · have hg : ((l.length : Int) == 0) = true:=by rw [h0]; rfl
   have HE : Hid (A4 l = 1):=if_pos h0
   clear h0
   go_enter Tryz.func14,Tryz.ntmps14
   go_wp2
   go_ret
   exact ⟨by rw [HE.out]; rfl,Below.refl _ _⟩
 by_cases h1 : 64 < l.length
 · have hg : ((l.length : Int) == 0) = false:=by simpa using h0
   have hg2 : (64 : Int) < (l.length : Int):=by omega
   have HE : Hid (A4 l = 2):=by show A4 l = 2; unfold A4; rw [if_neg h0,if_pos h1]
   clear h0 h1
   go_enter Tryz.func14,Tryz.ntmps14
   go_wp2
   go_ret
   exact ⟨by rw [HE.out]; rfl,Below.refl _ _⟩
 have hg : ((l.length : Int) == 0) = false:=by simpa using h0
 have hg2 : ¬ (64 : Int) < (l.length : Int):=by omega
 have HC : Hid (∀ i,(hi : i < l.length) -> (∀ x ∈ l.take i,Av x = 0) -> Av l[i] ≠ 0 -> A4 l = Av l[i]):=fun i hi hb hw => Nj h0 h1 hi hb hw
 have HG : Hid ((∀ x ∈ l,Av x = 0) -> A4 l = 0):=Nz h0 h1
 clear h0 h1
 go_enter Tryz.func14,Tryz.ntmps14
 go_wp2
 go_loopw [3] (fun iv wr => ∃ i : Nat,i <= l.length /\ iv = .int .i64 (i : Int) /\ Hid ((∀ x ∈ l.take i,Av x = 0) /\ Below w.heap.size w wr)) (fun iv _ => l.length - (intOf iv).toNat)
 case atStart => exact ⟨0,Nat.zero_le _,rfl,(fun x hx => by simp at hx),Below.refl _ _⟩
 case round =>
  obtain ⟨i,hil,rfl,HI⟩:=hrel
  by_cases hlt : i < l.length
  · obtain ⟨b,o,rfl,q0,q1,q2⟩:=H.out.in HI.out.2 hlt
    have hmes : l.length - (intOf (.int .i64 ((i : Int) + 1))).toNat < l.length - (intOf (.int .i64 (i : Int))).toNat:=by simp [intOf]; omega
    have HTK : Hid (l.take (i + 1) = l.take i ++ [l[i]]):=List.take_succ_eq_append_getElem hlt
    have HST : Hid (Av l[i] ≠ 0 -> A4 l = Av l[i]):=HC.out i hlt HI.out.1
    have hwr:=Uw l[i] wr
    generalize l[i] = X at *
    obtain ⟨xk,xv,xg⟩:=X
    have HWR:=Lib.hid hwr
    clear hwr
    simp only at q0 q1 q2
    go_wp2_with fail
    refine HWR.out.mono ?_
    rintro e w2 ⟨rfl,b2⟩
    have HB2:=Lib.hid (A8 HI.out.2 (Nat.le_refl _) b2)
    clear b2 HWR
    by_cases hz : Av ⟨xk,xv,xg⟩ = 0
    · have HZ : Hid (∀ x ∈ l.take (i + 1),Av x = 0):=fun x hx => by
        rw [HTK.out] at hx
        rcases List.mem_append.1 hx with hx | hx
        · exact HI.out.1 x hx
        · rw [List.mem_singleton.1 hx]; exact hz
      rw [hz]
      clear hz
      go_wp2
      go_roundw
      case rel => exact ⟨i + 1,by omega,by go_num,HZ.out,HB2.out⟩
      case measure => exact hmes
    · have hz2 : ((Av ⟨xk,xv,xg⟩ : Int) != 0) = true:=by simpa using hz
      have HE:=Lib.hid (HST.out hz)
      clear hz
      go_wp2
      go_ret
      exact ⟨by rw [HE.out]; rfl,HB2.out⟩
  · obtain rfl : i = l.length:=by omega
    rw [List.take_length] at HI
    have HE:=Lib.hid (HG.out HI.out.1)
    go_wp2
    go_ret
    exact ⟨by rw [HE.out]; rfl,HI.out.2⟩
set_option maxHeartbeats 1000000 in
set_option maxRecDepth 100000 in
theorem Sr {w : World} {v : Value} {m : List Aa} (h : w.ownsRow 0 61 3 v m.length (AH m)) (k : ByteArray) :
 Calls Tryz.prog 44 #[.agg #[v],.string k] w fun e w' => e = .returned (.tuple #[.int .i64 (placeP k m : Nat),.bool (Bh k m)]) /\ Below w.heap.size w w':=by
 obtain ⟨va,vc,rfl⟩:=Ar h
 have hmx : m.length <= 9223372036854775807:=by have:=(Ao.own h).1; unfold maxLen at this; omega
 have hb : Below w.heap.size w (w.alloc (.cells #[.slice va m.length vc] 32)):=(Below.refl _ w).alloc (Nat.le_refl _) _
 have hc:=Ab (heap_alloc_new w (.cells #[.slice va m.length vc] 32)) (i:=0)
 have H:=Lib.hid (Ah h hb)
 have HB:=Lib.hid hb
 clear h hb
 go_enter Tryz.func44,Tryz.ntmps44
 go_wp2
 generalize w.alloc (.cells #[.slice va m.length vc] 32) = W1 at *
 have hc0 : W1.cell? ⟨w.heap.size,0,none⟩ = some (.slice va m.length vc):=hc
 clear hc
 go_loop [6] (fun iv => ∃ i : Nat,i <= m.length /\ iv = .int .i64 (i : Int) /\ Hid (∀ j (h : j < m.length),j < i -> AR m[j].key k = true)) (fun iv => m.length - (intOf iv).toNat)
 case atStart => exact ⟨0,by omega,rfl,fun j _ hj => by omega⟩
 case round =>
  obtain ⟨i,hi,rfl,hbf⟩:=hrel
  by_cases hlt : i < m.length
  · obtain ⟨g,cap,hv,hcap,hcm,q0,q1,q2⟩:=Hh H.out hlt
    injection hv with hv1 hv2 hv3
    subst hv1
    by_cases hb : Op.bytesLess m[i].key.toList k.toList = true
    · have HB2 : Hid (∀ j (h : j < m.length),j < i + 1 -> AR m[j].key k = true):=fun j hj hjk => by
        by_cases e : j = i
        · subst e; exact hb
        · exact hbf.out j hj (by omega)
      go_wp2
      exact ⟨⟨i + 1,by omega,by go_num,HB2⟩,by simp [intOf]; omega⟩
    · have hb2 : Op.bytesLess m[i].key.toList k.toList = false:=by simpa using hb
      have HPL:=Lib.hid (LS hi hbf.out (fun _ => hb2))
      have HFD:=Lib.hid (Fo hlt HPL.out)
      clear hb
      go_wp2
      go_quiet (fail)
      go_wp2
      go_ret2
      exact ⟨by rw [HPL.out,HFD.out,<- Oj]; rfl,below_drewN HB.out _⟩
  · obtain rfl : i = m.length:=by omega
    have HPL:=Lib.hid (LS hi hbf.out (fun h => by omega))
    have HFD:=Lib.hid (Mo HPL.out)
    go_wp2
    go_quiet (fail)
    go_wp2
    go_ret2
    exact ⟨by rw [HPL.out,HFD.out]; rfl,below_drewN HB.out _⟩
set_option maxHeartbeats 1000000 in
set_option maxRecDepth 100000 in
theorem Xx {w : World} {v : Value} {m : List Aa} (h : w.ownsRow 0 61 3 v m.length (AH m)) (k : ByteArray) :
 Calls Tryz.prog 18 #[.agg #[v],.string k] w fun e w' => e = .returned (.tuple #[.string (G4 k m).1,.bool (G4 k m).2]) /\ Below w.heap.size w w':=by
 obtain ⟨va,vc,rfl⟩:=Ar h
 have hb : Below w.heap.size w (w.alloc (.cells #[.slice va m.length vc] 32)):=(Below.refl _ w).alloc (Nat.le_refl _) _
 have hc:=Ab (heap_alloc_new w (.cells #[.slice va m.length vc] 32)) (i:=0)
 have hc0 : (w.alloc (.cells #[.slice va m.length vc] 32)).cell? ⟨w.heap.size,0,none⟩ = some (.slice va m.length vc):=hc
 have hlt0 : w.heap.size < (w.alloc (.cells #[.slice va m.length vc] 32)).heap.size:=by simp
 have H1:=Lib.hid (Ah h hb)
 have HB:=Lib.hid hb
 have HAT:=Lib.hid (Sr (Ah h hb) k)
 have HC:=Lib.hid hc0
 have HL:=Lib.hid hlt0
 clear h hb hc hlt0
 go_enter Tryz.func18,Tryz.ntmps18
 go_wp2_with fail
 refine HAT.out.mono ?_
 rintro e w2 ⟨rfl,b2⟩
 have c2:=(b2.cell (p:=⟨w.heap.size,0,none⟩) HL.out).trans HC.out
 have H2:=Lib.hid (Ah H1.out b2)
 have HB2:=Lib.hid (HB.out.trans (b2.mono HB.out.size))
 clear b2 hc0 HAT
 cases ht : Bh k m with
 | false =>
   have HV : Hid (G4 k m = (⟨#[]⟩,false)):=by
    show G4 k m = _
    unfold G4 CG
    rw [ht]
    rfl
   go_wp2
   go_ret2
   exact ⟨by rw [HV.out]; rfl,HB2.out⟩
 | true =>
   obtain ⟨hlt,hk⟩:=E0 ht
   obtain ⟨g,cap,hv,hcap,hcm,q0,q1,q2⟩:=Hh H2.out hlt
   injection hv with hv1 hv2 hv3
   subst hv1
   have HV : Hid (G4 k m = (m[placeP k m].val,true)):=by
    show G4 k m = _
    unfold G4 CG
    rw [ht,if_pos rfl,List.getElem?_eq_getElem hlt]
   clear ht hk
   go_wp2
   go_ret2
   exact ⟨by rw [HV.out]; rfl,HB2.out⟩
end
section
open Go.RowKit
theorem YS (a b : ByteArray) (w : World) : (binOp BinOp.geq 9 (.string a) (.string b)).run Tryz.prog w = .ok (.bool (!AR a b)) w:=by
 simp [binOp,Op.stringOp,AR]
theorem Xw {m : List Aa} {fr to : ByteArray} {most : Int} {i : Nat} (h : i < m.length) :
 (inM fr to m[i] = true -> ((AZ (m.take i) fr to most).length : Int) < most -> AZ (m.take (i + 1)) fr to most = AZ (m.take i) fr to most ++ [m[i]]) /\
 (inM fr to m[i] = false \/ ¬ ((AZ (m.take i) fr to most).length : Int) < most -> AZ (m.take (i + 1)) fr to most = AZ (m.take i) fr to most):=by
 unfold AZ
 rw [List.take_succ_eq_append_getElem h,List.filter_append]
 generalize (m.take i).filter (inM fr to) = q
 refine ⟨fun h1 h2 => ?_,fun h1 => ?_⟩
 · rw [List.length_take] at h2
   rw [List.filter_cons_of_pos h1,List.filter_nil,List.take_of_length_le (by rw [List.length_append]; simp; omega),List.take_of_length_le (by omega)]
 · rcases h1 with h1 | h1
   · rw [List.filter_cons_of_neg (by simp [h1]),List.filter_nil,List.append_nil]
   · rw [List.length_take] at h1
     rw [List.take_append_of_le_length (by omega)]
theorem SL (m : List Aa) (fr to : ByteArray) (most : Int) : (AZ m fr to most).length <= m.length:=by
 unfold AZ
 rw [List.length_take]
 have:=List.length_filter_le (inM fr to) m
 omega
set_option maxHeartbeats 4000000 in
set_option maxRecDepth 100000 in
theorem UX {w : World} {v : Value} {m : List Aa} (h : w.ownsRow 0 61 3 v m.length (AH m)) (hN : m.length <= 3518437208780) (fr to : ByteArray) (most : Int) (hm : (Lit.int .i64 most).wf = true) :
 Calls Tryz.prog 21 #[.agg #[v],.string fr,.string to,.int .i64 most] w fun e w' => ∃ r,e = .returned r /\ w'.ownsRow w.heap.size 61 3 r (AZ m fr to most).length (AH (AZ m fr to most)) /\ Below w.heap.size w w':=by
 have hmb:=bounds_i64 hm
 obtain ⟨i0,hi,hz0,hz1,hz2⟩:=info_parts infoPair
 obtain ⟨va,vc,rfl⟩:=Ar h
 have hmx : m.length <= 9223372036854775807:=by have:=(Ao.own h).1; unfold maxLen at this; omega
 have hb : Below w.heap.size w (w.alloc (.cells #[.slice va m.length vc] 32)):=(Below.refl _ w).alloc (Nat.le_refl _) _
 have hc:=Ab (heap_alloc_new w (.cells #[.slice va m.length vc] 32)) (i:=0)
 have hc0 : (w.alloc (.cells #[.slice va m.length vc] 32)).cell? ⟨w.heap.size,0,none⟩ = some (.slice va m.length vc):=hc
 have hbx : (w.alloc (.cells #[.slice va m.length vc] 32)).heap[w.heap.size]? = some (.cells #[.slice va m.length vc] 32 (0,0)):=heap_alloc_new _ _
 have H:=Lib.hid (Ao.own (Ah h hb))
 have HB:=Lib.hid hb
 have HBX:=Lib.hid hbx
 clear h hb hm hc hbx
 go_enter Tryz.func21,Tryz.ntmps21
 go_wp2
 generalize w.alloc (.cells #[.slice va m.length vc] 32) = W1 at *
 clear hc0
 have hlen0:=SL
 go_loopw [9,10] (fun v iv wr => ∃ i : Nat,i <= m.length /\ iv = .int .i64 (i : Int) /\ wr.ownsRow W1.heap.size 61 3 v (AZ (m.take i) fr to most).length (AH (AZ (m.take i) fr to most)) /\ Hid (Below W1.heap.size W1 wr)) (fun _ iv _ => m.length - (intOf iv).toNat)
 case atStart => exact ⟨0,Nat.zero_le _,rfl,by rw [show AZ (m.take 0) fr to most = [] by simp [AZ]]; exact World.ownsRow_nil _ _ _ _,Below.refl _ _⟩
 case round =>
  obtain ⟨i,hil,rfl,hown,HI⟩:=hrel
  obtain ⟨sa,sc,rfl⟩:=Ar hown
  have hsl:=SL (m.take i) fr to most
  rw [List.length_take] at hsl
  have hbw:=(HI.out.block w.heap.size (Ad HBX.out)).trans HBX.out
  have c0 : wr.cell? ⟨w.heap.size,0,none⟩ = some (.slice va m.length vc):=by rw [Ab hbw]; rfl
  by_cases hlt : i < m.length
  · obtain ⟨b,o,rfl,q0,q1,q2⟩:=H.out.in HI.out hlt
    have hmes : m.length - (intOf (.int .i64 ((i : Int) + 1))).toNat < m.length - (intOf (.int .i64 (i : Int))).toNat:=by simp [intOf]; omega
    have hscan:=Xw (fr:=fr) (to:=to) (most:=most) hlt
    generalize m[i] = X at *
    obtain ⟨xk,xv,xg⟩:=X
    simp only at q0 q1 q2
    have HSX:=Lib.hid hscan
    have hgq:=YS xk fr
    have hbl : Below wr.heap.size wr (wr.alloc (.cells #[.string xk,.string xv,.bool xg] 61)):=(Below.refl _ wr).alloc (Nat.le_refl _) _
    obtain ⟨y0,y1,y2⟩ : _ /\ _ /\ _:=⟨(AN.new wr ⟨xk,xv,xg⟩).c0,(AN.new wr ⟨xk,xv,xg⟩).c1,(AN.new wr ⟨xk,xv,xg⟩).c2⟩
    simp only at y0 y1 y2
    have HB2:=Lib.hid (A8 HI.out (Nat.le_refl _) hbl)
    have hown2:=Ah hown hbl
    have HCN : Hid (∀ j u,[Value.string xk,.string xv,.bool xg][j]? = some u -> ((wr.alloc (.cells #[.string xk,.string xv,.bool xg] 61)).alloc (.cells #[.string xk,.string xv,.bool xg] 61)).cell? ((⟨wr.heap.size + 1,0,none⟩ : Addr).add j) = some u):=fun j u h => by
     have:=Fi (wr.alloc (.cells #[.string xk,.string xv,.bool xg] 61)) ⟨xk,xv,xg⟩ j u h
     rwa [World.size_alloc] at this
    clear hbl hown
    cases hb1 : AR xk fr with
    | true =>
      rw [hb1] at hgq
      have HNX : Hid (AZ (m.take (i + 1)) fr to most = AZ (m.take i) fr to most):=HSX.out.2 (.inl (by simp [inM,hb1]))
      clear hscan hb1
      go_wp2
      go_roundw
      case rel => exact ⟨i + 1,by omega,by go_num,by rw [HNX.out]; exact hown2,HB2.out⟩
      case measure => exact hmes
    | false =>
      rw [hb1] at hgq
      by_cases h0 : to.size = 0
      · have he:=Ij h0
        have HIN : inM fr to ⟨xk,xv,xg⟩ = true:=by simp [inM,hb1,h0]
        clear h0 hb1
        by_cases hmo : ((AZ (m.take i) fr to most).length : Int) < most
        · have HNX : Hid (AZ (m.take (i + 1)) fr to most = AZ (m.take i) fr to most ++ [⟨xk,xv,xg⟩]):=(HSX.out).1 HIN hmo
          clear hscan
          go_wp2_with (at_builtin; go_loud (refine wpList_append_own _ rfl (.tmp 44) (.tmp 46) 30 rfl W1.heap.size 61 i0 _ 3 40 Tryz.underlying30 hi hz0 hz1 hz2 rfl (by decide) _ _ _ rfl (hown2.alloc _) ⟨wr.heap.size + 1,0,none⟩ 1 1 [.string xk,.string xv,.bool xg] rfl rfl (HCN.out) (DQ ⟨xk,xv,xg⟩) ?a3_1 ?a4_1 ?a5_1 ?_))
          case a3_1 => unfold maxLen; omega
          case a4_1 => omega
          case a5_1 => first | omega | (have:=HI.out.size; simp; omega)
          intro v' w4 hown' hgrow _
          have hrow' : w4.ownsRow W1.heap.size 61 3 v' (AZ (m.take (i + 1)) fr to most).length (AH (AZ (m.take (i + 1)) fr to most)):=by
           rw [HNX.out,DL,List.length_append]
           exact hown'
          have HB4:=Lib.hid ((HB2.out.alloc HB2.out.size _).grown hgrow (by have:=HI.out.size; simp; omega) (fun j hj => (hown2.lt j hj).1))
          clear hown' hgrow hi hown2
          go_wp2
          go_roundw
          case rel => exact ⟨i + 1,by omega,by go_num,hrow',HB4.out⟩
          case measure => exact hmes
        · have HNX : Hid (AZ (m.take (i + 1)) fr to most = AZ (m.take i) fr to most):=(HSX.out).2 (.inr hmo)
          go_wp2
          go_roundw
          case rel => exact ⟨i + 1,by omega,by go_num,by rw [HNX.out]; exact hown2,HB2.out⟩
          case measure => exact hmes
      · have he:=DV h0
        cases hb2 : AR xk to with
        | true =>
          have hb3 : Op.bytesLess xk.toList to.toList = true:=hb2
          have HIN : inM fr to ⟨xk,xv,xg⟩ = true:=by simp [inM,hb1,hb2]
          clear h0 hb1 hb2
          by_cases hmo : ((AZ (m.take i) fr to most).length : Int) < most
          · have HNX : Hid (AZ (m.take (i + 1)) fr to most = AZ (m.take i) fr to most ++ [⟨xk,xv,xg⟩]):=(HSX.out).1 HIN hmo
            clear hscan
            go_wp2_with (at_builtin; go_loud (refine wpList_append_own _ rfl (.tmp 44) (.tmp 46) 30 rfl W1.heap.size 61 i0 _ 3 40 Tryz.underlying30 hi hz0 hz1 hz2 rfl (by decide) _ _ _ rfl (hown2.alloc _) ⟨wr.heap.size + 1,0,none⟩ 1 1 [.string xk,.string xv,.bool xg] rfl rfl (HCN.out) (DQ ⟨xk,xv,xg⟩) ?a3_2 ?a4_2 ?a5_2 ?_))
            case a3_2 => unfold maxLen; omega
            case a4_2 => omega
            case a5_2 => first | omega | (have:=HI.out.size; simp; omega)
            intro v' w4 hown' hgrow _
            have hrow' : w4.ownsRow W1.heap.size 61 3 v' (AZ (m.take (i + 1)) fr to most).length (AH (AZ (m.take (i + 1)) fr to most)):=by
             rw [HNX.out,DL,List.length_append]
             exact hown'
            have HB4:=Lib.hid ((HB2.out.alloc HB2.out.size _).grown hgrow (by have:=HI.out.size; simp; omega) (fun j hj => (hown2.lt j hj).1))
            clear hown' hgrow hi hown2
            go_wp2
            go_roundw
            case rel => exact ⟨i + 1,by omega,by go_num,hrow',HB4.out⟩
            case measure => exact hmes
          · have HNX : Hid (AZ (m.take (i + 1)) fr to most = AZ (m.take i) fr to most):=(HSX.out).2 (.inr hmo)
            go_wp2
            go_roundw
            case rel => exact ⟨i + 1,by omega,by go_num,by rw [HNX.out]; exact hown2,HB2.out⟩
            case measure => exact hmes
        | false =>
          have hb3 : Op.bytesLess xk.toList to.toList = false:=hb2
          have HNX : Hid (AZ (m.take (i + 1)) fr to most = AZ (m.take i) fr to most):=HSX.out.2 (.inl (by simp [inM,hb1,hb2,h0]))
          clear hscan h0 hb1 hb2
          go_wp2
          go_roundw
          case rel => exact ⟨i + 1,by omega,by go_num,by rw [HNX.out]; exact hown2,HB2.out⟩
          case measure => exact hmes
  · obtain rfl : i = m.length:=by omega
    rw [List.take_length] at hown
    simp only [List.take_length]
    have HO:=Lib.hid (Tj hown HB.out.size)
    have HBE:=Lib.hid (HB.out.trans (HI.out.mono HB.out.size))
    clear hown hi
    go_wp2
    go_ret
    exact ⟨_,rfl,HO.out,HBE.out⟩
end
end Go.Proofs.YtlkefgngefpkiaaGreatDoor
