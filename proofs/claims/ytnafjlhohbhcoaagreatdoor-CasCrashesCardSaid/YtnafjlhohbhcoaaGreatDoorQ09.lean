/- Parts of the proof. -/
import Derived.Test.YtnafjlhohbhcoaaGreatDoorQ08
import Derived.Test.YtnafjlhohbhcoaaGreatDoorQ04
namespace Go.Proofs.YtnafjlhohbhcoaaGreatDoor
open Go.Lib (hid)
set_option linter.unusedVariables false
section
open Go.RowKit
end
section
open Go.RowKit
def Bk (ls : List (List Aa)) : Nat:=(ls.map List.length).sum
def revP (ls : List (List Aa)) (i : Nat) : List Aa:=(ls.drop i).reverse.flatten
def BY (ls : List (List Aa)) : List Aa:=Abt (revP ls 0)
end
section
open Go.RowKit
end
section
def Bc (l T : List Aa) : List Aa:=l.foldl (fun l x => Et x l) T
theorem G3 (x : Aa) (r T : List Aa) : Bc (x :: r) T = Bc r (Et x T):=rfl
theorem overP_rising : ∀ (l : List Aa) {T : List Aa},Ak T -> Ak (Bc l T)
 | [],_,h => h
 | x :: r,_,h => overP_rising r (Ie h)
theorem JN (l : List Aa) {T : List Aa} (h : Az T) : Az (Bc l T):=puts_fine l T h
theorem overP_len : ∀ (l T : List Aa),(Bc l T).length <= T.length + l.length
 | [],T => Nat.le_refl _
 | x :: r,T => by
   have h1:=overP_len r (Et x T)
   have h2:=WR x T
   rw [G3,List.length_cons]
   omega
theorem mem_overP : ∀ (l : List Aa) {T : List Aa},Ak T -> Ak l -> Az l -> ∀ y,y ∈ Bc l T ↔ y ∈ l \/ (y ∈ T /\ ∀ z ∈ l,z.key ≠ y.key)
 | [],T,_,_,_,y => by simp [Bc]
 | x :: r,T,hT,hl,hf,y => by
   have hx : Aw x = 0:=hf x (by simp)
   have hp : Et x T = C2 x T:=if_pos hx
   have hl2:=List.pairwise_cons.1 hl
   have hne : ∀ z ∈ r,z.key ≠ x.key:=fun z hz e => by
    have:=hl2.1 z hz
    rw [e,Bt] at this
    cases this
   rw [G3,mem_overP r (Ie hT) hl2.2 (fun z hz => hf z (by simp [hz])) y,hp,CC hT]
   constructor
   · rintro (h | ⟨rfl | ⟨h1,h2⟩,h3⟩)
     · exact .inl (by simp [h])
     · exact .inl (by simp)
     · refine .inr ⟨h1,fun z hz => ?_⟩
       rcases List.mem_cons.1 hz with rfl | hz
       · exact fun e => h2 e.symm
       · exact h3 z hz
   · rintro (h | ⟨h1,h2⟩)
     · rcases List.mem_cons.1 h with rfl | h
       · exact .inr ⟨.inl rfl,hne⟩
       · exact .inl h
     · exact .inr ⟨.inr ⟨h1,fun e => h2 x (by simp) e.symm⟩,fun z hz => h2 z (by simp [hz])⟩
theorem allP_nil : BY [] = []:=rfl
theorem CS (l : List Aa) (r : List (List Aa)) : BY (l :: r) = Bc l (BY r):=by
 unfold BY revP Abt Bc
 simp [List.foldl_append]
theorem allP_rising : ∀ L : List (List Aa),Ak (BY L)
 | [] => List.Pairwise.nil
 | l :: r => by rw [CS]; exact overP_rising l (allP_rising r)
theorem allP_fine : ∀ L : List (List Aa),Az (BY L)
 | [] => fun _ h => by cases h
 | l :: r => by rw [CS]; exact JN l (allP_fine r)
theorem allP_len : ∀ L : List (List Aa),(BY L).length <= Bk L
 | [] => Nat.zero_le _
 | l :: r => by
   have h1:=allP_len r
   have h2:=overP_len l (BY r)
   rw [CS]
   unfold Bk at h1 ⊢
   rw [List.map_cons,List.sum_cons]
   omega
theorem Qr (a b : List (List Aa)) : Bk (a ++ b) = Bk a + Bk b:=by
 unfold Bk
 rw [List.map_append,List.sum_append]
def Cd (L : List (List Aa)) : Prop:=∀ l ∈ L,Ak l /\ Az l
theorem Cd.cons {l : List Aa} {r : List (List Aa)} (h : Cd (l :: r)) : (Ak l /\ Az l) /\ Cd r:=⟨h l (by simp),fun m hm => h m (by simp [hm])⟩
theorem Be {l : List Aa} {r : List (List Aa)} (h : Cd (l :: r)) (y : Aa) : y ∈ BY (l :: r) ↔ y ∈ l \/ (y ∈ BY r /\ ∀ z ∈ l,z.key ≠ y.key):=by
 rw [CS]
 exact mem_overP l (allP_rising r) h.cons.1.1 h.cons.1.2 y
theorem allP_append : ∀ {A B : List (List Aa)},Cd A -> BY (A ++ B) = Bc (BY A) (BY B)
 | [],B,_ => rfl
 | l :: A,B,h => by
   have ih:=allP_append (B:=B) h.cons.2
   have hA:=allP_rising A
   have hB:=allP_rising B
   have hAf:=allP_fine A
   rw [List.cons_append,CS,ih,CS]
   refine rising_ext (overP_rising _ (overP_rising _ hB)) (overP_rising _ hB) fun y => ?_
   rw [mem_overP l (overP_rising _ hB) h.cons.1.1 h.cons.1.2,mem_overP _ hB hA hAf,mem_overP _ hB (overP_rising _ hA) (JN _ hAf),mem_overP l hA h.cons.1.1 h.cons.1.2]
   constructor
   · rintro (h1 | ⟨h1 | ⟨h1,h2⟩,h3⟩)
     · exact .inl (.inl h1)
     · exact .inl (.inr ⟨h1,h3⟩)
     · refine .inr ⟨h1,fun z hz => ?_⟩
       rcases (mem_overP l hA h.cons.1.1 h.cons.1.2 z).1 hz with hz | ⟨hz,_⟩
       · exact h3 z hz
       · exact h2 z hz
   · rintro ((h1 | ⟨h1,h2⟩) | ⟨h1,h2⟩)
     · exact .inl h1
     · exact .inr ⟨.inl h1,h2⟩
     · have k1 : ∀ z ∈ l,z.key ≠ y.key:=fun z hz => h2 z ((mem_overP l hA h.cons.1.1 h.cons.1.2 z).2 (.inl hz))
       refine .inr ⟨.inr ⟨h1,fun z hz e => ?_⟩,k1⟩
       exact h2 z ((mem_overP l hA h.cons.1.1 h.cons.1.2 z).2 (.inr ⟨hz,fun u hu eu => k1 u hu (eu.trans e)⟩)) e
theorem Lz {l : List Aa} (hr : Ak l) (hf : Az l) : Bc l [] = l:=
 rising_ext (overP_rising l List.Pairwise.nil) hr fun y => by
  rw [mem_overP l List.Pairwise.nil hr hf]
  simp
def IE (l : List Aa) : ByteArray:=match l.getLast? with | some x => x.key | none => ⟨#[]⟩
theorem Mg (l : List Aa) (x : Aa) : IE (l ++ [x]) = x.key:=by simp [IE]
end
section
def CO (a : List Aa) (p : Aa) : List Aa:=a.takeWhile fun q => AO q.key p.key
def CR (a : List Aa) (p : Aa) : List Aa:=a.dropWhile fun q => AO q.key p.key
theorem Hf (a : List Aa) (p : Aa) : CO a p ++ CR a p = a:=List.takeWhile_append_dropWhile
def Ea (a : List Aa) (p : Aa) : Aa × List Aa:=
 match a with
 | [] => (p,[])
 | q :: r => if q.key = p.key then (q,r) else (p,q :: r)
def Dl (s : List Aa × List Aa) (p : Aa) : List Aa × List Aa:=(s.1 ++ CO s.2 p ++ [(Ea (CR s.2 p) p).1],(Ea (CR s.2 p) p).2)
def CL (a pre : List Aa) : List Aa × List Aa:=pre.foldl Dl ([],a)
theorem Pd (a pre : List Aa) (x : Aa) : CL a (pre ++ [x]) = Dl (CL a pre) x:=by unfold CL; rw [List.foldl_append]; rfl
def Gx (a b : List Aa) : List Aa:=(CL a b).1 ++ (CL a b).2
theorem Vb (r : List Aa) : ∀ (s : List Aa × List Aa),∃ t,(r.foldl Dl s).1 = s.1 ++ t:=by
 induction r with
 | nil => exact fun s => ⟨[],by simp⟩
 | cons p r ih =>
   intro s
   obtain ⟨t,ht⟩:=ih (Dl s p)
   refine ⟨CO s.2 p ++ [(Ea (CR s.2 p) p).1] ++ t,?_⟩
   rw [List.foldl_cons,ht]
   simp [Dl]
theorem Mf {a b pre : List Aa} (h : pre <+: b) : (CL a pre).1 <+: Gx a b:=by
 obtain ⟨r,rfl⟩:=h
 unfold Gx CL
 rw [List.foldl_append]
 obtain ⟨t,ht⟩:=Vb r (pre.foldl Dl ([],a))
 rw [ht,List.append_assoc]
 exact List.prefix_append _ _
theorem Uy {a b pre : List Aa} {x : Aa} (h : pre ++ [x] <+: b) {i : Nat} (hi : i <= (CO (CL a pre).2 x).length) : (CL a pre).1 ++ (CL a pre).2.take i <+: Gx a b:=by
 refine List.IsPrefix.trans ?_ (Mf h)
 rw [Pd]
 unfold Dl
 have e : (CL a pre).2.take i = (CO (CL a pre).2 x).take i:=by
  conv => lhs; rw [<- Hf (CL a pre).2 x]
  rw [List.take_append_of_le_length hi]
 rw [e]
 refine ⟨(CO (CL a pre).2 x).drop i ++ [(Ea (CR (CL a pre).2 x) x).1],?_⟩
 simp only [List.append_assoc]
 rw [<- List.append_assoc (List.take i _),List.take_append_drop]
theorem QU {a b : List Aa} (i : Nat) : (CL a b).1 ++ (CL a b).2.take i <+: Gx a b:=by
 unfold Gx
 refine ⟨(CL a b).2.drop i,?_⟩
 rw [List.append_assoc,List.take_append_drop]
def mixR : List Aa -> List Aa -> List Aa
 | a,[] => a
 | a,p :: r => CO a p ++ (Ea (CR a p) p).1 :: mixR (Ea (CR a p) p).2 r
theorem Wd (r : List Aa) : ∀ (s : List Aa × List Aa),(r.foldl Dl s).1 ++ (r.foldl Dl s).2 = s.1 ++ mixR s.2 r:=by
 induction r with
 | nil => exact fun s => rfl
 | cons p r ih =>
   intro s
   rw [List.foldl_cons,ih]
   simp [Dl,mixR]
theorem Aa3 (a b : List Aa) : Gx a b = mixR a b:=by
 have:=Wd b ([],a)
 rw [List.nil_append] at this
 exact this
theorem Abf {a : List Aa} (hr : Ak a) (p : Aa) : ∀ z ∈ CR a p,AO z.key p.key = false:=by
 induction a with
 | nil => intro z hz; cases hz
 | cons q r ih =>
   have h2:=List.pairwise_cons.1 hr
   intro z hz
   unfold CR at hz ih
   rw [List.dropWhile_cons] at hz
   by_cases hq : AO q.key p.key = true
   · rw [if_pos hq] at hz
     exact ih h2.2 z hz
   · rw [if_neg hq] at hz
     have hq' : AO q.key p.key = false:=by simpa using hq
     rcases List.mem_cons.1 hz with rfl | hz
     · exact hq'
     · cases hc : AO z.key p.key with
       | false => rfl
       | true => rw [Bq (h2.1 z hz) hc] at hq'; cases hq'
theorem Zz (a : List Aa) (p : Aa) : ∀ z ∈ CO a p,AO z.key p.key = true:=fun z hz => by
 unfold CO at hz
 exact List.all_eq_true.1 List.all_takeWhile z hz
theorem XZ {a : List Aa} (hr : Ak a) {p : Aa} (hg : ∀ z ∈ a,AO z.key p.key = false) :
 (Ea a p).1.key = p.key /\ Ak (Ea a p).2 /\ (∀ z ∈ (Ea a p).2,AO p.key z.key = true) /\ ∀ y,(y ∈ a ↔ (y = (Ea a p).1 /\ (Ea a p).1 ∈ a) \/ y ∈ (Ea a p).2) /\ (y = (Ea a p).1 -> ¬ y ∈ a -> y = p /\ ∀ z ∈ a,z.key ≠ p.key):=by
 cases a with
 | nil => exact ⟨rfl,List.Pairwise.nil,fun z hz => (by cases hz),fun y => ⟨by simp [Ea],fun h _ => ⟨h,fun z hz => (by cases hz)⟩⟩⟩
 | cons q r =>
   have h2:=List.pairwise_cons.1 hr
   by_cases hk : q.key = p.key
   · have e : Ea (q :: r) p = (q,r):=if_pos hk
     rw [e]
     refine ⟨hk,h2.2,fun z hz => hk ▸ h2.1 z hz,fun y => ⟨by simp,fun h hn => absurd (by simp [h]) hn⟩⟩
   · have e : Ea (q :: r) p = (p,q :: r):=if_neg hk
     have hq : AO p.key q.key = true:=Fv hk (hg q (by simp))
     have hall : ∀ z ∈ q :: r,AO p.key z.key = true:=fun z hz => by
      rcases List.mem_cons.1 hz with rfl | hz
      · exact hq
      · exact Bq hq (h2.1 z hz)
     have hne : ∀ z ∈ q :: r,z.key ≠ p.key:=fun z hz e2 => by
      have:=hall z hz
      rw [e2,Bt] at this
      cases this
     rw [e]
     refine ⟨rfl,hr,hall,fun y => ⟨?_,fun h hn => ⟨h,hne⟩⟩⟩
     constructor
     · exact fun h => .inr h
     · rintro (⟨rfl,h⟩ | h)
       · exact h
       · exact h
theorem UM {a b : List Aa} (ha : Ak a) (hb : Ak b) (h : ∀ x ∈ a,∀ y ∈ b,AO x.key y.key = true) : Ak (a ++ b):=List.pairwise_append.2 ⟨ha,hb,h⟩
theorem mixR_all : ∀ (b : List Aa) {a : List Aa},Ak a -> Ak b -> Ak (mixR a b) /\ ∀ y,y ∈ mixR a b ↔ y ∈ a \/ (y ∈ b /\ ∀ z ∈ a,z.key ≠ y.key)
 | [],a,ha,_ => ⟨ha,fun y => by simp [mixR]⟩
 | p :: r,a,ha,hb => by
   have hb2:=List.pairwise_cons.1 hb
   have hlr:=Hf a p
   have hra : Ak (CO a p ++ CR a p):=by rw [hlr]; exact ha
   have hra2:=List.pairwise_append.1 hra
   have hge:=Abf ha p
   have hlt:=Zz a p
   obtain ⟨hk,hr2,hgt,hsp⟩:=XZ hra2.2.1 hge
   have hmem : ∀ y,y ∈ a ↔ y ∈ CO a p \/ y ∈ CR a p:=fun y => by
    have:=congrArg (fun l => y ∈ l) hlr
    simp only [List.mem_append] at this
    exact iff_of_eq this.symm
   obtain ⟨ih1,ih2⟩:=mixR_all r hr2 hb2.2
   generalize hh : Ea (CR a p) p = hd at *
   have hbig : ∀ y ∈ mixR hd.2 r,AO p.key y.key = true:=fun y hy => by
    rcases (ih2 y).1 hy with h | ⟨h,_⟩
    · exact hgt y h
    · exact hb2.1 y h
   have hunf : mixR a (p :: r) = CO a p ++ hd.1 :: mixR hd.2 r:=by rw [<- hh]; rfl
   rw [hunf]
   refine ⟨UM hra2.1 (List.pairwise_cons.2 ⟨fun y hy => by rw [hk]; exact hbig y hy,ih1⟩) fun x hx y hy => ?_,fun y => ?_⟩
   · rcases List.mem_cons.1 hy with rfl | hy
     · rw [hk]; exact hlt x hx
     · exact Bq (hlt x hx) (hbig y hy)
   · have hlow : ∀ z ∈ CO a p,z.key ≠ p.key:=fun z hz e => by
       have:=hlt z hz
       rw [e,Bt] at this
       cases this
     rw [List.mem_append,List.mem_cons,ih2 y]
     constructor
     · rintro (h | h | h | ⟨h1,h2⟩)
       · exact .inl ((hmem y).2 (.inl h))
       · by_cases hin : y ∈ CR a p
         · exact .inl ((hmem y).2 (.inr hin))
         · obtain ⟨e1,e2⟩:=(hsp y).2 h hin
           refine .inr ⟨by simp [e1],fun z hz => ?_⟩
           rw [e1]
           rcases (hmem z).1 hz with hz | hz
           · exact hlow z hz
           · exact e2 z hz
       · exact .inl ((hmem y).2 (.inr ((hsp y).1.2 (.inr h))))
       · refine .inr ⟨by simp [h1],fun z hz e => ?_⟩
         rcases (hmem z).1 hz with hz | hz
         · have:=Bq (hlt z hz) (hb2.1 y h1)
           rw [e,Bt] at this
           cases this
         · rcases (hsp z).1.1 hz with ⟨h3,_⟩ | h3
           · have:=hb2.1 y h1
             rw [<- e,h3,hk,Bt] at this
             cases this
           · exact h2 z h3 e
     · rintro (h | ⟨h1,h2⟩)
       · rcases (hmem y).1 h with h | h
         · exact .inl h
         · rcases (hsp y).1.1 h with ⟨h3,_⟩ | h3
           · exact .inr (.inl h3)
           · exact .inr (.inr (.inl h3))
       · rcases List.mem_cons.1 h1 with rfl | h1
         · refine .inr (.inl ?_)
           have hn : ¬ hd.1 ∈ CR a y:=fun hin => h2 hd.1 ((hmem _).2 (.inr hin)) hk
           exact ((hsp hd.1).2 rfl hn).1.symm
         · refine .inr (.inr (.inr ⟨h1,fun z hz => h2 z ((hmem z).2 (.inr ((hsp z).1.2 (.inr hz))))⟩))
theorem XH {a b : List Aa} (ha : Ak a) (hb : Ak b) (hf : Az a) : Gx a b = Bc a b:=by
 obtain ⟨h1,h2⟩:=mixR_all b ha hb
 rw [Aa3]
 refine rising_ext h1 (overP_rising a hb) fun y => ?_
 rw [h2 y,mem_overP a hb ha hf]
theorem Zx (r : List Aa) : ∀ (s : List Aa × List Aa),(r.foldl Dl s).2.length <= s.2.length:=by
 induction r with
 | nil => exact fun s => Nat.le_refl _
 | cons p r ih =>
   intro s
   rw [List.foldl_cons]
   refine Nat.le_trans (ih _) ?_
   have h:=Hf s.2 p
   have h2 : (Ea (CR s.2 p) p).2.length <= (CR s.2 p).length:=by
    cases CR s.2 p with
    | nil => exact Nat.le_refl _
    | cons q r =>
      unfold Ea
      simp only
      split
      · simp
      · simp
   have h3 : s.2.length = (CO s.2 p).length + (CR s.2 p).length:=by
    have:=congrArg List.length h
    rw [List.length_append] at this
    exact this.symm
   show (Ea (CR s.2 p) p).2.length <= _
   omega
theorem Aad (a pre : List Aa) : (CL a pre).2.length <= a.length:=Zx pre ([],a)
theorem WY {a : List Aa} {p q : Aa} {r : List Aa} (h : CR a p = q :: r) : AO q.key p.key = false:=by
 have:=List.head?_dropWhile_not (fun q : Aa => AO q.key p.key) a
 unfold CR at h
 rw [h] at this
 simpa using this
theorem Ab4 {a : List Aa} {p q : Aa} {r : List Aa} {i : Nat} (hi : i <= (CO a p).length) (hd : a.drop i = q :: r) : (AO q.key p.key = true -> i + 1 <= (CO a p).length) /\ (AO q.key p.key = false -> i = (CO a p).length):=by
 have hlr:=Hf a p
 by_cases hlt : i < (CO a p).length
 · have h2 : (CO a p).drop i = (CO a p)[i] :: (CO a p).drop (i + 1):=List.drop_eq_getElem_cons hlt
   have h3 : a.drop i = (CO a p)[i] :: ((CO a p).drop (i + 1) ++ CR a p):=by
    conv => lhs; rw [<- hlr]
    rw [List.drop_append_of_le_length (Nat.le_of_lt hlt),h2]
    rfl
   rw [h3] at hd
   injection hd with hq _
   have:=Zz a p _ (List.getElem_mem hlt)
   rw [hq] at this
   exact ⟨fun _ => hlt,fun h => by rw [h] at this; cases this⟩
 · have he : i = (CO a p).length:=by omega
   refine ⟨fun h => ?_,fun _ => he⟩
   have h3 : a.drop i = CR a p:=by
    conv => lhs; rw [<- hlr]
    rw [he,List.drop_left]
   rw [h3] at hd
   rw [WY hd] at h
   cases h
theorem AaH {a : List Aa} {p : Aa} {i : Nat} (hi : i <= (CO a p).length) (hd : a.drop i = []) : i = (CO a p).length:=by
 have h1 : a.length <= i:=List.drop_eq_nil_iff.1 hd
 have h2:=congrArg List.length (Hf a p)
 rw [List.length_append] at h2
 omega
theorem KU (a : List Aa) (p : Aa) : a.take (CO a p).length = CO a p /\ a.drop (CO a p).length = CR a p:=by
 have hlr:=Hf a p
 generalize CO a p = lo at *
 generalize CR a p = hi at *
 subst hlr
 exact ⟨List.take_left,List.drop_left⟩
end
section
open Go.RowKit
theorem O0 {l : List Aa} {i : Nat} (h0 : l.length ≠ 0) (h1 : ¬ 64 < l.length) (hi : i < l.length) (hb : ∀ x ∈ l.take i,Aw x = 0) (hw : Aw l[i] ≠ 0) : A5 l = Aw l[i]:=by
 have e : l.find? (fun x => Aw x != 0) = some l[i]:=by
  conv => lhs; rw [<- List.take_append_drop i l,List.find?_append]
  rw [List.find?_eq_none.2 (fun x hx => by simpa using hb x hx),List.drop_eq_getElem_cons hi,List.find?_cons_of_pos (by simpa using hw)]
  rfl
 unfold A5
 rw [if_neg h0,if_neg h1,e]
theorem Kb {l : List Aa} (h0 : l.length ≠ 0) (h1 : ¬ 64 < l.length) (hb : ∀ x ∈ l,Aw x = 0) : A5 l = 0:=by
 unfold A5
 rw [if_neg h0,if_neg h1,List.find?_eq_none.2 (fun x hx => by simpa using hb x hx)]
set_option maxHeartbeats 1000000 in
set_option maxRecDepth 100000 in
theorem Te {w : World} {a : Option Addr} {c : Nat} {l : List Aa} (h : Aj w (.slice a l.length c) l) :
 Calls Tryz.prog 25 #[.slice a l.length c] w fun e w' => e = .returned (.int .i64 (A5 l : Nat)) /\ Below w.heap.size w w':=by
 have hmx : l.length <= 9223372036854775807:=by have:=h.1; unfold maxLen at this; omega
 have H:=hid h
 clear h
 by_cases h0 : l.length = 0
 · have hg : ((l.length : Int) == 0) = true:=by rw [h0]; rfl
   have HE : Hid (A5 l = 1):=if_pos h0
   clear h0
   go_enter Tryz.func25,Tryz.ntmps25
   go_wp2
   go_ret
   exact ⟨by rw [HE.out]; rfl,Below.refl _ _⟩
 by_cases h1 : 64 < l.length
 · have hg : ((l.length : Int) == 0) = false:=by simpa using h0
   have hg2 : (64 : Int) < (l.length : Int):=by omega
   have HE : Hid (A5 l = 2):=by show A5 l = 2; unfold A5; rw [if_neg h0,if_pos h1]
   clear h0 h1
   go_enter Tryz.func25,Tryz.ntmps25
   go_wp2
   go_ret
   exact ⟨by rw [HE.out]; rfl,Below.refl _ _⟩
 have hg : ((l.length : Int) == 0) = false:=by simpa using h0
 have hg2 : ¬ (64 : Int) < (l.length : Int):=by omega
 have HC : Hid (∀ i,(hi : i < l.length) -> (∀ x ∈ l.take i,Aw x = 0) -> Aw l[i] ≠ 0 -> A5 l = Aw l[i]):=fun i hi hb hw => O0 h0 h1 hi hb hw
 have HG : Hid ((∀ x ∈ l,Aw x = 0) -> A5 l = 0):=Kb h0 h1
 clear h0 h1
 go_enter Tryz.func25,Tryz.ntmps25
 go_wp2
 go_loopw [3] (fun iv wr => ∃ i : Nat,i <= l.length /\ iv = .int .i64 (i : Int) /\ Hid ((∀ x ∈ l.take i,Aw x = 0) /\ Below w.heap.size w wr)) (fun iv _ => l.length - (intOf iv).toNat)
 case atStart => exact ⟨0,Nat.zero_le _,rfl,(fun x hx => by simp at hx),Below.refl _ _⟩
 case round =>
  obtain ⟨i,hil,rfl,HI⟩:=hrel
  by_cases hlt : i < l.length
  · obtain ⟨b,o,rfl,q0,q1,q2⟩:=H.out.in HI.out.2 hlt
    have hmes : l.length - (intOf (.int .i64 ((i : Int) + 1))).toNat < l.length - (intOf (.int .i64 (i : Int))).toNat:=by simp [intOf]; omega
    have HTK : Hid (l.take (i + 1) = l.take i ++ [l[i]]):=List.take_succ_eq_append_getElem hlt
    have HST : Hid (Aw l[i] ≠ 0 -> A5 l = Aw l[i]):=HC.out i hlt HI.out.1
    have hwr:=Vw l[i] wr
    generalize l[i] = X at *
    obtain ⟨xk,xv,xg⟩:=X
    have HWR:=hid hwr
    clear hwr
    simp only at q0 q1 q2
    go_wp2_with fail
    refine HWR.out.mono ?_
    rintro e w2 ⟨rfl,b2⟩
    have HB2:=hid (A4 HI.out.2 (Nat.le_refl _) b2)
    clear b2 HWR
    by_cases hz : Aw ⟨xk,xv,xg⟩ = 0
    · have HZ : Hid (∀ x ∈ l.take (i + 1),Aw x = 0):=fun x hx => by
        rw [HTK.out] at hx
        rcases List.mem_append.1 hx with hx | hx
        · exact HI.out.1 x hx
        · rw [List.mem_singleton.1 hx]; exact hz
      rw [hz]
      clear hz
      go_wp2
      go_roundw
      case rel => exact ⟨i + 1,by omega,by go_num,HZ.out,HB2.out⟩
      case measure => exact hmes
    · have hz2 : ((Aw ⟨xk,xv,xg⟩ : Int) != 0) = true:=by simpa using hz
      have HE:=hid (HST.out hz)
      clear hz
      go_wp2
      go_ret
      exact ⟨by rw [HE.out]; rfl,HB2.out⟩
  · obtain rfl : i = l.length:=by omega
    rw [List.take_length] at HI
    have HE:=hid (HG.out HI.out.1)
    go_wp2
    go_ret
    exact ⟨by rw [HE.out]; rfl,HI.out.2⟩
set_option maxHeartbeats 1000000 in
set_option maxRecDepth 100000 in
theorem RH {w : World} {v : Value} {m : List Aa} (h : w.ownsRow 0 57 3 v m.length (AA m)) (k : ByteArray) :
 Calls Tryz.prog 37 #[.agg #[v],.string k] w fun e w' => e = .returned (.tuple #[.int .i64 (placeP k m : Nat),.bool (Bd k m)]) /\ Below w.heap.size w w':=by
 obtain ⟨va,vc,rfl⟩:=An h
 have hmx : m.length <= 9223372036854775807:=by have:=(Aj.own h).1; unfold maxLen at this; omega
 have hb : Below w.heap.size w (w.alloc (.cells #[.slice va m.length vc] 32)):=(Below.refl _ w).alloc (Nat.le_refl _) _
 have hc:=Ab (heap_alloc_new w (.cells #[.slice va m.length vc] 32)) (i:=0)
 have H:=hid (Ah h hb)
 have HB:=hid hb
 clear h hb
 go_enter Tryz.func37,Tryz.ntmps37
 go_wp2
 generalize w.alloc (.cells #[.slice va m.length vc] 32) = W1 at *
 have hc0 : W1.cell? ⟨w.heap.size,0,none⟩ = some (.slice va m.length vc):=hc
 clear hc
 go_loop [6] (fun iv => ∃ i : Nat,i <= m.length /\ iv = .int .i64 (i : Int) /\ Hid (∀ j (h : j < m.length),j < i -> AO m[j].key k = true)) (fun iv => m.length - (intOf iv).toNat)
 case atStart => exact ⟨0,by omega,rfl,fun j _ hj => by omega⟩
 case round =>
  obtain ⟨i,hi,rfl,hbf⟩:=hrel
  by_cases hlt : i < m.length
  · obtain ⟨g,cap,hv,hcap,hcm,q0,q1,q2⟩:=Hm H.out hlt
    injection hv with hv1 hv2 hv3
    subst hv1
    by_cases hb : Op.bytesLess m[i].key.toList k.toList = true
    · have HB2 : Hid (∀ j (h : j < m.length),j < i + 1 -> AO m[j].key k = true):=fun j hj hjk => by
        by_cases e : j = i
        · subst e; exact hb
        · exact hbf.out j hj (by omega)
      go_wp2
      exact ⟨⟨i + 1,by omega,by go_num,HB2⟩,by simp [intOf]; omega⟩
    · have hb2 : Op.bytesLess m[i].key.toList k.toList = false:=by simpa using hb
      have HPL:=hid (Ls hi hbf.out (fun _ => hb2))
      have HFD:=hid (Fy hlt HPL.out)
      clear hb
      go_wp2
      go_quiet (fail)
      go_wp2
      go_ret2
      exact ⟨by rw [HPL.out,HFD.out,<- JC]; rfl,below_drewN HB.out _⟩
  · obtain rfl : i = m.length:=by omega
    have HPL:=hid (Ls hi hbf.out (fun h => by omega))
    have HFD:=hid (Mh HPL.out)
    go_wp2
    go_quiet (fail)
    go_wp2
    go_ret2
    exact ⟨by rw [HPL.out,HFD.out]; rfl,below_drewN HB.out _⟩
set_option maxHeartbeats 1000000 in
set_option maxRecDepth 100000 in
theorem Jt {w : World} {v : Value} {m : List Aa} (h : w.ownsRow 0 57 3 v m.length (AA m)) (k : ByteArray) :
 Calls Tryz.prog 18 #[.agg #[v],.string k] w fun e w' => e = .returned (.tuple #[.string (CE k m).1,.bool (CE k m).2]) /\ Below w.heap.size w w':=by
 obtain ⟨va,vc,rfl⟩:=An h
 have hb : Below w.heap.size w (w.alloc (.cells #[.slice va m.length vc] 32)):=(Below.refl _ w).alloc (Nat.le_refl _) _
 have hc:=Ab (heap_alloc_new w (.cells #[.slice va m.length vc] 32)) (i:=0)
 have hc0 : (w.alloc (.cells #[.slice va m.length vc] 32)).cell? ⟨w.heap.size,0,none⟩ = some (.slice va m.length vc):=hc
 have hlt0 : w.heap.size < (w.alloc (.cells #[.slice va m.length vc] 32)).heap.size:=by simp
 have H1:=hid (Ah h hb)
 have HB:=hid hb
 have HAT:=hid (RH (Ah h hb) k)
 have HC:=hid hc0
 have HL:=hid hlt0
 clear h hb hc hlt0
 go_enter Tryz.func18,Tryz.ntmps18
 go_wp2_with fail
 refine HAT.out.mono ?_
 rintro e w2 ⟨rfl,b2⟩
 have c2:=(b2.cell (p:=⟨w.heap.size,0,none⟩) HL.out).trans HC.out
 have H2:=hid (Ah H1.out b2)
 have HB2:=hid (HB.out.trans (b2.mono HB.out.size))
 clear b2 hc0 HAT
 cases ht : Bd k m with
 | false =>
   have HV : Hid (CE k m = (⟨#[]⟩,false)):=by
    show CE k m = _
    unfold CE DS
    rw [ht]
    rfl
   go_wp2
   go_ret2
   exact ⟨by rw [HV.out]; rfl,HB2.out⟩
 | true =>
   obtain ⟨hlt,hk⟩:=Fx ht
   obtain ⟨g,cap,hv,hcap,hcm,q0,q1,q2⟩:=Hm H2.out hlt
   injection hv with hv1 hv2 hv3
   subst hv1
   have HV : Hid (CE k m = (m[placeP k m].val,true)):=by
    show CE k m = _
    unfold CE DS
    rw [ht,if_pos rfl,List.getElem?_eq_getElem hlt]
   clear ht hk
   go_wp2
   go_ret2
   exact ⟨by rw [HV.out]; rfl,HB2.out⟩
end
section
open Go.RowKit
end
end Go.Proofs.YtnafjlhohbhcoaaGreatDoor
