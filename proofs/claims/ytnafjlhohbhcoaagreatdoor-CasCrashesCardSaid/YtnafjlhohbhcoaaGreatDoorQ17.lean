/- Parts of the proof. -/
import Derived.Test.YtnafjlhohbhcoaaGreatDoorQ04
import Derived.Test.YtnafjlhohbhcoaaGreatDoorQ01
import Derived.Test.YtnafjlhohbhcoaaGreatDoorQ16
namespace Go.Proofs.YtnafjlhohbhcoaaGreatDoor
set_option linter.unusedVariables false
section
open Go.RowKit
theorem Ya {l a r : List UInt8} (h : BJ l = (0,a,r)) : a.length <= 1048576 /\ l = Ai a ++ r:=by
 by_cases hc : Dv l = true
 · rw [Hr hc] at h; injection h with h; cases h
 have hc : Dv l = false:=by simpa using hc
 cases hg : Dt l with
 | none => rw [Ke hc hg] at h; injection h with h; cases h
 | some p =>
   obtain ⟨n,k⟩:=p
   have hp:=Jf hg
   by_cases hn : 1048576 < n
   · rw [ID hc hg hn] at h; injection h with h; cases h
   by_cases hl : l.length - k < 4 + n
   · rw [GJ hc hg hn hl] at h; injection h with h; cases h
   by_cases hs : (l.drop k).take 4 = Ei (((l.drop k).take (4 + n)).drop 4)
   · rw [Lb hc hg hn hl hs] at h
     injection h with _ h
     injection h with h1 h2
     have hlen : a.length = n:=by rw [<- h1,List.length_drop,List.length_take,List.length_drop]; omega
     refine ⟨by omega,?_⟩
     rw [Ai,hlen,hp.2.1,<- h1,<- h2,<- hs,List.append_assoc,List.append_assoc]
     have e1 : (l.drop k).take 4 ++ (((l.drop k).take (4 + n)).drop 4 ++ (l.drop k).drop (4 + n)) = l.drop k:=by
      have e2 : (l.drop k).take 4 ++ ((l.drop k).take (4 + n)).drop 4 = (l.drop k).take (4 + n):=by
       have e3 : (l.drop k).take 4 = ((l.drop k).take (4 + n)).take 4:=by rw [List.take_take]; congr 1; omega
       rw [e3,List.take_append_drop]
      rw [<- List.append_assoc,e2,List.take_append_drop]
     rw [e1,List.take_append_drop]
   · rw [I9 hc hg hn hl hs] at h; injection h with h; cases h
theorem scanL_inv : ∀ (fs : List (List UInt8)) (l r : List UInt8),Bz l = (fs,r) -> l = A6 fs ++ r /\ ∀ a ∈ fs,a.length <= 1048576
 | [],l,r,h => by
   rw [Bz] at h
   split at h
   · injection h with h; cases h
   · injection h with _ h; subst h; exact ⟨rfl,fun a h => by cases h⟩
 | a :: fs,l,r,h => by
   rw [Bz] at h
   split at h
   · rename_i h0
     injection h with h1 h2
     injection h1 with h1 h3
     have hn : BJ l = (0,(BJ l).2.1,(BJ l).2.2):=by rw [<- h0]
     obtain ⟨h4,h5⟩:=Ya hn
     obtain ⟨h6,h7⟩:=scanL_inv fs (BJ l).2.2 r (by rw [<- h3,<- h2])
     rw [h1] at h4 h5
     refine ⟨by rw [EP,List.append_assoc,<- h6]; exact h5,fun b hb => ?_⟩
     rcases List.mem_cons.1 hb with rfl | hb
     · exact h4
     · exact h7 b hb
   · injection h with h; cases h
theorem Cj (x : Aa) : Aw x = 0 ↔ 1 <= x.key.size /\ x.key.size <= 64 /\ x.val.size <= 8192 /\ (x.gone = true -> x.val.size = 0):=by
 unfold Aw
 split
 · rename_i h
   constructor
   · intro h; cases h
   · rintro ⟨h1,h2,h3,h4⟩
     rcases h with h | ⟨h5,h6⟩
     · omega
     · exact absurd (h4 h5) h6
 · rename_i h
   simp only [not_or,not_and] at h
   split
   · rename_i h2
     constructor
     · intro h; cases h
     · rintro ⟨h1,h3,h4,h5⟩; omega
   · rename_i h2
     refine ⟨fun _ => ⟨by omega,by omega,by omega,fun hg => ?_⟩,fun _ => rfl⟩
     have:=h.2 hg
     omega
def NK (x : Aa) : List UInt8:=if x.gone then As 0 else As (x.val.size + 1) ++ x.val.data.toList
def Du (x : Aa) : List UInt8:=As x.key.size ++ (x.key.data.toList ++ NK x)
def AS (xs : List Aa) : List UInt8:=xs.flatMap Du
theorem D1 (x : Aa) (xs : List Aa) : AS (x :: xs) = Du x ++ AS xs:=rfl
theorem M5 (xs : List Aa) (x : Aa) : AS (xs ++ [x]) = AS xs ++ Du x:=by simp [AS]
theorem Jy (x : Aa) : 1 <= (Du x).length:=by
 have:=EJ x.key.size
 unfold Du
 rw [List.length_append]; omega
theorem AK {n : Nat} (h : n <= 140737488355328) : U64 n:=by unfold U64; omega
theorem XJ {x : Aa} (h : Aw x = 0) : (Du x).length <= x.key.size + x.val.size + 20:=by
 obtain ⟨h1,h2,h3,h4⟩:=(Cj x).1 h
 have e1:=Av (AK (n:=x.key.size) (by omega))
 have e2:=Av (AK (n:=x.val.size + 1) (by omega))
 have e3:=Av (AK (n:=0) (by omega))
 have k1 : x.key.data.toList.length = x.key.size:=by simp
 have k2 : x.val.data.toList.length = x.val.size:=by simp
 unfold Du NK
 split
 · simp only [List.length_append]; omega
 · simp only [List.length_append]; omega
theorem blockL_len : ∀ {xs : List Aa},Az xs -> (AS xs).length <= At xs + 20 * xs.length
 | [],_ => by simp [AS]
 | x :: xs,h => by
   have h1:=XJ (h x (by simp))
   have h2:=blockL_len (xs:=xs) (fun y hy => h y (by simp [hy]))
   rw [D1,List.length_append,List.length_cons,Cw]
   omega
def NQ (l : List UInt8) : List UInt8 × Nat × List UInt8 × Option (List UInt8):=
 ((textS (some l)).1,(CI 8193 (textS (some l)).2).1,
  if 0 < (CI 8193 (textS (some l)).2).1 then CW (((CI 8193 (textS (some l)).2).1 : Int) - 1) (CI 8193 (textS (some l)).2).2 else ([],(CI 8193 (textS (some l)).2).2))
theorem QW {s : ByteArray} : (⟨s.data.toList.toArray⟩ : ByteArray) = s:=by
 apply ByteArray.ext; simp
theorem JP {x : Aa} (h : Aw x = 0) (r : List UInt8) : NQ (Du x ++ r) = (x.key.data.toList,if x.gone then 0 else x.val.size + 1,x.val.data.toList,some r):=by
 obtain ⟨h1,h2,h3,h4⟩:=(Cj x).1 h
 have e1 : textS (some (Du x ++ r)) = (x.key.data.toList,some (NK x ++ r)):=by
  unfold Du
  rw [List.append_assoc,List.append_assoc,LM (AK (by omega))]
 unfold NQ
 rw [e1]
 cases hg : x.gone with
 | true =>
   have e2 : CI 8193 (some (NK x ++ r)) = (0,some r):=by
    unfold NK
    rw [if_pos hg]
    exact Gm (m:=8193) (by omega) (AK (by omega)) r
   have e3 : x.val.data.toList = []:=by
    have:=h4 hg
    have k2 : x.val.data.toList.length = x.val.size:=by simp
    exact List.eq_nil_of_length_eq_zero (by omega)
   simp only [e2]
   rw [if_neg (by omega),e3]
   simp
 | false =>
   have e2 : CI 8193 (some (NK x ++ r)) = (x.val.size + 1,some (x.val.data.toList ++ r)):=by
    unfold NK
    rw [hg,if_neg (by simp),List.append_assoc]
    exact Gm (m:=8193) (by omega) (AK (by omega)) _
   have e3 : CW ((x.val.size + 1 : Nat) - 1 : Int) (some (x.val.data.toList ++ r)) = (x.val.data.toList,some r):=by
    rw [show ((x.val.size + 1 : Nat) - 1 : Int) = (x.val.size : Int) by omega]
    exact Ln _ _ (by simp)
   simp only [e2]
   rw [if_pos (by omega),e3]
   simp
theorem Yr {x y : Aa} {r q : List UInt8} (hx : Aw x = 0) (hy : Aw y = 0) (h : Du x ++ r = Du y ++ q) : x = y /\ r = q:=by
 have h1:=JP hx r
 rw [h,JP hy q] at h1
 injection h1 with h1 h2
 injection h2 with h2 h3
 injection h3 with h3 h4
 injection h4 with h4
 obtain ⟨xk,xv,xg⟩:=x
 obtain ⟨yk,yv,yg⟩:=y
 simp only at h1 h2 h3
 have e1 : yk = xk:=ByteArray.ext (Array.toList_inj.1 h1)
 have e2 : yv = xv:=ByteArray.ext (Array.toList_inj.1 h3)
 subst e1
 subst e2
 refine ⟨?_,h4.symm⟩
 cases xg <;> cases yg <;> simp_all
theorem block_split : ∀ {done xs : List Aa} {rest : List UInt8},Az done -> Az xs -> AS done ++ rest = AS xs -> ∃ ys,xs = done ++ ys /\ rest = AS ys
 | [],xs,rest,_,_,h => ⟨xs,rfl,h⟩
 | d :: ds,[],rest,_,_,h => by
   have:=Jy d
   have h2:=congrArg List.length h
   rw [D1] at h2
   simp [AS] at h2
   have : Du d = []:=h2.1
   have h3:=Jy d
   rw [this] at h3; simp at h3
 | d :: ds,x :: xs,rest,hd,hx,h => by
   rw [D1,D1,List.append_assoc] at h
   obtain ⟨rfl,h2⟩:=Yr (hd d (by simp)) (hx x (by simp)) h
   obtain ⟨ys,rfl,h4⟩:=block_split (fun y hy => hd y (by simp [hy])) (fun y hy => hx y (by simp [hy])) h2
   exact ⟨ys,rfl,h4⟩
theorem Xz {xs ys : List Aa} (hx : Az xs) (hy : Az ys) (h : AS xs = AS ys) : xs = ys:=by
 obtain ⟨zs,rfl,h2⟩:=block_split (rest:=[]) hx hy (by rw [List.append_nil]; exact h)
 cases zs with
 | nil => simp
 | cons z zs =>
   rw [D1] at h2
   have:=congrArg List.length h2
   have h3:=Jy z
   rw [List.length_append] at this
   simp at this
   omega
def Jq (s : List UInt8) (xs : List Aa) : Prop:=s = AS xs /\ 1 <= xs.length /\ xs.length <= 8 /\ Az xs
end
section
open Go.RowKit
def Ao (n : Nat) : Nat:=(n + 7) / 8
def BQ (l : List Aa) (i : Nat) : List Aa:=(l.drop (8 * i)).take 8
def Ck (l : List Aa) (i : Nat) : ByteArray:=(l.getD (8 * i) zeroP).key
def Dg (l : List Aa) (n : Nat) : List ByteArray:=(List.range n).map (Ck l)
def AI (l : List Aa) (n : Nat) : List (List UInt8):=(List.range n).map fun i => AS (BQ l i)
def CX (l : List Aa) (flt : List UInt8) : List UInt8:=As (Ao l.length) ++ (I7 (Dg l (Ao l.length)) ++ (As l.length ++ (As flt.length ++ flt)))
def X1 (l : List Aa) (flt : List UInt8) : List UInt8:=A6 (AI l (Ao l.length)) ++ Ai (CX l flt)
theorem Ex (l : List Aa) (i : Nat) : (BQ l i).length = min 8 (l.length - 8 * i):=by unfold BQ; rw [List.length_take,List.length_drop]
theorem LK (l : List Aa) (i : Nat) : l.take (8 * (i + 1)) = l.take (8 * i) ++ BQ l i:=by
 unfold BQ
 rw [show 8 * (i + 1) = 8 * i + 8 by omega,List.take_add]
theorem Z8 {l : List Aa} {i : Nat} {x : Aa} (h : x ∈ BQ l i) : x ∈ l:=List.mem_of_mem_drop (List.mem_of_mem_take h)
theorem Fl {l : List Aa} (h : Az l) (i : Nat) : Az (BQ l i):=fun x hx => h x (Z8 hx)
theorem AaQ {l : List Aa} {i k : Nat} (hk : k < (BQ l i).length) : ∃ h : 8 * i + k < l.length,(BQ l i)[k] = l[8 * i + k]:=by
 have hl:=Ex l i
 refine ⟨by omega,?_⟩
 rw [List.getElem_of_eq (show BQ l i = ((l.drop (8 * i)).take 8) from rfl) hk,List.getElem_take,List.getElem_drop]
theorem U3 {a : List Aa} {j : Nat} (h : 8 * (j + 1) <= a.length) (b : List Aa) : BQ (a ++ b) j = BQ a j:=by
 unfold BQ
 rw [List.drop_append_of_le_length (by omega),List.take_append_of_le_length (by rw [List.length_drop]; omega)]
theorem Xb {a : List Aa} {i : Nat} (h : a.length = 8 * i) {b : List Aa} (hb : b.length <= 8) : BQ (a ++ b) i = b:=by
 unfold BQ
 rw [<- h,List.drop_left,List.take_of_length_le hb]
theorem Q2 (l : List Aa) (n : Nat) : Dg l (n + 1) = Dg l n ++ [Ck l n]:=by simp [Dg,List.range_succ]
theorem KZ (l : List Aa) (n : Nat) : AI l (n + 1) = AI l n ++ [AS (BQ l n)]:=by simp [AI,List.range_succ]
theorem SF (l : List Aa) (n : Nat) : (Dg l n).length = n:=by simp [Dg]
theorem Ca (l : List Aa) (n : Nat) : (AI l n).length = n:=by simp [AI]
theorem Kk {l : List Aa} {n i : Nat} (h : i < n) : (AI l n)[i]'(by rw [Ca]; exact h) = AS (BQ l i):=by simp [AI]
theorem OT {a : List Aa} {n : Nat} (h : 8 * n <= a.length) (b : List Aa) : AI (a ++ b) n = AI a n:=by
 unfold AI
 refine List.map_congr_left fun j hj => ?_
 have:=List.mem_range.1 hj
 rw [U3 (by omega)]
theorem Pq (ss : List ByteArray) (s : ByteArray) : I7 (ss ++ [s]) = I7 ss ++ (As s.size ++ s.data.toList):=by simp [I7]
theorem IR (ls : List (List UInt8)) (l : List UInt8) : A6 (ls ++ [l]) = A6 ls ++ Ai l:=by simp [A6]
structure VB (l : List Aa) (flt : List UInt8) : Prop where
 ne : l ≠ []
 rise : Ak l
 fine : Az l
 f1 : 1 <= flt.length
 f2 : flt.length <= 8192
 has : ∀ x ∈ l,FU flt x.key = true
 foot : (CX l flt).length <= 1048576
def ET (s : List UInt8) (l : List Aa) : Prop:=∃ flt,VB l flt /\ s = X1 l flt
theorem Jj {xs : List Aa} (hf : Az xs) (h : xs.length <= 8) : (AS xs).length <= 1048576:=by
 have h1:=blockL_len hf
 have h2:=hf.size
 omega
theorem O1 (l : List Aa) (flt : List UInt8) : X1 l flt = A6 (AI l (Ao l.length) ++ [CX l flt]):=by rw [IR]; rfl
theorem Nq {l : List Aa} {flt : List UInt8} (h : VB l flt) : Bz (X1 l flt) = (AI l (Ao l.length) ++ [CX l flt],[]):=by
 rw [O1]
 have:=It (ls:=AI l (Ao l.length) ++ [CX l flt]) (fun b hb => ?_) [] (by rw [nextL_nil]; simp)
 · rwa [List.append_nil] at this
 · rcases List.mem_append.1 hb with hb | hb
   · obtain ⟨i,hi,rfl⟩:=List.mem_map.1 hb
     exact Jj (Fl h.fine i) (by rw [Ex]; omega)
   · rw [List.mem_singleton.1 hb]; exact h.foot
theorem Ut {l : List Aa} (h : l ≠ []) : 1 <= Ao l.length:=by
 have:=List.length_pos_iff.2 h
 unfold Ao; omega
theorem U5 {l : List Aa} (h : Az l) {i : Nat} (hi : i < Ao l.length) : Jq (AS (BQ l i)) (BQ l i):=by
 unfold Ao at hi
 have:=Ex l i
 exact ⟨rfl,by omega,by omega,Fl h i⟩
theorem AaY {s : List UInt8} {l m : List Aa} (h : ET s l) (k : ET s m) : l = m:=by
 obtain ⟨f,hf,rfl⟩:=h
 obtain ⟨g,hg,e⟩:=k
 have h1:=Nq hf
 rw [e,Nq hg] at h1
 injection h1 with h1 _
 obtain ⟨h2,_⟩:=List.append_inj' h1 rfl
 have h3:=congrArg List.length h2
 rw [Ca,Ca] at h3
 rw [h3] at h2
 have h4 : ∀ i,i <= Ao l.length -> l.take (8 * i) = m.take (8 * i):=by
  intro i
  induction i with
  | zero => intro _; rfl
  | succ i ih =>
    intro hi
    have e1:=Kk (l:=m) (n:=Ao l.length) (i:=i) (by omega)
    have e2:=Kk (l:=l) (n:=Ao l.length) (i:=i) (by omega)
    have e3 : AS (BQ l i) = AS (BQ m i):=by
     rw [<- e1,<- e2]
     simp only [h2]
    rw [LK,LK,ih (by omega),Xz (Fl hf.fine i) (Fl hg.fine i) e3]
 have h5:=h4 _ (Nat.le_refl _)
 rw [List.take_of_length_le (by unfold Ao; omega),List.take_of_length_le (by rw [<- h3]; unfold Ao; omega)] at h5
 exact h5
structure AbB (fs : List (List UInt8)) (foot : List UInt8) (nb i : Nat) (all : List Aa) (R : List UInt8) : Prop where
 blocks : fs.take i = AI all i
 len : i < nb -> all.length = 8 * i
 lo : 8 * i < all.length + 8
 hi : all.length <= 8 * i
 fine : Az all
 foot : foot = As nb ++ (I7 (Dg all i) ++ R)
def Ii (last : ByteArray) : List Aa -> Nat
 | [] => 0
 | x :: r => if AO last x.key = false \/ (x.gone = true /\ x.val.size ≠ 0) then 1 else if 64 < x.key.size \/ 8192 < x.val.size then 2 else Ii x.key r
def BM (l : List Aa) : List UInt8:=Fa (l.map Aa.key) (min (l.length + 8) 8192)
def Er (l : List Aa) : Nat:=if l = [] then 1 else if Ii ⟨#[]⟩ l ≠ 0 then Ii ⟨#[]⟩ l else if 1048576 < (CX l (BM l)).length then 2 else 0
def C3 (l : List Aa) : ByteArray:=if Er l = 0 then ⟨(X1 l (BM l)).toArray⟩ else ⟨#[]⟩
theorem ZN {k x : ByteArray} (h : AO k x = true) : 1 <= x.size:=by
 have h1:=(EI k x).1 h
 have e : x.data.toList.length = x.size:=by simp
 cases hx : x.data.toList with
 | nil => rw [hx] at h1; exact absurd h1 (by simp)
 | cons a r => rw [hx] at e; simp at e; omega
theorem badB_zero : ∀ (last : ByteArray) (l : List Aa),Ii last l = 0 ↔ (∀ x ∈ l.head?,AO last x.key = true) /\ Ak l /\ Az l
 | last,[] => by simp [Ii,Ak,Az]
 | last,x :: r => by
   have ih:=badB_zero x.key r
   unfold Ii
   split
   · rename_i h
     constructor
     · intro e; cases e
     · rintro ⟨h1,h2,h3⟩
       have h4:=h1 x (by simp)
       have h5:=(Cj x).1 (h3 x (by simp))
       rcases h with h | ⟨h,h6⟩
       · rw [h] at h4; cases h4
       · exact absurd (h5.2.2.2 h) h6
   · rename_i h
     simp only [not_or,not_and,Bool.not_eq_false] at h
     split
     · rename_i h2
       constructor
       · intro e; cases e
       · rintro ⟨_,_,h3⟩
         have h5:=(Cj x).1 (h3 x (by simp))
         omega
     · rename_i h2
       rw [ih]
       constructor
       · rintro ⟨h3,h4,h5⟩
         have hx : Aw x = 0:=(Cj x).2 ⟨ZN h.1,by omega,by omega,fun hg => by have:=h.2 hg; omega⟩
         refine ⟨fun y hy => ?_,?_,fun y hy => ?_⟩
         · simp at hy; subst hy; exact h.1
         · refine List.pairwise_cons.2 ⟨fun y hy => ?_,h4⟩
           cases r with
           | nil => cases hy
           | cons z r =>
             have hz:=h3 z (by simp)
             rcases List.mem_cons.1 hy with rfl | hy
             · exact hz
             · exact Bq hz ((List.pairwise_cons.1 h4).1 y hy)
         · rcases List.mem_cons.1 hy with rfl | hy
           · exact hx
           · exact h5 y hy
       · rintro ⟨_,h4,h5⟩
         have h6:=List.pairwise_cons.1 h4
         exact ⟨fun y hy => h6.1 y (List.mem_of_mem_head? hy),h6.2,fun y hy => h5 y (by simp [hy])⟩
theorem K9 (l : List Aa) : Ii ⟨#[]⟩ l = 0 ↔ Ak l /\ Az l:=by
 rw [badB_zero]
 constructor
 · rintro ⟨_,h⟩; exact h
 · rintro ⟨h1,h2⟩
   refine ⟨fun x hx => ?_,h1,h2⟩
   have h3:=(Cj x).1 (h2 x (List.mem_of_mem_head? hx))
   rw [EI]
   have e : x.key.data.toList.length = x.key.size:=by simp
   cases hk : x.key.data.toList with
   | nil => rw [hk] at e; simp at e; omega
   | cons a r => simp
theorem PO {l : List Aa} (h : Er l = 0) : ET (C3 l).data.toList l:=by
 unfold C3
 rw [if_pos h]
 unfold Er at h
 split at h
 · cases h
 · rename_i hne
   split at h
   · rename_i h2; exact absurd h h2
   · rename_i h2
     split at h
     · cases h
     · rename_i h3
       have h2 : Ii ⟨#[]⟩ l = 0:=by omega
       obtain ⟨h4,h5⟩:=(K9 l).1 h2
       have hlen : (BM l).length = min (l.length + 8) 8192:=by unfold BM; rw [Fi]
       refine ⟨BM l,⟨hne,h4,h5,by omega,by omega,fun x hx => ?_,by omega⟩,by simp⟩
       exact VY (List.mem_map_of_mem hx) (by omega) (by omega)
end
section
open Go.RowKit
def L6 (l : List Aa) (i : Nat) : ByteArray:=if i = 0 then ⟨#[]⟩ else (l.getD (i - 1) zeroP).key
theorem Mq {l : List Aa} {i : Nat} (h : i < l.length) : L6 l (i + 1) = l[i].key:=by
 unfold L6
 rw [if_neg (by omega)]
 simp [List.getD,h]
def Mc (l : List Aa) (i : Nat) : Nat:=Ii (L6 l i) (l.drop i)
theorem Ug (l : List Aa) : Mc l 0 = Ii ⟨#[]⟩ l:=rfl
theorem Xj (l : List Aa) : Mc l l.length = 0:=by unfold Mc; rw [List.drop_length]; rfl
theorem Vi {l : List Aa} {i : Nat} (h : i < l.length) : Mc l i =
 if AO (L6 l i) l[i].key = false \/ (l[i].gone = true /\ l[i].val.size ≠ 0) then 1 else if 64 < l[i].key.size \/ 8192 < l[i].val.size then 2 else Mc l (i + 1):=by
 unfold Mc
 rw [Mq h,List.drop_eq_getElem_cons h]
 rfl
theorem Tj {l : List Aa} (k : Nat) : A6 (AI l (k + 1)) = A6 (AI l k) ++ Ai (AS (BQ l k)):=by
 rw [KZ,IR]
theorem Hy {l : List Aa} (h : Az l) (i : Nat) : (Ck l i).size <= 64:=by
 unfold Ck
 by_cases hl : 8 * i < l.length
 · have e : l.getD (8 * i) zeroP = l[8 * i]:=by simp [List.getD,hl]
   rw [e]
   exact ((Cj _).1 (h _ (List.getElem_mem _))).2.1
 · have e : l.getD (8 * i) zeroP = zeroP:=by simp [List.getD,Nat.le_of_not_lt hl]
   rw [e]
   exact Nat.zero_le _
theorem Iq {l : List Aa} (h : Az l) : ∀ k,(I7 (Dg l k)).length <= 80 * k
 | 0 => by simp [Dg,I7]
 | k + 1 => by
   have h1:=Iq h k
   have h2:=Hy h k
   have h3:=Av (AK (n:=(Ck l k).size) (by omega))
   rw [Q2,Pq,List.length_append,List.length_append]
   have : (Ck l k).data.toList.length = (Ck l k).size:=by simp
   omega
theorem JS {xs : List Aa} (h : Az xs) (h8 : xs.length <= 8) : (AS xs).length <= 70000:=by
 have h1:=blockL_len h
 have h2:=h.size
 omega
theorem JT {l : List Aa} (h : Az l) : ∀ k,(A6 (AI l k)).length <= 70100 * k
 | 0 => by simp [A6,AI]
 | k + 1 => by
   have h1:=JT h k
   have h0:=JS (Fl h k) (by rw [Ex]; omega)
   have h3:=Fu (l:=AS (BQ l k)) (by omega)
   rw [Tj,List.length_append]
   omega
end
section
open Go.RowKit
theorem Yb {s : List UInt8} {l : List Aa} {fs : List (List UInt8)} {rest : List UInt8} (ht : ET s l) (hs : Bz s = (fs,rest)) : rest = [] /\ fs.length = Ao l.length + 1 /\ 1 <= Ao l.length /\ ∃ flt,VB l flt /\ fs = AI l (Ao l.length) ++ [CX l flt]:=by
 obtain ⟨flt,hok,rfl⟩:=ht
 rw [Nq hok] at hs
 injection hs with h1 h2
 subst h1
 refine ⟨h2.symm,by rw [List.length_append,Ca]; rfl,Ut hok.ne,flt,hok,rfl⟩
theorem frames_few : ∀ (fs : List (List UInt8)),5 * fs.length <= (A6 fs).length
 | [] => by simp
 | a :: fs => by
   have h1:=frames_few fs
   have h2:=Fk a
   have h3:=EJ a.length
   rw [EP,List.length_append,List.length_cons]
   omega
theorem Y5 {s rest : List UInt8} {fs : List (List UInt8)} (h : Bz s = (fs,rest)) : 5 * fs.length <= s.length:=by
 obtain ⟨h1,_⟩:=scanL_inv fs s rest h
 have h2:=frames_few fs
 rw [h1,List.length_append]; omega
theorem enct_few : ∀ (ss : List ByteArray),ss.length <= (I7 ss).length
 | [] => by simp
 | s :: ss => by
   have h1:=enct_few ss
   have h2:=EJ s.size
   rw [X8,List.length_append,List.length_append,List.length_cons]
   omega
theorem VC {l : List Aa} {flt : List UInt8} (h : VB l flt) : l.length <= 8388608:=by
 have h1:=h.foot
 have h2:=enct_few (Dg l (Ao l.length))
 rw [SF] at h2
 unfold CX at h1
 simp only [List.length_append] at h1
 have h3 : Ao l.length <= 1048576:=by omega
 unfold Ao at h3
 omega
section
variable {s : List UInt8} {fs : List (List UInt8)} {rest foot R : List UInt8} {nb i : Nat} {all : List Aa}
variable (hs : Bz s = (fs,rest)) (hl : fs.length = nb + 1) (hf : fs.getD nb [] = foot) (h : AbB fs foot nb i all R)
include hs hl hf h
end
end
end Go.Proofs.YtnafjlhohbhcoaaGreatDoor
