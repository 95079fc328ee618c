/- Parts of the proof. -/
import Derived.Test.YtlkefgngefpkiaaGreatDoorQ04
import Derived.Test.YtlkefgngefpkiaaGreatDoorQ01
import Derived.Test.YtlkefgngefpkiaaGreatDoorQ16
namespace Go.Proofs.YtlkefgngefpkiaaGreatDoor
set_option linter.unusedVariables false
section
open Go.RowKit
theorem WN {l a r : List UInt8} (h : BQ l = (0,a,r)) : a.length <= 1048576 /\ l = Ai a ++ r:=by
 by_cases hc : Dz l = true
 · rw [Hr hc] at h; injection h with h; cases h
 have hc : Dz l = false:=by simpa using hc
 cases hg : Dy l with
 | none => rw [Kr hc hg] at h; injection h with h; cases h
 | some p =>
   obtain ⟨n,k⟩:=p
   have hp:=IT hg
   by_cases hn : 1048576 < n
   · rw [Jg hc hg hn] at h; injection h with h; cases h
   by_cases hl : l.length - k < 4 + n
   · rw [GP hc hg hn hl] at h; injection h with h; cases h
   by_cases hs : (l.drop k).take 4 = Em (((l.drop k).take (4 + n)).drop 4)
   · rw [Ky hc hg hn hl hs] at h
     injection h with _ h
     injection h with h1 h2
     have hlen : a.length = n:=by rw [<- h1,List.length_drop,List.length_take,List.length_drop]; omega
     refine ⟨by omega,?_⟩
     rw [Ai,hlen,hp.2.1,<- h1,<- h2,<- hs,List.append_assoc,List.append_assoc]
     have e1 : (l.drop k).take 4 ++ (((l.drop k).take (4 + n)).drop 4 ++ (l.drop k).drop (4 + n)) = l.drop k:=by
      have e2 : (l.drop k).take 4 ++ ((l.drop k).take (4 + n)).drop 4 = (l.drop k).take (4 + n):=by
       have e3 : (l.drop k).take 4 = ((l.drop k).take (4 + n)).take 4:=by rw [List.take_take]; congr 1; omega
       rw [e3,List.take_append_drop]
      rw [<- List.append_assoc,e2,List.take_append_drop]
     rw [e1,List.take_append_drop]
   · rw [IJ hc hg hn hl hs] at h; injection h with h; cases h
theorem scanL_inv : ∀ (fs : List (List UInt8)) (l r : List UInt8),BI l = (fs,r) -> l = A6 fs ++ r /\ ∀ a ∈ fs,a.length <= 1048576
 | [],l,r,h => by
   rw [BI] at h
   split at h
   · injection h with h; cases h
   · injection h with _ h; subst h; exact ⟨rfl,fun a h => by cases h⟩
 | a :: fs,l,r,h => by
   rw [BI] at h
   split at h
   · rename_i h0
     injection h with h1 h2
     injection h1 with h1 h3
     have hn : BQ l = (0,(BQ l).2.1,(BQ l).2.2):=by rw [<- h0]
     obtain ⟨h4,h5⟩:=WN hn
     obtain ⟨h6,h7⟩:=scanL_inv fs (BQ l).2.2 r (by rw [<- h3,<- h2])
     rw [h1] at h4 h5
     refine ⟨by rw [EO,List.append_assoc,<- h6]; exact h5,fun b hb => ?_⟩
     rcases List.mem_cons.1 hb with rfl | hb
     · exact h4
     · exact h7 b hb
   · injection h with h; cases h
theorem BV (x : Aa) : Av x = 0 ↔ 1 <= x.key.size /\ x.key.size <= 64 /\ x.val.size <= 8192 /\ (x.gone = true -> x.val.size = 0):=by
 unfold Av
 split
 · rename_i h
   constructor
   · intro h; cases h
   · rintro ⟨h1,h2,h3,h4⟩
     rcases h with h | ⟨h5,h6⟩
     · omega
     · exact absurd (h4 h5) h6
 · rename_i h
   simp only [not_or,not_and] at h
   split
   · rename_i h2
     constructor
     · intro h; cases h
     · rintro ⟨h1,h3,h4,h5⟩; omega
   · rename_i h2
     refine ⟨fun _ => ⟨by omega,by omega,by omega,fun hg => ?_⟩,fun _ => rfl⟩
     have:=h.2 hg
     omega
def Od (x : Aa) : List UInt8:=if x.gone then As 0 else As (x.val.size + 1) ++ x.val.data.toList
def D1 (x : Aa) : List UInt8:=As x.key.size ++ (x.key.data.toList ++ Od x)
def AT (xs : List Aa) : List UInt8:=xs.flatMap D1
theorem DD (x : Aa) (xs : List Aa) : AT (x :: xs) = D1 x ++ AT xs:=rfl
theorem Md (xs : List Aa) (x : Aa) : AT (xs ++ [x]) = AT xs ++ D1 x:=by simp [AT]
theorem Jq (x : Aa) : 1 <= (D1 x).length:=by
 have:=ET x.key.size
 unfold D1
 rw [List.length_append]; omega
theorem AJ {n : Nat} (h : n <= 140737488355328) : U64 n:=by unfold U64; omega
theorem X9 {x : Aa} (h : Av x = 0) : (D1 x).length <= x.key.size + x.val.size + 20:=by
 obtain ⟨h1,h2,h3,h4⟩:=(BV x).1 h
 have e1:=Au (AJ (n:=x.key.size) (by omega))
 have e2:=Au (AJ (n:=x.val.size + 1) (by omega))
 have e3:=Au (AJ (n:=0) (by omega))
 have k1 : x.key.data.toList.length = x.key.size:=by simp
 have k2 : x.val.data.toList.length = x.val.size:=by simp
 unfold D1 Od
 split
 · simp only [List.length_append]; omega
 · simp only [List.length_append]; omega
theorem blockL_len : ∀ {xs : List Aa},Az xs -> (AT xs).length <= At xs + 20 * xs.length
 | [],_ => by simp [AT]
 | x :: xs,h => by
   have h1:=X9 (h x (by simp))
   have h2:=blockL_len (xs:=xs) (fun y hy => h y (by simp [hy]))
   rw [DD,List.length_append,List.length_cons,CF]
   omega
def Nd (l : List UInt8) : List UInt8 × Nat × List UInt8 × Option (List UInt8):=
 ((textS (some l)).1,(CW 8193 (textS (some l)).2).1,
  if 0 < (CW 8193 (textS (some l)).2).1 then Dc (((CW 8193 (textS (some l)).2).1 : Int) - 1) (CW 8193 (textS (some l)).2).2 else ([],(CW 8193 (textS (some l)).2).2))
theorem Tw {s : ByteArray} : (⟨s.data.toList.toArray⟩ : ByteArray) = s:=by
 apply ByteArray.ext; simp
theorem Kl {x : Aa} (h : Av x = 0) (r : List UInt8) : Nd (D1 x ++ r) = (x.key.data.toList,if x.gone then 0 else x.val.size + 1,x.val.data.toList,some r):=by
 obtain ⟨h1,h2,h3,h4⟩:=(BV x).1 h
 have e1 : textS (some (D1 x ++ r)) = (x.key.data.toList,some (Od x ++ r)):=by
  unfold D1
  rw [List.append_assoc,List.append_assoc,LM (AJ (by omega))]
 unfold Nd
 rw [e1]
 cases hg : x.gone with
 | true =>
   have e2 : CW 8193 (some (Od x ++ r)) = (0,some r):=by
    unfold Od
    rw [if_pos hg]
    exact Gp (m:=8193) (by omega) (AJ (by omega)) r
   have e3 : x.val.data.toList = []:=by
    have:=h4 hg
    have k2 : x.val.data.toList.length = x.val.size:=by simp
    exact List.eq_nil_of_length_eq_zero (by omega)
   simp only [e2]
   rw [if_neg (by omega),e3]
   simp
 | false =>
   have e2 : CW 8193 (some (Od x ++ r)) = (x.val.size + 1,some (x.val.data.toList ++ r)):=by
    unfold Od
    rw [hg,if_neg (by simp),List.append_assoc]
    exact Gp (m:=8193) (by omega) (AJ (by omega)) _
   have e3 : Dc ((x.val.size + 1 : Nat) - 1 : Int) (some (x.val.data.toList ++ r)) = (x.val.data.toList,some r):=by
    rw [show ((x.val.size + 1 : Nat) - 1 : Int) = (x.val.size : Int) by omega]
    exact LF _ _ (by simp)
   simp only [e2]
   rw [if_pos (by omega),e3]
   simp
theorem Zq {x y : Aa} {r q : List UInt8} (hx : Av x = 0) (hy : Av y = 0) (h : D1 x ++ r = D1 y ++ q) : x = y /\ r = q:=by
 have h1:=Kl hx r
 rw [h,Kl hy q] at h1
 injection h1 with h1 h2
 injection h2 with h2 h3
 injection h3 with h3 h4
 injection h4 with h4
 obtain ⟨xk,xv,xg⟩:=x
 obtain ⟨yk,yv,yg⟩:=y
 simp only at h1 h2 h3
 have e1 : yk = xk:=ByteArray.ext (Array.toList_inj.1 h1)
 have e2 : yv = xv:=ByteArray.ext (Array.toList_inj.1 h3)
 subst e1
 subst e2
 refine ⟨?_,h4.symm⟩
 cases xg <;> cases yg <;> simp_all
theorem block_split : ∀ {done xs : List Aa} {rest : List UInt8},Az done -> Az xs -> AT done ++ rest = AT xs -> ∃ ys,xs = done ++ ys /\ rest = AT ys
 | [],xs,rest,_,_,h => ⟨xs,rfl,h⟩
 | d :: ds,[],rest,_,_,h => by
   have:=Jq d
   have h2:=congrArg List.length h
   rw [DD] at h2
   simp [AT] at h2
   have : D1 d = []:=h2.1
   have h3:=Jq d
   rw [this] at h3; simp at h3
 | d :: ds,x :: xs,rest,hd,hx,h => by
   rw [DD,DD,List.append_assoc] at h
   obtain ⟨rfl,h2⟩:=Zq (hd d (by simp)) (hx x (by simp)) h
   obtain ⟨ys,rfl,h4⟩:=block_split (fun y hy => hd y (by simp [hy])) (fun y hy => hx y (by simp [hy])) h2
   exact ⟨ys,rfl,h4⟩
theorem Ya {xs ys : List Aa} (hx : Az xs) (hy : Az ys) (h : AT xs = AT ys) : xs = ys:=by
 obtain ⟨zs,rfl,h2⟩:=block_split (rest:=[]) hx hy (by rw [List.append_nil]; exact h)
 cases zs with
 | nil => simp
 | cons z zs =>
   rw [DD] at h2
   have:=congrArg List.length h2
   have h3:=Jq z
   rw [List.length_append] at this
   simp at this
   omega
def Jw (s : List UInt8) (xs : List Aa) : Prop:=s = AT xs /\ 1 <= xs.length /\ xs.length <= 8 /\ Az xs
end
section
open Go.RowKit
def Am (n : Nat) : Nat:=(n + 7) / 8
def Cf (l : List Aa) (i : Nat) : List Aa:=(l.drop (8 * i)).take 8
def Ct (l : List Aa) (i : Nat) : ByteArray:=(l.getD (8 * i) zeroP).key
def Ds (l : List Aa) (n : Nat) : List ByteArray:=(List.range n).map (Ct l)
def AG (l : List Aa) (n : Nat) : List (List UInt8):=(List.range n).map fun i => AT (Cf l i)
def Di (l : List Aa) (flt : List UInt8) : List UInt8:=As (Am l.length) ++ (IA (Ds l (Am l.length)) ++ (As l.length ++ (As flt.length ++ flt)))
def Yj (l : List Aa) (flt : List UInt8) : List UInt8:=A6 (AG l (Am l.length)) ++ Ai (Di l flt)
theorem Ey (l : List Aa) (i : Nat) : (Cf l i).length = min 8 (l.length - 8 * i):=by unfold Cf; rw [List.length_take,List.length_drop]
theorem LU (l : List Aa) (i : Nat) : l.take (8 * (i + 1)) = l.take (8 * i) ++ Cf l i:=by
 unfold Cf
 rw [show 8 * (i + 1) = 8 * i + 8 by omega,List.take_add]
theorem YO {l : List Aa} {i : Nat} {x : Aa} (h : x ∈ Cf l i) : x ∈ l:=List.mem_of_mem_drop (List.mem_of_mem_take h)
theorem Fg {l : List Aa} (h : Az l) (i : Nat) : Az (Cf l i):=fun x hx => h x (YO hx)
theorem Aa3 {l : List Aa} {i k : Nat} (hk : k < (Cf l i).length) : ∃ h : 8 * i + k < l.length,(Cf l i)[k] = l[8 * i + k]:=by
 have hl:=Ey l i
 refine ⟨by omega,?_⟩
 rw [List.getElem_of_eq (show Cf l i = ((l.drop (8 * i)).take 8) from rfl) hk,List.getElem_take,List.getElem_drop]
theorem V1 {a : List Aa} {j : Nat} (h : 8 * (j + 1) <= a.length) (b : List Aa) : Cf (a ++ b) j = Cf a j:=by
 unfold Cf
 rw [List.drop_append_of_le_length (by omega),List.take_append_of_le_length (by rw [List.length_drop]; omega)]
theorem Xj {a : List Aa} {i : Nat} (h : a.length = 8 * i) {b : List Aa} (hb : b.length <= 8) : Cf (a ++ b) i = b:=by
 unfold Cf
 rw [<- h,List.drop_left,List.take_of_length_le hb]
theorem QM (l : List Aa) (n : Nat) : Ds l (n + 1) = Ds l n ++ [Ct l n]:=by simp [Ds,List.range_succ]
theorem KL (l : List Aa) (n : Nat) : AG l (n + 1) = AG l n ++ [AT (Cf l n)]:=by simp [AG,List.range_succ]
theorem RY (l : List Aa) (n : Nat) : (Ds l n).length = n:=by simp [Ds]
theorem Ck (l : List Aa) (n : Nat) : (AG l n).length = n:=by simp [AG]
theorem JW {l : List Aa} {n i : Nat} (h : i < n) : (AG l n)[i]'(by rw [Ck]; exact h) = AT (Cf l i):=by simp [AG]
theorem OD {a : List Aa} {n : Nat} (h : 8 * n <= a.length) (b : List Aa) : AG (a ++ b) n = AG a n:=by
 unfold AG
 refine List.map_congr_left fun j hj => ?_
 have:=List.mem_range.1 hj
 rw [V1 (by omega)]
theorem PJ (ss : List ByteArray) (s : ByteArray) : IA (ss ++ [s]) = IA ss ++ (As s.size ++ s.data.toList):=by simp [IA]
theorem Ja (ls : List (List UInt8)) (l : List UInt8) : A6 (ls ++ [l]) = A6 ls ++ Ai l:=by simp [A6]
structure Wb (l : List Aa) (flt : List UInt8) : Prop where
 ne : l ≠ []
 rise : Aj l
 fine : Az l
 f1 : 1 <= flt.length
 f2 : flt.length <= 8192
 has : ∀ x ∈ l,FO flt x.key = true
 foot : (Di l flt).length <= 1048576
def EP (s : List UInt8) (l : List Aa) : Prop:=∃ flt,Wb l flt /\ s = Yj l flt
theorem IOx {xs : List Aa} (hf : Az xs) (h : xs.length <= 8) : (AT xs).length <= 1048576:=by
 have h1:=blockL_len hf
 have h2:=hf.size
 omega
theorem Np (l : List Aa) (flt : List UInt8) : Yj l flt = A6 (AG l (Am l.length) ++ [Di l flt]):=by rw [Ja]; rfl
theorem Oh {l : List Aa} {flt : List UInt8} (h : Wb l flt) : BI (Yj l flt) = (AG l (Am l.length) ++ [Di l flt],[]):=by
 rw [Np]
 have:=I3 (ls:=AG l (Am l.length) ++ [Di l flt]) (fun b hb => ?_) [] (by rw [nextL_nil]; simp)
 · rwa [List.append_nil] at this
 · rcases List.mem_append.1 hb with hb | hb
   · obtain ⟨i,hi,rfl⟩:=List.mem_map.1 hb
     exact IOx (Fg h.fine i) (by rw [Ey]; omega)
   · rw [List.mem_singleton.1 hb]; exact h.foot
theorem Vh {l : List Aa} (h : l ≠ []) : 1 <= Am l.length:=by
 have:=List.length_pos_iff.2 h
 unfold Am; omega
theorem UO {l : List Aa} (h : Az l) {i : Nat} (hi : i < Am l.length) : Jw (AT (Cf l i)) (Cf l i):=by
 unfold Am at hi
 have:=Ey l i
 exact ⟨rfl,by omega,by omega,Fg h i⟩
theorem Abf {s : List UInt8} {l m : List Aa} (h : EP s l) (k : EP s m) : l = m:=by
 obtain ⟨f,hf,rfl⟩:=h
 obtain ⟨g,hg,e⟩:=k
 have h1:=Oh hf
 rw [e,Oh hg] at h1
 injection h1 with h1 _
 obtain ⟨h2,_⟩:=List.append_inj' h1 rfl
 have h3:=congrArg List.length h2
 rw [Ck,Ck] at h3
 rw [h3] at h2
 have h4 : ∀ i,i <= Am l.length -> l.take (8 * i) = m.take (8 * i):=by
  intro i
  induction i with
  | zero => intro _; rfl
  | succ i ih =>
    intro hi
    have e1:=JW (l:=m) (n:=Am l.length) (i:=i) (by omega)
    have e2:=JW (l:=l) (n:=Am l.length) (i:=i) (by omega)
    have e3 : AT (Cf l i) = AT (Cf m i):=by
     rw [<- e1,<- e2]
     simp only [h2]
    rw [LU,LU,ih (by omega),Ya (Fg hf.fine i) (Fg hg.fine i) e3]
 have h5:=h4 _ (Nat.le_refl _)
 rw [List.take_of_length_le (by unfold Am; omega),List.take_of_length_le (by rw [<- h3]; unfold Am; omega)] at h5
 exact h5
structure Ab2 (fs : List (List UInt8)) (foot : List UInt8) (nb i : Nat) (all : List Aa) (R : List UInt8) : Prop where
 blocks : fs.take i = AG all i
 len : i < nb -> all.length = 8 * i
 lo : 8 * i < all.length + 8
 hi : all.length <= 8 * i
 fine : Az all
 foot : foot = As nb ++ (IA (Ds all i) ++ R)
def Io (last : ByteArray) : List Aa -> Nat
 | [] => 0
 | x :: r => if AR last x.key = false \/ (x.gone = true /\ x.val.size ≠ 0) then 1 else if 64 < x.key.size \/ 8192 < x.val.size then 2 else Io x.key r
def BR (l : List Aa) : List UInt8:=Fa (l.map Aa.key) (min (l.length + 8) 8192)
def Eu (l : List Aa) : Nat:=if l = [] then 1 else if Io ⟨#[]⟩ l ≠ 0 then Io ⟨#[]⟩ l else if 1048576 < (Di l (BR l)).length then 2 else 0
def CJ (l : List Aa) : ByteArray:=if Eu l = 0 then ⟨(Yj l (BR l)).toArray⟩ else ⟨#[]⟩
theorem Yn {k x : ByteArray} (h : AR k x = true) : 1 <= x.size:=by
 have h1:=(DR k x).1 h
 have e : x.data.toList.length = x.size:=by simp
 cases hx : x.data.toList with
 | nil => rw [hx] at h1; exact absurd h1 (by simp)
 | cons a r => rw [hx] at e; simp at e; omega
theorem badB_zero : ∀ (last : ByteArray) (l : List Aa),Io last l = 0 ↔ (∀ x ∈ l.head?,AR last x.key = true) /\ Aj l /\ Az l
 | last,[] => by simp [Io,Aj,Az]
 | last,x :: r => by
   have ih:=badB_zero x.key r
   unfold Io
   split
   · rename_i h
     constructor
     · intro e; cases e
     · rintro ⟨h1,h2,h3⟩
       have h4:=h1 x (by simp)
       have h5:=(BV x).1 (h3 x (by simp))
       rcases h with h | ⟨h,h6⟩
       · rw [h] at h4; cases h4
       · exact absurd (h5.2.2.2 h) h6
   · rename_i h
     simp only [not_or,not_and,Bool.not_eq_false] at h
     split
     · rename_i h2
       constructor
       · intro e; cases e
       · rintro ⟨_,_,h3⟩
         have h5:=(BV x).1 (h3 x (by simp))
         omega
     · rename_i h2
       rw [ih]
       constructor
       · rintro ⟨h3,h4,h5⟩
         have hx : Av x = 0:=(BV x).2 ⟨Yn h.1,by omega,by omega,fun hg => by have:=h.2 hg; omega⟩
         refine ⟨fun y hy => ?_,?_,fun y hy => ?_⟩
         · simp at hy; subst hy; exact h.1
         · refine List.pairwise_cons.2 ⟨fun y hy => ?_,h4⟩
           cases r with
           | nil => cases hy
           | cons z r =>
             have hz:=h3 z (by simp)
             rcases List.mem_cons.1 hy with rfl | hy
             · exact hz
             · exact BY hz ((List.pairwise_cons.1 h4).1 y hy)
         · rcases List.mem_cons.1 hy with rfl | hy
           · exact hx
           · exact h5 y hy
       · rintro ⟨_,h4,h5⟩
         have h6:=List.pairwise_cons.1 h4
         exact ⟨fun y hy => h6.1 y (List.mem_of_mem_head? hy),h6.2,fun y hy => h5 y (by simp [hy])⟩
theorem Lc (l : List Aa) : Io ⟨#[]⟩ l = 0 ↔ Aj l /\ Az l:=by
 rw [badB_zero]
 constructor
 · rintro ⟨_,h⟩; exact h
 · rintro ⟨h1,h2⟩
   refine ⟨fun x hx => ?_,h1,h2⟩
   have h3:=(BV x).1 (h2 x (List.mem_of_mem_head? hx))
   rw [DR]
   have e : x.key.data.toList.length = x.key.size:=by simp
   cases hk : x.key.data.toList with
   | nil => rw [hk] at e; simp at e; omega
   | cons a r => simp
theorem OZ {l : List Aa} (h : Eu l = 0) : EP (CJ l).data.toList l:=by
 unfold CJ
 rw [if_pos h]
 unfold Eu at h
 split at h
 · cases h
 · rename_i hne
   split at h
   · rename_i h2; exact absurd h h2
   · rename_i h2
     split at h
     · cases h
     · rename_i h3
       have h2 : Io ⟨#[]⟩ l = 0:=by omega
       obtain ⟨h4,h5⟩:=(Lc l).1 h2
       have hlen : (BR l).length = min (l.length + 8) 8192:=by unfold BR; rw [Fc]
       refine ⟨BR l,⟨hne,h4,h5,by omega,by omega,fun x hx => ?_,by omega⟩,by simp⟩
       exact Yh (List.mem_map_of_mem hx) (by omega) (by omega)
end
section
open Go.RowKit
def LD (l : List Aa) (i : Nat) : ByteArray:=if i = 0 then ⟨#[]⟩ else (l.getD (i - 1) zeroP).key
theorem M0 {l : List Aa} {i : Nat} (h : i < l.length) : LD l (i + 1) = l[i].key:=by
 unfold LD
 rw [if_neg (by omega)]
 simp [List.getD,h]
def Mt (l : List Aa) (i : Nat) : Nat:=Io (LD l i) (l.drop i)
theorem Vv (l : List Aa) : Mt l 0 = Io ⟨#[]⟩ l:=rfl
theorem WY (l : List Aa) : Mt l l.length = 0:=by unfold Mt; rw [List.drop_length]; rfl
theorem UP {l : List Aa} {i : Nat} (h : i < l.length) : Mt l i =
 if AR (LD l i) l[i].key = false \/ (l[i].gone = true /\ l[i].val.size ≠ 0) then 1 else if 64 < l[i].key.size \/ 8192 < l[i].val.size then 2 else Mt l (i + 1):=by
 unfold Mt
 rw [M0 h,List.drop_eq_getElem_cons h]
 rfl
theorem QW {l : List Aa} (k : Nat) : A6 (AG l (k + 1)) = A6 (AG l k) ++ Ai (AT (Cf l k)):=by
 rw [KL,Ja]
theorem Iq {l : List Aa} (h : Az l) (i : Nat) : (Ct l i).size <= 64:=by
 unfold Ct
 by_cases hl : 8 * i < l.length
 · have e : l.getD (8 * i) zeroP = l[8 * i]:=by simp [List.getD,hl]
   rw [e]
   exact ((BV _).1 (h _ (List.getElem_mem _))).2.1
 · have e : l.getD (8 * i) zeroP = zeroP:=by simp [List.getD,Nat.le_of_not_lt hl]
   rw [e]
   exact Nat.zero_le _
theorem Ig {l : List Aa} (h : Az l) : ∀ k,(IA (Ds l k)).length <= 80 * k
 | 0 => by simp [Ds,IA]
 | k + 1 => by
   have h1:=Ig h k
   have h2:=Iq h k
   have h3:=Au (AJ (n:=(Ct l k).size) (by omega))
   rw [QM,PJ,List.length_append,List.length_append]
   have : (Ct l k).data.toList.length = (Ct l k).size:=by simp
   omega
theorem JP {xs : List Aa} (h : Az xs) (h8 : xs.length <= 8) : (AT xs).length <= 70000:=by
 have h1:=blockL_len h
 have h2:=h.size
 omega
theorem JX {l : List Aa} (h : Az l) : ∀ k,(A6 (AG l k)).length <= 70100 * k
 | 0 => by simp [A6,AG]
 | k + 1 => by
   have h1:=JX h k
   have h0:=JP (Fg h k) (by rw [Ey]; omega)
   have h3:=Fj (l:=AT (Cf l k)) (by omega)
   rw [QW,List.length_append]
   omega
end
section
open Go.RowKit
theorem Yd {s : List UInt8} {l : List Aa} {fs : List (List UInt8)} {rest : List UInt8} (ht : EP s l) (hs : BI s = (fs,rest)) : rest = [] /\ fs.length = Am l.length + 1 /\ 1 <= Am l.length /\ ∃ flt,Wb l flt /\ fs = AG l (Am l.length) ++ [Di l flt]:=by
 obtain ⟨flt,hok,rfl⟩:=ht
 rw [Oh hok] at hs
 injection hs with h1 h2
 subst h1
 refine ⟨h2.symm,by rw [List.length_append,Ck]; rfl,Vh hok.ne,flt,hok,rfl⟩
theorem frames_few : ∀ (fs : List (List UInt8)),5 * fs.length <= (A6 fs).length
 | [] => by simp
 | a :: fs => by
   have h1:=frames_few fs
   have h2:=Fk a
   have h3:=ET a.length
   rw [EO,List.length_append,List.length_cons]
   omega
theorem YY {s rest : List UInt8} {fs : List (List UInt8)} (h : BI s = (fs,rest)) : 5 * fs.length <= s.length:=by
 obtain ⟨h1,_⟩:=scanL_inv fs s rest h
 have h2:=frames_few fs
 rw [h1,List.length_append]; omega
theorem enct_few : ∀ (ss : List ByteArray),ss.length <= (IA ss).length
 | [] => by simp
 | s :: ss => by
   have h1:=enct_few ss
   have h2:=ET s.size
   rw [WJ,List.length_append,List.length_append,List.length_cons]
   omega
theorem V9 {l : List Aa} {flt : List UInt8} (h : Wb l flt) : l.length <= 8388608:=by
 have h1:=h.foot
 have h2:=enct_few (Ds l (Am l.length))
 rw [RY] at h2
 unfold Di at h1
 simp only [List.length_append] at h1
 have h3 : Am l.length <= 1048576:=by omega
 unfold Am at h3
 omega
section
variable {s : List UInt8} {fs : List (List UInt8)} {rest foot R : List UInt8} {nb i : Nat} {all : List Aa}
variable (hs : BI s = (fs,rest)) (hl : fs.length = nb + 1) (hf : fs.getD nb [] = foot) (h : Ab2 fs foot nb i all R)
include hs hl hf h
end
end
end Go.Proofs.YtlkefgngefpkiaaGreatDoor
