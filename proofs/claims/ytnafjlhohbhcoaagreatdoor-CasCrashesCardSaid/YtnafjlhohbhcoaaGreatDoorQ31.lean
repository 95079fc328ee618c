/- Parts of the proof. -/
import Derived.Test.YtnafjlhohbhcoaaGreatDoorQ30
import Derived.Test.YtnafjlhohbhcoaaGreatDoorQ09
import Derived.Test.YtnafjlhohbhcoaaGreatDoorQ17
namespace Go.Proofs.YtnafjlhohbhcoaaGreatDoor
set_option linter.unusedVariables false
open Go.RowKit Go.Maps Go.Sort
structure A9 where
 num : Nat
 base : Option (Nat × Nat)
 ps : List Aa
def Ej (b : Bool) : List UInt8:=As (if b then 1 else 0)
def pr9 (x : Aa) : List UInt8:=As x.key.size ++ (x.key.data.toList ++ (As x.val.size ++ (x.val.data.toList ++ Ej x.gone)))
def EQ (l : List Aa) : List UInt8:=l.flatMap pr9
def base9 : Option (Nat × Nat) -> List UInt8
 | none => []
 | some (a,k) => As a ++ As k
def A9.bytes (r : A9) : List UInt8:=As r.num ++ (Ej r.base.isSome ++ (base9 r.base ++ EQ r.ps))
theorem PM (x : Aa) (l : List Aa) : EQ (x :: l) = pr9 x ++ EQ l:=rfl
theorem Xq (l : List Aa) (x : Aa) : EQ (l ++ [x]) = EQ l ++ pr9 x:=by simp [EQ]
theorem Aa5 (x : Aa) : 1 <= (pr9 x).length:=by
 have:=EJ x.key.size
 unfold pr9
 rw [List.length_append]; omega
theorem Hk (b : Bool) : (Ej b).length = 1:=by
 cases b <;> (unfold Ej; rw [El (by decide)]; rfl)
theorem AaR {x : Aa} (h : Aw x = 0) : (pr9 x).length <= x.key.size + x.val.size + 21:=by
 obtain ⟨h1,h2,h3,_⟩:=(Cj x).1 h
 have e1:=Av (AK (n:=x.key.size) (by omega))
 have e2:=Av (AK (n:=x.val.size) (by omega))
 have e3:=Hk x.gone
 have e4 : x.key.data.toList.length = x.key.size:=by simp
 have e5 : x.val.data.toList.length = x.val.size:=by simp
 unfold pr9
 simp only [List.length_append]
 omega
theorem prs9_len : ∀ {l : List Aa},Az l -> (EQ l).length <= At l + 21 * l.length
 | [],_ => by simp [EQ]
 | x :: r,h => by
   have h1:=AaR (h x (by simp))
   have h2:=prs9_len (l:=r) fun y hy => h y (by simp [hy])
   rw [PM,List.length_append,Cw,List.length_cons]
   omega
def limC : Nat:=1000000
structure ER (r : A9) : Prop where
 one : 1 <= r.num
 num : r.num <= limC
 fine : Az r.ps
 batch : r.base = none -> A5 r.ps = 0
 base : ∀ a k,r.base = some (a,k) -> a <= limC /\ k <= 3 /\ k <= a
 few : r.ps.length <= 4096
 size : At r.ps <= 530000
theorem A9.len {r : A9} (h : ER r) : r.bytes.length <= 1048576:=by
 have h1:=prs9_len h.fine
 have h2:=h.few
 have h3:=h.size
 have h4:=h.num
 have e1:=Av (AK (n:=r.num) (by unfold limC at h4; omega))
 have e2:=Hk r.base.isSome
 have e3 : (base9 r.base).length <= 20:=by
  cases hb : r.base with
  | none => simp [base9]
  | some x =>
    obtain ⟨a,k⟩:=x
    obtain ⟨b1,b2,b3⟩:=h.base a k hb
    have f1:=Av (AK (n:=a) (by unfold limC at b1; omega))
    have f2:=Av (AK (n:=k) (by omega))
    show (As a ++ As k).length <= 20
    rw [List.length_append]; omega
 unfold A9.bytes
 simp only [List.length_append]
 omega
structure RS9 where
 newest : Nat
 k : Nat
 mem : List Aa
 last : Nat
 logged : Nat
def FK (s : RS9) (r : A9) : RS9:=match r.base with
 | none => ⟨s.newest,s.k,Bc r.ps s.mem,r.num,s.logged + r.bytes.length⟩
 | some (a,k) => ⟨a,k,Bc r.ps [],r.num,0⟩
def zeroR9 : RS9:=⟨0,0,[],0,0⟩
def BU (rs : List A9) : RS9:=rs.foldl FK zeroR9
theorem Gz (rs : List A9) (r : A9) : BU (rs ++ [r]) = FK (BU rs) r:=by unfold BU; rw [List.foldl_append]; rfl
theorem Ts (s : RS9) (r : A9) : (FK s r).last = r.num:=by unfold FK; split <;> rfl
theorem JQ {rs : List A9} {i : Nat} (h : i < rs.length) : BU (rs.take (i + 1)) = FK (BU (rs.take i)) rs[i]:=by
 rw [List.take_succ_eq_append_getElem h,Gz]
theorem Np {rs : List A9} {i : Nat} (h : i < rs.length) : (BU (rs.take (i + 1))).last = rs[i].num:=by rw [JQ h,Ts]
theorem US {rs qs : List A9} {r : A9} (h : r.base ≠ none) : BU (rs ++ [r]) = BU (qs ++ [r]):=by
 rw [Gz,Gz]
 unfold FK
 cases hb : r.base with
 | none => exact absurd hb h
 | some x => rfl
structure CV (rs : List A9) : Prop where
 next : ∀ i (h : i + 1 < rs.length),rs[i + 1].num = rs[i].num + 1
 based : rs = [] \/ (∃ h : 0 < rs.length,rs[0].num = 1) \/ ∃ r ∈ rs,r.base ≠ none
 ok : ∀ r ∈ rs,ER r
theorem CV.nil : CV []:=⟨fun i h => by simp at h,.inl rfl,by simp⟩
theorem OD {rs : List A9} (h : 0 < rs.length) : (BU rs).last = (rs[rs.length - 1]'(by omega)).num:=by
 have:=Np (rs:=rs) (i:=rs.length - 1) (by omega)
 rw [show rs.length - 1 + 1 = rs.length by omega,List.take_length] at this
 exact this
theorem CV.snoc {rs : List A9} {r : A9} (h : CV rs) (hr : ER r) (hn : r.num = (BU rs).last + 1) : CV (rs ++ [r]):=by
 refine ⟨fun i hi => ?_,?_,fun x hx => ?_⟩
 · rw [List.length_append,List.length_singleton] at hi
   by_cases hlt : i + 1 < rs.length
   · rw [List.getElem_append_left hlt,List.getElem_append_left (by omega)]
     exact h.next i hlt
   · have e : i + 1 = rs.length:=by omega
     rw [List.getElem_append_left (show i < rs.length by omega)]
     have e2 : (rs ++ [r])[i + 1]'(by rw [List.length_append,List.length_singleton]; omega) = r:=by
      rw [List.getElem_append_right (by omega)]; simp
     rw [e2,hn,OD (by omega)]
     congr 2
     simp [<- e]
 · rcases h.based with rfl | ⟨h0,h1⟩ | ⟨x,hx,hb⟩
   · exact .inr (.inl ⟨by simp,by rw [show (BU []).last = 0 from rfl] at hn; simpa using hn⟩)
   · exact .inr (.inl ⟨by rw [List.length_append]; omega,by rw [List.getElem_append_left h0]; exact h1⟩)
   · exact .inr (.inr ⟨x,by simp [hx],hb⟩)
 · rcases List.mem_append.1 hx with hx | hx
   · exact h.ok x hx
   · rw [List.mem_singleton.1 hx]; exact hr
theorem CV.right {a b : List A9} (h : CV (a ++ b)) (hb : ∃ r ∈ b,r.base ≠ none) : CV b:=by
 refine ⟨fun i hi => ?_,.inr (.inr hb),fun x hx => h.ok x (by simp [hx])⟩
 have:=h.next (a.length + i) (by rw [List.length_append]; omega)
 rw [List.getElem_append_right (by omega),List.getElem_append_right (by omega)] at this
 simp only [show a.length + i + 1 - a.length = i + 1 by omega,show a.length + i - a.length = i by omega] at this
 exact this
def LOG : Key:=[108,111,103]
abbrev Bo:=Nat × List A9 × List UInt8
def Qc (t : List UInt8) : Prop:=∃ r : List UInt8,∃ k : Nat,r.length <= 1048576 /\ k < (Ai r).length /\ t = (Ai r).take k
theorem Qc.nil : Qc []:=⟨[],0,by simp,by rw [Fk]; omega,by simp⟩
def GG (a : Bo) : Key × Ae:=(Af LOG a.1,FV (A6 (a.2.1.map A9.bytes) ++ a.2.2))
def Bg (A : List Bo) : List A9:=A.flatMap (·.2.1)
theorem Dk (A B : List Bo) : Bg (A ++ B) = Bg A ++ Bg B:=by simp [Bg]
theorem Fj (a : Bo) (B : List Bo) : Bg (a :: B) = a.2.1 ++ Bg B:=rfl
structure Fc (l : List (Key × Ae)) (A : List Bo) : Prop where
 segs : Bu LOG l = A.map GG
 num : ∀ a ∈ A,1 <= a.1 /\ a.1 <= limC
 torn : ∀ a ∈ A,Qc a.2.2
 ok : ∀ r ∈ Bg A,ER r
theorem Ji {n : Nat} (h : n <= limC) : n < 100000000:=by unfold limC at h; omega
theorem Fc.same {l l' : List (Key × Ae)} {A : List Bo} (h : Fc l A) (e : Bu LOG l' = Bu LOG l) : Fc l' A:=⟨e.trans h.segs,h.num,h.torn,h.ok⟩
theorem Fc.nums {l : List (Key × Ae)} {A : List Bo} (h : Fc l A) : AD LOG l = A.map (·.1):=by
 rw [Mt,h.segs,List.map_map]
 refine List.map_congr_left fun a ha => ?_
 exact GQ LOG (Ji (h.num a ha).2)
theorem Ua {rs : List A9} (h : ∀ r ∈ rs,ER r) : ∀ l ∈ rs.map A9.bytes,l.length <= 1048576:=fun l hl => by
 obtain ⟨r,hr,rfl⟩:=List.mem_map.1 hl
 exact A9.len (h r hr)
theorem Qc.next {t : List UInt8} (h : Qc t) : (BJ t).1 ≠ 0:=by
 obtain ⟨r,k,h1,h2,rfl⟩:=h
 rw [Uw h1 h2]
 simp
theorem Fc.recs {l : List (Key × Ae)} {A : List Bo} (h : Fc l A) : Dy LOG l = (Bg A).map A9.bytes:=by
 rw [Nb,h.segs]
 have ht:=h.torn
 have ho:=h.ok
 clear h
 induction A with
 | nil => rfl
 | cons a B ih =>
   rw [List.map_cons,List.flatMap_cons,ih (fun x hx => ht x (by simp [hx])) (fun r hr => ho r (by rw [Fj]; simp [hr])),Fj,List.map_append]
   congr 1
   have:=It (Ua (rs:=a.2.1) fun r hr => ho r (by rw [Fj]; simp [hr])) a.2.2 (ht a (by simp)).next
   show (Bz (A6 (a.2.1.map A9.bytes) ++ a.2.2)).1 = _
   rw [this]
def DD (A : List Bo) (c : Nat) (ap : Bool) : Prop:=if ap then ∃ B rs,A = B ++ [(c,rs,[])] /\ ∀ x ∈ B,x.1 < c else ∀ x ∈ A,x.1 < c
theorem He {l : List (Key × Ae)} {x : Key × Ae} : x ∈ Bu LOG l ↔ x ∈ l /\ AE LOG x.1 ≠ 0:=by
 unfold Bu
 rw [List.mem_filter]
 simp
theorem KY {α : Type} {l : List (Key × α)} (h : AC l) {x : Key × α} (hx : x ∈ l) : Am x.1 l = some x.2:=by
 obtain ⟨i,hi,rfl⟩:=List.mem_iff_getElem.1 hx
 exact Ri h hi
theorem Tg {k : Key × Ae} {l : List (Key × Ae)} (hr : AC l) (hk : AE LOG k.1 ≠ 0) : Bu LOG (Bh k l) = Bh k (Bu LOG l):=by
 induction l with
 | nil =>
   show Bu LOG [k] = [k]
   unfold Bu
   rw [List.filter_cons,if_pos (by simpa using hk)]
   rfl
 | cons y r ih =>
   have hr1:=List.pairwise_cons.1 hr
   by_cases h : bytesBefore k.1 y.1 = true
   · rw [Bh,if_pos h]
     have e1 : Bu LOG (k :: y :: r) = k :: Bu LOG (y :: r):=by
      unfold Bu
      rw [List.filter_cons,if_pos (by simpa using hk)]
     rw [e1]
     cases hf : Bu LOG (y :: r) with
     | nil => rfl
     | cons z t =>
       have hz : z ∈ y :: r:=(He.1 (by rw [hf]; simp : z ∈ Bu LOG (y :: r))).1
       have hb : bytesBefore k.1 z.1 = true:=by
        rcases List.mem_cons.1 hz with rfl | hz
        · exact h
        · exact GV h (hr1.1 z hz)
       rw [Bh,if_pos hb]
   · rw [Bh,if_neg h]
     have ih:=ih hr1.2
     by_cases hy : AE LOG y.1 = 0
     · have e1 : ∀ t,Bu LOG (y :: t) = Bu LOG t:=fun t => by unfold Bu; rw [List.filter_cons,if_neg (by simp [hy])]
       rw [e1,e1,ih]
     · have e1 : ∀ t,Bu LOG (y :: t) = y :: Bu LOG t:=fun t => by unfold Bu; rw [List.filter_cons,if_pos (by simp [hy])]
       rw [e1,e1,ih,Bh,if_neg h]
theorem Md {k : Key} {f : Ae} (hk : AE LOG k ≠ 0) : ∀ l : List (Key × Ae),Bu LOG (Bf k f l) = Bf k f (Bu LOG l)
 | [] => rfl
 | y :: r => by
   have ih:=Md (f:=f) hk r
   rw [Bf]
   by_cases e : y.1 = k
   · rw [if_pos e]
     have e1 : Bu LOG (y :: r) = y :: Bu LOG r:=by unfold Bu; rw [List.filter_cons,if_pos (by simp only [e]; simpa using hk)]
     have e2 : Bu LOG ((k,f) :: r) = (k,f) :: Bu LOG r:=by unfold Bu; rw [List.filter_cons,if_pos (by simpa using hk)]
     rw [e1,e2,Bf,if_pos e]
   · rw [if_neg e]
     by_cases hy : AE LOG y.1 = 0
     · have e1 : ∀ t,Bu LOG (y :: t) = Bu LOG t:=fun t => by unfold Bu; rw [List.filter_cons,if_neg (by simp [hy])]
       rw [e1,e1,ih]
     · have e1 : ∀ t,Bu LOG (y :: t) = y :: Bu LOG t:=fun t => by unfold Bu; rw [List.filter_cons,if_pos (by simp [hy])]
       rw [e1,e1,ih,Bf,if_neg e]
theorem PI {k : Key} {f g : Ae} : ∀ (B : List (Key × Ae)),(∀ x ∈ B,x.1 ≠ k) -> Bf k g (B ++ [(k,f)]) = B ++ [(k,g)]
 | [],_ => by rw [List.nil_append,Bf,if_pos rfl]; rfl
 | y :: r,h => by rw [List.cons_append,Bf,if_neg (h y (by simp)),PI r (fun x hx => h x (by simp [hx]))]; rfl
theorem Z0 {n m : Nat} (hn : n <= limC) (hm : m <= limC) (h : n ≠ m) : Af LOG n ≠ Af LOG m:=fun e => h (RQ (Ji hn) (Ji hm) e)
theorem Gp {n : Nat} (h1 : 1 <= n) (h : n <= limC) : AE LOG (Af LOG n) ≠ 0:=by rw [GQ LOG (Ji h)]; omega
theorem KX {l : List (Key × Ae)} {A : List Bo} {c : Nat} {ap : Bool} (hr : AC l) (h : Fc l A) (hc : DD A c ap) (h1 : 1 <= c) (h2 : c <= limC) :
 Am (Af LOG c) l = if ap then some (FV (A6 ((A.getLastD (0,[],[])).2.1.map A9.bytes))) else none:=by
 unfold DD at hc
 cases ap with
 | true =>
   simp only [↓reduceIte] at hc ⊢
   obtain ⟨B,rs,rfl,hB⟩:=hc
   have hm : GG (c,rs,[]) ∈ Bu LOG l:=by rw [h.segs]; exact List.mem_map.2 ⟨_,by simp,rfl⟩
   have:=KY hr (He.1 hm).1
   have e : (GG (c,rs,[])).1 = Af LOG c:=rfl
   rw [e] at this
   rw [this,List.getLastD_concat]
   show some (FV (A6 (rs.map A9.bytes) ++ [])) = _
   rw [List.append_nil]
 | false =>
   simp only [Bool.false_eq_true,↓reduceIte] at hc ⊢
   rw [DA]
   intro x hx e
   have hm : x ∈ Bu LOG l:=He.2 ⟨hx,by rw [e]; exact Gp h1 h2⟩
   rw [h.segs] at hm
   obtain ⟨a,ha,rfl⟩:=List.mem_map.1 hm
   exact Z0 (h.num a ha).2 h2 (by have:=hc a ha; omega) e
theorem Se {l : List (Key × Ae)} {A : List Bo} {c : Nat} {ap : Bool} {r : A9} (hr : AC l) (h : Fc l A) (hc : DD A c ap) (h1 : 1 <= c) (h2 : c <= limC) (hok : ER r) {m : Nat} (hm : m <= (Ai r.bytes).length) :
 ∃ A',Fc (Cg (Af LOG c) ((Ai r.bytes).take m) l) A' /\ (∀ x ∈ A',x.1 <= c) /\ ((m < (Ai r.bytes).length /\ Bg A' = Bg A) \/ (m = (Ai r.bytes).length /\ Bg A' = Bg A ++ [r] /\ DD A' c true)):=by
 have hall : ∀ x ∈ A,x.1 <= c:=fun x hx => by
  unfold DD at hc
  cases ap with
  | true =>
    simp only [↓reduceIte] at hc
    obtain ⟨B,rs,rfl,hB⟩:=hc
    rcases List.mem_append.1 hx with hx | hx
    · exact Nat.le_of_lt (hB x hx)
    · rw [List.mem_singleton.1 hx]; exact Nat.le_refl _
  | false =>
    simp only [Bool.false_eq_true,↓reduceIte] at hc
    exact Nat.le_of_lt (hc x hx)
 have hfp:=Fh r.bytes
 by_cases hm0 : m = 0
 · subst hm0
   refine ⟨A,?_,hall,.inl ⟨hfp,rfl⟩⟩
   rw [List.take_zero]
   unfold Cg
   rw [if_pos rfl]
   exact h
 have hne : (Ai r.bytes).take m ≠ []:=fun e => hm0 (by have:=congrArg List.length e; rw [List.length_take,List.length_nil] at this; omega)
 have hsn:=Gp h1 h2
 have hfd:=KX hr h hc h1 h2
 have htake : (m < (Ai r.bytes).length /\ Qc ((Ai r.bytes).take m)) \/ (m = (Ai r.bytes).length /\ (Ai r.bytes).take m = Ai r.bytes):=by
  rcases Nat.lt_or_ge m (Ai r.bytes).length with hlt | hge
  · exact .inl ⟨hlt,r.bytes,m,A9.len hok,hlt,rfl⟩
  · exact .inr ⟨by omega,List.take_of_length_le hge⟩
 have mk : ∀ (B : List Bo) (rs : List A9),(∀ x ∈ B,x.1 < c) -> (∀ x ∈ B,x ∈ A) -> Bg A = Bg B ++ rs -> Bu LOG (Cg (Af LOG c) ((Ai r.bytes).take m) l) = B.map GG ++ [(Af LOG c,FV (A6 (rs.map A9.bytes) ++ (Ai r.bytes).take m))] ->
     ∃ A',Fc (Cg (Af LOG c) ((Ai r.bytes).take m) l) A' /\ (∀ x ∈ A',x.1 <= c) /\ ((m < (Ai r.bytes).length /\ Bg A' = Bg A) \/ (m = (Ai r.bytes).length /\ Bg A' = Bg A ++ [r] /\ DD A' c true)):=by
  intro B rs hB hBA hrec hseg
  have hnum : ∀ a ∈ B ++ [((c,rs,[]) : Bo)],1 <= a.1 /\ a.1 <= limC:=fun a ha => by
   rcases List.mem_append.1 ha with ha | ha
   · exact h.num a (hBA a ha)
   · rw [List.mem_singleton.1 ha]; exact ⟨h1,h2⟩
  rcases htake with ⟨hlt,ht⟩ | ⟨heq,ht⟩
  · refine ⟨B ++ [(c,rs,(Ai r.bytes).take m)],⟨?_,fun a ha => ?_,fun a ha => ?_,fun x hx => ?_⟩,fun a ha => ?_,.inl ⟨hlt,?_⟩⟩
    · rw [hseg,List.map_append]; rfl
    · rcases List.mem_append.1 ha with ha | ha
      · exact h.num a (hBA a ha)
      · rw [List.mem_singleton.1 ha]; exact ⟨h1,h2⟩
    · rcases List.mem_append.1 ha with ha | ha
      · exact h.torn a (hBA a ha)
      · rw [List.mem_singleton.1 ha]; exact ht
    · refine h.ok x ?_
      rw [hrec]
      rw [Dk] at hx
      simpa [Bg] using hx
    · rcases List.mem_append.1 ha with ha | ha
      · exact Nat.le_of_lt (hB a ha)
      · rw [List.mem_singleton.1 ha]; exact Nat.le_refl _
    · rw [hrec,Dk]; simp [Bg]
  · refine ⟨B ++ [(c,rs ++ [r],[])],⟨?_,fun a ha => ?_,fun a ha => ?_,fun x hx => ?_⟩,fun a ha => ?_,.inr ⟨heq,?_,?_⟩⟩
    · rw [hseg,List.map_append,ht]
      show _ = _ ++ [(Af LOG c,FV (A6 ((rs ++ [r]).map A9.bytes) ++ []))]
      rw [List.append_nil,List.map_append,List.map_cons,List.map_nil,QE]
    · rcases List.mem_append.1 ha with ha | ha
      · exact h.num a (hBA a ha)
      · rw [List.mem_singleton.1 ha]; exact ⟨h1,h2⟩
    · rcases List.mem_append.1 ha with ha | ha
      · exact h.torn a (hBA a ha)
      · rw [List.mem_singleton.1 ha]; exact Qc.nil
    · have hx' : x ∈ Bg A \/ x = r:=by
        rw [hrec]
        rw [Dk] at hx
        have : x ∈ Bg B \/ x ∈ rs \/ x = r:=by simpa [Bg] using hx
        rcases this with h | h | h
        · exact .inl (by simp [h])
        · exact .inl (by simp [h])
        · exact .inr h
      rcases hx' with hx' | rfl
      · exact h.ok x hx'
      · exact hok
    · rcases List.mem_append.1 ha with ha | ha
      · exact Nat.le_of_lt (hB a ha)
      · rw [List.mem_singleton.1 ha]; exact Nat.le_refl _
    · rw [hrec,Dk]; simp [Bg]
    · unfold DD
      rw [if_pos rfl]
      exact ⟨B,rs ++ [r],rfl,hB⟩
 unfold DD at hc
 cases ap with
 | true =>
   simp only [↓reduceIte] at hc hfd
   obtain ⟨B,rs,rfl,hB⟩:=hc
   rw [List.getLastD_concat] at hfd
   simp only at hfd
   refine mk B rs hB (fun x hx => by simp [hx]) (by rw [Dk]; simp [Bg]) ?_
   unfold Cg
   rw [if_neg hne,hfd]
   simp only
   rw [Md hsn,h.segs,List.map_append,List.map_cons,List.map_nil]
   show Bf (Af LOG c) _ (_ ++ [(Af LOG c,_)]) = _
   rw [PI]
   · rfl
   · intro x hx e
     obtain ⟨a,ha,rfl⟩:=List.mem_map.1 hx
     exact Z0 (h.num a (by simp [ha])).2 h2 (by have:=hB a ha; omega) e
 | false =>
   simp only [Bool.false_eq_true,↓reduceIte] at hc hfd
   refine mk A [] hc (fun x hx => hx) (by simp) ?_
   unfold Cg
   rw [if_neg hne,hfd]
   simp only
   rw [Tg hr hsn,h.segs,NB _ _ (fun y hy => ?_)]
   · rfl
   · obtain ⟨a,ha,rfl⟩:=List.mem_map.1 hy
     show bytesBefore (Af LOG a.1) (Af LOG c) = true
     rw [N0 LOG (Ji (h.num a ha).2) (Ji h2)]
     exact decide_eq_true (hc a ha)
theorem Ww {l : List (Key × Ae)} {a : Bo} {B : List Bo} (hr : AC l) (h : Fc l (a :: B)) : Fc (Bw (Af LOG a.1) l) B:=by
 refine ⟨?_,fun x hx => h.num x (by simp [hx]),fun x hx => h.torn x (by simp [hx]),fun x hx => h.ok x (by rw [Fj]; simp [hx])⟩
 rw [PF,h.segs,List.map_cons]
 have hn : ∀ y ∈ B.map GG,y.1 ≠ Af LOG a.1:=by
  have hp : AC (Bu LOG l):=List.Pairwise.sublist List.filter_sublist hr
  rw [h.segs,List.map_cons] at hp
  have:=(List.pairwise_cons.1 hp).1
  intro y hy e
  have:=this y hy
  rw [e] at this
  have e2 : (GG a).1 = Af LOG a.1:=rfl
  rw [e2,FZ] at this
  cases this
 have e1 : Bw (Af LOG a.1) (GG a :: B.map GG) = Bw (Af LOG a.1) (B.map GG):=by
  unfold Bw
  rw [List.filter_cons,if_neg]
  simp [GG]
 rw [e1,Kc (DA.2 hn)]
end Go.Proofs.YtnafjlhohbhcoaaGreatDoor
