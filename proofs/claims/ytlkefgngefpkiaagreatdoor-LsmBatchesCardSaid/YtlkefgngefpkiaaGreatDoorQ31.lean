/- Parts of the proof. -/
import Derived.Test.YtlkefgngefpkiaaGreatDoorQ25
import Derived.Test.YtlkefgngefpkiaaGreatDoorQ09
import Derived.Test.YtlkefgngefpkiaaGreatDoorQ17
namespace Go.Proofs.YtlkefgngefpkiaaGreatDoor
set_option linter.unusedVariables false
open Go.RowKit Go.Maps Go.Sort
structure A7 where
 num : Nat
 base : Option (Nat × Nat)
 ps : List Aa
def El (b : Bool) : List UInt8:=As (if b then 1 else 0)
def pr9 (x : Aa) : List UInt8:=As x.key.size ++ (x.key.data.toList ++ (As x.val.size ++ (x.val.data.toList ++ El x.gone)))
def EU (l : List Aa) : List UInt8:=l.flatMap pr9
def base9 : Option (Nat × Nat) -> List UInt8
 | none => []
 | some (a,k) => As a ++ As k
def A7.bytes (r : A7) : List UInt8:=As r.num ++ (El r.base.isSome ++ (base9 r.base ++ EU r.ps))
theorem P0 (x : Aa) (l : List Aa) : EU (x :: l) = pr9 x ++ EU l:=rfl
theorem XK (l : List Aa) (x : Aa) : EU (l ++ [x]) = EU l ++ pr9 x:=by simp [EU]
theorem Abi (x : Aa) : 1 <= (pr9 x).length:=by
 have:=ET x.key.size
 unfold pr9
 rw [List.length_append]; omega
theorem Hn (b : Bool) : (El b).length = 1:=by
 cases b <;> (unfold El; rw [En (by decide)]; rfl)
theorem AaF {x : Aa} (h : Av x = 0) : (pr9 x).length <= x.key.size + x.val.size + 21:=by
 obtain ⟨h1,h2,h3,_⟩:=(BV x).1 h
 have e1:=Au (AJ (n:=x.key.size) (by omega))
 have e2:=Au (AJ (n:=x.val.size) (by omega))
 have e3:=Hn x.gone
 have e4 : x.key.data.toList.length = x.key.size:=by simp
 have e5 : x.val.data.toList.length = x.val.size:=by simp
 unfold pr9
 simp only [List.length_append]
 omega
theorem prs9_len : ∀ {l : List Aa},Az l -> (EU l).length <= At l + 21 * l.length
 | [],_ => by simp [EU]
 | x :: r,h => by
   have h1:=AaF (h x (by simp))
   have h2:=prs9_len (l:=r) fun y hy => h y (by simp [hy])
   rw [P0,List.length_append,CF,List.length_cons]
   omega
def limC : Nat:=1000000
structure EJ (r : A7) : Prop where
 one : 1 <= r.num
 num : r.num <= limC
 fine : Az r.ps
 batch : r.base = none -> A4 r.ps = 0
 base : ∀ a k,r.base = some (a,k) -> a <= limC /\ k <= 3 /\ k <= a
 few : r.ps.length <= 4096
 size : At r.ps <= 530000
theorem A7.len {r : A7} (h : EJ r) : r.bytes.length <= 1048576:=by
 have h1:=prs9_len h.fine
 have h2:=h.few
 have h3:=h.size
 have h4:=h.num
 have e1:=Au (AJ (n:=r.num) (by unfold limC at h4; omega))
 have e2:=Hn r.base.isSome
 have e3 : (base9 r.base).length <= 20:=by
  cases hb : r.base with
  | none => simp [base9]
  | some x =>
    obtain ⟨a,k⟩:=x
    obtain ⟨b1,b2,b3⟩:=h.base a k hb
    have f1:=Au (AJ (n:=a) (by unfold limC at b1; omega))
    have f2:=Au (AJ (n:=k) (by omega))
    show (As a ++ As k).length <= 20
    rw [List.length_append]; omega
 unfold A7.bytes
 simp only [List.length_append]
 omega
structure RS9 where
 newest : Nat
 k : Nat
 mem : List Aa
 last : Nat
 logged : Nat
def FM (s : RS9) (r : A7) : RS9:=match r.base with
 | none => ⟨s.newest,s.k,AQ r.ps s.mem,r.num,s.logged + r.bytes.length⟩
 | some (a,k) => ⟨a,k,AQ r.ps [],r.num,0⟩
def zeroR9 : RS9:=⟨0,0,[],0,0⟩
def Cc (rs : List A7) : RS9:=rs.foldl FM zeroR9
theorem Gy (rs : List A7) (r : A7) : Cc (rs ++ [r]) = FM (Cc rs) r:=by unfold Cc; rw [List.foldl_append]; rfl
theorem Se (s : RS9) (r : A7) : (FM s r).last = r.num:=by unfold FM; split <;> rfl
theorem Kp {rs : List A7} {i : Nat} (h : i < rs.length) : Cc (rs.take (i + 1)) = FM (Cc (rs.take i)) rs[i]:=by
 rw [List.take_succ_eq_append_getElem h,Gy]
theorem Oz {rs : List A7} {i : Nat} (h : i < rs.length) : (Cc (rs.take (i + 1))).last = rs[i].num:=by rw [Kp h,Se]
theorem Vl {rs qs : List A7} {r : A7} (h : r.base ≠ none) : Cc (rs ++ [r]) = Cc (qs ++ [r]):=by
 rw [Gy,Gy]
 unfold FM
 cases hb : r.base with
 | none => exact absurd hb h
 | some x => rfl
structure Da (rs : List A7) : Prop where
 next : ∀ i (h : i + 1 < rs.length),rs[i + 1].num = rs[i].num + 1
 based : rs = [] \/ (∃ h : 0 < rs.length,rs[0].num = 1) \/ ∃ r ∈ rs,r.base ≠ none
 ok : ∀ r ∈ rs,EJ r
theorem Da.nil : Da []:=⟨fun i h => by simp at h,.inl rfl,by simp⟩
theorem OC {rs : List A7} (h : 0 < rs.length) : (Cc rs).last = (rs[rs.length - 1]'(by omega)).num:=by
 have:=Oz (rs:=rs) (i:=rs.length - 1) (by omega)
 rw [show rs.length - 1 + 1 = rs.length by omega,List.take_length] at this
 exact this
theorem Da.snoc {rs : List A7} {r : A7} (h : Da rs) (hr : EJ r) (hn : r.num = (Cc rs).last + 1) : Da (rs ++ [r]):=by
 refine ⟨fun i hi => ?_,?_,fun x hx => ?_⟩
 · rw [List.length_append,List.length_singleton] at hi
   by_cases hlt : i + 1 < rs.length
   · rw [List.getElem_append_left hlt,List.getElem_append_left (by omega)]
     exact h.next i hlt
   · have e : i + 1 = rs.length:=by omega
     rw [List.getElem_append_left (show i < rs.length by omega)]
     have e2 : (rs ++ [r])[i + 1]'(by rw [List.length_append,List.length_singleton]; omega) = r:=by
      rw [List.getElem_append_right (by omega)]; simp
     rw [e2,hn,OC (by omega)]
     congr 2
     simp [<- e]
 · rcases h.based with rfl | ⟨h0,h1⟩ | ⟨x,hx,hb⟩
   · exact .inr (.inl ⟨by simp,by rw [show (Cc []).last = 0 from rfl] at hn; simpa using hn⟩)
   · exact .inr (.inl ⟨by rw [List.length_append]; omega,by rw [List.getElem_append_left h0]; exact h1⟩)
   · exact .inr (.inr ⟨x,by simp [hx],hb⟩)
 · rcases List.mem_append.1 hx with hx | hx
   · exact h.ok x hx
   · rw [List.mem_singleton.1 hx]; exact hr
theorem Da.right {a b : List A7} (h : Da (a ++ b)) (hb : ∃ r ∈ b,r.base ≠ none) : Da b:=by
 refine ⟨fun i hi => ?_,.inr (.inr hb),fun x hx => h.ok x (by simp [hx])⟩
 have:=h.next (a.length + i) (by rw [List.length_append]; omega)
 rw [List.getElem_append_right (by omega),List.getElem_append_right (by omega)] at this
 simp only [show a.length + i + 1 - a.length = i + 1 by omega,show a.length + i - a.length = i by omega] at this
 exact this
def LOG : Key:=[108,111,103]
abbrev Bv:=Nat × List A7 × List UInt8
def Q6 (t : List UInt8) : Prop:=∃ r : List UInt8,∃ k : Nat,r.length <= 1048576 /\ k < (Ai r).length /\ t = (Ai r).take k
theorem Q6.nil : Q6 []:=⟨[],0,by simp,by rw [Fk]; omega,by simp⟩
def GO (a : Bv) : Key × Ae:=(Af LOG a.1,FV (A6 (a.2.1.map A7.bytes) ++ a.2.2))
def Bl (A : List Bv) : List A7:=A.flatMap (·.2.1)
theorem Dr (A B : List Bv) : Bl (A ++ B) = Bl A ++ Bl B:=by simp [Bl]
theorem Fv (a : Bv) (B : List Bv) : Bl (a :: B) = a.2.1 ++ Bl B:=rfl
structure EY (l : List (Key × Ae)) (A : List Bv) : Prop where
 segs : BG LOG l = A.map GO
 num : ∀ a ∈ A,1 <= a.1 /\ a.1 <= limC
 torn : ∀ a ∈ A,Q6 a.2.2
 ok : ∀ r ∈ Bl A,EJ r
theorem Jh {n : Nat} (h : n <= limC) : n < 100000000:=by unfold limC at h; omega
theorem EY.same {l l' : List (Key × Ae)} {A : List Bv} (h : EY l A) (e : BG LOG l' = BG LOG l) : EY l' A:=⟨e.trans h.segs,h.num,h.torn,h.ok⟩
theorem EY.nums {l : List (Key × Ae)} {A : List Bv} (h : EY l A) : AC LOG l = A.map (·.1):=by
 rw [Mw,h.segs,List.map_map]
 refine List.map_congr_left fun a ha => ?_
 exact GI LOG (Jh (h.num a ha).2)
theorem Tz {rs : List A7} (h : ∀ r ∈ rs,EJ r) : ∀ l ∈ rs.map A7.bytes,l.length <= 1048576:=fun l hl => by
 obtain ⟨r,hr,rfl⟩:=List.mem_map.1 hl
 exact A7.len (h r hr)
theorem Q6.next {t : List UInt8} (h : Q6 t) : (BQ t).1 ≠ 0:=by
 obtain ⟨r,k,h1,h2,rfl⟩:=h
 rw [V3 h1 h2]
 simp
theorem EY.recs {l : List (Key × Ae)} {A : List Bv} (h : EY l A) : DH LOG l = (Bl A).map A7.bytes:=by
 rw [N6,h.segs]
 have ht:=h.torn
 have ho:=h.ok
 clear h
 induction A with
 | nil => rfl
 | cons a B ih =>
   rw [List.map_cons,List.flatMap_cons,ih (fun x hx => ht x (by simp [hx])) (fun r hr => ho r (by rw [Fv]; simp [hr])),Fv,List.map_append]
   congr 1
   have:=I3 (Tz (rs:=a.2.1) fun r hr => ho r (by rw [Fv]; simp [hr])) a.2.2 (ht a (by simp)).next
   show (BI (A6 (a.2.1.map A7.bytes) ++ a.2.2)).1 = _
   rw [this]
def DC (A : List Bv) (c : Nat) (ap : Bool) : Prop:=if ap then ∃ B rs,A = B ++ [(c,rs,[])] /\ ∀ x ∈ B,x.1 < c else ∀ x ∈ A,x.1 < c
theorem Hl {l : List (Key × Ae)} {x : Key × Ae} : x ∈ BG LOG l ↔ x ∈ l /\ AB LOG x.1 ≠ 0:=by
 unfold BG
 rw [List.mem_filter]
 simp
theorem KI {α : Type} {l : List (Key × α)} (h : AA l) {x : Key × α} (hx : x ∈ l) : Ak x.1 l = some x.2:=by
 obtain ⟨i,hi,rfl⟩:=List.mem_iff_getElem.1 hx
 exact SP h hi
theorem SU {k : Key × Ae} {l : List (Key × Ae)} (hr : AA l) (hk : AB LOG k.1 ≠ 0) : BG LOG (Bm k l) = Bm k (BG LOG l):=by
 induction l with
 | nil =>
   show BG LOG [k] = [k]
   unfold BG
   rw [List.filter_cons,if_pos (by simpa using hk)]
   rfl
 | cons y r ih =>
   have hr1:=List.pairwise_cons.1 hr
   by_cases h : bytesBefore k.1 y.1 = true
   · rw [Bm,if_pos h]
     have e1 : BG LOG (k :: y :: r) = k :: BG LOG (y :: r):=by
      unfold BG
      rw [List.filter_cons,if_pos (by simpa using hk)]
     rw [e1]
     cases hf : BG LOG (y :: r) with
     | nil => rfl
     | cons z t =>
       have hz : z ∈ y :: r:=(Hl.1 (by rw [hf]; simp : z ∈ BG LOG (y :: r))).1
       have hb : bytesBefore k.1 z.1 = true:=by
        rcases List.mem_cons.1 hz with rfl | hz
        · exact h
        · exact Hb h (hr1.1 z hz)
       rw [Bm,if_pos hb]
   · rw [Bm,if_neg h]
     have ih:=ih hr1.2
     by_cases hy : AB LOG y.1 = 0
     · have e1 : ∀ t,BG LOG (y :: t) = BG LOG t:=fun t => by unfold BG; rw [List.filter_cons,if_neg (by simp [hy])]
       rw [e1,e1,ih]
     · have e1 : ∀ t,BG LOG (y :: t) = y :: BG LOG t:=fun t => by unfold BG; rw [List.filter_cons,if_pos (by simp [hy])]
       rw [e1,e1,ih,Bm,if_neg h]
theorem Mk {k : Key} {f : Ae} (hk : AB LOG k ≠ 0) : ∀ l : List (Key × Ae),BG LOG (Bk k f l) = Bk k f (BG LOG l)
 | [] => rfl
 | y :: r => by
   have ih:=Mk (f:=f) hk r
   rw [Bk]
   by_cases e : y.1 = k
   · rw [if_pos e]
     have e1 : BG LOG (y :: r) = y :: BG LOG r:=by unfold BG; rw [List.filter_cons,if_pos (by simp only [e]; simpa using hk)]
     have e2 : BG LOG ((k,f) :: r) = (k,f) :: BG LOG r:=by unfold BG; rw [List.filter_cons,if_pos (by simpa using hk)]
     rw [e1,e2,Bk,if_pos e]
   · rw [if_neg e]
     by_cases hy : AB LOG y.1 = 0
     · have e1 : ∀ t,BG LOG (y :: t) = BG LOG t:=fun t => by unfold BG; rw [List.filter_cons,if_neg (by simp [hy])]
       rw [e1,e1,ih]
     · have e1 : ∀ t,BG LOG (y :: t) = y :: BG LOG t:=fun t => by unfold BG; rw [List.filter_cons,if_pos (by simp [hy])]
       rw [e1,e1,ih,Bk,if_neg e]
theorem Px {k : Key} {f g : Ae} : ∀ (B : List (Key × Ae)),(∀ x ∈ B,x.1 ≠ k) -> Bk k g (B ++ [(k,f)]) = B ++ [(k,g)]
 | [],_ => by rw [List.nil_append,Bk,if_pos rfl]; rfl
 | y :: r,h => by rw [List.cons_append,Bk,if_neg (h y (by simp)),Px r (fun x hx => h x (by simp [hx]))]; rfl
theorem ZM {n m : Nat} (hn : n <= limC) (hm : m <= limC) (h : n ≠ m) : Af LOG n ≠ Af LOG m:=fun e => h (QP (Jh hn) (Jh hm) e)
theorem Gk {n : Nat} (h1 : 1 <= n) (h : n <= limC) : AB LOG (Af LOG n) ≠ 0:=by rw [GI LOG (Jh h)]; omega
theorem KK {l : List (Key × Ae)} {A : List Bv} {c : Nat} {ap : Bool} (hr : AA l) (h : EY l A) (hc : DC A c ap) (h1 : 1 <= c) (h2 : c <= limC) :
 Ak (Af LOG c) l = if ap then some (FV (A6 ((A.getLastD (0,[],[])).2.1.map A7.bytes))) else none:=by
 unfold DC at hc
 cases ap with
 | true =>
   simp only [↓reduceIte] at hc ⊢
   obtain ⟨B,rs,rfl,hB⟩:=hc
   have hm : GO (c,rs,[]) ∈ BG LOG l:=by rw [h.segs]; exact List.mem_map.2 ⟨_,by simp,rfl⟩
   have:=KI hr (Hl.1 hm).1
   have e : (GO (c,rs,[])).1 = Af LOG c:=rfl
   rw [e] at this
   rw [this,List.getLastD_concat]
   show some (FV (A6 (rs.map A7.bytes) ++ [])) = _
   rw [List.append_nil]
 | false =>
   simp only [Bool.false_eq_true,↓reduceIte] at hc ⊢
   rw [DF]
   intro x hx e
   have hm : x ∈ BG LOG l:=Hl.2 ⟨hx,by rw [e]; exact Gk h1 h2⟩
   rw [h.segs] at hm
   obtain ⟨a,ha,rfl⟩:=List.mem_map.1 hm
   exact ZM (h.num a ha).2 h2 (by have:=hc a ha; omega) e
theorem Rx {l : List (Key × Ae)} {A : List Bv} {c : Nat} {ap : Bool} {r : A7} (hr : AA l) (h : EY l A) (hc : DC A c ap) (h1 : 1 <= c) (h2 : c <= limC) (hok : EJ r) {m : Nat} (hm : m <= (Ai r.bytes).length) :
 ∃ A',EY (Cq (Af LOG c) ((Ai r.bytes).take m) l) A' /\ (∀ x ∈ A',x.1 <= c) /\ ((m < (Ai r.bytes).length /\ Bl A' = Bl A) \/ (m = (Ai r.bytes).length /\ Bl A' = Bl A ++ [r] /\ DC A' c true)):=by
 have hall : ∀ x ∈ A,x.1 <= c:=fun x hx => by
  unfold DC at hc
  cases ap with
  | true =>
    simp only [↓reduceIte] at hc
    obtain ⟨B,rs,rfl,hB⟩:=hc
    rcases List.mem_append.1 hx with hx | hx
    · exact Nat.le_of_lt (hB x hx)
    · rw [List.mem_singleton.1 hx]; exact Nat.le_refl _
  | false =>
    simp only [Bool.false_eq_true,↓reduceIte] at hc
    exact Nat.le_of_lt (hc x hx)
 have hfp:=Fe r.bytes
 by_cases hm0 : m = 0
 · subst hm0
   refine ⟨A,?_,hall,.inl ⟨hfp,rfl⟩⟩
   rw [List.take_zero]
   unfold Cq
   rw [if_pos rfl]
   exact h
 have hne : (Ai r.bytes).take m ≠ []:=fun e => hm0 (by have:=congrArg List.length e; rw [List.length_take,List.length_nil] at this; omega)
 have hsn:=Gk h1 h2
 have hfd:=KK hr h hc h1 h2
 have htake : (m < (Ai r.bytes).length /\ Q6 ((Ai r.bytes).take m)) \/ (m = (Ai r.bytes).length /\ (Ai r.bytes).take m = Ai r.bytes):=by
  rcases Nat.lt_or_ge m (Ai r.bytes).length with hlt | hge
  · exact .inl ⟨hlt,r.bytes,m,A7.len hok,hlt,rfl⟩
  · exact .inr ⟨by omega,List.take_of_length_le hge⟩
 have mk : ∀ (B : List Bv) (rs : List A7),(∀ x ∈ B,x.1 < c) -> (∀ x ∈ B,x ∈ A) -> Bl A = Bl B ++ rs -> BG LOG (Cq (Af LOG c) ((Ai r.bytes).take m) l) = B.map GO ++ [(Af LOG c,FV (A6 (rs.map A7.bytes) ++ (Ai r.bytes).take m))] ->
     ∃ A',EY (Cq (Af LOG c) ((Ai r.bytes).take m) l) A' /\ (∀ x ∈ A',x.1 <= c) /\ ((m < (Ai r.bytes).length /\ Bl A' = Bl A) \/ (m = (Ai r.bytes).length /\ Bl A' = Bl A ++ [r] /\ DC A' c true)):=by
  intro B rs hB hBA hrec hseg
  have hnum : ∀ a ∈ B ++ [((c,rs,[]) : Bv)],1 <= a.1 /\ a.1 <= limC:=fun a ha => by
   rcases List.mem_append.1 ha with ha | ha
   · exact h.num a (hBA a ha)
   · rw [List.mem_singleton.1 ha]; exact ⟨h1,h2⟩
  rcases htake with ⟨hlt,ht⟩ | ⟨heq,ht⟩
  · refine ⟨B ++ [(c,rs,(Ai r.bytes).take m)],⟨?_,fun a ha => ?_,fun a ha => ?_,fun x hx => ?_⟩,fun a ha => ?_,.inl ⟨hlt,?_⟩⟩
    · rw [hseg,List.map_append]; rfl
    · rcases List.mem_append.1 ha with ha | ha
      · exact h.num a (hBA a ha)
      · rw [List.mem_singleton.1 ha]; exact ⟨h1,h2⟩
    · rcases List.mem_append.1 ha with ha | ha
      · exact h.torn a (hBA a ha)
      · rw [List.mem_singleton.1 ha]; exact ht
    · refine h.ok x ?_
      rw [hrec]
      rw [Dr] at hx
      simpa [Bl] using hx
    · rcases List.mem_append.1 ha with ha | ha
      · exact Nat.le_of_lt (hB a ha)
      · rw [List.mem_singleton.1 ha]; exact Nat.le_refl _
    · rw [hrec,Dr]; simp [Bl]
  · refine ⟨B ++ [(c,rs ++ [r],[])],⟨?_,fun a ha => ?_,fun a ha => ?_,fun x hx => ?_⟩,fun a ha => ?_,.inr ⟨heq,?_,?_⟩⟩
    · rw [hseg,List.map_append,ht]
      show _ = _ ++ [(Af LOG c,FV (A6 ((rs ++ [r]).map A7.bytes) ++ []))]
      rw [List.append_nil,List.map_append,List.map_cons,List.map_nil,Ql]
    · rcases List.mem_append.1 ha with ha | ha
      · exact h.num a (hBA a ha)
      · rw [List.mem_singleton.1 ha]; exact ⟨h1,h2⟩
    · rcases List.mem_append.1 ha with ha | ha
      · exact h.torn a (hBA a ha)
      · rw [List.mem_singleton.1 ha]; exact Q6.nil
    · have hx' : x ∈ Bl A \/ x = r:=by
        rw [hrec]
        rw [Dr] at hx
        have : x ∈ Bl B \/ x ∈ rs \/ x = r:=by simpa [Bl] using hx
        rcases this with h | h | h
        · exact .inl (by simp [h])
        · exact .inl (by simp [h])
        · exact .inr h
      rcases hx' with hx' | rfl
      · exact h.ok x hx'
      · exact hok
    · rcases List.mem_append.1 ha with ha | ha
      · exact Nat.le_of_lt (hB a ha)
      · rw [List.mem_singleton.1 ha]; exact Nat.le_refl _
    · rw [hrec,Dr]; simp [Bl]
    · unfold DC
      rw [if_pos rfl]
      exact ⟨B,rs ++ [r],rfl,hB⟩
 unfold DC at hc
 cases ap with
 | true =>
   simp only [↓reduceIte] at hc hfd
   obtain ⟨B,rs,rfl,hB⟩:=hc
   rw [List.getLastD_concat] at hfd
   simp only at hfd
   refine mk B rs hB (fun x hx => by simp [hx]) (by rw [Dr]; simp [Bl]) ?_
   unfold Cq
   rw [if_neg hne,hfd]
   simp only
   rw [Mk hsn,h.segs,List.map_append,List.map_cons,List.map_nil]
   show Bk (Af LOG c) _ (_ ++ [(Af LOG c,_)]) = _
   rw [Px]
   · rfl
   · intro x hx e
     obtain ⟨a,ha,rfl⟩:=List.mem_map.1 hx
     exact ZM (h.num a (by simp [ha])).2 h2 (by have:=hB a ha; omega) e
 | false =>
   simp only [Bool.false_eq_true,↓reduceIte] at hc hfd
   refine mk A [] hc (fun x hx => hx) (by simp) ?_
   unfold Cq
   rw [if_neg hne,hfd]
   simp only
   rw [SU hr hsn,h.segs,Nb _ _ (fun y hy => ?_)]
   · rfl
   · obtain ⟨a,ha,rfl⟩:=List.mem_map.1 hy
     show bytesBefore (Af LOG a.1) (Af LOG c) = true
     rw [Nu LOG (Jh (h.num a ha).2) (Jh h2)]
     exact decide_eq_true (hc a ha)
theorem XU {l : List (Key × Ae)} {a : Bv} {B : List Bv} (hr : AA l) (h : EY l (a :: B)) : EY (BH (Af LOG a.1) l) B:=by
 refine ⟨?_,fun x hx => h.num x (by simp [hx]),fun x hx => h.torn x (by simp [hx]),fun x hx => h.ok x (by rw [Fv]; simp [hx])⟩
 rw [PM,h.segs,List.map_cons]
 have hn : ∀ y ∈ B.map GO,y.1 ≠ Af LOG a.1:=by
  have hp : AA (BG LOG l):=List.Pairwise.sublist List.filter_sublist hr
  rw [h.segs,List.map_cons] at hp
  have:=(List.pairwise_cons.1 hp).1
  intro y hy e
  have:=this y hy
  rw [e] at this
  have e2 : (GO a).1 = Af LOG a.1:=rfl
  rw [e2,FW] at this
  cases this
 have e1 : BH (Af LOG a.1) (GO a :: B.map GO) = BH (Af LOG a.1) (B.map GO):=by
  unfold BH
  rw [List.filter_cons,if_neg]
  simp [GO]
 rw [e1,Kh (DF.2 hn)]
end Go.Proofs.YtlkefgngefpkiaaGreatDoor
