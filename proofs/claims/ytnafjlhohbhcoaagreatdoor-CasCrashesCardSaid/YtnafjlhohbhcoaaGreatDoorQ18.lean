/- Parts of the proof. -/
import Derived.Test.YtnafjlhohbhcoaaGreatDoorQ09
import Derived.Test.YtnafjlhohbhcoaaGreatDoorQ17
namespace Go.Proofs.YtnafjlhohbhcoaaGreatDoor
set_option linter.unusedVariables false
section
open Go.RowKit
theorem Cz {l : List Aa} {y : Aa} : y ∈ By l ↔ y ∈ l /\ y.gone = false:=by
 unfold By
 rw [List.mem_filter]
 simp
theorem Dd {l : List Aa} (h : Ak l) : Ak (By l):=List.Pairwise.sublist List.filter_sublist h
theorem Xh {l : List Aa} (h : Az l) : Az (By l):=fun y hy => h y (Cz.1 hy).1
def CT (mem : List Aa) (runs : List (List Aa)) : List Aa:=By (BY (mem :: runs))
theorem Ep (mem : List Aa) (runs : List (List Aa)) : Ak (CT mem runs):=Dd (allP_rising _)
theorem Cd.mk {l : List Aa} {r : List (List Aa)} (h1 : Ak l) (h2 : Az l) (h : Cd r) : Cd (l :: r):=fun m hm => by
 rcases List.mem_cons.1 hm with rfl | hm
 · exact ⟨h1,h2⟩
 · exact h m hm
theorem PS {x : Aa} {l : List Aa} (hx : Aw x = 0) (h : Az l) : Az (C2 x l):=fun y hy => by
 rcases Tz hy with rfl | hy
 · exact hx
 · exact h y hy
theorem AaI {mem : List Aa} {runs : List (List Aa)} {x : Aa} (hm : Ak mem) (hf : Az mem) (hg : Cd runs) (hx : Aw x = 0) : CT (C2 x mem) runs = J7 x (CT mem runs):=by
 refine rising_ext (Ep _ _) (LZ (Ep _ _)) fun y => ?_
 have g1 : Cd (mem :: runs):=Cd.mk hm hf hg
 have g2 : Cd (C2 x mem :: runs):=Cd.mk (Da hm) (PS hx hf) hg
 rw [Ra (Ep _ _)]
 unfold CT
 rw [Cz,Cz,Be g2,Be g1,CC hm]
 constructor
 · rintro ⟨h1,h2⟩
   rcases h1 with (rfl | ⟨h1,h3⟩) | ⟨h1,h3⟩
   · exact .inl ⟨h2,rfl⟩
   · exact .inr ⟨⟨.inl h1,h2⟩,h3⟩
   · refine .inr ⟨⟨.inr ⟨h1,fun z hz e => ?_⟩,h2⟩,fun e => h3 x ((CC hm x x).2 (.inl rfl)) e.symm⟩
     by_cases hzx : z.key = x.key
     · exact h3 x ((CC hm x x).2 (.inl rfl)) (by rw [<- hzx]; exact e)
     · exact h3 z ((CC hm x z).2 (.inr ⟨hz,hzx⟩)) e
 · rintro (⟨h1,rfl⟩ | ⟨⟨h1,h2⟩,h3⟩)
   · exact ⟨.inl (.inl rfl),h1⟩
   · rcases h1 with h1 | ⟨h1,h4⟩
     · exact ⟨.inl (.inr ⟨h1,h3⟩),h2⟩
     · refine ⟨.inr ⟨h1,fun z hz => ?_⟩,h2⟩
       rcases (CC hm x z).1 hz with rfl | ⟨hz,_⟩
       · exact fun e => h3 e.symm
       · exact h4 z hz
theorem map_write : ∀ (ps : List Aa) {mem : List Aa} {runs : List (List Aa)},Ak mem -> Az mem -> Cd runs -> Az ps -> CT (Bc ps mem) runs = AP (CT mem runs) ps
 | [],_,_,_,_,_,_ => rfl
 | x :: r,mem,runs,hm,hf,hg,hp => by
   have hx : Aw x = 0:=hp x (by simp)
   have e : Et x mem = C2 x mem:=if_pos hx
   rw [G3,e,map_write r (Da hm) (PS hx hf) hg (fun y hy => hp y (by simp [hy])),AaI hm hf hg hx]
   rfl
def Hn (k : ByteArray) : List (List Aa) -> Option Aa
 | [] => none
 | l :: r => match DS k l with | some y => some y | none => Hn k r
theorem Ql {l : List Aa} (h : Ak l) {k : ByteArray} (hk : DS k l = none) : ∀ z ∈ l,z.key ≠ k:=fun z hz e => by
 have:=(Dm h k z).2 ⟨hz,e⟩
 rw [hk] at this
 cases this
theorem Js {l : List Aa} (h : Ak l) {k : ByteArray} (hk : ∀ z ∈ l,z.key ≠ k) : DS k l = none:=by
 cases hg : DS k l with
 | none => rfl
 | some y => exact absurd ((Dm h k y).1 hg).2 (hk y ((Dm h k y).1 hg).1)
theorem get_all : ∀ {L : List (List Aa)},Cd L -> ∀ k,DS k (BY L) = Hn k L
 | [],_,k => by rw [Js (allP_rising _) (by simp [allP_nil])]; rfl
 | l :: r,h,k => by
   have ih:=get_all h.cons.2 k
   have hr:=h.cons.1.1
   unfold Hn
   cases hg : DS k l with
   | some y =>
     obtain ⟨h1,h2⟩:=(Dm hr k y).1 hg
     exact (Dm (allP_rising _) k y).2 ⟨(Be h y).2 (.inl h1),h2⟩
   | none =>
     have hno:=Ql hr hg
     simp only
     rw [<- ih]
     cases hg2 : DS k (BY r) with
     | some y =>
       obtain ⟨h1,h2⟩:=(Dm (allP_rising _) k y).1 hg2
       exact (Dm (allP_rising _) k y).2 ⟨(Be h y).2 (.inr ⟨h1,fun z hz e => hno z hz (e.trans h2)⟩),h2⟩
     | none =>
       have hno2:=Ql (allP_rising _) hg2
       refine Js (allP_rising _) fun z hz e => ?_
       rcases (Be h z).1 hz with hz | ⟨hz,_⟩
       · exact hno z hz e
       · exact hno2 z hz e
theorem Ab1 {s : ByteArray} (h : s.size = 0) : s = ⟨#[]⟩:=by
 apply ByteArray.ext
 exact Array.eq_empty_of_size_eq_zero h
theorem XQ {x : Aa} (h : Aw x = 0) (hg : x.gone = true) : x.val = ⟨#[]⟩:=Ab1 (((Cj x).1 h).2.2.2 hg)
theorem Abh {L : List (List Aa)} (h : Cd L) (k : ByteArray) : CE k (By (BY L)) = (((Hn k L).getD zeroP).val,(Hn k L).isSome && !((Hn k L).getD zeroP).gone):=by
 rw [<- get_all h k]
 unfold CE
 cases hg : DS k (BY L) with
 | none =>
   rw [Js (Dd (allP_rising _)) fun z hz => Ql (allP_rising _) hg z (Cz.1 hz).1]
   rfl
 | some y =>
   obtain ⟨h1,h2⟩:=(Dm (allP_rising _) k y).1 hg
   cases hy : y.gone with
   | false =>
     rw [(Dm (Dd (allP_rising _)) k y).2 ⟨Cz.2 ⟨h1,hy⟩,h2⟩]
     simp [hy]
   | true =>
     rw [Js (Dd (allP_rising _)) fun z hz e => by
      have:=NH (allP_rising _) (Cz.1 hz).1 h1 (e.trans h2.symm)
      have h3:=(Cz.1 hz).2
      rw [this,hy] at h3
      cases h3]
     simp only [Option.getD_some,Option.isSome_some,hy,Bool.not_true,Bool.and_false,XQ (allP_fine _ y h1) hy]
theorem FH {l : List Aa} (h : Ak l) (k : ByteArray) (y : Aa) : y ∈ AG k l ↔ y ∈ l /\ AO y.key k = false:=by
 unfold AG
 constructor
 · intro hy
   obtain ⟨i,hi,e⟩:=List.mem_iff_getElem.1 hy
   rw [List.length_drop] at hi
   rw [List.getElem_drop] at e
   refine ⟨List.mem_of_mem_drop hy,?_⟩
   have hlt : placeP k l < l.length:=by omega
   have h1:=Fd hlt
   by_cases hi0 : i = 0
   · subst hi0
     simp only [Nat.add_zero] at e
     rw [<- e]; exact h1
   · have h2:=List.pairwise_iff_getElem.1 h (placeP k l) (placeP k l + i) hlt (by omega) (by omega)
     rw [e] at h2
     cases hb : AO y.key k with
     | false => rfl
     | true => rw [Bq h2 hb] at h1; cases h1
 · rintro ⟨hy,hb⟩
   obtain ⟨i,hi,e⟩:=List.mem_iff_getElem.1 hy
   have hp : placeP k l <= i:=by
    rcases Nat.lt_or_ge i (placeP k l) with h1 | h1
    · have:=Dq hi h1
      rw [e,hb] at this; cases this
    · exact h1
   refine List.mem_iff_getElem.2 ⟨i - placeP k l,by rw [List.length_drop]; omega,?_⟩
   rw [List.getElem_drop]
   rw [<- e]
   congr 1
   omega
theorem Ez {l : List Aa} (h : Ak l) (k : ByteArray) : Ak (AG k l):=List.Pairwise.sublist (List.drop_sublist _ _) h
theorem XT {l : List Aa} (h : Az l) (k : ByteArray) : Az (AG k l):=fun y hy => h y (List.mem_of_mem_drop hy)
theorem Aaj (k : ByteArray) (l : List Aa) : (AG k l).length <= l.length:=by unfold AG; rw [List.length_drop]; omega
theorem OY {L : List (List Aa)} (h : Cd L) (k : ByteArray) : Cd (L.map (AG k)):=fun l hl => by
 obtain ⟨m,hm,rfl⟩:=List.mem_map.1 hl
 exact ⟨Ez (h m hm).1 k,XT (h m hm).2 k⟩
theorem SR (k : ByteArray) : ∀ L : List (List Aa),Bk (L.map (AG k)) <= Bk L
 | [] => Nat.le_refl _
 | l :: r => by
   have:=SR k r
   have h2:=Aaj k l
   unfold Bk at *
   simp only [List.map_cons,List.sum_cons]
   omega
theorem all_from : ∀ {L : List (List Aa)},Cd L -> ∀ k,BY (L.map (AG k)) = AG k (BY L)
 | [],_,k => rfl
 | l :: r,h,k => by
   have ih:=all_from h.cons.2 k
   have g2:=OY h k
   rw [List.map_cons] at g2 ⊢
   refine rising_ext (allP_rising _) (Ez (allP_rising _) k) fun y => ?_
   rw [Be g2,ih,FH h.cons.1.1,FH (allP_rising _),FH (allP_rising _),Be h]
   constructor
   · rintro (⟨h1,h2⟩ | ⟨⟨h1,h2⟩,h3⟩)
     · exact ⟨.inl h1,h2⟩
     · refine ⟨.inr ⟨h1,fun z hz e => h3 z ((FH h.cons.1.1 k z).2 ⟨hz,by rw [e]; exact h2⟩) e⟩,h2⟩
   · rintro ⟨h1 | ⟨h1,h3⟩,h2⟩
     · exact .inl ⟨h1,h2⟩
     · exact .inr ⟨⟨h1,h2⟩,fun z hz => h3 z ((FH h.cons.1.1 k z).1 hz).1⟩
theorem WC {l : List Aa} (h : Ak l) (k : ByteArray) : By (AG k l) = AG k (By l):=by
 refine rising_ext (Dd (Ez h k)) (Ez (Dd h) k) fun y => ?_
 rw [Cz,FH h,FH (Dd h),Cz]
 constructor
 · rintro ⟨⟨h1,h2⟩,h3⟩; exact ⟨⟨h1,h3⟩,h2⟩
 · rintro ⟨⟨h1,h3⟩,h2⟩; exact ⟨⟨h1,h2⟩,h3⟩
theorem Hl {p : Aa -> Bool} : ∀ {l : List Aa},l.Pairwise (fun a b => p b = true -> p a = true) -> l.takeWhile p = l.filter p
 | [],_ => rfl
 | x :: r,h => by
   have h1:=List.pairwise_cons.1 h
   rw [List.takeWhile_cons,List.filter_cons]
   cases hp : p x with
   | true => simp only [↓reduceIte]; rw [Hl h1.2]
   | false =>
     simp only [Bool.false_eq_true,↓reduceIte]
     symm
     rw [List.filter_eq_nil_iff]
     intro y hy hy2
     rw [h1.1 y hy hy2] at hp
     cases hp
theorem TJ {to : ByteArray} {a b : Aa} (h : AO a.key b.key = true) (hb : Bi to b = true) : Bi to a = true:=by
 unfold Bi at *
 rcases Bool.or_eq_true_iff.1 hb with h1 | h1
 · rw [h1]; rfl
 · rw [Bq h h1,Bool.or_true]
theorem Xe {m : List Aa} (h : Ak m) (fr to : ByteArray) (most : Int) : CU (AG fr m) to most = I8 m fr to most:=by
 unfold CU I8
 congr 1
 have hpw : (AG fr m).Pairwise (fun a b => Bi to b = true -> Bi to a = true):=by
  have h1:=Ez h fr
  unfold Ak at h1
  exact h1.imp (fun {a b} hab hb => TJ hab hb)
 rw [Hl hpw]
 refine rising_ext (List.Pairwise.sublist List.filter_sublist (Ez h fr)) (List.Pairwise.sublist List.filter_sublist h) fun y => ?_
 rw [List.mem_filter,List.mem_filter,FH h]
 unfold inM Bi
 cases AO y.key fr <;> simp
theorem Yi {mem : List Aa} {runs : List (List Aa)} (h : Cd (mem :: runs)) (fr to : ByteArray) (most : Int) : CU (By (BY ((mem :: runs).map (AG fr)))) to most = I8 (CT mem runs) fr to most:=by
 rw [all_from h,WC (allP_rising _)]
 exact Xe (Ep mem runs) fr to most
def AT (L : List (List Aa)) : List Aa:=if By (BY L) = [] then (BY L).take 1 else By (BY L)
theorem YM (l : List Aa) : CU l ⟨#[]⟩ 1 = l.take 1:=by
 unfold CU
 have h1 : ∀ l : List Aa,l.takeWhile (Bi ⟨#[]⟩) = l:=fun l => by
  induction l with
  | nil => rfl
  | cons x r ih => rw [List.takeWhile_cons,show Bi ⟨#[]⟩ x = true from rfl,if_pos rfl,ih]
 rw [h1]
 rfl
theorem F7 (L : List (List Aa)) : Ak (AT L):=by
 unfold AT
 split
 · exact List.Pairwise.sublist (List.take_sublist _ _) (allP_rising L)
 · exact Dd (allP_rising L)
theorem GZ (L : List (List Aa)) : Az (AT L):=by
 unfold AT
 split
 · exact fun y hy => allP_fine L y (List.mem_of_mem_take hy)
 · exact Xh (allP_fine L)
theorem IT (L : List (List Aa)) : (AT L).length <= Bk L:=by
 have h1:=allP_len L
 unfold AT
 split
 · rw [List.length_take]; omega
 · exact Nat.le_trans (Jn _) h1
theorem Qg {L : List (List Aa)} (h : Cd L) {l : List Aa} (hl : l ∈ L) (hne : l ≠ []) : AT L ≠ []:=by
 have hall : BY L ≠ []:=by
  induction L with
  | nil => cases hl
  | cons m r ih =>
    obtain ⟨x,hx⟩:=List.exists_mem_of_ne_nil l hne
    rcases List.mem_cons.1 hl with rfl | hl
    · exact List.ne_nil_of_mem ((Be h x).2 (.inl hx))
    · by_cases hm : m = []
      · obtain ⟨y,hy⟩:=List.exists_mem_of_ne_nil _ (ih h.cons.2 hl)
        subst hm
        exact List.ne_nil_of_mem ((Be h y).2 (.inr ⟨hy,by simp⟩))
      · obtain ⟨y,hy⟩:=List.exists_mem_of_ne_nil _ hm
        exact List.ne_nil_of_mem ((Be h y).2 (.inl hy))
 unfold AT
 split
 · intro e
   have:=congrArg List.length e
   rw [List.length_take,List.length_nil] at this
   have h0:=List.length_pos_iff.2 hall
   omega
 · rename_i h1; exact h1
theorem Ry (L : List (List Aa)) {y : Aa} (hy : y.gone = false) : y ∈ AT L ↔ y ∈ BY L:=by
 unfold AT
 split
 · rename_i h0
   have hno : ¬ y ∈ BY L:=fun h => by
    have : y ∈ By (BY L):=Cz.2 ⟨h,hy⟩
    rw [h0] at this; cases this
   exact ⟨fun h => absurd (List.mem_of_mem_take h) hno,fun h => absurd h hno⟩
 · rw [Cz]; simp [hy]
theorem S7 {mem : List Aa} {runs : List (List Aa)} (h : Cd (mem :: runs)) : CT mem [AT runs] = CT mem runs:=by
 have g2 : Cd [AT runs]:=Cd.mk (F7 _) (GZ _) (fun _ h => by cases h)
 have e1 : BY [AT runs] = AT runs:=by rw [CS,allP_nil,Lz (F7 _) (GZ _)]
 refine rising_ext (Ep _ _) (Ep _ _) fun y => ?_
 unfold CT
 rw [Cz,Cz,Be h,Be (Cd.mk h.cons.1.1 h.cons.1.2 g2),e1]
 constructor
 · rintro ⟨h1 | ⟨h1,h2⟩,h3⟩
   · exact ⟨.inl h1,h3⟩
   · exact ⟨.inr ⟨(Ry runs h3).1 h1,h2⟩,h3⟩
 · rintro ⟨h1 | ⟨h1,h2⟩,h3⟩
   · exact ⟨.inl h1,h3⟩
   · exact ⟨.inr ⟨(Ry runs h3).2 h1,h2⟩,h3⟩
theorem SN {runs : List (List Aa)} (h : Cd runs) : CT [] runs = By (BY runs):=by
 unfold CT
 rw [CS]
 rfl
def AJ (mem : List Aa) (runs : List (List Aa)) : List Aa × List (List Aa):=if runs.length = 0 \/ runs.length + 1 = 4 then (AT (mem :: runs),[]) else (mem,runs)
def AB (runs : List (List Aa)) : List Aa:=if runs.length < 2 then [] else AT runs
theorem Tu {mem : List Aa} {runs : List (List Aa)} (h : Cd (mem :: runs)) : CT [] ((AJ mem runs).1 :: (AJ mem runs).2) = CT mem runs:=by
 unfold AJ
 split
 · have:=S7 (mem:=[]) (runs:=mem :: runs) (Cd.mk List.Pairwise.nil (fun _ h => by cases h) h)
   rw [this,SN h]
   rfl
 · rw [SN h]; rfl
theorem Si (mem : List Aa) (runs : List (List Aa)) : Bk ([] :: (AJ mem runs).1 :: (AJ mem runs).2) <= Bk (mem :: runs):=by
 unfold AJ
 split
 · have:=IT (mem :: runs)
   show Bk ([] :: [AT (mem :: runs)]) <= _
   unfold Bk at *
   simp only [List.map_cons,List.map_nil,List.sum_cons,List.sum_nil,List.length_nil] at *
   omega
 · unfold Bk
   simp
theorem len_le_size : ∀ {l : List Aa},Az l -> l.length <= At l
 | [],_ => Nat.zero_le _
 | x :: r,h => by
   have h1:=((Cj x).1 (h x (by simp))).1
   have h2:=len_le_size (l:=r) fun y hy => h y (by simp [hy])
   rw [Cw,List.length_cons]
   omega
theorem size_over : ∀ (ps : List Aa) (mem : List Aa),At (Bc ps mem) <= At mem + At ps
 | [],_ => by simp [Bc]
 | x :: r,mem => by
   have h1:=size_over r (Et x mem)
   have h2:=TE x mem
   rw [G3,Cw]
   omega
end
section
open Go.RowKit
def F5 (x : Aa) : ByteArray × Nat:=(x.key,x.key.size + x.val.size)
def N9 (mem : List (ByteArray × Nat)) (x : Aa) : List (ByteArray × Nat):=
 if mem.any (fun y => decide (y.1 = x.key)) then mem.map (fun y => if y.1 = x.key then (x.key,x.key.size + x.val.size) else y) else mem ++ [(x.key,x.key.size + x.val.size)]
def EL (a : List (ByteArray × Nat)) (m : List Aa) : Prop:=a.Perm (m.map F5)
theorem EL.sum {a : List (ByteArray × Nat)} {m : List Aa} (h : EL a m) : (a.map (·.2)).sum = At m:=by
 have:=(h.map (·.2)).sum_nat
 rw [this,List.map_map]
 rfl
theorem EL.refl (m : List Aa) : EL (m.map F5) m:=List.Perm.refl _
theorem ZF {α : Type} {p : α -> Bool} {a b : List α} (h : a.Perm b) : a.any p = b.any p:=by
 rw [Bool.eq_iff_iff,List.any_eq_true,List.any_eq_true]
 exact ⟨fun ⟨x,h1,h2⟩ => ⟨x,h.mem_iff.1 h1,h2⟩,fun ⟨x,h1,h2⟩ => ⟨x,h.mem_iff.2 h1,h2⟩⟩
theorem Vu {a b : List (ByteArray × Nat)} (h : a.Perm b) (x : Aa) : (N9 a x).Perm (N9 b x):=by
 unfold N9
 rw [ZF h]
 split
 · exact h.map _
 · exact h.append_right _
theorem Xw {m : List Aa} (hr : Ak m) (x : Aa) : (N9 (m.map F5) x).Perm ((C2 x m).map F5):=by
 have hany : (m.map F5).any (fun y => decide (y.1 = x.key)) = Bd x.key m:=by
  rw [Bool.eq_iff_iff,List.any_eq_true]
  constructor
  · rintro ⟨y,hy,e⟩
    obtain ⟨z,hz,rfl⟩:=List.mem_map.1 hy
    have e : z.key = x.key:=of_decide_eq_true e
    obtain ⟨i,hi,rfl⟩:=List.mem_iff_getElem.1 hz
    have hp:=Lx hr hi
    rw [e] at hp
    rw [Fy hi hp]
    exact decide_eq_true e
  · intro ht
    obtain ⟨hl,hk⟩:=Fx ht
    exact ⟨F5 m[placeP x.key m],List.mem_map.2 ⟨_,List.getElem_mem hl,rfl⟩,decide_eq_true hk⟩
 unfold N9
 rw [hany]
 unfold C2
 cases ht : Bd x.key m with
 | false =>
   simp only [Bool.false_eq_true,↓reduceIte,Nat.add_zero]
   rw [List.map_append,List.map_cons]
   have e : m.map F5 = (m.take (placeP x.key m)).map F5 ++ (m.drop (placeP x.key m)).map F5:=by rw [<- List.map_append,List.take_append_drop]
   rw [e,List.append_assoc]
   exact List.Perm.append_left _ (List.perm_append_singleton (F5 x) _)
 | true =>
   simp only [↓reduceIte]
   obtain ⟨hl,hk⟩:=Fx ht
   have e : m = m.take (placeP x.key m) ++ m[placeP x.key m] :: m.drop (placeP x.key m + 1):=by
    rw [<- List.drop_eq_getElem_cons hl,List.take_append_drop]
   have hne1 : ∀ y ∈ m.take (placeP x.key m),y.key ≠ x.key:=fun y hy e2 => by
    obtain ⟨i,hi,rfl⟩:=List.mem_iff_getElem.1 hy
    rw [List.length_take] at hi
    rw [List.getElem_take] at e2
    have:=Dq (k:=x.key) (l:=m) (j:=i) (by omega) (by omega)
    rw [e2,Bt] at this; cases this
   have hne2 : ∀ y ∈ m.drop (placeP x.key m + 1),y.key ≠ x.key:=fun y hy e2 => by
    obtain ⟨i,hi,rfl⟩:=List.mem_iff_getElem.1 hy
    rw [List.length_drop] at hi
    rw [List.getElem_drop] at e2
    have:=List.pairwise_iff_getElem.1 hr (placeP x.key m) (placeP x.key m + 1 + i) hl (by omega) (by omega)
    rw [hk,e2,Bt] at this; cases this
   generalize m.take (placeP x.key m) = A at *
   generalize m.drop (placeP x.key m + 1) = B at *
   generalize m[placeP x.key m] = z at *
   subst e
   rw [List.map_append,List.map_cons,List.map_append,List.map_cons,List.map_append,List.map_cons]
   have f1 : ∀ C : List Aa,(∀ y ∈ C,y.key ≠ x.key) -> (C.map F5).map (fun y => if y.1 = x.key then (x.key,x.key.size + x.val.size) else y) = C.map F5:=fun C hC => by
    rw [List.map_map]
    refine List.map_congr_left fun y hy => ?_
    show (if (F5 y).1 = x.key then _ else F5 y) = F5 y
    rw [if_neg (show ¬ (F5 y).1 = x.key from hC y hy)]
   rw [f1 A hne1,f1 B hne2,if_pos (show (F5 z).1 = x.key from hk)]
   exact List.Perm.refl _
theorem EL.put {a : List (ByteArray × Nat)} {m : List Aa} (h : EL a m) (hr : Ak m) {x : Aa} (hx : Aw x = 0) : EL (N9 a x) (Et x m):=by
 have e : Et x m = C2 x m:=if_pos hx
 rw [e]
 exact (Vu h x).trans (Xw hr x)
theorem EL.over : ∀ (ps : List Aa) {a : List (ByteArray × Nat)} {m : List Aa},EL a m -> Ak m -> Az ps -> EL (ps.foldl N9 a) (Bc ps m)
 | [],_,_,h,_,_ => h
 | x :: r,a,m,h,hr,hp => by
   rw [G3,List.foldl_cons]
   exact EL.over r (h.put hr (hp x (by simp))) (Ie hr) fun y hy => hp y (by simp [hy])
end
section
open Go.RowKit
set_option maxHeartbeats 2000000 in
set_option maxRecDepth 100000 in
theorem Km {w : World} {a : Option Addr} {c : Nat} {l : List Aa} (h : Aj w (.slice a l.length c) l) :
 Calls Tryz.prog 29 #[.slice a l.length c] w fun e w' => e = .returned (.int .i64 (A5 l : Nat)) /\ Below w.heap.size w w':=by
 have hmx : l.length <= 9223372036854775807:=by have:=h.1; unfold maxLen at this; omega
 have H:=Lib.hid h
 clear h
 by_cases h0 : l.length = 0
 · have hg : ((l.length : Int) == 0) = true:=by rw [h0]; rfl
   have HE : Hid (A5 l = 1):=if_pos h0
   clear h0
   go_enter Tryz.func29,Tryz.ntmps29
   go_wp2
   go_ret
   exact ⟨by rw [HE.out]; rfl,Below.refl _ _⟩
 by_cases h1 : 64 < l.length
 · have hg : ((l.length : Int) == 0) = false:=by simpa using h0
   have hg2 : (64 : Int) < (l.length : Int):=by omega
   have HE : Hid (A5 l = 2):=by show A5 l = 2; unfold A5; rw [if_neg h0,if_pos h1]
   clear h0 h1
   go_enter Tryz.func29,Tryz.ntmps29
   go_wp2
   go_ret
   exact ⟨by rw [HE.out]; rfl,Below.refl _ _⟩
 have hg : ((l.length : Int) == 0) = false:=by simpa using h0
 have hg2 : ¬ (64 : Int) < (l.length : Int):=by omega
 have HC : Hid (∀ i,(hi : i < l.length) -> (∀ x ∈ l.take i,Aw x = 0) -> Aw l[i] ≠ 0 -> A5 l = Aw l[i]):=fun i hi hb hw => O0 h0 h1 hi hb hw
 have HG : Hid ((∀ x ∈ l,Aw x = 0) -> A5 l = 0):=Kb h0 h1
 clear h0 h1
 go_enter Tryz.func29,Tryz.ntmps29
 go_wp2
 go_loopw [13] (fun iv wr => ∃ i : Nat,i <= l.length /\ iv = .int .i64 (i : Int) /\ Hid ((∀ x ∈ l.take i,Aw x = 0) /\ Below w.heap.size w wr)) (fun iv _ => l.length - (intOf iv).toNat)
 case atStart => exact ⟨0,Nat.zero_le _,rfl,(fun x hx => by simp at hx),Below.refl _ _⟩
 case round =>
  obtain ⟨i,hil,rfl,HI⟩:=hrel
  by_cases hlt : i < l.length
  · obtain ⟨b,o,rfl,q0,q1,q2⟩:=H.out.in HI.out.2 hlt
    have hmes : l.length - (intOf (.int .i64 ((i : Int) + 1))).toNat < l.length - (intOf (.int .i64 (i : Int))).toNat:=by simp [intOf]; omega
    have HTK : Hid (l.take (i + 1) = l.take i ++ [l[i]]):=List.take_succ_eq_append_getElem hlt
    have HST : Hid (Aw l[i] ≠ 0 -> A5 l = Aw l[i]):=HC.out i hlt HI.out.1
    generalize l[i] = X at *
    obtain ⟨xk,xv,xg⟩:=X
    have HB2:=Lib.hid (HI.out.2.alloc HI.out.2.size (.cells #[.string xk,.string xv,.bool xg] 57))
    simp only at q0 q1 q2
    by_cases k0 : xk.size = 0
    · have hke : xk.toList.isEmpty = true:=Hz k0
      have HE : Hid (A5 l = 1):=by
       have hw : Aw ⟨xk,xv,xg⟩ = 1:=by unfold Aw; rw [if_pos (.inl k0)]
       show _ = _
       rw [HST.out (by rw [hw]; simp),hw]
      clear HST HTK k0
      go_wp2
      go_ret
      exact ⟨by rw [HE.out]; rfl,HB2.out⟩
    have hke : xk.toList.isEmpty = false:=DI k0
    by_cases g0 : xg = true /\ xv.size ≠ 0
    · obtain ⟨rfl,g2⟩:=g0
      have hve : xv.toList.isEmpty = false:=DI g2
      have HE : Hid (A5 l = 1):=by
       have hw : Aw ⟨xk,xv,true⟩ = 1:=by unfold Aw; rw [if_pos (.inr ⟨rfl,g2⟩)]
       show _ = _
       rw [HST.out (by rw [hw]; simp),hw]
      clear HST HTK k0 g2
      go_wp2
      go_ret
      exact ⟨by rw [HE.out]; rfl,HB2.out⟩
    have hn1 : ¬ (xk.size = 0 \/ (xg = true /\ xv.size ≠ 0)):=by rintro (h | h); exact k0 h; exact g0 h
    have hgv : xg = false \/ xv.toList.isEmpty = true:=by
     cases hxg : xg with
     | false => exact .inl rfl
     | true =>
       refine .inr (Hz ?_)
       rw [hxg] at g0
       simpa using g0
    by_cases z0 : 64 < xk.size \/ 8192 < xv.size
    · have HE : Hid (A5 l = 2):=by
        have hw : Aw ⟨xk,xv,xg⟩ = 2:=by unfold Aw; rw [if_neg hn1,if_pos z0]
        show _ = _
        rw [HST.out (by rw [hw]; simp),hw]
      have hz : (64 : Int) < (xk.size : Int) \/ (¬ (64 : Int) < (xk.size : Int) /\ (8192 : Int) < (xv.size : Int)):=by omega
      clear HST HTK k0 g0 hn1 z0
      rcases hgv with rfl | hgv
      · rcases hz with hz | ⟨hz,hz2⟩
        · go_wp2
          go_ret
          exact ⟨by rw [HE.out]; rfl,HB2.out⟩
        · go_wp2
          go_ret
          exact ⟨by rw [HE.out]; rfl,HB2.out⟩
      · cases xg
        · rcases hz with hz | ⟨hz,hz2⟩
          · go_wp2
            go_ret
            exact ⟨by rw [HE.out]; rfl,HB2.out⟩
          · go_wp2
            go_ret
            exact ⟨by rw [HE.out]; rfl,HB2.out⟩
        · rcases hz with hz | ⟨hz,hz2⟩
          · go_wp2
            go_ret
            exact ⟨by rw [HE.out]; rfl,HB2.out⟩
          · go_wp2
            go_ret
            exact ⟨by rw [HE.out]; rfl,HB2.out⟩
    · have hz1 : ¬ (64 : Int) < (xk.size : Int):=by omega
      have hz2 : ¬ (8192 : Int) < (xv.size : Int):=by omega
      have HZ : Hid (∀ x ∈ l.take (i + 1),Aw x = 0):=fun x hx => by
       rw [HTK.out] at hx
       rcases List.mem_append.1 hx with hx | hx
       · exact HI.out.1 x hx
       · rw [List.mem_singleton.1 hx]; unfold Aw; rw [if_neg hn1,if_neg z0]
      clear HST HTK k0 g0 hn1 z0
      rcases hgv with rfl | hgv
      · go_wp2
        go_roundw
        case rel => exact ⟨i + 1,by omega,by go_num,HZ.out,HB2.out⟩
        case measure => exact hmes
      · cases xg
        · go_wp2
          go_roundw
          case rel => exact ⟨i + 1,by omega,by go_num,HZ.out,HB2.out⟩
          case measure => exact hmes
        · go_wp2
          go_roundw
          case rel => exact ⟨i + 1,by omega,by go_num,HZ.out,HB2.out⟩
          case measure => exact hmes
  · obtain rfl : i = l.length:=by omega
    rw [List.take_length] at HI
    have HE:=Lib.hid (HG.out HI.out.1)
    go_wp2
    go_ret
    exact ⟨by rw [HE.out]; rfl,HI.out.2⟩
end
end Go.Proofs.YtnafjlhohbhcoaaGreatDoor
