/- Parts of the proof. -/
import Derived.Test.YtlkefgngefpkiaaGreatDoorQ09
import Derived.Test.YtlkefgngefpkiaaGreatDoorQ17
namespace Go.Proofs.YtlkefgngefpkiaaGreatDoor
set_option linter.unusedVariables false
section
open Go.RowKit
theorem CE {l : List Aa} {y : Aa} : y ∈ BF l ↔ y ∈ l /\ y.gone = false:=by
 unfold BF
 rw [List.mem_filter]
 simp
theorem Dk {l : List Aa} (h : Aj l) : Aj (BF l):=List.Pairwise.sublist List.filter_sublist h
theorem Xa {l : List Aa} (h : Az l) : Az (BF l):=fun y hy => h y (CE.1 hy).1
def CK (mem : List Aa) (runs : List (List Aa)) : List Aa:=BF (Cg (mem :: runs))
theorem Et (mem : List Aa) (runs : List (List Aa)) : Aj (CK mem runs):=Dk (allP_rising _)
theorem BP.mk {l : List Aa} {r : List (List Aa)} (h1 : Aj l) (h2 : Az l) (h : BP r) : BP (l :: r):=fun m hm => by
 rcases List.mem_cons.1 hm with rfl | hm
 · exact ⟨h1,h2⟩
 · exact h m hm
theorem Pu {x : Aa} {l : List Aa} (hx : Av x = 0) (h : Az l) : Az (Cn x l):=fun y hy => by
 rcases Ss hy with rfl | hy
 · exact hx
 · exact h y hy
theorem Abr {mem : List Aa} {runs : List (List Aa)} {x : Aa} (hm : Aj mem) (hf : Az mem) (hg : BP runs) (hx : Av x = 0) : CK (Cn x mem) runs = Jo x (CK mem runs):=by
 refine rising_ext (Et _ _) (GE (Et _ _)) fun y => ?_
 have g1 : BP (mem :: runs):=BP.mk hm hf hg
 have g2 : BP (Cn x mem :: runs):=BP.mk (Cz hm) (Pu hx hf) hg
 rw [KN (Et _ _)]
 unfold CK
 rw [CE,CE,Bj g2,Bj g1,BM hm]
 constructor
 · rintro ⟨h1,h2⟩
   rcases h1 with (rfl | ⟨h1,h3⟩) | ⟨h1,h3⟩
   · exact .inl ⟨h2,rfl⟩
   · exact .inr ⟨⟨.inl h1,h2⟩,h3⟩
   · refine .inr ⟨⟨.inr ⟨h1,fun z hz e => ?_⟩,h2⟩,fun e => h3 x ((BM hm x x).2 (.inl rfl)) e.symm⟩
     by_cases hzx : z.key = x.key
     · exact h3 x ((BM hm x x).2 (.inl rfl)) (by rw [<- hzx]; exact e)
     · exact h3 z ((BM hm x z).2 (.inr ⟨hz,hzx⟩)) e
 · rintro (⟨h1,rfl⟩ | ⟨⟨h1,h2⟩,h3⟩)
   · exact ⟨.inl (.inl rfl),h1⟩
   · rcases h1 with h1 | ⟨h1,h4⟩
     · exact ⟨.inl (.inr ⟨h1,h3⟩),h2⟩
     · refine ⟨.inr ⟨h1,fun z hz => ?_⟩,h2⟩
       rcases (BM hm x z).1 hz with rfl | ⟨hz,_⟩
       · exact fun e => h3 e.symm
       · exact h4 z hz
theorem map_write : ∀ (ps : List Aa) {mem : List Aa} {runs : List (List Aa)},Aj mem -> Az mem -> BP runs -> Az ps -> CK (AQ ps mem) runs = AS (CK mem runs) ps
 | [],_,_,_,_,_,_ => rfl
 | x :: r,mem,runs,hm,hf,hg,hp => by
   have hx : Av x = 0:=hp x (by simp)
   have e : EH x mem = Cn x mem:=if_pos hx
   rw [Gr,e,map_write r (Cz hm) (Pu hx hf) hg (fun y hy => hp y (by simp [hy])),Abr hm hf hg hx]
   rfl
def GS (k : ByteArray) : List (List Aa) -> Option Aa
 | [] => none
 | l :: r => match CG k l with | some y => some y | none => GS k r
theorem Qb {l : List Aa} (h : Aj l) {k : ByteArray} (hk : CG k l = none) : ∀ z ∈ l,z.key ≠ k:=fun z hz e => by
 have:=(BO h k z).2 ⟨hz,e⟩
 rw [hk] at this
 cases this
theorem Jy {l : List Aa} (h : Aj l) {k : ByteArray} (hk : ∀ z ∈ l,z.key ≠ k) : CG k l = none:=by
 cases hg : CG k l with
 | none => rfl
 | some y => exact absurd ((BO h k y).1 hg).2 (hk y ((BO h k y).1 hg).1)
theorem get_all : ∀ {L : List (List Aa)},BP L -> ∀ k,CG k (Cg L) = GS k L
 | [],_,k => by rw [Jy (allP_rising _) (by simp [allP_nil])]; rfl
 | l :: r,h,k => by
   have ih:=get_all h.cons.2 k
   have hr:=h.cons.1.1
   unfold GS
   cases hg : CG k l with
   | some y =>
     obtain ⟨h1,h2⟩:=(BO hr k y).1 hg
     exact (BO (allP_rising _) k y).2 ⟨(Bj h y).2 (.inl h1),h2⟩
   | none =>
     have hno:=Qb hr hg
     simp only
     rw [<- ih]
     cases hg2 : CG k (Cg r) with
     | some y =>
       obtain ⟨h1,h2⟩:=(BO (allP_rising _) k y).1 hg2
       exact (BO (allP_rising _) k y).2 ⟨(Bj h y).2 (.inr ⟨h1,fun z hz e => hno z hz (e.trans h2)⟩),h2⟩
     | none =>
       have hno2:=Qb (allP_rising _) hg2
       refine Jy (allP_rising _) fun z hz e => ?_
       rcases (Bj h z).1 hz with hz | ⟨hz,_⟩
       · exact hno z hz e
       · exact hno2 z hz e
theorem Ab0 {s : ByteArray} (h : s.size = 0) : s = ⟨#[]⟩:=by
 apply ByteArray.ext
 exact Array.eq_empty_of_size_eq_zero h
theorem W6 {x : Aa} (h : Av x = 0) (hg : x.gone = true) : x.val = ⟨#[]⟩:=Ab0 (((BV x).1 h).2.2.2 hg)
theorem VB {L : List (List Aa)} (h : BP L) (k : ByteArray) : G4 k (BF (Cg L)) = (((GS k L).getD zeroP).val,(GS k L).isSome && !((GS k L).getD zeroP).gone):=by
 rw [<- get_all h k]
 unfold G4
 cases hg : CG k (Cg L) with
 | none =>
   rw [Jy (Dk (allP_rising _)) fun z hz => Qb (allP_rising _) hg z (CE.1 hz).1]
   rfl
 | some y =>
   obtain ⟨h1,h2⟩:=(BO (allP_rising _) k y).1 hg
   cases hy : y.gone with
   | false =>
     rw [(BO (Dk (allP_rising _)) k y).2 ⟨CE.2 ⟨h1,hy⟩,h2⟩]
     simp [hy]
   | true =>
     rw [Jy (Dk (allP_rising _)) fun z hz e => by
      have:=NS (allP_rising _) (CE.1 hz).1 h1 (e.trans h2.symm)
      have h3:=(CE.1 hz).2
      rw [this,hy] at h3
      cases h3]
     simp only [Option.getD_some,Option.isSome_some,hy,Bool.not_true,Bool.and_false,W6 (allP_fine _ y h1) hy]
theorem Fz {l : List Aa} (h : Aj l) (k : ByteArray) (y : Aa) : y ∈ AF k l ↔ y ∈ l /\ AR y.key k = false:=by
 unfold AF
 constructor
 · intro hy
   obtain ⟨i,hi,e⟩:=List.mem_iff_getElem.1 hy
   rw [List.length_drop] at hi
   rw [List.getElem_drop] at e
   refine ⟨List.mem_of_mem_drop hy,?_⟩
   have hlt : placeP k l < l.length:=by omega
   have h1:=Fs hlt
   by_cases hi0 : i = 0
   · subst hi0
     simp only [Nat.add_zero] at e
     rw [<- e]; exact h1
   · have h2:=List.pairwise_iff_getElem.1 h (placeP k l) (placeP k l + i) hlt (by omega) (by omega)
     rw [e] at h2
     cases hb : AR y.key k with
     | false => rfl
     | true => rw [BY h2 hb] at h1; cases h1
 · rintro ⟨hy,hb⟩
   obtain ⟨i,hi,e⟩:=List.mem_iff_getElem.1 hy
   have hp : placeP k l <= i:=by
    rcases Nat.lt_or_ge i (placeP k l) with h1 | h1
    · have:=Du hi h1
      rw [e,hb] at this; cases this
    · exact h1
   refine List.mem_iff_getElem.2 ⟨i - placeP k l,by rw [List.length_drop]; omega,?_⟩
   rw [List.getElem_drop]
   rw [<- e]
   congr 1
   omega
theorem EF {l : List Aa} (h : Aj l) (k : ByteArray) : Aj (AF k l):=List.Pairwise.sublist (List.drop_sublist _ _) h
theorem Wy {l : List Aa} (h : Az l) (k : ByteArray) : Az (AF k l):=fun y hy => h y (List.mem_of_mem_drop hy)
theorem Aar (k : ByteArray) (l : List Aa) : (AF k l).length <= l.length:=by unfold AF; rw [List.length_drop]; omega
theorem OW {L : List (List Aa)} (h : BP L) (k : ByteArray) : BP (L.map (AF k)):=fun l hl => by
 obtain ⟨m,hm,rfl⟩:=List.mem_map.1 hl
 exact ⟨EF (h m hm).1 k,Wy (h m hm).2 k⟩
theorem Th (k : ByteArray) : ∀ L : List (List Aa),Bo (L.map (AF k)) <= Bo L
 | [] => Nat.le_refl _
 | l :: r => by
   have:=Th k r
   have h2:=Aar k l
   unfold Bo at *
   simp only [List.map_cons,List.sum_cons]
   omega
theorem all_from : ∀ {L : List (List Aa)},BP L -> ∀ k,Cg (L.map (AF k)) = AF k (Cg L)
 | [],_,k => rfl
 | l :: r,h,k => by
   have ih:=all_from h.cons.2 k
   have g2:=OW h k
   rw [List.map_cons] at g2 ⊢
   refine rising_ext (allP_rising _) (EF (allP_rising _) k) fun y => ?_
   rw [Bj g2,ih,Fz h.cons.1.1,Fz (allP_rising _),Fz (allP_rising _),Bj h]
   constructor
   · rintro (⟨h1,h2⟩ | ⟨⟨h1,h2⟩,h3⟩)
     · exact ⟨.inl h1,h2⟩
     · refine ⟨.inr ⟨h1,fun z hz e => h3 z ((Fz h.cons.1.1 k z).2 ⟨hz,by rw [e]; exact h2⟩) e⟩,h2⟩
   · rintro ⟨h1 | ⟨h1,h3⟩,h2⟩
     · exact .inl ⟨h1,h2⟩
     · exact .inr ⟨⟨h1,h2⟩,fun z hz => h3 z ((Fz h.cons.1.1 k z).1 hz).1⟩
theorem Xm {l : List Aa} (h : Aj l) (k : ByteArray) : BF (AF k l) = AF k (BF l):=by
 refine rising_ext (Dk (EF h k)) (EF (Dk h) k) fun y => ?_
 rw [CE,Fz h,Fz (Dk h),CE]
 constructor
 · rintro ⟨⟨h1,h2⟩,h3⟩; exact ⟨⟨h1,h3⟩,h2⟩
 · rintro ⟨⟨h1,h3⟩,h2⟩; exact ⟨⟨h1,h2⟩,h3⟩
theorem Hv {p : Aa -> Bool} : ∀ {l : List Aa},l.Pairwise (fun a b => p b = true -> p a = true) -> l.takeWhile p = l.filter p
 | [],_ => rfl
 | x :: r,h => by
   have h1:=List.pairwise_cons.1 h
   rw [List.takeWhile_cons,List.filter_cons]
   cases hp : p x with
   | true => simp only [↓reduceIte]; rw [Hv h1.2]
   | false =>
     simp only [Bool.false_eq_true,↓reduceIte]
     symm
     rw [List.filter_eq_nil_iff]
     intro y hy hy2
     rw [h1.1 y hy hy2] at hp
     cases hp
theorem Vg {to : ByteArray} {a b : Aa} (h : AR a.key b.key = true) (hb : Bn to b = true) : Bn to a = true:=by
 unfold Bn at *
 rcases Bool.or_eq_true_iff.1 hb with h1 | h1
 · rw [h1]; rfl
 · rw [BY h h1,Bool.or_true]
theorem X6 {m : List Aa} (h : Aj m) (fr to : ByteArray) (most : Int) : Dg (AF fr m) to most = AZ m fr to most:=by
 unfold Dg AZ
 congr 1
 have hpw : (AF fr m).Pairwise (fun a b => Bn to b = true -> Bn to a = true):=by
  have h1:=EF h fr
  unfold Aj at h1
  exact h1.imp (fun {a b} hab hb => Vg hab hb)
 rw [Hv hpw]
 refine rising_ext (List.Pairwise.sublist List.filter_sublist (EF h fr)) (List.Pairwise.sublist List.filter_sublist h) fun y => ?_
 rw [List.mem_filter,List.mem_filter,Fz h]
 unfold inM Bn
 cases AR y.key fr <;> simp
theorem Y0 {mem : List Aa} {runs : List (List Aa)} (h : BP (mem :: runs)) (fr to : ByteArray) (most : Int) : Dg (BF (Cg ((mem :: runs).map (AF fr)))) to most = AZ (CK mem runs) fr to most:=by
 rw [all_from h,Xm (allP_rising _)]
 exact X6 (Et mem runs) fr to most
def AU (L : List (List Aa)) : List Aa:=if BF (Cg L) = [] then (Cg L).take 1 else BF (Cg L)
theorem Aaw (l : List Aa) : Dg l ⟨#[]⟩ 1 = l.take 1:=by
 unfold Dg
 have h1 : ∀ l : List Aa,l.takeWhile (Bn ⟨#[]⟩) = l:=fun l => by
  induction l with
  | nil => rfl
  | cons x r ih => rw [List.takeWhile_cons,show Bn ⟨#[]⟩ x = true from rfl,if_pos rfl,ih]
 rw [h1]
 rfl
theorem F7 (L : List (List Aa)) : Aj (AU L):=by
 unfold AU
 split
 · exact List.Pairwise.sublist (List.take_sublist _ _) (allP_rising L)
 · exact Dk (allP_rising L)
theorem Hw (L : List (List Aa)) : Az (AU L):=by
 unfold AU
 split
 · exact fun y hy => allP_fine L y (List.mem_of_mem_take hy)
 · exact Xa (allP_fine L)
theorem IM (L : List (List Aa)) : (AU L).length <= Bo L:=by
 have h1:=allP_len L
 unfold AU
 split
 · rw [List.length_take]; omega
 · exact Nat.le_trans (J8 _) h1
theorem PV {L : List (List Aa)} (h : BP L) {l : List Aa} (hl : l ∈ L) (hne : l ≠ []) : AU L ≠ []:=by
 have hall : Cg L ≠ []:=by
  induction L with
  | nil => cases hl
  | cons m r ih =>
    obtain ⟨x,hx⟩:=List.exists_mem_of_ne_nil l hne
    rcases List.mem_cons.1 hl with rfl | hl
    · exact List.ne_nil_of_mem ((Bj h x).2 (.inl hx))
    · by_cases hm : m = []
      · obtain ⟨y,hy⟩:=List.exists_mem_of_ne_nil _ (ih h.cons.2 hl)
        subst hm
        exact List.ne_nil_of_mem ((Bj h y).2 (.inr ⟨hy,by simp⟩))
      · obtain ⟨y,hy⟩:=List.exists_mem_of_ne_nil _ hm
        exact List.ne_nil_of_mem ((Bj h y).2 (.inl hy))
 unfold AU
 split
 · intro e
   have:=congrArg List.length e
   rw [List.length_take,List.length_nil] at this
   have h0:=List.length_pos_iff.2 hall
   omega
 · rename_i h1; exact h1
theorem RV (L : List (List Aa)) {y : Aa} (hy : y.gone = false) : y ∈ AU L ↔ y ∈ Cg L:=by
 unfold AU
 split
 · rename_i h0
   have hno : ¬ y ∈ Cg L:=fun h => by
    have : y ∈ BF (Cg L):=CE.2 ⟨h,hy⟩
    rw [h0] at this; cases this
   exact ⟨fun h => absurd (List.mem_of_mem_take h) hno,fun h => absurd h hno⟩
 · rw [CE]; simp [hy]
theorem Rh {mem : List Aa} {runs : List (List Aa)} (h : BP (mem :: runs)) : CK mem [AU runs] = CK mem runs:=by
 have g2 : BP [AU runs]:=BP.mk (F7 _) (Hw _) (fun _ h => by cases h)
 have e1 : Cg [AU runs] = AU runs:=by rw [CN,allP_nil,J0 (F7 _) (Hw _)]
 refine rising_ext (Et _ _) (Et _ _) fun y => ?_
 unfold CK
 rw [CE,CE,Bj h,Bj (BP.mk h.cons.1.1 h.cons.1.2 g2),e1]
 constructor
 · rintro ⟨h1 | ⟨h1,h2⟩,h3⟩
   · exact ⟨.inl h1,h3⟩
   · exact ⟨.inr ⟨(RV runs h3).1 h1,h2⟩,h3⟩
 · rintro ⟨h1 | ⟨h1,h2⟩,h3⟩
   · exact ⟨.inl h1,h3⟩
   · exact ⟨.inr ⟨(RV runs h3).2 h1,h2⟩,h3⟩
theorem O0 {runs : List (List Aa)} (h : BP runs) : CK [] runs = BF (Cg runs):=by
 unfold CK
 rw [CN]
 rfl
def AI (mem : List Aa) (runs : List (List Aa)) : List Aa × List (List Aa):=if runs.length = 0 \/ runs.length + 1 = 4 then (AU (mem :: runs),[]) else (mem,runs)
def A9 (runs : List (List Aa)) : List Aa:=if runs.length < 2 then [] else AU runs
theorem S7 {mem : List Aa} {runs : List (List Aa)} (h : BP (mem :: runs)) : CK [] ((AI mem runs).1 :: (AI mem runs).2) = CK mem runs:=by
 unfold AI
 split
 · have:=Rh (mem:=[]) (runs:=mem :: runs) (BP.mk List.Pairwise.nil (fun _ h => by cases h) h)
   rw [this,O0 h]
   rfl
 · rw [O0 h]; rfl
theorem Rd (mem : List Aa) (runs : List (List Aa)) : Bo ([] :: (AI mem runs).1 :: (AI mem runs).2) <= Bo (mem :: runs):=by
 unfold AI
 split
 · have:=IM (mem :: runs)
   show Bo ([] :: [AU (mem :: runs)]) <= _
   unfold Bo at *
   simp only [List.map_cons,List.map_nil,List.sum_cons,List.sum_nil,List.length_nil] at *
   omega
 · unfold Bo
   simp
theorem len_le_size : ∀ {l : List Aa},Az l -> l.length <= At l
 | [],_ => Nat.zero_le _
 | x :: r,h => by
   have h1:=((BV x).1 (h x (by simp))).1
   have h2:=len_le_size (l:=r) fun y hy => h y (by simp [hy])
   rw [CF,List.length_cons]
   omega
theorem size_over : ∀ (ps : List Aa) (mem : List Aa),At (AQ ps mem) <= At mem + At ps
 | [],_ => by simp [AQ]
 | x :: r,mem => by
   have h1:=size_over r (EH x mem)
   have h2:=Uf x mem
   rw [Gr,CF]
   omega
end
section
open Go.RowKit
def FF (x : Aa) : ByteArray × Nat:=(x.key,x.key.size + x.val.size)
def MV (mem : List (ByteArray × Nat)) (x : Aa) : List (ByteArray × Nat):=
 if mem.any (fun y => decide (y.1 = x.key)) then mem.map (fun y => if y.1 = x.key then (x.key,x.key.size + x.val.size) else y) else mem ++ [(x.key,x.key.size + x.val.size)]
def Eh (a : List (ByteArray × Nat)) (m : List Aa) : Prop:=a.Perm (m.map FF)
theorem Eh.len {a : List (ByteArray × Nat)} {m : List Aa} (h : Eh a m) : a.length = m.length:=by rw [h.length_eq,List.length_map]
theorem Eh.sum {a : List (ByteArray × Nat)} {m : List Aa} (h : Eh a m) : (a.map (·.2)).sum = At m:=by
 have:=(h.map (·.2)).sum_nat
 rw [this,List.map_map]
 rfl
theorem Eh.refl (m : List Aa) : Eh (m.map FF) m:=List.Perm.refl _
theorem Aam {α : Type} {p : α -> Bool} {a b : List α} (h : a.Perm b) : a.any p = b.any p:=by
 rw [Bool.eq_iff_iff,List.any_eq_true,List.any_eq_true]
 exact ⟨fun ⟨x,h1,h2⟩ => ⟨x,h.mem_iff.1 h1,h2⟩,fun ⟨x,h1,h2⟩ => ⟨x,h.mem_iff.2 h1,h2⟩⟩
theorem TJ {a b : List (ByteArray × Nat)} (h : a.Perm b) (x : Aa) : (MV a x).Perm (MV b x):=by
 unfold MV
 rw [Aam h]
 split
 · exact h.map _
 · exact h.append_right _
theorem Xf {m : List Aa} (hr : Aj m) (x : Aa) : (MV (m.map FF) x).Perm ((Cn x m).map FF):=by
 have hany : (m.map FF).any (fun y => decide (y.1 = x.key)) = Bh x.key m:=by
  rw [Bool.eq_iff_iff,List.any_eq_true]
  constructor
  · rintro ⟨y,hy,e⟩
    obtain ⟨z,hz,rfl⟩:=List.mem_map.1 hy
    have e : z.key = x.key:=of_decide_eq_true e
    obtain ⟨i,hi,rfl⟩:=List.mem_iff_getElem.1 hz
    have hp:=Ln hr hi
    rw [e] at hp
    rw [Fo hi hp]
    exact decide_eq_true e
  · intro ht
    obtain ⟨hl,hk⟩:=E0 ht
    exact ⟨FF m[placeP x.key m],List.mem_map.2 ⟨_,List.getElem_mem hl,rfl⟩,decide_eq_true hk⟩
 unfold MV
 rw [hany]
 unfold Cn
 cases ht : Bh x.key m with
 | false =>
   simp only [Bool.false_eq_true,↓reduceIte,Nat.add_zero]
   rw [List.map_append,List.map_cons]
   have e : m.map FF = (m.take (placeP x.key m)).map FF ++ (m.drop (placeP x.key m)).map FF:=by rw [<- List.map_append,List.take_append_drop]
   rw [e,List.append_assoc]
   exact List.Perm.append_left _ (List.perm_append_singleton (FF x) _)
 | true =>
   simp only [↓reduceIte]
   obtain ⟨hl,hk⟩:=E0 ht
   have e : m = m.take (placeP x.key m) ++ m[placeP x.key m] :: m.drop (placeP x.key m + 1):=by
    rw [<- List.drop_eq_getElem_cons hl,List.take_append_drop]
   have hne1 : ∀ y ∈ m.take (placeP x.key m),y.key ≠ x.key:=fun y hy e2 => by
    obtain ⟨i,hi,rfl⟩:=List.mem_iff_getElem.1 hy
    rw [List.length_take] at hi
    rw [List.getElem_take] at e2
    have:=Du (k:=x.key) (l:=m) (j:=i) (by omega) (by omega)
    rw [e2,Br] at this; cases this
   have hne2 : ∀ y ∈ m.drop (placeP x.key m + 1),y.key ≠ x.key:=fun y hy e2 => by
    obtain ⟨i,hi,rfl⟩:=List.mem_iff_getElem.1 hy
    rw [List.length_drop] at hi
    rw [List.getElem_drop] at e2
    have:=List.pairwise_iff_getElem.1 hr (placeP x.key m) (placeP x.key m + 1 + i) hl (by omega) (by omega)
    rw [hk,e2,Br] at this; cases this
   generalize m.take (placeP x.key m) = A at *
   generalize m.drop (placeP x.key m + 1) = B at *
   generalize m[placeP x.key m] = z at *
   subst e
   rw [List.map_append,List.map_cons,List.map_append,List.map_cons,List.map_append,List.map_cons]
   have f1 : ∀ C : List Aa,(∀ y ∈ C,y.key ≠ x.key) -> (C.map FF).map (fun y => if y.1 = x.key then (x.key,x.key.size + x.val.size) else y) = C.map FF:=fun C hC => by
    rw [List.map_map]
    refine List.map_congr_left fun y hy => ?_
    show (if (FF y).1 = x.key then _ else FF y) = FF y
    rw [if_neg (show ¬ (FF y).1 = x.key from hC y hy)]
   rw [f1 A hne1,f1 B hne2,if_pos (show (FF z).1 = x.key from hk)]
   exact List.Perm.refl _
theorem Eh.put {a : List (ByteArray × Nat)} {m : List Aa} (h : Eh a m) (hr : Aj m) {x : Aa} (hx : Av x = 0) : Eh (MV a x) (EH x m):=by
 have e : EH x m = Cn x m:=if_pos hx
 rw [e]
 exact (TJ h x).trans (Xf hr x)
theorem Eh.over : ∀ (ps : List Aa) {a : List (ByteArray × Nat)} {m : List Aa},Eh a m -> Aj m -> Az ps -> Eh (ps.foldl MV a) (AQ ps m)
 | [],_,_,h,_,_ => h
 | x :: r,a,m,h,hr,hp => by
   rw [Gr,List.foldl_cons]
   exact Eh.over r (h.put hr (hp x (by simp))) (Iu hr) fun y hy => hp y (by simp [hy])
end
section
open Go.RowKit
set_option maxHeartbeats 2000000 in
set_option maxRecDepth 100000 in
theorem JY {w : World} {a : Option Addr} {c : Nat} {l : List Aa} (h : Ao w (.slice a l.length c) l) :
 Calls Tryz.prog 15 #[.slice a l.length c] w fun e w' => e = .returned (.int .i64 (A4 l : Nat)) /\ Below w.heap.size w w':=by
 have hmx : l.length <= 9223372036854775807:=by have:=h.1; unfold maxLen at this; omega
 have H:=Lib.hid h
 clear h
 by_cases h0 : l.length = 0
 · have hg : ((l.length : Int) == 0) = true:=by rw [h0]; rfl
   have HE : Hid (A4 l = 1):=if_pos h0
   clear h0
   go_enter Tryz.func15,Tryz.ntmps15
   go_wp2
   go_ret
   exact ⟨by rw [HE.out]; rfl,Below.refl _ _⟩
 by_cases h1 : 64 < l.length
 · have hg : ((l.length : Int) == 0) = false:=by simpa using h0
   have hg2 : (64 : Int) < (l.length : Int):=by omega
   have HE : Hid (A4 l = 2):=by show A4 l = 2; unfold A4; rw [if_neg h0,if_pos h1]
   clear h0 h1
   go_enter Tryz.func15,Tryz.ntmps15
   go_wp2
   go_ret
   exact ⟨by rw [HE.out]; rfl,Below.refl _ _⟩
 have hg : ((l.length : Int) == 0) = false:=by simpa using h0
 have hg2 : ¬ (64 : Int) < (l.length : Int):=by omega
 have HC : Hid (∀ i,(hi : i < l.length) -> (∀ x ∈ l.take i,Av x = 0) -> Av l[i] ≠ 0 -> A4 l = Av l[i]):=fun i hi hb hw => Nj h0 h1 hi hb hw
 have HG : Hid ((∀ x ∈ l,Av x = 0) -> A4 l = 0):=Nz h0 h1
 clear h0 h1
 go_enter Tryz.func15,Tryz.ntmps15
 go_wp2
 go_loopw [13] (fun iv wr => ∃ i : Nat,i <= l.length /\ iv = .int .i64 (i : Int) /\ Hid ((∀ x ∈ l.take i,Av x = 0) /\ Below w.heap.size w wr)) (fun iv _ => l.length - (intOf iv).toNat)
 case atStart => exact ⟨0,Nat.zero_le _,rfl,(fun x hx => by simp at hx),Below.refl _ _⟩
 case round =>
  obtain ⟨i,hil,rfl,HI⟩:=hrel
  by_cases hlt : i < l.length
  · obtain ⟨b,o,rfl,q0,q1,q2⟩:=H.out.in HI.out.2 hlt
    have hmes : l.length - (intOf (.int .i64 ((i : Int) + 1))).toNat < l.length - (intOf (.int .i64 (i : Int))).toNat:=by simp [intOf]; omega
    have HTK : Hid (l.take (i + 1) = l.take i ++ [l[i]]):=List.take_succ_eq_append_getElem hlt
    have HST : Hid (Av l[i] ≠ 0 -> A4 l = Av l[i]):=HC.out i hlt HI.out.1
    generalize l[i] = X at *
    obtain ⟨xk,xv,xg⟩:=X
    have HB2:=Lib.hid (HI.out.2.alloc HI.out.2.size (.cells #[.string xk,.string xv,.bool xg] 61))
    simp only at q0 q1 q2
    by_cases k0 : xk.size = 0
    · have hke : xk.toList.isEmpty = true:=Ij k0
      have HE : Hid (A4 l = 1):=by
       have hw : Av ⟨xk,xv,xg⟩ = 1:=by unfold Av; rw [if_pos (.inl k0)]
       show _ = _
       rw [HST.out (by rw [hw]; simp),hw]
      clear HST HTK k0
      go_wp2
      go_ret
      exact ⟨by rw [HE.out]; rfl,HB2.out⟩
    have hke : xk.toList.isEmpty = false:=DV k0
    by_cases g0 : xg = true /\ xv.size ≠ 0
    · obtain ⟨rfl,g2⟩:=g0
      have hve : xv.toList.isEmpty = false:=DV g2
      have HE : Hid (A4 l = 1):=by
       have hw : Av ⟨xk,xv,true⟩ = 1:=by unfold Av; rw [if_pos (.inr ⟨rfl,g2⟩)]
       show _ = _
       rw [HST.out (by rw [hw]; simp),hw]
      clear HST HTK k0 g2
      go_wp2
      go_ret
      exact ⟨by rw [HE.out]; rfl,HB2.out⟩
    have hn1 : ¬ (xk.size = 0 \/ (xg = true /\ xv.size ≠ 0)):=by rintro (h | h); exact k0 h; exact g0 h
    have hgv : xg = false \/ xv.toList.isEmpty = true:=by
     cases hxg : xg with
     | false => exact .inl rfl
     | true =>
       refine .inr (Ij ?_)
       rw [hxg] at g0
       simpa using g0
    by_cases z0 : 64 < xk.size \/ 8192 < xv.size
    · have HE : Hid (A4 l = 2):=by
        have hw : Av ⟨xk,xv,xg⟩ = 2:=by unfold Av; rw [if_neg hn1,if_pos z0]
        show _ = _
        rw [HST.out (by rw [hw]; simp),hw]
      have hz : (64 : Int) < (xk.size : Int) \/ (¬ (64 : Int) < (xk.size : Int) /\ (8192 : Int) < (xv.size : Int)):=by omega
      clear HST HTK k0 g0 hn1 z0
      rcases hgv with rfl | hgv
      · rcases hz with hz | ⟨hz,hz2⟩
        · go_wp2
          go_ret
          exact ⟨by rw [HE.out]; rfl,HB2.out⟩
        · go_wp2
          go_ret
          exact ⟨by rw [HE.out]; rfl,HB2.out⟩
      · cases xg
        · rcases hz with hz | ⟨hz,hz2⟩
          · go_wp2
            go_ret
            exact ⟨by rw [HE.out]; rfl,HB2.out⟩
          · go_wp2
            go_ret
            exact ⟨by rw [HE.out]; rfl,HB2.out⟩
        · rcases hz with hz | ⟨hz,hz2⟩
          · go_wp2
            go_ret
            exact ⟨by rw [HE.out]; rfl,HB2.out⟩
          · go_wp2
            go_ret
            exact ⟨by rw [HE.out]; rfl,HB2.out⟩
    · have hz1 : ¬ (64 : Int) < (xk.size : Int):=by omega
      have hz2 : ¬ (8192 : Int) < (xv.size : Int):=by omega
      have HZ : Hid (∀ x ∈ l.take (i + 1),Av x = 0):=fun x hx => by
       rw [HTK.out] at hx
       rcases List.mem_append.1 hx with hx | hx
       · exact HI.out.1 x hx
       · rw [List.mem_singleton.1 hx]; unfold Av; rw [if_neg hn1,if_neg z0]
      clear HST HTK k0 g0 hn1 z0
      rcases hgv with rfl | hgv
      · go_wp2
        go_roundw
        case rel => exact ⟨i + 1,by omega,by go_num,HZ.out,HB2.out⟩
        case measure => exact hmes
      · cases xg
        · go_wp2
          go_roundw
          case rel => exact ⟨i + 1,by omega,by go_num,HZ.out,HB2.out⟩
          case measure => exact hmes
        · go_wp2
          go_roundw
          case rel => exact ⟨i + 1,by omega,by go_num,HZ.out,HB2.out⟩
          case measure => exact hmes
  · obtain rfl : i = l.length:=by omega
    rw [List.take_length] at HI
    have HE:=Lib.hid (HG.out HI.out.1)
    go_wp2
    go_ret
    exact ⟨by rw [HE.out]; rfl,HI.out.2⟩
end
end Go.Proofs.YtlkefgngefpkiaaGreatDoor
