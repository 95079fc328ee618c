/- Parts of the proof. -/
import Derived.Test.YtlkefgngefpkiaaGreatDoorQ24
import Derived.Test.YtlkefgngefpkiaaGreatDoorQ04
import Derived.Test.YtlkefgngefpkiaaGreatDoorQ15
namespace Go.Proofs.YtlkefgngefpkiaaGreatDoor
set_option linter.unusedVariables false
section
structure Uv (f : Ae) : Prop where
 dur : f.dur = f.bytes.length
 pos : 0 < f.bytes.length
theorem Fe (l : List UInt8) : 0 < (Ai l).length:=by rw [Fk]; omega
theorem Ql (ls : List (List UInt8)) (l : List UInt8) : A6 (ls ++ [l]) = A6 ls ++ Ai l:=by simp [A6]
section
variable {nm : Key} {fs : List Ae} {last : List (List UInt8)} {d : Nat} {S T : Bx}
end
end
section
section
variable {S : Bx}
end
def BU (nm : Key) (upto : Int) : List Nat -> Bx -> Bx × Int
 | [],S => (S,0)
 | n :: r,S => if upto < (n : Int) then (S,0) else if (S.delete (Af nm n)).2 = 0 then BU nm upto r (S.delete (Af nm n)).1 else S.delete (Af nm n)
theorem Zc {nm : Key} {l : List (Key × Ae)} {m : Nat} (h : ∀ n ∈ AC nm l,n <= m) : F8 nm l <= m + 1:=by
 unfold F8
 rw [List.getLastD_eq_getLast?]
 cases hs : (AC nm l).getLast? with
 | none => simp
 | some a =>
   have:=h a (List.mem_of_getLast? hs)
   simp only [Option.getD_some]
   omega
end
section
section
variable {nm : Key} {fs : List Ae} {last : List (List UInt8)} {d : Nat} {S : Bx}
end
end
section
open Go.RowKit Go.Maps Go.Sort
def zK (k : Key) : Bool:=match k with | c :: _ => decide (c = 122) | [] => false
def Cq (k : Key) (e : List UInt8) (l : List (Key × Ae)) : List (Key × Ae):=
 if e = [] then l else match Ak k l with
 | none => Bm (k,⟨e,e.length⟩) l
 | some f => Bk k ⟨f.bytes ++ e,(f.bytes ++ e).length⟩ l
def D8 (l : List (Key × Ae)) : Prop:=∀ x ∈ l,Uv x.2
def FV (b : List UInt8) : Ae:=⟨b,b.length⟩
theorem Uv.eq {f : Ae} (h : Uv f) : f = FV f.bytes:=by
 cases f with
 | mk b d => have:=h.dur; simp only at this; subst this; rfl
theorem Hb {a b c : Key} (h : bytesBefore a b = true) (k : bytesBefore b c = true) : bytesBefore a c = true:=
 (before_lt _ _).2 (List.lt_trans ((before_lt _ _).1 h) ((before_lt _ _).1 k))
def FU (keep : List Int) : Nat -> List (Key × Ae) -> List (Key × Ae)
 | _,[] => []
 | n,x :: r => (if 0 < CX keep n x.2 then [(x.1,(⟨x.2.bytes.take (CX keep n x.2),CX keep n x.2⟩ : Ae))] else []) ++ FU keep (if x.2.dur < x.2.bytes.length then n + 1 else n) r
theorem Nb {α : Type} (x : Key × α) : ∀ (l : List (Key × α)),(∀ y ∈ l,bytesBefore y.1 x.1 = true) -> Bm x l = l ++ [x]
 | [],_ => rfl
 | y :: r,h => by
   rw [Bm,if_neg (by rw [QB (h y (by simp))]; simp),Nb x r (fun z hz => h z (by simp [hz]))]
   rfl
theorem MX (keep : List Int) : ∀ (l : List (Key × Ae)) (a : List (Key × Ae)) (n : Nat),AA l -> (∀ y ∈ a,∀ x ∈ l,bytesBefore y.1 x.1 = true) -> (l.foldl (CM keep) (a,n)).1 = a ++ FU keep n l
 | [],a,n,_,_ => by simp [FU]
 | x :: r,a,n,hr,ha => by
   rw [List.foldl_cons]
   have hr1:=List.pairwise_cons.1 hr
   have e1 : CM keep (a,n) x = (a ++ (if 0 < CX keep n x.2 then [(x.1,(⟨x.2.bytes.take (CX keep n x.2),CX keep n x.2⟩ : Ae))] else []),if x.2.dur < x.2.bytes.length then n + 1 else n):=by
    unfold CM
    simp only
    by_cases h0 : 0 < CX keep n x.2
    · rw [if_pos h0,if_pos h0,Nb (x.1,(⟨x.2.bytes.take (CX keep n x.2),CX keep n x.2⟩ : Ae)) a (fun y hy => ha y hy x (by simp))]
    · rw [if_neg h0,if_neg h0,List.append_nil]
   rw [e1,MX keep r _ _ hr1.2 (fun y hy z hz => by
    rcases List.mem_append.1 hy with hy | hy
    · exact ha y hy z (by simp [hz])
    · split at hy
      · rw [List.mem_singleton.1 hy]; exact hr1.1 z hz
      · cases hy),FU,List.append_assoc]
theorem KF {keep : List Int} {l : List (Key × Ae)} (hr : AA l) : (Be keep l).1 = FU keep 0 l:=by
 unfold Be
 rw [MX keep l [] 0 hr (by simp)]
 rfl
theorem Nf {keep : List Int} {n : Nat} {f : Ae} (h : Uv f) : CX keep n f = f.bytes.length /\ ¬ f.dur < f.bytes.length:=by
 have hd:=h.dur
 refine ⟨?_,by omega⟩
 unfold CX
 rw [if_neg (by omega),hd]
theorem Lz {keep : List Int} : ∀ {l : List (Key × Ae)} (n : Nat),D8 l -> FU keep n l = l
 | [],_,_ => rfl
 | x :: r,n,h => by
   obtain ⟨h1,h2⟩:=Nf (keep:=keep) (n:=n) (h x (by simp))
   have hp:=(h x (by simp)).pos
   rw [FU,h1,if_pos hp,if_neg h2,Lz n (fun y hy => h y (by simp [hy])),List.take_length]
   have:=(h x (by simp)).eq
   unfold FV at this
   rw [<- this]
   rfl
theorem Ma {keep : List Int} : ∀ {a b : List (Key × Ae)} (n : Nat),D8 a -> FU keep n (a ++ b) = a ++ FU keep n b
 | [],_,_,_ => rfl
 | x :: r,b,n,h => by
   obtain ⟨h1,h2⟩:=Nf (keep:=keep) (n:=n) (h x (by simp))
   have hp:=(h x (by simp)).pos
   rw [List.cons_append,FU,h1,if_pos hp,if_neg h2,Ma n (fun y hy => h y (by simp [hy])),List.take_length]
   have:=(h x (by simp)).eq
   unfold FV at this
   rw [<- this]
   rfl
theorem M7 {keep : List Int} {l : List (Key × Ae)} (hr : AA l) (h : D8 l) : (Be keep l).1 = l:=by rw [KF hr,Lz 0 h]
theorem Ta {keep : List Int} {n : Nat} {f : Ae} (h : f.dur <= f.bytes.length) : f.dur <= CX keep n f /\ CX keep n f <= f.bytes.length:=by
 unfold CX
 split <;> omega
theorem Sg {keep : List Int} {A B : List (Key × Ae)} {k : Key} {f : Ae} (hr : AA (A ++ (k,f) :: B)) (hA : D8 A) (hB : D8 B) (hf : f.dur <= f.bytes.length) :
 ∃ m,f.dur <= m /\ m <= f.bytes.length /\ (Be keep (A ++ (k,f) :: B)).1 = A ++ ((if 0 < m then [(k,(⟨f.bytes.take m,m⟩ : Ae))] else []) ++ B):=by
 have h1:=Ta (keep:=keep) (n:=0) hf
 refine ⟨CX keep 0 f,h1.1,h1.2,?_⟩
 rw [KF hr,Ma 0 hA,FU,Lz _ hB]
theorem Jp {α : Type} (x : Key × α) : ∀ (l : List (Key × α)),∃ A B,l = A ++ B /\ Bm x l = A ++ x :: B /\ (∀ y ∈ A,bytesBefore x.1 y.1 = false) /\ (∀ y ∈ B.head?,bytesBefore x.1 y.1 = true)
 | [] => ⟨[],[],rfl,rfl,by simp,by simp⟩
 | y :: r => by
   rw [Bm]
   by_cases h : bytesBefore x.1 y.1 = true
   · rw [if_pos h]
     exact ⟨[],y :: r,rfl,rfl,by simp,fun z hz => by simp at hz; subst hz; exact h⟩
   · rw [if_neg h]
     obtain ⟨A,B,e1,e2,h1,h2⟩:=Jp x r
     refine ⟨y :: A,B,by rw [e1]; rfl,by rw [e2]; rfl,fun z hz => ?_,h2⟩
     rcases List.mem_cons.1 hz with rfl | hz
     · simpa using h
     · exact h1 z hz
theorem LT {α : Type} {k : Key} {a b : α} : ∀ {l : List (Key × α)},Ak k l = some b -> ∃ A B,l = A ++ (k,b) :: B /\ Bk k a l = A ++ (k,a) :: B /\ ∀ y ∈ A,y.1 ≠ k
 | [],h => by cases h
 | y :: r,h => by
   rw [Bi] at h
   rw [Bk]
   by_cases e : y.1 = k
   · rw [if_pos e] at h
     rw [if_pos e]
     injection h with h
     subst h
     subst e
     exact ⟨[],r,rfl,rfl,by simp⟩
   · rw [if_neg e] at h
     rw [if_neg e]
     obtain ⟨A,B,e1,e2,h1⟩:=LT (a:=a) h
     refine ⟨y :: A,B,by rw [e1]; rfl,by rw [e2]; rfl,fun z hz => ?_⟩
     rcases List.mem_cons.1 hz with rfl | hz
     · exact e
     · exact h1 z hz
theorem N9 {α : Type} {x : Key × α} {l : List (Key × α)} (hr : AA l) (hn : Ak x.1 l = none) : AA (Bm x l):=by
 induction l with
 | nil => exact List.pairwise_singleton _ _
 | cons y r ih =>
   have hr1:=List.pairwise_cons.1 hr
   rw [Bi] at hn
   by_cases e : y.1 = x.1
   · rw [if_pos e] at hn; cases hn
   rw [if_neg e] at hn
   rw [Bm]
   by_cases h : bytesBefore x.1 y.1 = true
   · rw [if_pos h]
     refine List.pairwise_cons.2 ⟨fun z hz => ?_,hr⟩
     rcases List.mem_cons.1 hz with rfl | hz
     · exact h
     · exact Hb h (hr1.1 z hz)
   · rw [if_neg h]
     refine List.pairwise_cons.2 ⟨fun z hz => ?_,ih hr1.2 hn⟩
     have hyx:=Q5 (fun e2 => e e2.symm) (by simpa using h)
     rcases List.mem_cons.1 ((Dv x r).mem_iff.1 hz) with rfl | hz
     · exact hyx
     · exact hr1.1 z hz
theorem Ni {α : Type} {k : Key} {a : α} {l : List (Key × α)} (hr : AA l) : AA (Bk k a l):=by
 unfold AA at *
 have : ∀ l : List (Key × α),l.Pairwise (fun a b => bytesBefore a.1 b.1 = true) ↔ (l.map (·.1)).Pairwise (fun a b => bytesBefore a b = true):=fun l => by rw [List.pairwise_map]
 rw [this,XX,<- this]
 exact hr
theorem M5 {α : Type} {k : Key} {l : List (Key × α)} (hr : AA l) : AA (BH k l):=List.Pairwise.sublist List.filter_sublist hr
theorem Mm {k : Key} {d : List UInt8} {l : List (Key × Ae)} (hr : AA l) : AA (Ep k d l):=by
 unfold Ep
 split
 · rename_i h; exact N9 hr h
 · exact Ni hr
theorem G9 {k : Key} {d : List UInt8} {l : List (Key × Ae)} (hr : AA l) : AA (Cq k d l):=by
 unfold Cq
 split
 · exact hr
 · split
   · rename_i h; exact N9 hr h
   · exact Ni hr
theorem Ut {keep : List Int} {k : Key} {d : List UInt8} {l : List (Key × Ae)} (hr : AA l) (h : D8 l) : ∃ m,m <= d.length /\ (Be keep (Ep k d l)).1 = Cq k (d.take m) l:=by
 have hra:=Mm (k:=k) (d:=d) hr
 unfold Ep Cq at *
 cases hf : Ak k l with
 | none =>
   rw [hf] at hra
   simp only at hra ⊢
   obtain ⟨A,B,e1,e2,_,_⟩:=Jp (k,(⟨d,0⟩ : Ae)) l
   have e3 : ∀ e : Ae,Bm (k,e) l = A ++ (k,e) :: B:=fun e => by
    have h1:=NA (fun _ : Ae => e) (k,(⟨d,0⟩ : Ae)) l
    obtain ⟨A',B',f1,f2,f3,f4⟩:=Jp (k,e) l
    have hl : A'.length = A.length:=by
     obtain ⟨A1,B1,g1,g2,g3,g4⟩:=Jp (k,(⟨d,0⟩ : Ae)) l
     rename_i hA hB
     rcases Nat.lt_trichotomy A'.length A.length with hlt | hlt | hlt
     · have hb' : B' = l.drop A'.length:=by rw [f1]; simp
       have hx : A'.length < l.length:=by rw [e1,List.length_append]; omega
       have h2:=f4 l[A'.length] (by rw [hb',List.drop_eq_getElem_cons hx]; rfl)
       have h3:=hA l[A'.length] (by
        have : l[A'.length] = A[A'.length]:=by simp only [e1]; rw [List.getElem_append_left hlt]
        rw [this]; exact List.getElem_mem _)
       simp only at h2 h3
       rw [h2] at h3; cases h3
     · exact hlt
     · have hb' : B = l.drop A.length:=by rw [e1]; simp
       have hx : A.length < l.length:=by rw [f1,List.length_append]; omega
       have h2:=hB l[A.length] (by rw [hb',List.drop_eq_getElem_cons hx]; rfl)
       have h3:=f3 l[A.length] (by
        have : l[A.length] = A'[A.length]:=by simp only [f1]; rw [List.getElem_append_left hlt]
        rw [this]; exact List.getElem_mem _)
       simp only at h2 h3
       rw [h2] at h3; cases h3
    obtain ⟨i1,i2⟩:=List.append_inj (f1.symm.trans e1) hl
    rw [f2,i1,i2]
   rw [e2] at hra
   have hA : D8 A:=fun x hx => h x (by rw [e1]; simp [hx])
   have hB : D8 B:=fun x hx => h x (by rw [e1]; simp [hx])
   obtain ⟨m,m1,m2,m3⟩:=Sg (keep:=keep) hra hA hB (Nat.zero_le _)
   simp only at m2
   refine ⟨m,m2,?_⟩
   rw [e2,m3]
   by_cases h0 : m = 0
   · subst h0
     rw [if_neg (by omega),List.take_zero,if_pos rfl,List.nil_append,e1]
   · have hl : (d.take m).length = m:=by rw [List.length_take]; omega
     rw [if_pos (by omega),if_neg (fun e => h0 (by rw [e] at hl; exact hl.symm)),e3,hl]
     rfl
 | some f =>
   rw [hf] at hra
   simp only at hra ⊢
   obtain ⟨A,B,e1,e2,hne⟩:=LT (a:=G8 d f) hf
   have hA : D8 A:=fun x hx => h x (by rw [e1]; simp [hx])
   have hB : D8 B:=fun x hx => h x (by rw [e1]; simp [hx])
   have hff : Uv f:=h (k,f) (by rw [e1]; simp)
   have hdl : (G8 d f).dur <= (G8 d f).bytes.length:=by
    show f.dur <= (f.bytes ++ d).length
    rw [hff.dur,List.length_append]; omega
   rw [e2] at hra
   obtain ⟨m,m1,m2,m3⟩:=Sg (keep:=keep) hra hA hB hdl
   have m1 : f.bytes.length <= m:=by have:=hff.dur; have h2 : (G8 d f).dur = f.dur:=rfl; omega
   have m2' : (G8 d f).bytes.length = f.bytes.length + d.length:=by show (f.bytes ++ d).length = _; rw [List.length_append]
   have m2 : m <= f.bytes.length + d.length:=by omega
   clear m2'
   have hp:=hff.pos
   refine ⟨m - f.bytes.length,by omega,?_⟩
   rw [e2,m3,if_pos (by omega)]
   have et : (G8 d f).bytes.take m = f.bytes ++ d.take (m - f.bytes.length):=by
    show (f.bytes ++ d).take m = _
    rw [List.take_append,List.take_of_length_le m1]
   rw [et]
   by_cases h0 : d.take (m - f.bytes.length) = []
   · rw [if_pos h0,h0,List.append_nil,e1]
     have hl0 : m = f.bytes.length:=by
      have h3:=congrArg List.length h0
      rw [List.length_take,List.length_nil] at h3
      omega
     have:=hff.eq
     unfold FV at this
     rw [hl0,<- this]
     rfl
   · rw [if_neg h0]
     obtain ⟨A',B',f1,f2,hne'⟩:=LT (a:=(⟨f.bytes ++ d.take (m - f.bytes.length),(f.bytes ++ d.take (m - f.bytes.length)).length⟩ : Ae)) hf
     have hAA : A' = A /\ B' = B:=by
      have hh:=f1.symm.trans e1
      have : ∀ (A' A B' B : List (Key × Ae)),(∀ y ∈ A',y.1 ≠ k) -> (∀ y ∈ A,y.1 ≠ k) -> A' ++ (k,f) :: B' = A ++ (k,f) :: B -> A' = A /\ B' = B:=by
       intro A'
       induction A' with
       | nil =>
         intro A B' B h1 h2 h3
         cases A with
         | nil => injection h3 with _ h3; exact ⟨rfl,h3⟩
         | cons a r => injection h3 with h3 _; exact absurd (by rw [<- h3]) (h2 a (by simp))
       | cons a' r' ih =>
         intro A B' B h1 h2 h3
         cases A with
         | nil => injection h3 with h3 _; exact absurd (by rw [h3]) (h1 a' (by simp))
         | cons a r =>
           injection h3 with h3 h4
           obtain ⟨i1,i2⟩:=ih r B' B (fun y hy => h1 y (by simp [hy])) (fun y hy => h2 y (by simp [hy])) h4
           exact ⟨by rw [h3,i1],i2⟩
      exact this _ _ _ _ hne' hne hh
     rw [f2,hAA.1,hAA.2]
     have hl : (f.bytes ++ d.take (m - f.bytes.length)).length = m:=by rw [List.length_append,List.length_take]; omega
     rw [hl]
     rfl
theorem PK {k : Key} {d : List UInt8} {l : List (Key × Ae)} (hd : d ≠ []) : ∃ f,Ak k (Ep k d l) = some f /\ Bk k (JG f) (Ep k d l) = Cq k d l:=by
 unfold Ep Cq
 rw [if_neg hd]
 cases hf : Ak k l with
 | none =>
   simp only
   refine ⟨⟨d,0⟩,by rw [J9 hf,if_pos rfl],?_⟩
   rw [VY hf]
   rfl
 | some f =>
   simp only
   refine ⟨G8 d f,by rw [PL hf,if_pos rfl],?_⟩
   have : ∀ (l : List (Key × Ae)) (a b : Ae),Bk k b (Bk k a l) = Bk k b l:=by
    intro l a b
    induction l with
    | nil => rfl
    | cons y r ih =>
      rw [Bk]
      by_cases e : y.1 = k
      · rw [if_pos e,Bk,if_pos rfl,Bk,if_pos e]
      · rw [if_neg e,Bk,if_neg e,ih,Bk,if_neg e]
   rw [this]
   rfl
theorem NO {k n : Key} {d : List UInt8} {l : List (Key × Ae)} (h : k ≠ n) : Ak n (Cq k d l) = Ak n l:=by
 unfold Cq
 split
 · rfl
 · cases hf : Ak k l with
   | none => simp only; rw [J9 hf,if_neg h]
   | some f => simp only; rw [PL hf,if_neg h]
theorem SJ {k : Key} {d : List UInt8} {l : List (Key × Ae)} {x : Key × Ae} (h : x ∈ Cq k d l) : x ∈ l \/ (x.1 = k /\ ∃ e,x.2 = FV (e ++ d) /\ (e = [] /\ Ak k l = none \/ ∃ f,Ak k l = some f /\ e = f.bytes)):=by
 unfold Cq at h
 split at h
 · exact .inl h
 · cases hf : Ak k l with
   | none =>
     rw [hf] at h
     simp only at h
     rcases List.mem_cons.1 ((Dv _ l).mem_iff.1 h) with rfl | h
     · exact .inr ⟨rfl,[],rfl,.inl ⟨rfl,rfl⟩⟩
     · exact .inl h
   | some f =>
     rw [hf] at h
     simp only at h
     rcases MK h with rfl | h
     · exact .inr ⟨rfl,f.bytes,rfl,.inr ⟨f,rfl,rfl⟩⟩
     · exact .inl h
structure YG (x : Key × Ae) : Prop where
 dur : x.2.dur = x.2.bytes.length
 pos : zK x.1 = false -> 0 < x.2.bytes.length
def Dp (l : List (Key × Ae)) : Prop:=∀ x ∈ l,YG x
theorem YG.firm {x : Key × Ae} (h : YG x) (hz : zK x.1 = false) : Uv x.2:=⟨h.dur,h.pos hz⟩
theorem Li {k : Key} {d : List UInt8} {l : List (Key × Ae)} (h : Dp l) : Dp (Cq k d l):=by
 unfold Cq
 split
 · exact h
 · rename_i hd
   have hp : 0 < d.length:=List.length_pos_iff.2 hd
   split
   · intro x hx
     rcases List.mem_cons.1 ((Dv _ l).mem_iff.1 hx) with rfl | hx
     · exact ⟨rfl,fun _ => hp⟩
     · exact h x hx
   · intro x hx
     rcases MK hx with rfl | hx
     · exact ⟨rfl,fun _ => by rw [List.length_append]; omega⟩
     · exact h x hx
theorem P3 {k : Key} {l : List (Key × Ae)} (h : Dp l) : Dp (BH k l):=fun x hx => h x (Hx hx).1
def NQ (x : Key × Ae) : Bool:=decide (0 < x.2.bytes.length)
def ne9 (l : List (Key × Ae)) : List (Key × Ae):=l.filter NQ
theorem Of {l : List (Key × Ae)} (h : Dp l) : D8 (ne9 l):=fun x hx => by
 obtain ⟨h1,h2⟩:=List.mem_filter.1 hx
 exact ⟨(h x h1).dur,of_decide_eq_true h2⟩
theorem Aa6 {l : List (Key × Ae)} (h : Dp l) : Dp (ne9 l):=fun x hx => h x (List.mem_filter.1 hx).1
theorem Gz {l : List (Key × Ae)} (h : AA l) : AA (ne9 l):=List.Pairwise.sublist List.filter_sublist h
theorem Qr {keep : List Int} : ∀ {l : List (Key × Ae)} (n : Nat),(∀ x ∈ l,x.2.dur <= x.2.bytes.length) -> FU keep n l = FU keep n (ne9 l)
 | [],_,_ => rfl
 | x :: r,n,h => by
   have hx:=h x (by simp)
   by_cases h0 : 0 < x.2.bytes.length
   · have e : ne9 (x :: r) = x :: ne9 r:=by unfold ne9; rw [List.filter_cons,if_pos (show NQ x = true from decide_eq_true h0)]
     rw [e,FU,FU,Qr _ fun y hy => h y (by simp [hy])]
   · have e : ne9 (x :: r) = ne9 r:=by unfold ne9; rw [List.filter_cons,if_neg (by unfold NQ; simpa using h0)]
     have h1:=Ta (keep:=keep) (n:=n) hx
     rw [e,FU,if_neg (by omega),if_neg (by omega),List.nil_append,Qr n fun y hy => h y (by simp [hy])]
theorem Rc {keep : List Int} {l : List (Key × Ae)} (hr : AA l) (h : ∀ x ∈ l,x.2.dur <= x.2.bytes.length) : (Be keep l).1 = (Be keep (ne9 l)).1:=by
 rw [KF hr,KF (Gz hr),Qr 0 h]
theorem Jk {keep : List Int} {l : List (Key × Ae)} (hr : AA l) (h : Dp l) : (Be keep l).1 = ne9 l:=by
 rw [Rc hr (fun x hx => by have:=(h x hx).dur; omega),M7 (Gz hr) (Of h)]
theorem NP {p : Key × Ae -> Bool} {k : Key × Ae} (hk : p k = true) : ∀ {l : List (Key × Ae)},AA l -> (Bm k l).filter p = Bm k (l.filter p)
 | [],_ => by rw [Bm,List.filter_cons,if_pos hk]; rfl
 | y :: r,hr => by
   have hr1:=List.pairwise_cons.1 hr
   by_cases h : bytesBefore k.1 y.1 = true
   · rw [Bm,if_pos h,List.filter_cons,if_pos hk]
     cases hf : (y :: r).filter p with
     | nil => rfl
     | cons z t =>
       have hz : z ∈ y :: r:=(List.mem_filter.1 (by rw [hf]; simp : z ∈ (y :: r).filter p)).1
       have hb : bytesBefore k.1 z.1 = true:=by
        rcases List.mem_cons.1 hz with rfl | hz
        · exact h
        · exact Hb h (hr1.1 z hz)
       rw [Bm,if_pos hb]
   · rw [Bm,if_neg h]
     have ih:=NP hk hr1.2
     rw [List.filter_cons,List.filter_cons,ih]
     split
     · rw [Bm,if_neg h]
     · rfl
theorem Rn {p : Key × Ae -> Bool} {k : Key × Ae} (hk : p k = false) : ∀ {l : List (Key × Ae)},(Bm k l).filter p = l.filter p
 | [] => by rw [Bm,List.filter_cons,if_neg (by simp [hk])]
 | y :: r => by
   rw [Bm]
   split
   · rw [List.filter_cons,if_neg (by simp [hk])]
   · rw [List.filter_cons,List.filter_cons,Rn hk]
theorem Nc {p : Key × Ae -> Bool} {k : Key} {f g : Ae} (hf : p (k,f) = true) (hg : p (k,g) = true) : ∀ {l : List (Key × Ae)},Ak k l = some f -> (Bk k g l).filter p = Bk k g (l.filter p)
 | [],h => by cases h
 | y :: r,h => by
   rw [Bi] at h
   rw [Bk]
   by_cases e : y.1 = k
   · rw [if_pos e] at h
     injection h with h
     subst h
     subst e
     rw [if_pos rfl,List.filter_cons,if_pos hg,List.filter_cons,if_pos hf,Bk,if_pos rfl]
   · rw [if_neg e] at h
     rw [if_neg e,List.filter_cons,List.filter_cons,Nc hf hg h]
     split
     · rw [Bk,if_neg e]
     · rfl
theorem Hd {p : Key × Ae -> Bool} {k : Key} {f : Ae} (hf : p (k,f) = true) : ∀ {l : List (Key × Ae)},Ak k l = some f -> Ak k (l.filter p) = some f
 | [],h => by cases h
 | y :: r,h => by
   rw [Bi] at h
   rw [List.filter_cons]
   by_cases e : y.1 = k
   · rw [if_pos e] at h
     injection h with h
     subst h
     subst e
     rw [if_pos hf,Bi,if_pos rfl]
   · rw [if_neg e] at h
     split
     · rw [Bi,if_neg e]; exact Hd hf h
     · exact Hd hf h
theorem Ne {p : Key × Ae -> Bool} {k : Key} {l : List (Key × Ae)} (h : Ak k l = none) : Ak k (l.filter p) = none:=by
 rw [DF] at *
 exact fun x hx => h x (List.mem_filter.1 hx).1
theorem ZK {k : Key} {d : List UInt8} {l : List (Key × Ae)} (hr : AA l) (h : Dp l) (hk : zK k = false) : ne9 (Cq k d l) = Cq k d (ne9 l):=by
 unfold Cq
 by_cases hd : d = []
 · rw [if_pos hd,if_pos hd]
 rw [if_neg hd,if_neg hd]
 have hp : 0 < d.length:=List.length_pos_iff.2 hd
 cases hf : Ak k l with
 | none =>
   rw [show Ak k (ne9 l) = none from Ne hf]
   exact NP (decide_eq_true hp) hr
 | some f =>
   have hm : (k,f) ∈ l:=CO hf
   have hff:=(h _ hm).pos hk
   rw [show Ak k (ne9 l) = some f from Hd (p:=NQ) (decide_eq_true hff) hf]
   exact Nc (p:=NQ) (decide_eq_true hff) (decide_eq_true (by show 0 < (f.bytes ++ d).length; rw [List.length_append]; omega)) hf
theorem ZN {k : Key} {d : List UInt8} {l : List (Key × Ae)} (hd : d ≠ []) (hr : AA l) (h : Dp l) (hk : zK k = false) : ne9 (Ep k d l) = Ep k d (ne9 l):=by
 unfold Ep
 have hp : 0 < d.length:=List.length_pos_iff.2 hd
 cases hf : Ak k l with
 | none =>
   rw [show Ak k (ne9 l) = none from Ne hf]
   exact NP (decide_eq_true hp) hr
 | some f =>
   have hm : (k,f) ∈ l:=CO hf
   have hff:=(h _ hm).pos hk
   rw [show Ak k (ne9 l) = some f from Hd (p:=NQ) (decide_eq_true hff) hf]
   exact Nc (p:=NQ) (decide_eq_true hff) (decide_eq_true (by show 0 < (f.bytes ++ d).length; rw [List.length_append]; omega)) hf
theorem TN {k : Key} {l : List (Key × Ae)} : ne9 (Ep k [] l) = ne9 l:=by
 unfold Ep
 cases hf : Ak k l with
 | none => exact Rn (p:=NQ) (by simp [NQ])
 | some f =>
   have e : G8 [] f = f:=by unfold G8; cases f; simp
   simp only [e]
   rw [Lx hf]
theorem Zj {k : Key} {d : List UInt8} {l : List (Key × Ae)} (h : Dp l) : ∀ x ∈ Ep k d l,x.2.dur <= x.2.bytes.length:=by
 intro x hx
 unfold Ep at hx
 cases hf : Ak k l with
 | none =>
   rw [hf] at hx
   rcases List.mem_cons.1 ((Dv _ l).mem_iff.1 hx) with rfl | hx
   · exact Nat.zero_le _
   · have:=(h x hx).dur; omega
 | some f =>
   rw [hf] at hx
   rcases MK hx with rfl | hx
   · have:=(h _ (CO hf)).dur
     show f.dur <= (f.bytes ++ d).length
     rw [List.length_append]
     have h2 : f.dur = f.bytes.length:=this
     omega
   · have:=(h x hx).dur; omega
theorem UK {keep : List Int} {k : Key} {d : List UInt8} {l : List (Key × Ae)} (hr : AA l) (h : Dp l) (hk : zK k = false) : ∃ m,m <= d.length /\ (Be keep (Ep k d l)).1 = ne9 (Cq k (d.take m) l):=by
 have h1:=Rc (keep:=keep) (Mm (k:=k) (d:=d) hr) (Zj h)
 by_cases hd : d = []
 · subst hd
   refine ⟨0,Nat.le_refl _,?_⟩
   rw [h1,TN,M7 (Gz hr) (Of h)]
   rfl
 · rw [h1,ZN hd hr h hk]
   obtain ⟨m,m1,m2⟩:=Ut (keep:=keep) (k:=k) (d:=d) (Gz hr) (Of h)
   exact ⟨m,m1,by rw [m2,ZK hr h hk]⟩
end
end Go.Proofs.YtlkefgngefpkiaaGreatDoor
