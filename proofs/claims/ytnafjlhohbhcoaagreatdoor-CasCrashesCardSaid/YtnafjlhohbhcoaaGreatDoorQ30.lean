/- Parts of the proof. -/
import Derived.Test.YtnafjlhohbhcoaaGreatDoorQ29
import Derived.Test.YtnafjlhohbhcoaaGreatDoorQ04
import Derived.Test.YtnafjlhohbhcoaaGreatDoorQ15
namespace Go.Proofs.YtnafjlhohbhcoaaGreatDoor
set_option linter.unusedVariables false
section
structure UP (f : Ae) : Prop where
 dur : f.dur = f.bytes.length
 pos : 0 < f.bytes.length
theorem Fh (l : List UInt8) : 0 < (Ai l).length:=by rw [Fk]; omega
theorem QE (ls : List (List UInt8)) (l : List UInt8) : A6 (ls ++ [l]) = A6 ls ++ Ai l:=by simp [A6]
section
variable {nm : Key} {fs : List Ae} {last : List (List UInt8)} {d : Nat} {S T : Bx}
end
end
section
section
variable {S : Bx}
end
def BK (nm : Key) (upto : Int) : List Nat -> Bx -> Bx × Int
 | [],S => (S,0)
 | n :: r,S => if upto < (n : Int) then (S,0) else if (S.delete (Af nm n)).2 = 0 then BK nm upto r (S.delete (Af nm n)).1 else S.delete (Af nm n)
theorem Zn {nm : Key} {l : List (Key × Ae)} {m : Nat} (h : ∀ n ∈ AD nm l,n <= m) : F4 nm l <= m + 1:=by
 unfold F4
 rw [List.getLastD_eq_getLast?]
 cases hs : (AD nm l).getLast? with
 | none => simp
 | some a =>
   have:=h a (List.mem_of_getLast? hs)
   simp only [Option.getD_some]
   omega
end
section
section
variable {nm : Key} {fs : List Ae} {last : List (List UInt8)} {d : Nat} {S : Bx}
end
end
section
open Go.RowKit Go.Maps Go.Sort
def zK (k : Key) : Bool:=match k with | c :: _ => decide (c = 122) | [] => false
def Cg (k : Key) (e : List UInt8) (l : List (Key × Ae)) : List (Key × Ae):=
 if e = [] then l else match Am k l with
 | none => Bh (k,⟨e,e.length⟩) l
 | some f => Bf k ⟨f.bytes ++ e,(f.bytes ++ e).length⟩ l
def DC (l : List (Key × Ae)) : Prop:=∀ x ∈ l,UP x.2
def FV (b : List UInt8) : Ae:=⟨b,b.length⟩
theorem UP.eq {f : Ae} (h : UP f) : f = FV f.bytes:=by
 cases f with
 | mk b d => have:=h.dur; simp only at this; subst this; rfl
theorem GV {a b c : Key} (h : bytesBefore a b = true) (k : bytesBefore b c = true) : bytesBefore a c = true:=
 (before_lt _ _).2 (List.lt_trans ((before_lt _ _).1 h) ((before_lt _ _).1 k))
def FQ (keep : List Int) : Nat -> List (Key × Ae) -> List (Key × Ae)
 | _,[] => []
 | n,x :: r => (if 0 < CM keep n x.2 then [(x.1,(⟨x.2.bytes.take (CM keep n x.2),CM keep n x.2⟩ : Ae))] else []) ++ FQ keep (if x.2.dur < x.2.bytes.length then n + 1 else n) r
theorem NB {α : Type} (x : Key × α) : ∀ (l : List (Key × α)),(∀ y ∈ l,bytesBefore y.1 x.1 = true) -> Bh x l = l ++ [x]
 | [],_ => rfl
 | y :: r,h => by
   rw [Bh,if_neg (by rw [PY (h y (by simp))]; simp),NB x r (fun z hz => h z (by simp [hz]))]
   rfl
theorem NI (keep : List Int) : ∀ (l : List (Key × Ae)) (a : List (Key × Ae)) (n : Nat),AC l -> (∀ y ∈ a,∀ x ∈ l,bytesBefore y.1 x.1 = true) -> (l.foldl (C7 keep) (a,n)).1 = a ++ FQ keep n l
 | [],a,n,_,_ => by simp [FQ]
 | x :: r,a,n,hr,ha => by
   rw [List.foldl_cons]
   have hr1:=List.pairwise_cons.1 hr
   have e1 : C7 keep (a,n) x = (a ++ (if 0 < CM keep n x.2 then [(x.1,(⟨x.2.bytes.take (CM keep n x.2),CM keep n x.2⟩ : Ae))] else []),if x.2.dur < x.2.bytes.length then n + 1 else n):=by
    unfold C7
    simp only
    by_cases h0 : 0 < CM keep n x.2
    · rw [if_pos h0,if_pos h0,NB (x.1,(⟨x.2.bytes.take (CM keep n x.2),CM keep n x.2⟩ : Ae)) a (fun y hy => ha y hy x (by simp))]
    · rw [if_neg h0,if_neg h0,List.append_nil]
   rw [e1,NI keep r _ _ hr1.2 (fun y hy z hz => by
    rcases List.mem_append.1 hy with hy | hy
    · exact ha y hy z (by simp [hz])
    · split at hy
      · rw [List.mem_singleton.1 hy]; exact hr1.1 z hz
      · cases hy),FQ,List.append_assoc]
theorem Kt {keep : List Int} {l : List (Key × Ae)} (hr : AC l) : (AY keep l).1 = FQ keep 0 l:=by
 unfold AY
 rw [NI keep l [] 0 hr (by simp)]
 rfl
theorem MO {keep : List Int} {n : Nat} {f : Ae} (h : UP f) : CM keep n f = f.bytes.length /\ ¬ f.dur < f.bytes.length:=by
 have hd:=h.dur
 refine ⟨?_,by omega⟩
 unfold CM
 rw [if_neg (by omega),hd]
theorem Lr {keep : List Int} : ∀ {l : List (Key × Ae)} (n : Nat),DC l -> FQ keep n l = l
 | [],_,_ => rfl
 | x :: r,n,h => by
   obtain ⟨h1,h2⟩:=MO (keep:=keep) (n:=n) (h x (by simp))
   have hp:=(h x (by simp)).pos
   rw [FQ,h1,if_pos hp,if_neg h2,Lr n (fun y hy => h y (by simp [hy])),List.take_length]
   have:=(h x (by simp)).eq
   unfold FV at this
   rw [<- this]
   rfl
theorem Mz {keep : List Int} : ∀ {a b : List (Key × Ae)} (n : Nat),DC a -> FQ keep n (a ++ b) = a ++ FQ keep n b
 | [],_,_,_ => rfl
 | x :: r,b,n,h => by
   obtain ⟨h1,h2⟩:=MO (keep:=keep) (n:=n) (h x (by simp))
   have hp:=(h x (by simp)).pos
   rw [List.cons_append,FQ,h1,if_pos hp,if_neg h2,Mz n (fun y hy => h y (by simp [hy])),List.take_length]
   have:=(h x (by simp)).eq
   unfold FV at this
   rw [<- this]
   rfl
theorem Mv {keep : List Int} {l : List (Key × Ae)} (hr : AC l) (h : DC l) : (AY keep l).1 = l:=by rw [Kt hr,Lr 0 h]
theorem Sw {keep : List Int} {n : Nat} {f : Ae} (h : f.dur <= f.bytes.length) : f.dur <= CM keep n f /\ CM keep n f <= f.bytes.length:=by
 unfold CM
 split <;> omega
theorem RF {keep : List Int} {A B : List (Key × Ae)} {k : Key} {f : Ae} (hr : AC (A ++ (k,f) :: B)) (hA : DC A) (hB : DC B) (hf : f.dur <= f.bytes.length) :
 ∃ m,f.dur <= m /\ m <= f.bytes.length /\ (AY keep (A ++ (k,f) :: B)).1 = A ++ ((if 0 < m then [(k,(⟨f.bytes.take m,m⟩ : Ae))] else []) ++ B):=by
 have h1:=Sw (keep:=keep) (n:=0) hf
 refine ⟨CM keep 0 f,h1.1,h1.2,?_⟩
 rw [Kt hr,Mz 0 hA,FQ,Lr _ hB]
theorem J4 {α : Type} (x : Key × α) : ∀ (l : List (Key × α)),∃ A B,l = A ++ B /\ Bh x l = A ++ x :: B /\ (∀ y ∈ A,bytesBefore x.1 y.1 = false) /\ (∀ y ∈ B.head?,bytesBefore x.1 y.1 = true)
 | [] => ⟨[],[],rfl,rfl,by simp,by simp⟩
 | y :: r => by
   rw [Bh]
   by_cases h : bytesBefore x.1 y.1 = true
   · rw [if_pos h]
     exact ⟨[],y :: r,rfl,rfl,by simp,fun z hz => by simp at hz; subst hz; exact h⟩
   · rw [if_neg h]
     obtain ⟨A,B,e1,e2,h1,h2⟩:=J4 x r
     refine ⟨y :: A,B,by rw [e1]; rfl,by rw [e2]; rfl,fun z hz => ?_,h2⟩
     rcases List.mem_cons.1 hz with rfl | hz
     · simpa using h
     · exact h1 z hz
theorem Ll {α : Type} {k : Key} {a b : α} : ∀ {l : List (Key × α)},Am k l = some b -> ∃ A B,l = A ++ (k,b) :: B /\ Bf k a l = A ++ (k,a) :: B /\ ∀ y ∈ A,y.1 ≠ k
 | [],h => by cases h
 | y :: r,h => by
   rw [BO] at h
   rw [Bf]
   by_cases e : y.1 = k
   · rw [if_pos e] at h
     rw [if_pos e]
     injection h with h
     subst h
     subst e
     exact ⟨[],r,rfl,rfl,by simp⟩
   · rw [if_neg e] at h
     rw [if_neg e]
     obtain ⟨A,B,e1,e2,h1⟩:=Ll (a:=a) h
     refine ⟨y :: A,B,by rw [e1]; rfl,by rw [e2]; rfl,fun z hz => ?_⟩
     rcases List.mem_cons.1 hz with rfl | hz
     · exact e
     · exact h1 z hz
theorem MT {α : Type} {x : Key × α} {l : List (Key × α)} (hr : AC l) (hn : Am x.1 l = none) : AC (Bh x l):=by
 induction l with
 | nil => exact List.pairwise_singleton _ _
 | cons y r ih =>
   have hr1:=List.pairwise_cons.1 hr
   rw [BO] at hn
   by_cases e : y.1 = x.1
   · rw [if_pos e] at hn; cases hn
   rw [if_neg e] at hn
   rw [Bh]
   by_cases h : bytesBefore x.1 y.1 = true
   · rw [if_pos h]
     refine List.pairwise_cons.2 ⟨fun z hz => ?_,hr⟩
     rcases List.mem_cons.1 hz with rfl | hz
     · exact h
     · exact GV h (hr1.1 z hz)
   · rw [if_neg h]
     refine List.pairwise_cons.2 ⟨fun z hz => ?_,ih hr1.2 hn⟩
     have hyx:=QN (fun e2 => e e2.symm) (by simpa using h)
     rcases List.mem_cons.1 ((Dp x r).mem_iff.1 hz) with rfl | hz
     · exact hyx
     · exact hr1.1 z hz
theorem Nh {α : Type} {k : Key} {a : α} {l : List (Key × α)} (hr : AC l) : AC (Bf k a l):=by
 unfold AC at *
 have : ∀ l : List (Key × α),l.Pairwise (fun a b => bytesBefore a.1 b.1 = true) ↔ (l.map (·.1)).Pairwise (fun a b => bytesBefore a b = true):=fun l => by rw [List.pairwise_map]
 rw [this,WP,<- this]
 exact hr
theorem Ms {α : Type} {k : Key} {l : List (Key × α)} (hr : AC l) : AC (Bw k l):=List.Pairwise.sublist List.filter_sublist hr
theorem LV {k : Key} {d : List UInt8} {l : List (Key × Ae)} (hr : AC l) : AC (Eq k d l):=by
 unfold Eq
 split
 · rename_i h; exact MT hr h
 · exact Nh hr
theorem GF {k : Key} {d : List UInt8} {l : List (Key × Ae)} (hr : AC l) : AC (Cg k d l):=by
 unfold Cg
 split
 · exact hr
 · split
   · rename_i h; exact MT hr h
   · exact Nh hr
theorem TR {keep : List Int} {k : Key} {d : List UInt8} {l : List (Key × Ae)} (hr : AC l) (h : DC l) : ∃ m,m <= d.length /\ (AY keep (Eq k d l)).1 = Cg k (d.take m) l:=by
 have hra:=LV (k:=k) (d:=d) hr
 unfold Eq Cg at *
 cases hf : Am k l with
 | none =>
   rw [hf] at hra
   simp only at hra ⊢
   obtain ⟨A,B,e1,e2,_,_⟩:=J4 (k,(⟨d,0⟩ : Ae)) l
   have e3 : ∀ e : Ae,Bh (k,e) l = A ++ (k,e) :: B:=fun e => by
    have h1:=NO (fun _ : Ae => e) (k,(⟨d,0⟩ : Ae)) l
    obtain ⟨A',B',f1,f2,f3,f4⟩:=J4 (k,e) l
    have hl : A'.length = A.length:=by
     obtain ⟨A1,B1,g1,g2,g3,g4⟩:=J4 (k,(⟨d,0⟩ : Ae)) l
     rename_i hA hB
     rcases Nat.lt_trichotomy A'.length A.length with hlt | hlt | hlt
     · have hb' : B' = l.drop A'.length:=by rw [f1]; simp
       have hx : A'.length < l.length:=by rw [e1,List.length_append]; omega
       have h2:=f4 l[A'.length] (by rw [hb',List.drop_eq_getElem_cons hx]; rfl)
       have h3:=hA l[A'.length] (by
        have : l[A'.length] = A[A'.length]:=by simp only [e1]; rw [List.getElem_append_left hlt]
        rw [this]; exact List.getElem_mem _)
       simp only at h2 h3
       rw [h2] at h3; cases h3
     · exact hlt
     · have hb' : B = l.drop A.length:=by rw [e1]; simp
       have hx : A.length < l.length:=by rw [f1,List.length_append]; omega
       have h2:=hB l[A.length] (by rw [hb',List.drop_eq_getElem_cons hx]; rfl)
       have h3:=f3 l[A.length] (by
        have : l[A.length] = A'[A.length]:=by simp only [f1]; rw [List.getElem_append_left hlt]
        rw [this]; exact List.getElem_mem _)
       simp only at h2 h3
       rw [h2] at h3; cases h3
    obtain ⟨i1,i2⟩:=List.append_inj (f1.symm.trans e1) hl
    rw [f2,i1,i2]
   rw [e2] at hra
   have hA : DC A:=fun x hx => h x (by rw [e1]; simp [hx])
   have hB : DC B:=fun x hx => h x (by rw [e1]; simp [hx])
   obtain ⟨m,m1,m2,m3⟩:=RF (keep:=keep) hra hA hB (Nat.zero_le _)
   simp only at m2
   refine ⟨m,m2,?_⟩
   rw [e2,m3]
   by_cases h0 : m = 0
   · subst h0
     rw [if_neg (by omega),List.take_zero,if_pos rfl,List.nil_append,e1]
   · have hl : (d.take m).length = m:=by rw [List.length_take]; omega
     rw [if_pos (by omega),if_neg (fun e => h0 (by rw [e] at hl; exact hl.symm)),e3,hl]
     rfl
 | some f =>
   rw [hf] at hra
   simp only at hra ⊢
   obtain ⟨A,B,e1,e2,hne⟩:=Ll (a:=G8 d f) hf
   have hA : DC A:=fun x hx => h x (by rw [e1]; simp [hx])
   have hB : DC B:=fun x hx => h x (by rw [e1]; simp [hx])
   have hff : UP f:=h (k,f) (by rw [e1]; simp)
   have hdl : (G8 d f).dur <= (G8 d f).bytes.length:=by
    show f.dur <= (f.bytes ++ d).length
    rw [hff.dur,List.length_append]; omega
   rw [e2] at hra
   obtain ⟨m,m1,m2,m3⟩:=RF (keep:=keep) hra hA hB hdl
   have m1 : f.bytes.length <= m:=by have:=hff.dur; have h2 : (G8 d f).dur = f.dur:=rfl; omega
   have m2' : (G8 d f).bytes.length = f.bytes.length + d.length:=by show (f.bytes ++ d).length = _; rw [List.length_append]
   have m2 : m <= f.bytes.length + d.length:=by omega
   clear m2'
   have hp:=hff.pos
   refine ⟨m - f.bytes.length,by omega,?_⟩
   rw [e2,m3,if_pos (by omega)]
   have et : (G8 d f).bytes.take m = f.bytes ++ d.take (m - f.bytes.length):=by
    show (f.bytes ++ d).take m = _
    rw [List.take_append,List.take_of_length_le m1]
   rw [et]
   by_cases h0 : d.take (m - f.bytes.length) = []
   · rw [if_pos h0,h0,List.append_nil,e1]
     have hl0 : m = f.bytes.length:=by
      have h3:=congrArg List.length h0
      rw [List.length_take,List.length_nil] at h3
      omega
     have:=hff.eq
     unfold FV at this
     rw [hl0,<- this]
     rfl
   · rw [if_neg h0]
     obtain ⟨A',B',f1,f2,hne'⟩:=Ll (a:=(⟨f.bytes ++ d.take (m - f.bytes.length),(f.bytes ++ d.take (m - f.bytes.length)).length⟩ : Ae)) hf
     have hAA : A' = A /\ B' = B:=by
      have hh:=f1.symm.trans e1
      have : ∀ (A' A B' B : List (Key × Ae)),(∀ y ∈ A',y.1 ≠ k) -> (∀ y ∈ A,y.1 ≠ k) -> A' ++ (k,f) :: B' = A ++ (k,f) :: B -> A' = A /\ B' = B:=by
       intro A'
       induction A' with
       | nil =>
         intro A B' B h1 h2 h3
         cases A with
         | nil => injection h3 with _ h3; exact ⟨rfl,h3⟩
         | cons a r => injection h3 with h3 _; exact absurd (by rw [<- h3]) (h2 a (by simp))
       | cons a' r' ih =>
         intro A B' B h1 h2 h3
         cases A with
         | nil => injection h3 with h3 _; exact absurd (by rw [h3]) (h1 a' (by simp))
         | cons a r =>
           injection h3 with h3 h4
           obtain ⟨i1,i2⟩:=ih r B' B (fun y hy => h1 y (by simp [hy])) (fun y hy => h2 y (by simp [hy])) h4
           exact ⟨by rw [h3,i1],i2⟩
      exact this _ _ _ _ hne' hne hh
     rw [f2,hAA.1,hAA.2]
     have hl : (f.bytes ++ d.take (m - f.bytes.length)).length = m:=by rw [List.length_append,List.length_take]; omega
     rw [hl]
     rfl
theorem P1 {k : Key} {d : List UInt8} {l : List (Key × Ae)} (hd : d ≠ []) : ∃ f,Am k (Eq k d l) = some f /\ Bf k (JD f) (Eq k d l) = Cg k d l:=by
 unfold Eq Cg
 rw [if_neg hd]
 cases hf : Am k l with
 | none =>
   simp only
   refine ⟨⟨d,0⟩,by rw [J3 hf,if_pos rfl],?_⟩
   rw [VN hf]
   rfl
 | some f =>
   simp only
   refine ⟨G8 d f,by rw [PU hf,if_pos rfl],?_⟩
   have : ∀ (l : List (Key × Ae)) (a b : Ae),Bf k b (Bf k a l) = Bf k b l:=by
    intro l a b
    induction l with
    | nil => rfl
    | cons y r ih =>
      rw [Bf]
      by_cases e : y.1 = k
      · rw [if_pos e,Bf,if_pos rfl,Bf,if_pos e]
      · rw [if_neg e,Bf,if_neg e,ih,Bf,if_neg e]
   rw [this]
   rfl
theorem MP {k n : Key} {d : List UInt8} {l : List (Key × Ae)} (h : k ≠ n) : Am n (Cg k d l) = Am n l:=by
 unfold Cg
 split
 · rfl
 · cases hf : Am k l with
   | none => simp only; rw [J3 hf,if_neg h]
   | some f => simp only; rw [PU hf,if_neg h]
theorem RW {k : Key} {d : List UInt8} {l : List (Key × Ae)} {x : Key × Ae} (h : x ∈ Cg k d l) : x ∈ l \/ (x.1 = k /\ ∃ e,x.2 = FV (e ++ d) /\ (e = [] /\ Am k l = none \/ ∃ f,Am k l = some f /\ e = f.bytes)):=by
 unfold Cg at h
 split at h
 · exact .inl h
 · cases hf : Am k l with
   | none =>
     rw [hf] at h
     simp only at h
     rcases List.mem_cons.1 ((Dp _ l).mem_iff.1 h) with rfl | h
     · exact .inr ⟨rfl,[],rfl,.inl ⟨rfl,rfl⟩⟩
     · exact .inl h
   | some f =>
     rw [hf] at h
     simp only at h
     rcases MI h with rfl | h
     · exact .inr ⟨rfl,f.bytes,rfl,.inr ⟨f,rfl,rfl⟩⟩
     · exact .inl h
structure YA (x : Key × Ae) : Prop where
 dur : x.2.dur = x.2.bytes.length
 pos : zK x.1 = false -> 0 < x.2.bytes.length
def Dj (l : List (Key × Ae)) : Prop:=∀ x ∈ l,YA x
theorem YA.firm {x : Key × Ae} (h : YA x) (hz : zK x.1 = false) : UP x.2:=⟨h.dur,h.pos hz⟩
theorem Lg {k : Key} {d : List UInt8} {l : List (Key × Ae)} (h : Dj l) : Dj (Cg k d l):=by
 unfold Cg
 split
 · exact h
 · rename_i hd
   have hp : 0 < d.length:=List.length_pos_iff.2 hd
   split
   · intro x hx
     rcases List.mem_cons.1 ((Dp _ l).mem_iff.1 hx) with rfl | hx
     · exact ⟨rfl,fun _ => hp⟩
     · exact h x hx
   · intro x hx
     rcases MI hx with rfl | hx
     · exact ⟨rfl,fun _ => by rw [List.length_append]; omega⟩
     · exact h x hx
theorem OV {k : Key} {l : List (Key × Ae)} (h : Dj l) : Dj (Bw k l):=fun x hx => h x (Hu hx).1
def Ng (x : Key × Ae) : Bool:=decide (0 < x.2.bytes.length)
def ne9 (l : List (Key × Ae)) : List (Key × Ae):=l.filter Ng
theorem NV {l : List (Key × Ae)} (h : Dj l) : DC (ne9 l):=fun x hx => by
 obtain ⟨h1,h2⟩:=List.mem_filter.1 hx
 exact ⟨(h x h1).dur,of_decide_eq_true h2⟩
theorem AaM {l : List (Key × Ae)} (h : Dj l) : Dj (ne9 l):=fun x hx => h x (List.mem_filter.1 hx).1
theorem Gt {l : List (Key × Ae)} (h : AC l) : AC (ne9 l):=List.Pairwise.sublist List.filter_sublist h
theorem Q0 {keep : List Int} : ∀ {l : List (Key × Ae)} (n : Nat),(∀ x ∈ l,x.2.dur <= x.2.bytes.length) -> FQ keep n l = FQ keep n (ne9 l)
 | [],_,_ => rfl
 | x :: r,n,h => by
   have hx:=h x (by simp)
   by_cases h0 : 0 < x.2.bytes.length
   · have e : ne9 (x :: r) = x :: ne9 r:=by unfold ne9; rw [List.filter_cons,if_pos (show Ng x = true from decide_eq_true h0)]
     rw [e,FQ,FQ,Q0 _ fun y hy => h y (by simp [hy])]
   · have e : ne9 (x :: r) = ne9 r:=by unfold ne9; rw [List.filter_cons,if_neg (by unfold Ng; simpa using h0)]
     have h1:=Sw (keep:=keep) (n:=n) hx
     rw [e,FQ,if_neg (by omega),if_neg (by omega),List.nil_append,Q0 n fun y hy => h y (by simp [hy])]
theorem Rd {keep : List Int} {l : List (Key × Ae)} (hr : AC l) (h : ∀ x ∈ l,x.2.dur <= x.2.bytes.length) : (AY keep l).1 = (AY keep (ne9 l)).1:=by
 rw [Kt hr,Kt (Gt hr),Q0 0 h]
theorem Je {keep : List Int} {l : List (Key × Ae)} (hr : AC l) (h : Dj l) : (AY keep l).1 = ne9 l:=by
 rw [Rd hr (fun x hx => by have:=(h x hx).dur; omega),Mv (Gt hr) (NV h)]
theorem NU {p : Key × Ae -> Bool} {k : Key × Ae} (hk : p k = true) : ∀ {l : List (Key × Ae)},AC l -> (Bh k l).filter p = Bh k (l.filter p)
 | [],_ => by rw [Bh,List.filter_cons,if_pos hk]; rfl
 | y :: r,hr => by
   have hr1:=List.pairwise_cons.1 hr
   by_cases h : bytesBefore k.1 y.1 = true
   · rw [Bh,if_pos h,List.filter_cons,if_pos hk]
     cases hf : (y :: r).filter p with
     | nil => rfl
     | cons z t =>
       have hz : z ∈ y :: r:=(List.mem_filter.1 (by rw [hf]; simp : z ∈ (y :: r).filter p)).1
       have hb : bytesBefore k.1 z.1 = true:=by
        rcases List.mem_cons.1 hz with rfl | hz
        · exact h
        · exact GV h (hr1.1 z hz)
       rw [Bh,if_pos hb]
   · rw [Bh,if_neg h]
     have ih:=NU hk hr1.2
     rw [List.filter_cons,List.filter_cons,ih]
     split
     · rw [Bh,if_neg h]
     · rfl
theorem TA {p : Key × Ae -> Bool} {k : Key × Ae} (hk : p k = false) : ∀ {l : List (Key × Ae)},(Bh k l).filter p = l.filter p
 | [] => by rw [Bh,List.filter_cons,if_neg (by simp [hk])]
 | y :: r => by
   rw [Bh]
   split
   · rw [List.filter_cons,if_neg (by simp [hk])]
   · rw [List.filter_cons,List.filter_cons,TA hk]
theorem Nd {p : Key × Ae -> Bool} {k : Key} {f g : Ae} (hf : p (k,f) = true) (hg : p (k,g) = true) : ∀ {l : List (Key × Ae)},Am k l = some f -> (Bf k g l).filter p = Bf k g (l.filter p)
 | [],h => by cases h
 | y :: r,h => by
   rw [BO] at h
   rw [Bf]
   by_cases e : y.1 = k
   · rw [if_pos e] at h
     injection h with h
     subst h
     subst e
     rw [if_pos rfl,List.filter_cons,if_pos hg,List.filter_cons,if_pos hf,Bf,if_pos rfl]
   · rw [if_neg e] at h
     rw [if_neg e,List.filter_cons,List.filter_cons,Nd hf hg h]
     split
     · rw [Bf,if_neg e]
     · rfl
theorem Hs {p : Key × Ae -> Bool} {k : Key} {f : Ae} (hf : p (k,f) = true) : ∀ {l : List (Key × Ae)},Am k l = some f -> Am k (l.filter p) = some f
 | [],h => by cases h
 | y :: r,h => by
   rw [BO] at h
   rw [List.filter_cons]
   by_cases e : y.1 = k
   · rw [if_pos e] at h
     injection h with h
     subst h
     subst e
     rw [if_pos hf,BO,if_pos rfl]
   · rw [if_neg e] at h
     split
     · rw [BO,if_neg e]; exact Hs hf h
     · exact Hs hf h
theorem Nc {p : Key × Ae -> Bool} {k : Key} {l : List (Key × Ae)} (h : Am k l = none) : Am k (l.filter p) = none:=by
 rw [DA] at *
 exact fun x hx => h x (List.mem_filter.1 hx).1
theorem Zj {k : Key} {d : List UInt8} {l : List (Key × Ae)} (hr : AC l) (h : Dj l) (hk : zK k = false) : ne9 (Cg k d l) = Cg k d (ne9 l):=by
 unfold Cg
 by_cases hd : d = []
 · rw [if_pos hd,if_pos hd]
 rw [if_neg hd,if_neg hd]
 have hp : 0 < d.length:=List.length_pos_iff.2 hd
 cases hf : Am k l with
 | none =>
   rw [show Am k (ne9 l) = none from Nc hf]
   exact NU (decide_eq_true hp) hr
 | some f =>
   have hm : (k,f) ∈ l:=CB hf
   have hff:=(h _ hm).pos hk
   rw [show Am k (ne9 l) = some f from Hs (p:=Ng) (decide_eq_true hff) hf]
   exact Nd (p:=Ng) (decide_eq_true hff) (decide_eq_true (by show 0 < (f.bytes ++ d).length; rw [List.length_append]; omega)) hf
theorem ZB {k : Key} {d : List UInt8} {l : List (Key × Ae)} (hd : d ≠ []) (hr : AC l) (h : Dj l) (hk : zK k = false) : ne9 (Eq k d l) = Eq k d (ne9 l):=by
 unfold Eq
 have hp : 0 < d.length:=List.length_pos_iff.2 hd
 cases hf : Am k l with
 | none =>
   rw [show Am k (ne9 l) = none from Nc hf]
   exact NU (decide_eq_true hp) hr
 | some f =>
   have hm : (k,f) ∈ l:=CB hf
   have hff:=(h _ hm).pos hk
   rw [show Am k (ne9 l) = some f from Hs (p:=Ng) (decide_eq_true hff) hf]
   exact Nd (p:=Ng) (decide_eq_true hff) (decide_eq_true (by show 0 < (f.bytes ++ d).length; rw [List.length_append]; omega)) hf
theorem UJ {k : Key} {l : List (Key × Ae)} : ne9 (Eq k [] l) = ne9 l:=by
 unfold Eq
 cases hf : Am k l with
 | none => exact TA (p:=Ng) (by simp [Ng])
 | some f =>
   have e : G8 [] f = f:=by unfold G8; cases f; simp
   simp only [e]
   rw [LL hf]
theorem Zr {k : Key} {d : List UInt8} {l : List (Key × Ae)} (h : Dj l) : ∀ x ∈ Eq k d l,x.2.dur <= x.2.bytes.length:=by
 intro x hx
 unfold Eq at hx
 cases hf : Am k l with
 | none =>
   rw [hf] at hx
   rcases List.mem_cons.1 ((Dp _ l).mem_iff.1 hx) with rfl | hx
   · exact Nat.zero_le _
   · have:=(h x hx).dur; omega
 | some f =>
   rw [hf] at hx
   rcases MI hx with rfl | hx
   · have:=(h _ (CB hf)).dur
     show f.dur <= (f.bytes ++ d).length
     rw [List.length_append]
     have h2 : f.dur = f.bytes.length:=this
     omega
   · have:=(h x hx).dur; omega
theorem U6 {keep : List Int} {k : Key} {d : List UInt8} {l : List (Key × Ae)} (hr : AC l) (h : Dj l) (hk : zK k = false) : ∃ m,m <= d.length /\ (AY keep (Eq k d l)).1 = ne9 (Cg k (d.take m) l):=by
 have h1:=Rd (keep:=keep) (LV (k:=k) (d:=d) hr) (Zr h)
 by_cases hd : d = []
 · subst hd
   refine ⟨0,Nat.le_refl _,?_⟩
   rw [h1,UJ,Mv (Gt hr) (NV h)]
   rfl
 · rw [h1,ZB hd hr h hk]
   obtain ⟨m,m1,m2⟩:=TR (keep:=keep) (k:=k) (d:=d) (Gt hr) (NV h)
   exact ⟨m,m1,by rw [m2,Zj hr h hk]⟩
end
end Go.Proofs.YtnafjlhohbhcoaaGreatDoor
