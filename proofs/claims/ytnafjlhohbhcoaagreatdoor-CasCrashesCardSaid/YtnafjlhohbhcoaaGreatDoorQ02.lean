/- Parts of the proof. -/
import Derived.Maps.Ext
import Derived.Maps.OwnSet
import Derived.Sort.KeysCollected
namespace Go.Proofs.YtnafjlhohbhcoaaGreatDoor
set_option linter.unusedVariables false
section
open Go.RowKit Go.Maps Go.Sort
abbrev Key:=List UInt8
section keyed
variable {α β : Type}
def Bh (x : Key × α) : List (Key × α) -> List (Key × α)
 | [] => [x]
 | y :: r => if bytesBefore x.1 y.1 then x :: y :: r else y :: Bh x r
def Am (k : Key) : List (Key × α) -> Option α
 | [] => none
 | y :: r => if y.1 = k then some y.2 else Am k r
def Bw (k : Key) (l : List (Key × α)) : List (Key × α):=l.filter fun p => !(p.1 == k)
def Bf (k : Key) (a : α) : List (Key × α) -> List (Key × α)
 | [] => []
 | y :: r => if y.1 = k then (k,a) :: r else y :: Bf k a r
def EX (f : α -> β) (l : List (Key × α)) : List (Key × β):=l.map fun p => (p.1,f p.2)
theorem BO (k : Key) (y : Key × α) (r : List (Key × α)) : Am k (y :: r) = if y.1 = k then some y.2 else Am k r:=rfl
theorem NO (f : α -> β) (x : Key × α) (l : List (Key × α)) : EX f (Bh x l) = Bh (x.1,f x.2) (EX f l):=by
 induction l with
 | nil => rfl
 | cons y r ih =>
   simp only [Bh,EX,List.map_cons]
   split
   · rfl
   · simp only [List.map_cons]
     exact congrArg _ ih
theorem BP (f : α -> β) (k : Key) (l : List (Key × α)) : Am k (EX f l) = (Am k l).map f:=by
 induction l with
 | nil => rfl
 | cons y r ih =>
   simp only [Am,EX,List.map_cons]
   split
   · rfl
   · exact ih
theorem Pn (f : α -> β) (k : Key) (l : List (Key × α)) : EX f (Bw k l) = Bw k (EX f l):=by
 simp only [EX,Bw,List.filter_map]; rfl
theorem So (f : α -> β) (k : Key) (a : α) (l : List (Key × α)) : EX f (Bf k a l) = Bf k (f a) (EX f l):=by
 induction l with
 | nil => rfl
 | cons y r ih =>
   simp only [Bf,EX,List.map_cons]
   split
   · rfl
   · simp only [List.map_cons]
     exact congrArg _ ih
theorem XY (f : α -> β) (l : List (Key × α)) : (EX f l).map (·.1) = l.map (·.1):=by simp [EX]
theorem Dn (f : α -> β) (l : List (Key × α)) : (EX f l).length = l.length:=by simp [EX]
theorem Dp (x : Key × α) (l : List (Key × α)) : (Bh x l).Perm (x :: l):=by
 induction l with
 | nil => exact List.Perm.refl _
 | cons y r ih =>
   unfold Bh
   split
   · exact List.Perm.refl _
   · exact (ih.cons y).trans (List.Perm.swap x y r)
theorem Rx (x : Key × α) (l : List (Key × α)) : (Bh x l).length = l.length + 1:=(Dp x l).length_eq
theorem Yk (k : Key) (a : α) (l : List (Key × α)) : (Bf k a l).length = l.length:=by
 induction l with
 | nil => rfl
 | cons y r ih => unfold Bf; split <;> simp [ih]
theorem WP (k : Key) (a : α) (l : List (Key × α)) : (Bf k a l).map (·.1) = l.map (·.1):=by
 induction l with
 | nil => rfl
 | cons y r ih =>
   unfold Bf
   split
   · rename_i h; simp [h]
   · simp [ih]
theorem CB {k : Key} {a : α} {l : List (Key × α)} (h : Am k l = some a) : (k,a) ∈ l:=by
 induction l with
 | nil => cases h
 | cons y r ih =>
   unfold Am at h
   split at h
   · rename_i hk
     injection h with h
     subst h; subst hk
     simp
   · exact List.mem_cons_of_mem _ (ih h)
theorem DA {k : Key} {l : List (Key × α)} : Am k l = none ↔ ∀ p ∈ l,p.1 ≠ k:=by
 induction l with
 | nil => simp [Am]
 | cons y r ih =>
   unfold Am
   split
   · rename_i h; simp [h]
   · rename_i h; rw [ih]; simp [h]
theorem Kc {k : Key} {l : List (Key × α)} (h : Am k l = none) : Bw k l = l:=by
 rw [DA] at h
 unfold Bw
 rw [List.filter_eq_self]
 intro p hp
 simpa using h p hp
theorem J3 {k k' : Key} {a : α} {l : List (Key × α)} (h : Am k l = none) : Am k' (Bh (k,a) l) = if k = k' then some a else Am k' l:=by
 induction l with
 | nil => simp [Bh,Am]
 | cons y r ih =>
   unfold Am at h
   split at h
   · cases h
   · rename_i hy
     unfold Bh
     split
     · conv => lhs; unfold Am
     · unfold Am
       split
       · rename_i h2
         rw [if_neg (fun e => hy (by rw [h2,e]))]
       · exact ih h
theorem PU {k k' : Key} {a b : α} {l : List (Key × α)} (h : Am k l = some b) : Am k' (Bf k a l) = if k = k' then some a else Am k' l:=by
 induction l with
 | nil => cases h
 | cons y r ih =>
   unfold Am at h
   split at h
   · rename_i hy
     unfold Bf
     rw [if_pos hy]
     simp only [Am]
     split
     · rfl
     · rename_i h2
       rw [if_neg (fun e => h2 (by rw [<- hy,e]))]
   · rename_i hy
     unfold Bf
     rw [if_neg hy]
     simp only [Am]
     split
     · rename_i h2
       rw [if_neg (fun e => hy (by rw [h2,e]))]
     · exact ih h
theorem MI {k : Key} {a : α} {l : List (Key × α)} {p : Key × α} (h : p ∈ Bf k a l) : p = (k,a) \/ p ∈ l:=by
 induction l with
 | nil => cases h
 | cons y r ih =>
   unfold Bf at h
   split at h
   · rcases List.mem_cons.1 h with h | h
     · exact .inl h
     · exact .inr (List.mem_cons_of_mem _ h)
   · rcases List.mem_cons.1 h with h | h
     · exact .inr (by simp [h])
     · rcases ih h with h | h
       · exact .inl h
       · exact .inr (List.mem_cons_of_mem _ h)
theorem Yo {R : (Key × α) -> (Key × α) -> Prop} (hs : ∀ {x y},R x y -> R y x) {k : Key} {a b : α} {l : List (Key × α)} (h : Am k l = some b) (hp : l.Pairwise R) {p : Key × α} (hm : p ∈ Bf k a l) : p = (k,a) \/ (p ∈ l /\ R (k,b) p):=by
 induction l with
 | nil => cases h
 | cons y r ih =>
   obtain ⟨h1,h2⟩:=List.pairwise_cons.1 hp
   unfold Am at h
   split at h
   · rename_i hy
     injection h with h
     unfold Bf at hm
     rw [if_pos hy] at hm
     obtain ⟨y1,y2⟩:=y
     simp only at hy h
     subst hy; subst h
     rcases List.mem_cons.1 hm with hm | hm
     · exact .inl hm
     · exact .inr ⟨List.mem_cons_of_mem _ hm,h1 p hm⟩
   · rename_i hy
     unfold Bf at hm
     rw [if_neg hy] at hm
     rcases List.mem_cons.1 hm with rfl | hm
     · exact .inr ⟨by simp,hs (h1 _ (CB h))⟩
     · rcases ih h h2 hm with h3 | ⟨h3,h4⟩
       · exact .inl h3
       · exact .inr ⟨List.mem_cons_of_mem _ h3,h4⟩
theorem LL {k : Key} {a : α} {l : List (Key × α)} (h : Am k l = some a) : Bf k a l = l:=by
 induction l with
 | nil => rfl
 | cons y r ih =>
   unfold Am at h
   unfold Bf
   split at h
   · rename_i hy
     injection h with h
     rw [if_pos hy,<- h,<- hy]
   · rename_i hy
     rw [if_neg hy,ih h]
theorem VN {k : Key} {a b : α} {l : List (Key × α)} (h : Am k l = none) : Bf k a (Bh (k,b) l) = Bh (k,a) l:=by
 induction l with
 | nil => simp [Bh,Bf]
 | cons y r ih =>
   unfold Am at h
   split at h
   · cases h
   · rename_i hy
     unfold Bh
     split
     · simp [Bf]
     · unfold Bf
       rw [if_neg hy,ih h]
theorem Hu {k : Key} {l : List (Key × α)} {p : Key × α} (h : p ∈ Bw k l) : p ∈ l /\ p.1 ≠ k:=by
 unfold Bw at h
 obtain ⟨h1,h2⟩:=List.mem_filter.1 h
 exact ⟨h1,by simpa using h2⟩
theorem Kg {k k' : Key} (l : List (Key × α)) : Am k' (Bw k l) = if k = k' then none else Am k' l:=by
 induction l with
 | nil => simp [Bw,Am]
 | cons y r ih =>
   by_cases hy : y.1 = k
   · have e : Bw k (y :: r) = Bw k r:=by simp [Bw,hy]
     rw [e,ih]
     split
     · rfl
     · rename_i hk
       rw [BO,if_neg (fun e => hk (by rw [<- hy,e]))]
   · have e : Bw k (y :: r) = y :: Bw k r:=by simp [Bw,hy]
     rw [e,BO,BO,ih]
     by_cases h2 : y.1 = k'
     · rw [if_pos h2,if_neg (fun e => hy (by rw [h2,e])),if_pos h2]
     · rw [if_neg h2,if_neg h2]
theorem PW {R : (Key × α) -> (Key × α) -> Prop} (hs : ∀ {x y},R x y -> R y x) {k : Key} {a b : α} {l : List (Key × α)} (h : Am k l = some b) (hp : l.Pairwise R) (hn : ∀ p,p ∈ l -> R (k,b) p -> R (k,a) p) : (Bf k a l).Pairwise R:=by
 induction l with
 | nil => cases h
 | cons y r ih =>
   obtain ⟨h1,h2⟩:=List.pairwise_cons.1 hp
   unfold Am at h
   split at h
   · rename_i hy
     injection h with h
     unfold Bf
     rw [if_pos hy]
     refine List.pairwise_cons.2 ⟨fun p hpm => hn p (List.mem_cons_of_mem _ hpm) ?_,h2⟩
     have:=h1 p hpm
     obtain ⟨y1,y2⟩:=y
     simp only at hy h
     subst hy; subst h
     exact this
   · rename_i hy
     unfold Bf
     rw [if_neg hy]
     refine List.pairwise_cons.2 ⟨fun p hpm => ?_,ih h h2 (fun p hm => hn p (List.mem_cons_of_mem _ hm))⟩
     rcases MI hpm with rfl | hpm
     · exact hs (hn y (by simp) (hs (h1 _ (CB h))))
     · exact h1 p hpm
end keyed
abbrev DU:=DataW Unit
def dOf (l : List (Key × Nat)) : List (Lit × DU):=l.map fun p => (.string p.1,.lit (.int .i64 (p.2 : Int)))
def toD (l : List (Key × Nat)) : DU:=.map (dOf l)
theorem Aa8 (x : Key × Nat) (l : List (Key × Nat)) : dOf (Bh x l) = DataW.insert (.string x.1,.lit (.int .i64 (x.2 : Int))) (dOf l):=by
 induction l with
 | nil => rfl
 | cons y r ih =>
   by_cases h : bytesBefore x.1 y.1 = true
   · simp [Bh,dOf,DataW.insert,Lit.before,h]
   · have e : dOf (Bh x (y :: r)) = (.string y.1,.lit (.int .i64 (y.2 : Int))) :: dOf (Bh x r):=by simp [Bh,dOf,h]
     rw [e,ih]
     simp [dOf,DataW.insert,Lit.before,h]
theorem RE (k : Key) (l : List (Key × Nat)) : dOf (Bw k l) = (dOf l).filter (fun p => !p.1.sameKey (.string k)):=by
 simp only [dOf,Bw,List.filter_map]; rfl
theorem Aat {k : Key} {q : Nat} {l : List (Key × Nat)} (h : Am k l = none) : (toD l).put (.string k) (.lit (.int .i64 (q : Int))) = toD (Bh (k,q) l):=by
 show DataW.map (DataW.insert _ ((dOf l).filter _)) = DataW.map _
 rw [Aa8,<- RE,Kc h]
theorem Aay (k : Key) (l : List (Key × Nat)) : (toD l).del (.string k) = toD (Bw k l):=by
 show DataW.map ((dOf l).filter _) = DataW.map _
 rw [RE]
theorem AbE (k : Key) (l : List (Key × Nat)) : (toD l).atKey (.string k) .nil = match Am k l with | none => .nil | some q => .lit (.int .i64 (q : Int)):=by
 induction l with
 | nil => rfl
 | cons y r ih =>
   unfold Am
   simp only [toD,dOf,List.map_cons,DataW.atKey] at ih ⊢
   by_cases h : y.1 = k
   · rw [if_pos h,List.find?_cons_of_pos (by simp [Lit.sameKey,h])]
   · rw [if_neg h,List.find?_cons_of_neg (by simp [Lit.sameKey,h])]
     exact ih
theorem Z9 (l : List (Key × Nat)) : strKeys (toD l) = l.map (·.1):=by
 simp [toD,dOf,strKeys,strOf]
theorem RX (l : List (Key × Nat)) : Maps.size (toD l) = l.length:=by simp [toD,dOf,Maps.size]
def AC {α : Type} (l : List (Key × α)) : Prop:=l.Pairwise fun a b => bytesBefore a.1 b.1 = true
theorem MA {l : List (Key × Nat)} (h : Canon (toD l)) : AC l:=by
 obtain ⟨es,he,hp,_⟩:=h
 injection he with he
 subst he
 unfold dOf at hp
 rw [List.pairwise_map] at hp
 exact hp
theorem Kd {α β : Type} (f : α -> β) {l : List (Key × α)} : AC (EX f l) ↔ AC l:=by
 unfold AC EX
 rw [List.pairwise_map]
theorem before_lt : ∀ a b : Key,bytesBefore a b = true ↔ a < b
 | [],[] => by simp [bytesBefore]
 | [],_ :: _ => by simp [bytesBefore]
 | _ :: _,[] => by simp [bytesBefore]
 | a :: r,b :: s => by
   rw [List.cons_lt_cons_iff,<- before_lt r s]
   simp [bytesBefore]
theorem QR {α : Type} {l : List (Key × α)} (h : AC l) {ss : List Key} (hp : ss.Perm (l.map (·.1))) : ss.mergeSort (fun x y => decide (x <= y)) = l.map (·.1):=by
 have tr : ∀ a b c : Key,decide (a <= b) = true -> decide (b <= c) = true -> decide (a <= c) = true:=fun a b c h1 h2 => by simp only [decide_eq_true_eq] at *; exact List.le_trans h1 h2
 have tot : ∀ a b : Key,(decide (a <= b) || decide (b <= a)) = true:=fun a b => by
  rcases List.le_total a b with h | h <;> simp [h]
 refine List.Perm.eq_of_pairwise (le:=fun a b => a <= b) ?_ ?_ ?_ ((List.mergeSort_perm _ _).trans hp)
 · intro a b _ _ h1 h2; exact List.le_antisymm h1 h2
 · exact (List.pairwise_mergeSort tr tot ss).imp (fun {a b} h => by simpa using h)
 · rw [List.pairwise_map]
   exact h.imp (fun {a b} hab => List.le_of_lt ((before_lt _ _).1 hab))
structure Ae where
 bytes : List UInt8
 dur : Nat
structure Bx where
 files : List (Key × Ae)
 fuel : Int
 down : Bool
def Bx.new : Bx:=⟨[],-1,false⟩
def Cp (n : Key) : Bool:=decide (1 <= n.length /\ n.length <= 32)
def Bx.fall (S : Bx) : Bx:={ S with down:=true }
def Bx.burnt (S : Bx) : Bx:={ S with fuel:=if 0 < S.fuel then S.fuel - 1 else S.fuel }
def Bx.change (S : Bx) (f : List (Key × Ae)) : Bx × Int:=if S.fuel = 0 then (S.fall,30) else ({ S.burnt with files:=f },0)
def G8 (d : List UInt8) (f : Ae) : Ae:=⟨f.bytes ++ d,f.dur⟩
def Eq (n : Key) (d : List UInt8) (l : List (Key × Ae)) : List (Key × Ae):=
 match Am n l with
 | none => Bh (n,⟨d,0⟩) l
 | some f => Bf n (G8 d f) l
def Bx.append (S : Bx) (n : Key) (d : List UInt8) : Bx × Int:=
 if S.down then (S,30) else if Cp n = false then (S,1) else S.change (Eq n d S.files)
def JD (f : Ae) : Ae:=⟨f.bytes,f.bytes.length⟩
def Bx.sync (S : Bx) (n : Key) : Bx × Int:=
 if S.down then (S,30) else match Am n S.files with
 | none => (S,31)
 | some f => S.change (Bf n (JD f) S.files)
def Bx.delete (S : Bx) (n : Key) : Bx × Int:=
 if S.down then (S,30) else match Am n S.files with
 | none => (S,31)
 | some _ => S.change (Bw n S.files)
def Bx.read (S : Bx) (n : Key) : List UInt8 × Int:=
 if S.down then ([],30) else match Am n S.files with
 | none => ([],31)
 | some f => (f.bytes,0)
theorem Bx.read_down {S : Bx} {n : Key} (h : S.down = true) : S.read n = ([],30):=by unfold Bx.read; rw [if_pos h]
theorem Bx.read_none {S : Bx} {n : Key} (h : S.down = false) (hf : Am n S.files = none) : S.read n = ([],31):=by unfold Bx.read; rw [if_neg (by simp [h]),hf]
theorem Bx.read_some {S : Bx} {n : Key} {f : Ae} (h : S.down = false) (hf : Am n S.files = some f) : S.read n = (f.bytes,0):=by unfold Bx.read; rw [if_neg (by simp [h]),hf]
theorem Bx.sync_down {S : Bx} {n : Key} (h : S.down = true) : S.sync n = (S,30):=by unfold Bx.sync; rw [if_pos h]
theorem Bx.sync_none {S : Bx} {n : Key} (h : S.down = false) (hf : Am n S.files = none) : S.sync n = (S,31):=by unfold Bx.sync; rw [if_neg (by simp [h]),hf]
theorem Bx.sync_some {S : Bx} {n : Key} {f : Ae} (h : S.down = false) (hf : Am n S.files = some f) : S.sync n = S.change (Bf n (JD f) S.files):=by unfold Bx.sync; rw [if_neg (by simp [h]),hf]
theorem Bx.delete_down {S : Bx} {n : Key} (h : S.down = true) : S.delete n = (S,30):=by unfold Bx.delete; rw [if_pos h]
theorem Bx.delete_none {S : Bx} {n : Key} (h : S.down = false) (hf : Am n S.files = none) : S.delete n = (S,31):=by unfold Bx.delete; rw [if_neg (by simp [h]),hf]
theorem Bx.delete_some {S : Bx} {n : Key} {f : Ae} (h : S.down = false) (hf : Am n S.files = some f) : S.delete n = S.change (Bw n S.files):=by unfold Bx.delete; rw [if_neg (by simp [h]),hf]
theorem Bx.append_down {S : Bx} {n : Key} {d : List UInt8} (h : S.down = true) : S.append n d = (S,30):=by unfold Bx.append; rw [if_pos h]
theorem Bx.append_bad {S : Bx} {n : Key} {d : List UInt8} (h : S.down = false) (hn : Cp n = false) : S.append n d = (S,1):=by unfold Bx.append; rw [if_neg (by simp [h]),if_pos hn]
theorem Bx.append_ok {S : Bx} {n : Key} {d : List UInt8} (h : S.down = false) (hn : Cp n = true) : S.append n d = S.change (Eq n d S.files):=by unfold Bx.append; rw [if_neg (by simp [h]),if_neg (by simp [hn])]
theorem Bx.change_no {S : Bx} {f : List (Key × Ae)} (h : S.fuel = 0) : S.change f = (S.fall,30):=by unfold Bx.change; rw [if_pos h]
theorem Bx.change_yes {S : Bx} {f : List (Key × Ae)} (h : S.fuel ≠ 0) : S.change f = ({ S.burnt with files:=f },0):=by unfold Bx.change; rw [if_neg h]
def VM (keep : List Int) (k : Nat) : Nat:=(keep.getD k 0).toNat
def CM (keep : List Int) (k : Nat) (f : Ae) : Nat:=if f.dur < f.bytes.length then f.dur + min (VM keep k) (f.bytes.length - f.dur) else f.dur
def C7 (keep : List Int) (a : List (Key × Ae) × Nat) (x : Key × Ae) : List (Key × Ae) × Nat:=
 (if 0 < CM keep a.2 x.2 then Bh (x.1,⟨x.2.bytes.take (CM keep a.2 x.2),CM keep a.2 x.2⟩) a.1 else a.1,if x.2.dur < x.2.bytes.length then a.2 + 1 else a.2)
def AY (keep : List Int) (l : List (Key × Ae)) : List (Key × Ae) × Nat:=l.foldl (C7 keep) ([],0)
def Bx.crash (S : Bx) (keep : List Int) : Bx:=⟨(AY keep S.files).1,-1,false⟩
def weigh (l : List (Key × Ae)) : Nat:=(l.map fun p => p.2.bytes.length + 1).sum
theorem GH {keep : List Int} {l : List (Key × Ae)} {i : Nat} (h : i < l.length) : AY keep (l.take (i + 1)) = C7 keep (AY keep (l.take i)) l[i]:=by
 rw [AY,List.take_succ_eq_append_getElem h,List.foldl_append]; rfl
theorem Nn {keep : List Int} {a : List (Key × Ae) × Nat} {x : Key × Ae} {q : Key × Ae} (h : q ∈ (C7 keep a x).1) : q ∈ a.1 \/ q.1 = x.1:=by
 unfold C7 at h
 simp only at h
 split at h
 · rcases List.mem_cons.1 ((Dp _ _).mem_iff.1 h) with rfl | h
   · exact .inr rfl
   · exact .inl h
 · exact .inl h
theorem Sj {keep : List Int} {l : List (Key × Ae)} : ∀ k,k <= l.length -> ∀ q ∈ (AY keep (l.take k)).1,∃ j,∃ h : j < l.length,j < k /\ l[j].1 = q.1:=by
 intro k
 induction k with
 | zero => intro _ q hq; simp [AY] at hq
 | succ k ih =>
   intro hk q hq
   rw [GH (by omega)] at hq
   rcases Nn hq with h | h
   · obtain ⟨j,hj,h1,h2⟩:=ih (by omega) q h
     exact ⟨j,hj,by omega,h2⟩
   · exact ⟨k,by omega,by omega,h.symm⟩
theorem FZ (a : Key) : bytesBefore a a = false:=by
 cases h : bytesBefore a a with
 | false => rfl
 | true => exact absurd ((before_lt a a).1 h) (List.lt_irrefl a)
theorem PT {α : Type} {l : List (Key × α)} (h : AC l) {i j : Nat} (hi : i < l.length) (hj : j < l.length) (hij : i < j) : l[i].1 ≠ l[j].1:=by
 intro e
 have:=(List.pairwise_iff_getElem.1 h) i j hi hj hij
 rw [e,FZ] at this
 cases this
theorem Qv {keep : List Int} {l : List (Key × Ae)} (h : AC l) {k : Nat} (hk : k < l.length) : Am l[k].1 (AY keep (l.take k)).1 = none:=by
 rw [DA]
 intro q hq e
 obtain ⟨j,hj,hjk,he⟩:=Sj k (by omega) q hq
 exact PT h hj hk hjk (he.trans e)
theorem Kl {keep : List Int} {l : List (Key × Ae)} : ∀ k,k <= l.length -> (AY keep (l.take k)).1.length <= k /\ (AY keep (l.take k)).2 <= k:=by
 intro k
 induction k with
 | zero => intro _; simp [AY]
 | succ k ih =>
   intro hk
   have:=ih (by omega)
   rw [GH (by omega)]
   unfold C7
   simp only
   constructor
   · split
     · rw [Rx]; omega
     · omega
   · split <;> omega
theorem Ri {α : Type} {l : List (Key × α)} (h : AC l) {k : Nat} (hk : k < l.length) : Am l[k].1 l = some l[k].2:=by
 induction l generalizing k with
 | nil => simp at hk
 | cons y r ih =>
   rw [BO]
   cases k with
   | zero => simp
   | succ k =>
     have hk' : k < r.length:=by simpa using hk
     have h2:=PT h (i:=0) (j:=k + 1) (by simp) hk (by omega)
     simp only [List.getElem_cons_zero,List.getElem_cons_succ] at h2 ⊢
     rw [if_neg h2]
     exact ih (List.pairwise_cons.1 h).2 hk'
end
section
open Go.RowKit Go.Maps Go.Sort
theorem Ce (x : Key × Ae) (l : List (Key × Ae)) : weigh (x :: l) = x.2.bytes.length + 1 + weigh l:=by simp [weigh]
theorem Q6 (a b : List (Key × Ae)) : weigh (a ++ b) = weigh a + weigh b:=by simp [weigh]
theorem L9 (x : Key × Ae) (l : List (Key × Ae)) : weigh (Bh x l) = x.2.bytes.length + 1 + weigh l:=by
 induction l with
 | nil => rw [Bh,Ce]
 | cons y r ih =>
   unfold Bh
   split
   · rw [Ce]
   · rw [Ce,ih,Ce]; omega
theorem Pb {k : Key} {a b : Ae} {l : List (Key × Ae)} (h : Am k l = some b) : weigh (Bf k a l) + b.bytes.length = weigh l + a.bytes.length:=by
 induction l with
 | nil => cases h
 | cons y r ih =>
   rw [BO] at h
   unfold Bf
   by_cases hy : y.1 = k
   · rw [if_pos hy] at h ⊢
     injection h with h
     subst h
     rw [Ce,Ce]
     simp only
     omega
   · rw [if_neg hy] at h ⊢
     rw [Ce,Ce]
     have:=ih h
     omega
theorem OA (k : Key) (l : List (Key × Ae)) : weigh (Bw k l) <= weigh l:=by
 induction l with
 | nil => exact Nat.le_refl _
 | cons y r ih =>
   unfold Bw at *
   by_cases hy : y.1 = k
   · rw [List.filter_cons_of_neg (by simp [hy]),Ce]; omega
   · rw [List.filter_cons_of_pos (by simp [hy]),Ce,Ce]; omega
theorem JV (n : Key) (d : List UInt8) (l : List (Key × Ae)) : weigh (Eq n d l) <= weigh l + d.length + 1:=by
 unfold Eq
 cases hf : Am n l with
 | none => simp only; rw [L9]; simp only; omega
 | some f =>
   simp only
   have:=Pb (a:=G8 d f) hf
   have h2 : (G8 d f).bytes.length = f.bytes.length + d.length:=by simp [G8]
   omega
theorem Qs (keep : List Int) (l : List (Key × Ae)) : ∀ k,k <= l.length -> weigh (AY keep (l.take k)).1 <= weigh (l.take k):=by
 intro k
 induction k with
 | zero => intro _; simp [AY,weigh]
 | succ k ih =>
   intro hk
   have h1:=ih (by omega)
   rw [GH (by omega),List.take_succ_eq_append_getElem (by omega)]
   have h2 : weigh (l.take k ++ [l[k]]) = weigh (l.take k) + (l[k].2.bytes.length + 1):=by rw [Q6,Ce]; rfl
   rw [h2]
   unfold C7
   simp only
   split
   · rw [L9]
     simp only [List.length_take]
     omega
   · omega
theorem Bx.crash_weigh (S : Bx) (keep : List Int) : weigh (S.crash keep).files <= weigh S.files:=by
 have:=Qs keep S.files S.files.length (Nat.le_refl _)
 rwa [List.take_length] at this
end
end Go.Proofs.YtnafjlhohbhcoaaGreatDoor
