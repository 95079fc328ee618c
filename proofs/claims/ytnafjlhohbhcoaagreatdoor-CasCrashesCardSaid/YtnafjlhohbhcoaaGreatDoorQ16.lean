/- Parts of the proof. -/
import GoSem.ClaimData
namespace Go.Proofs.YtnafjlhohbhcoaaGreatDoor
set_option linter.unusedVariables false
theorem Aby {a b : Nat} (ha : a < 4294967296) (hb : b < 4294967296) : a ^^^ b < 4294967296:=Nat.xor_lt_two_pow (n:=32) ha hb
@[irreducible] def NJ (a : Nat) (c : UInt8) : Nat:=(a ^^^ c.toNat) * 16777619 % 4294967296
@[irreducible] def NF (b : Nat) (c : UInt8) : Nat:=((b + c.toNat) * 2246822507 % 4294967296) ^^^ ((b + c.toNat) * 2246822507 % 4294967296 / 8192)
@[irreducible] def startA : Nat:=2166136261
@[irreducible] def startB : Nat:=2538058380
theorem startA_eq : startA = 2166136261:=by unfold startA; rfl
theorem startB_eq : startB = 2538058380:=by unfold startB; rfl
def IM (l : List UInt8) : Nat:=l.foldl NJ startA
def Hb (l : List UInt8) : Nat:=l.foldl NF startB
@[irreducible] def LW (s : ByteArray) : Nat:=IM s.data.toList
@[irreducible] def M8 (s : ByteArray) : Nat:=Hb s.data.toList ||| 1
theorem Yp (a : Nat) (c : UInt8) : NJ a c < 4294967296:=by unfold NJ; exact Nat.mod_lt _ (by omega)
theorem ZT (b : Nat) (c : UInt8) : NF b c < 4294967296:=by
 unfold NF
 have h:=Nat.mod_lt ((b + c.toNat) * 2246822507) (show 0 < 4294967296 by omega)
 exact Aby h (by omega)
theorem O8 (l : List UInt8) (c : UInt8) : IM (l ++ [c]) = NJ (IM l) c:=by unfold IM; rw [List.foldl_append,List.foldl_cons,List.foldl_nil]
theorem MY (l : List UInt8) (c : UInt8) : Hb (l ++ [c]) = NF (Hb l) c:=by unfold Hb; rw [List.foldl_append,List.foldl_cons,List.foldl_nil]
theorem foldA_lt (l : List UInt8) : IM l < 4294967296:=by
 rcases List.eq_nil_or_concat l with rfl | ⟨q,c,rfl⟩
 · show startA < 4294967296
   rw [startA_eq]; omega
 · rw [List.concat_eq_append,O8]; exact Yp _ _
theorem Rt (l : List UInt8) : Hb l < 4294967296:=by
 rcases List.eq_nil_or_concat l with rfl | ⟨q,c,rfl⟩
 · show startB < 4294967296
   rw [startB_eq]; omega
 · rw [List.concat_eq_append,MY]; exact ZT _ _
theorem UK {l : List UInt8} {k : Nat} (h : k < l.length) : IM (l.take (k + 1)) = NJ (IM (l.take k)) l[k]:=by
 rw [List.take_succ_eq_append_getElem h,O8]
theorem Uz {l : List UInt8} {k : Nat} (h : k < l.length) : Hb (l.take (k + 1)) = NF (Hb (l.take k)) l[k]:=by
 rw [List.take_succ_eq_append_getElem h,MY]
theorem Yl (s : ByteArray) : LW s < 4294967296:=by unfold LW; exact foldA_lt _
theorem YK (s : ByteArray) : M8 s < 4294967296:=by unfold M8; exact Nat.or_lt_two_pow (n:=32) (Rt _) (by omega)
@[irreducible] def Ic (s : ByteArray) (n i : Nat) : Nat:=(LW s + i * M8 s) % 4294967296 % (8 * n)
theorem Qj (s : ByteArray) {n : Nat} (h : 0 < n) (i : Nat) : Ic s n i < 8 * n:=by unfold Ic; exact Nat.mod_lt _ (by omega)
def Ee (l : List UInt8) (k : Nat) : Bool:=(l.getD (k / 8) 0).toNat.testBit (k % 8)
def GX (l : List UInt8) (k : Nat) : List UInt8:=l.set (k / 8) (l.getD (k / 8) 0 ||| (1 <<< UInt8.ofNat (k % 8)))
theorem U9 (l : List UInt8) (k : Nat) : (GX l k).length = l.length:=by simp [GX]
theorem QC (r : Nat) (h : r < 8) : ((1 : UInt8) <<< UInt8.ofNat r).toNat = 2 ^ r:=by
 match r,h with
 | 0,_ | 1,_ | 2,_ | 3,_ | 4,_ | 5,_ | 6,_ | 7,_ => decide
theorem U7 {l : List UInt8} {k : Nat} (h : k / 8 < l.length) (j : Nat) : Ee (GX l k) j = (Ee l j || decide (j = k)):=by
 unfold Ee GX
 by_cases e : j / 8 = k / 8
 · rw [e]
   have e1 : (l.set (k / 8) (l.getD (k / 8) 0 ||| (1 <<< UInt8.ofNat (k % 8)))).getD (k / 8) 0 = (l.getD (k / 8) 0 ||| (1 <<< UInt8.ofNat (k % 8))):=by
    simp [List.getD,List.getElem?_set_self h]
   rw [e1,UInt8.toNat_or,Nat.testBit_or,QC _ (Nat.mod_lt _ (by decide)),Nat.testBit_two_pow]
   congr 1
   have : (k % 8 = j % 8) ↔ (j = k):=by omega
   simp [this]
 · have e1 : (l.set (k / 8) (l.getD (k / 8) 0 ||| (1 <<< UInt8.ofNat (k % 8)))).getD (j / 8) 0 = l.getD (j / 8) 0:=by
     simp [List.getD,List.getElem?_set_ne (fun c => e c.symm)]
   have ne : j ≠ k:=fun c => e (by rw [c])
   rw [e1]
   simp [ne]
def FF (l : List UInt8) (s : ByteArray) (i : Nat) : List UInt8:=(List.range i).foldl (fun l j => GX l (Ic s l.length j)) l
theorem Jv (l : List UInt8) (s : ByteArray) (i : Nat) : (FF l s i).length = l.length:=by
 unfold FF
 induction i with
 | zero => rfl
 | succ i ih => rw [List.range_succ,List.foldl_append]; simp only [List.foldl_cons,List.foldl_nil,U9]; exact ih
theorem O7 (l : List UInt8) (s : ByteArray) (i : Nat) : FF l s (i + 1) = GX (FF l s i) (Ic s l.length i):=by
 have : FF l s (i + 1) = GX (FF l s i) (Ic s (FF l s i).length i):=by
  unfold FF
  rw [List.range_succ,List.foldl_append,List.foldl_cons,List.foldl_nil]
 rw [this,Jv]
theorem VZ {l : List UInt8} (h : 0 < l.length) (s : ByteArray) (i j : Nat) : Ee (FF l s i) j = true ↔ Ee l j = true \/ ∃ q,q < i /\ Ic s l.length q = j:=by
 induction i with
 | zero => simp [FF]
 | succ i ih =>
   have hb:=Qj s h i
   rw [O7,U7 (by rw [Jv]; omega),Bool.or_eq_true,ih,decide_eq_true_eq]
   constructor
   · rintro ((h1 | ⟨q,hq,e⟩) | e)
     · exact .inl h1
     · exact .inr ⟨q,by omega,e⟩
     · exact .inr ⟨i,by omega,e.symm⟩
   · rintro (h1 | ⟨q,hq,e⟩)
     · exact .inl (.inl h1)
     · by_cases c : q = i
       · subst c; exact .inr e.symm
       · exact .inl (.inr ⟨q,by omega,e⟩)
def RY (l : List UInt8) (s : ByteArray) : List UInt8:=FF l s 4
theorem Nu (l : List UInt8) (s : ByteArray) : (RY l s).length = l.length:=Jv l s 4
@[irreducible] def Fa (ks : List ByteArray) (n : Nat) : List UInt8:=ks.foldl RY (List.replicate n 0)
theorem Vn (ks : List ByteArray) (s : ByteArray) (n : Nat) : Fa (ks ++ [s]) n = RY (Fa ks n) s:=by simp [Fa]
theorem Un {ks : List ByteArray} {k : Nat} (h : k < ks.length) (n : Nat) : Fa (ks.take (k + 1)) n = RY (Fa (ks.take k) n) ks[k]:=by
 rw [List.take_succ_eq_append_getElem h,Vn]
theorem Xl (ks : List ByteArray) : ∀ l : List UInt8,(ks.foldl RY l).length = l.length:=by
 induction ks with
 | nil => intro l; rfl
 | cons s r ih => intro l; rw [List.foldl_cons,ih,Nu]
theorem Fi (ks : List ByteArray) (n : Nat) : (Fa ks n).length = n:=by unfold Fa; rw [Xl]; simp
theorem WQ (j : Nat) (ks : List ByteArray) : ∀ l : List UInt8,0 < l.length -> (Ee (ks.foldl RY l) j = true ↔ Ee l j = true \/ ∃ s ∈ ks,∃ q,q < 4 /\ Ic s l.length q = j):=by
 induction ks with
 | nil => intro l _; simp
 | cons s r ih =>
   intro l h
   rw [List.foldl_cons,ih _ (by rw [Nu]; exact h),Nu]
   unfold RY
   rw [VZ h]
   simp [or_assoc]
theorem X9 (n j : Nat) : Ee (List.replicate n 0) j = false:=by
 unfold Ee
 have : (List.replicate n (0 : UInt8)).getD (j / 8) 0 = 0:=by
  by_cases h : j / 8 < n
  · simp [List.getD,h]
  · simp [List.getD,h]
 rw [this]
 simp
theorem XS {n : Nat} (h : 0 < n) (ks : List ByteArray) (j : Nat) : Ee (Fa ks n) j = true ↔ ∃ s ∈ ks,∃ q,q < 4 /\ Ic s n q = j:=by
 unfold Fa
 rw [WQ j ks _ (by simpa using h),X9]
 simp
@[irreducible] def FW (l : List UInt8) (s : ByteArray) (i : Nat) : Bool:=(List.range i).all fun q => Ee l (Ic s l.length q)
theorem UU (l : List UInt8) (s : ByteArray) (i : Nat) : FW l s (i + 1) = (FW l s i && Ee l (Ic s l.length i)):=by
 unfold FW
 rw [List.range_succ,List.all_append]
 simp
theorem LO (l : List UInt8) (s : ByteArray) (i : Nat) : FW l s i = true ↔ ∀ q,q < i -> Ee l (Ic s l.length q) = true:=by
 unfold FW
 simp
@[irreducible] def FU (l : List UInt8) (s : ByteArray) : Bool:=decide (1 <= l.length /\ l.length <= 8192) && FW l s 4
theorem VY {ks : List ByteArray} {s : ByteArray} (hs : s ∈ ks) {n : Nat} (h1 : 1 <= n) (h2 : n <= 8192) : FU (Fa ks n) s = true:=by
 unfold FU
 rw [Fi,Bool.and_eq_true,decide_eq_true_eq,LO,Fi]
 exact ⟨⟨h1,h2⟩,fun q hq => (XS (by omega) ks _).2 ⟨s,hs,q,hq,rfl⟩⟩
end Go.Proofs.YtnafjlhohbhcoaaGreatDoor
