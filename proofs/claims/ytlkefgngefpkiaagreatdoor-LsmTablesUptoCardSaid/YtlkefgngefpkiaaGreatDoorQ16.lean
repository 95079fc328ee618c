/- Parts of the proof. -/
import GoSem.ClaimData
namespace Go.Proofs.YtlkefgngefpkiaaGreatDoor
set_option linter.unusedVariables false
theorem Ab7 {a b : Nat} (ha : a < 4294967296) (hb : b < 4294967296) : a ^^^ b < 4294967296:=Nat.xor_lt_two_pow (n:=32) ha hb
@[irreducible] def NC (a : Nat) (c : UInt8) : Nat:=(a ^^^ c.toNat) * 16777619 % 4294967296
@[irreducible] def NV (b : Nat) (c : UInt8) : Nat:=((b + c.toNat) * 2246822507 % 4294967296) ^^^ ((b + c.toNat) * 2246822507 % 4294967296 / 8192)
@[irreducible] def startA : Nat:=2166136261
@[irreducible] def startB : Nat:=2538058380
theorem startA_eq : startA = 2166136261:=by unfold startA; rfl
theorem startB_eq : startB = 2538058380:=by unfold startB; rfl
def IL (l : List UInt8) : Nat:=l.foldl NC startA
def Hj (l : List UInt8) : Nat:=l.foldl NV startB
@[irreducible] def Mu (s : ByteArray) : Nat:=IL s.data.toList
@[irreducible] def Mf (s : ByteArray) : Nat:=Hj s.data.toList ||| 1
theorem ZG (a : Nat) (c : UInt8) : NC a c < 4294967296:=by unfold NC; exact Nat.mod_lt _ (by omega)
theorem Aay (b : Nat) (c : UInt8) : NV b c < 4294967296:=by
 unfold NV
 have h:=Nat.mod_lt ((b + c.toNat) * 2246822507) (show 0 < 4294967296 by omega)
 exact Ab7 h (by omega)
theorem Ov (l : List UInt8) (c : UInt8) : IL (l ++ [c]) = NC (IL l) c:=by unfold IL; rw [List.foldl_append,List.foldl_cons,List.foldl_nil]
theorem Oa (l : List UInt8) (c : UInt8) : Hj (l ++ [c]) = NV (Hj l) c:=by unfold Hj; rw [List.foldl_append,List.foldl_cons,List.foldl_nil]
theorem foldA_lt (l : List UInt8) : IL l < 4294967296:=by
 rcases List.eq_nil_or_concat l with rfl | ⟨q,c,rfl⟩
 · show startA < 4294967296
   rw [startA_eq]; omega
 · rw [List.concat_eq_append,Ov]; exact ZG _ _
theorem SN (l : List UInt8) : Hj l < 4294967296:=by
 rcases List.eq_nil_or_concat l with rfl | ⟨q,c,rfl⟩
 · show startB < 4294967296
   rw [startB_eq]; omega
 · rw [List.concat_eq_append,Oa]; exact Aay _ _
theorem TW {l : List UInt8} {k : Nat} (h : k < l.length) : IL (l.take (k + 1)) = NC (IL (l.take k)) l[k]:=by
 rw [List.take_succ_eq_append_getElem h,Ov]
theorem Ve {l : List UInt8} {k : Nat} (h : k < l.length) : Hj (l.take (k + 1)) = NV (Hj (l.take k)) l[k]:=by
 rw [List.take_succ_eq_append_getElem h,Oa]
theorem Zp (s : ByteArray) : Mu s < 4294967296:=by unfold Mu; exact foldA_lt _
theorem ZQ (s : ByteArray) : Mf s < 4294967296:=by unfold Mf; exact Nat.or_lt_two_pow (n:=32) (SN _) (by omega)
@[irreducible] def Im (s : ByteArray) (n i : Nat) : Nat:=(Mu s + i * Mf s) % 4294967296 % (8 * n)
theorem Q2 (s : ByteArray) {n : Nat} (h : 0 < n) (i : Nat) : Im s n i < 8 * n:=by unfold Im; exact Nat.mod_lt _ (by omega)
def Ec (l : List UInt8) (k : Nat) : Bool:=(l.getD (k / 8) 0).toNat.testBit (k % 8)
def GY (l : List UInt8) (k : Nat) : List UInt8:=l.set (k / 8) (l.getD (k / 8) 0 ||| (1 <<< UInt8.ofNat (k % 8)))
theorem Vx (l : List UInt8) (k : Nat) : (GY l k).length = l.length:=by simp [GY]
theorem Qe (r : Nat) (h : r < 8) : ((1 : UInt8) <<< UInt8.ofNat r).toNat = 2 ^ r:=by
 match r,h with
 | 0,_ | 1,_ | 2,_ | 3,_ | 4,_ | 5,_ | 6,_ | 7,_ => decide
theorem UA {l : List UInt8} {k : Nat} (h : k / 8 < l.length) (j : Nat) : Ec (GY l k) j = (Ec l j || decide (j = k)):=by
 unfold Ec GY
 by_cases e : j / 8 = k / 8
 · rw [e]
   have e1 : (l.set (k / 8) (l.getD (k / 8) 0 ||| (1 <<< UInt8.ofNat (k % 8)))).getD (k / 8) 0 = (l.getD (k / 8) 0 ||| (1 <<< UInt8.ofNat (k % 8))):=by
    simp [List.getD,List.getElem?_set_self h]
   rw [e1,UInt8.toNat_or,Nat.testBit_or,Qe _ (Nat.mod_lt _ (by decide)),Nat.testBit_two_pow]
   congr 1
   have : (k % 8 = j % 8) ↔ (j = k):=by omega
   simp [this]
 · have e1 : (l.set (k / 8) (l.getD (k / 8) 0 ||| (1 <<< UInt8.ofNat (k % 8)))).getD (j / 8) 0 = l.getD (j / 8) 0:=by
     simp [List.getD,List.getElem?_set_ne (fun c => e c.symm)]
   have ne : j ≠ k:=fun c => e (by rw [c])
   rw [e1]
   simp [ne]
def FE (l : List UInt8) (s : ByteArray) (i : Nat) : List UInt8:=(List.range i).foldl (fun l j => GY l (Im s l.length j)) l
theorem J5 (l : List UInt8) (s : ByteArray) (i : Nat) : (FE l s i).length = l.length:=by
 unfold FE
 induction i with
 | zero => rfl
 | succ i ih => rw [List.range_succ,List.foldl_append]; simp only [List.foldl_cons,List.foldl_nil,Vx]; exact ih
theorem Oi (l : List UInt8) (s : ByteArray) (i : Nat) : FE l s (i + 1) = GY (FE l s i) (Im s l.length i):=by
 have : FE l s (i + 1) = GY (FE l s i) (Im s (FE l s i).length i):=by
  unfold FE
  rw [List.range_succ,List.foldl_append,List.foldl_cons,List.foldl_nil]
 rw [this,J5]
theorem WH {l : List UInt8} (h : 0 < l.length) (s : ByteArray) (i j : Nat) : Ec (FE l s i) j = true ↔ Ec l j = true \/ ∃ q,q < i /\ Im s l.length q = j:=by
 induction i with
 | zero => simp [FE]
 | succ i ih =>
   have hb:=Q2 s h i
   rw [Oi,UA (by rw [J5]; omega),Bool.or_eq_true,ih,decide_eq_true_eq]
   constructor
   · rintro ((h1 | ⟨q,hq,e⟩) | e)
     · exact .inl h1
     · exact .inr ⟨q,by omega,e⟩
     · exact .inr ⟨i,by omega,e.symm⟩
   · rintro (h1 | ⟨q,hq,e⟩)
     · exact .inl (.inl h1)
     · by_cases c : q = i
       · subst c; exact .inr e.symm
       · exact .inl (.inr ⟨q,by omega,e⟩)
def Sc (l : List UInt8) (s : ByteArray) : List UInt8:=FE l s 4
theorem Ob (l : List UInt8) (s : ByteArray) : (Sc l s).length = l.length:=J5 l s 4
@[irreducible] def Fa (ks : List ByteArray) (n : Nat) : List UInt8:=ks.foldl Sc (List.replicate n 0)
theorem Vm (ks : List ByteArray) (s : ByteArray) (n : Nat) : Fa (ks ++ [s]) n = Sc (Fa ks n) s:=by simp [Fa]
theorem TZ {ks : List ByteArray} {k : Nat} (h : k < ks.length) (n : Nat) : Fa (ks.take (k + 1)) n = Sc (Fa (ks.take k) n) ks[k]:=by
 rw [List.take_succ_eq_append_getElem h,Vm]
theorem Yg (ks : List ByteArray) : ∀ l : List UInt8,(ks.foldl Sc l).length = l.length:=by
 induction ks with
 | nil => intro l; rfl
 | cons s r ih => intro l; rw [List.foldl_cons,ih,Ob]
theorem Fc (ks : List ByteArray) (n : Nat) : (Fa ks n).length = n:=by unfold Fa; rw [Yg]; simp
theorem Xh (j : Nat) (ks : List ByteArray) : ∀ l : List UInt8,0 < l.length -> (Ec (ks.foldl Sc l) j = true ↔ Ec l j = true \/ ∃ s ∈ ks,∃ q,q < 4 /\ Im s l.length q = j):=by
 induction ks with
 | nil => intro l _; simp
 | cons s r ih =>
   intro l h
   rw [List.foldl_cons,ih _ (by rw [Ob]; exact h),Ob]
   unfold Sc
   rw [WH h]
   simp [or_assoc]
theorem WG (n j : Nat) : Ec (List.replicate n 0) j = false:=by
 unfold Ec
 have : (List.replicate n (0 : UInt8)).getD (j / 8) 0 = 0:=by
  by_cases h : j / 8 < n
  · simp [List.getD,h]
  · simp [List.getD,h]
 rw [this]
 simp
theorem XP {n : Nat} (h : 0 < n) (ks : List ByteArray) (j : Nat) : Ec (Fa ks n) j = true ↔ ∃ s ∈ ks,∃ q,q < 4 /\ Im s n q = j:=by
 unfold Fa
 rw [Xh j ks _ (by simpa using h),WG]
 simp
@[irreducible] def FN (l : List UInt8) (s : ByteArray) (i : Nat) : Bool:=(List.range i).all fun q => Ec l (Im s l.length q)
theorem U3 (l : List UInt8) (s : ByteArray) (i : Nat) : FN l s (i + 1) = (FN l s i && Ec l (Im s l.length i)):=by
 unfold FN
 rw [List.range_succ,List.all_append]
 simp
theorem Lt (l : List UInt8) (s : ByteArray) (i : Nat) : FN l s i = true ↔ ∀ q,q < i -> Ec l (Im s l.length q) = true:=by
 unfold FN
 simp
@[irreducible] def FO (l : List UInt8) (s : ByteArray) : Bool:=decide (1 <= l.length /\ l.length <= 8192) && FN l s 4
theorem Yh {ks : List ByteArray} {s : ByteArray} (hs : s ∈ ks) {n : Nat} (h1 : 1 <= n) (h2 : n <= 8192) : FO (Fa ks n) s = true:=by
 unfold FO
 rw [Fc,Bool.and_eq_true,decide_eq_true_eq,Lt,Fc]
 exact ⟨⟨h1,h2⟩,fun q hq => (XP (by omega) ks _).2 ⟨s,hs,q,hq,rfl⟩⟩
end Go.Proofs.YtlkefgngefpkiaaGreatDoor
