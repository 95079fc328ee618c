/- Parts of the proof. -/
import Derived.WalkKit
import Derived.Lib.Strings
import Derived.Lib.Hide
import Derived.OpenShut
namespace Go.Proofs.YtlkefgngefpkiaaGreatDoor
set_option linter.unusedVariables false
section
open Go.RowKit
def bv (b : UInt8) : Value:=.int .u8 (b.toNat : Int)
def As (n : Nat) : List UInt8:=if n < 128 then [UInt8.ofNat n] else UInt8.ofNat (n % 128 + 128) :: As (n / 128)
termination_by n
decreasing_by omega
theorem En {n : Nat} (h : n < 128) : As n = [UInt8.ofNat n]:=by rw [As,if_pos h]
theorem Ii {n : Nat} (h : 128 <= n) : As n = UInt8.ofNat (n % 128 + 128) :: As (n / 128):=by rw [As,if_neg (by omega)]
theorem ET (n : Nat) : 1 <= (As n).length:=by
 by_cases h : n < 128
 · rw [En h]; simp
 · rw [Ii (by omega)]; simp
theorem N7 (k : Nat) : ∀ n : Nat,n < 128 ^ (k + 1) -> (As n).length <= k + 1:=by
 induction k with
 | zero => intro n h; rw [En (by simpa using h)]; simp
 | succ k ih =>
   intro n h
   by_cases h1 : n < 128
   · rw [En h1]; simp
   · rw [Ii (by omega)]
     have:=ih (n / 128) (by rw [Nat.pow_succ] at h; omega)
     simp; omega
def Gs (n : Nat) : List UInt8:=(List.range 8).map fun j => UInt8.ofNat (n / 256 ^ (7 - j))
def U64 (n : Nat) : Prop:=n < 18446744073709551616
theorem U64.out {n : Nat} (h : U64 n) : n < 18446744073709551616:=h
theorem U64.le {n m : Nat} (h : U64 n) (k : m <= n) : U64 m:=Nat.lt_of_le_of_lt k h
theorem Au {n : Nat} (h : U64 n) : (As n).length <= 10:=by
 have:=N7 9 n (by have:=h.out; simp; omega)
 omega
theorem or128 : ∀ x : Nat,x < 256 -> x ||| 128 = x % 128 + 128:=by decide +kernel
theorem Hu {n : Nat} (h : n < 256) : (UInt8.ofNat n).toNat = n:=by simp; omega
theorem XN (m : Nat) : bits .or .u8 ((m : Int) % 256) 128 = ((UInt8.ofNat (m % 128 + 128)).toNat : Int):=by
 have h:=u8_or_nat (m % 256) 128 (by omega) (by omega)
 rw [or128 _ (by omega)] at h
 rw [Hu (by omega),show m % 128 + 128 = m % 256 % 128 + 128 by omega,<- h]
 simp
theorem Ih (n : Nat) : (Gs n).length = 8:=by simp [Gs]
theorem XQ (n j : Nat) (h : j < 8) : (Gs n)[j]? = some (UInt8.ofNat (n / 256 ^ (7 - j))):=by simp [Gs,h]
def KH (a k j : Nat) : Int:=if 8 <= k + j then ((UInt8.ofNat (a / 256 ^ (7 - j))).toNat : Int) else 0
theorem UQ {a j : Nat} (h : j < 8) : KH a 0 j = 0:=by unfold KH; rw [if_neg (by omega)]
theorem Xy {a k : Nat} (h : k < 8) : KH a (k + 1) (7 - k) = ((a / 256 ^ k % 256 : Nat) : Int):=by
 unfold KH; rw [if_pos (by omega),show 7 - (7 - k) = k by omega]; simp
theorem WV {a k j : Nat} (h : j ≠ 7 - k) (h7 : j < 8) : KH a (k + 1) j = KH a k j:=by
 unfold KH
 by_cases h8 : 8 <= k + j
 · rw [if_pos (by omega),if_pos h8]
 · rw [if_neg (by omega),if_neg h8]
def Cv (i : Nat) (c : UInt8) : Bool:=if i = 9 then c == 1 else (i == 0 || c != 0)
theorem VE (c d : UInt8) : ((c.toNat : Int) == (d.toNat : Int)) = (c == d):=by
 rw [Bool.eq_iff_iff]
 simp only [beq_iff_eq,Int.natCast_inj,UInt8.toNat_inj]
theorem Jr (c : UInt8) : Cv 9 c = ((c.toNat : Int) == 1):=by
 have:=VE c 1
 rw [Cv,if_pos rfl,<- this]; rfl
theorem PE (c : UInt8) : Cv 0 c = true:=by simp [Cv]
theorem Jt {i : Nat} (h0 : i ≠ 0) (h9 : i ≠ 9) (c : UInt8) : Cv i c = ((c.toNat : Int) != 0):=by
 have:=VE c 0
 rw [Cv,if_neg h9,bne,bne,<- this]; simp [h0]
def getF : Nat -> Nat -> Nat -> List UInt8 -> Option (Nat × Nat)
 | 0,_,_,_ => none
 | _ + 1,_,_,[] => none
 | f + 1,i,n,c :: r => if c.toNat < 128 then (if Cv i c = true then some (n + c.toNat * 128 ^ i,i + 1) else none) else getF f (i + 1) (n + (c.toNat - 128) * 128 ^ i) r
def Dy (l : List UInt8) : Option (Nat × Nat):=getF 10 0 0 l
def Ab8 (s : ByteArray) (e : Ending) : Prop:=
 (∃ n k t,Dy s.data.toList = some (n,k) /\ t.data.toList = s.data.toList.drop k /\ e = .returned (.tuple #[.int .u64 (n : Int),.string t,.bool true])) \/
 (Dy s.data.toList = none /\ e = .returned (.tuple #[.int .u64 0,.string ⟨#[]⟩,.bool false]))
structure Ur (s : ByteArray) (k : Nat) (A : Int) : Prop where
 yes : k < 10 -> ∃ acc : Nat,A = acc /\ (acc < 128 ^ k /\ getF (10 - k) k acc (s.data.toList.drop k) = Dy s.data.toList)
 no : ¬ k < 10 -> Dy s.data.toList = none
def L8 (l : List UInt8) (k acc : Nat) : Prop:=∀ x,(k = 0 \/ 1 <= x) -> As (acc + x * 128 ^ k) = l.take k ++ As x
structure AaY (s : ByteArray) (k : Nat) (A : Int) : Prop where
 yes : k < 10 -> ∃ acc : Nat,A = acc /\ (acc < 128 ^ k /\ getF (10 - k) k acc (s.data.toList.drop k) = Dy s.data.toList /\ L8 s.data.toList k acc)
 no : ¬ k < 10 -> Dy s.data.toList = none
theorem QE (k : Nat) : 2 ^ (7 * k) = 128 ^ k:=by rw [Nat.pow_mul]
theorem TU {c : UInt8} {k acc : Nat} (hk : k < 9 \/ (k = 9 /\ c.toNat % 128 <= 1)) (hacc : acc < 128 ^ k) :
 bits .or .u64 (acc : Int) (IntKind.u64.wrap (IntKind.u64.wrap (bits .and .u8 (c.toNat : Int) 127) * 2 ^ (7 * k))) = ((acc + c.toNat % 128 * 128 ^ k : Nat) : Int):=by
 have hc:=UInt8.toNat_lt c
 have e1 : bits .and .u8 (c.toNat : Int) 127 = ((c.toNat % 128 : Nat) : Int):=by
  have h : bits .and .u8 (c.toNat : Int) 127 = (c.toNat : Int) % 128:=bits_mask .u8 8 (by decide) wraps_u8 7 (by decide) _ (by omega) (by omega)
  rw [h]; simp
 have e2 : IntKind.u64.wrap ((c.toNat % 128 : Nat) : Int) = ((c.toNat % 128 : Nat) : Int):=IntWalk.u64_in _ ⟨by omega,by omega⟩
 have hp : 128 ^ k <= 128 ^ 9:=Nat.pow_le_pow_right (by omega) (by omega)
 have hx : c.toNat % 128 * 128 ^ k < 18446744073709551616:=by
  rcases hk with hk | ⟨rfl,hk⟩
  · have h8 : 128 ^ k <= 128 ^ 8:=Nat.pow_le_pow_right (by omega) (by omega)
    have:=Nat.mul_le_mul (show c.toNat % 128 <= 127 by omega) h8
    omega
  · have:=Nat.mul_le_mul hk (Nat.le_refl (128 ^ 9))
    omega
 have e3 : ((c.toNat % 128 : Nat) : Int) * 2 ^ (7 * k) = ((c.toNat % 128 * 128 ^ k : Nat) : Int):=by
  rw [<- QE]; simp
 have e4 : IntKind.u64.wrap ((c.toNat % 128 * 128 ^ k : Nat) : Int) = ((c.toNat % 128 * 128 ^ k : Nat) : Int):=IntWalk.u64_in _ ⟨by omega,by omega⟩
 rw [e1,e2,e3,e4,u64_or_nat _ _ (by omega) hx,<- QE,Nat.or_comm,Nat.mul_comm (c.toNat % 128),<- Nat.two_pow_add_eq_or_of_lt (by rw [QE]; exact hacc)]
 rw [Nat.add_comm]
theorem OA {k : Nat} {c : UInt8} (h : Cv k c = true) (hk : k < 10) : k < 9 \/ (k = 9 /\ c.toNat % 128 <= 1):=by
 by_cases h9 : k = 9
 · subst h9
   simp [Cv] at h
   subst h
   exact .inr ⟨rfl,by decide⟩
 · exact .inl (by omega)
theorem Ip (s : ByteArray) (k : Nat) : (s.extract k s.size).data.toList = s.data.toList.drop k:=by
 rw [Lib.extract_data,List.take_of_length_le]; simp
theorem Qu (s : ByteArray) (k : Nat) : (s.extract 0 k).data.toList = s.data.toList.take k:=by
 rw [Lib.extract_data]; simp
theorem L0 (l : List UInt8) (s : ByteArray) : (⟨l.toArray⟩ : ByteArray) ++ s = ⟨(l ++ s.data.toList).toArray⟩:=by
 apply ByteArray.ext
 simp
theorem Q9 {s : ByteArray} {k : Nat} (h : k < s.size) : s.data.toList.drop k = s[k] :: s.data.toList.drop (k + 1):=by
 rw [List.drop_eq_getElem_cons (by simpa using h)]; rfl
theorem ZV {s : ByteArray} {k : Nat} (h : ¬ k < s.size) : s.data.toList.drop k = []:=List.drop_eq_nil_of_le (by simpa using h)
theorem Abb {s : ByteArray} {k acc : Nat} (hlt : k < s.size) (h10 : k < 10) (h128 : s[k].toNat < 128) (hm : Cv k s[k] = true) (h : getF (10 - k) k acc (s.data.toList.drop k) = Dy s.data.toList) :
 Dy s.data.toList = some (acc + s[k].toNat % 128 * 128 ^ k,k + 1):=by
 rw [<- h,Q9 hlt,show 10 - k = (9 - k) + 1 by omega,getF,if_pos h128,if_pos hm,Nat.mod_eq_of_lt h128]
theorem Abg {s : ByteArray} {k acc : Nat} (hlt : k < s.size) (h10 : k < 10) (h128 : s[k].toNat < 128) (hm : Cv k s[k] = false) (h : getF (10 - k) k acc (s.data.toList.drop k) = Dy s.data.toList) :
 Dy s.data.toList = none:=by
 rw [<- h,Q9 hlt,show 10 - k = (9 - k) + 1 by omega,getF,if_pos h128,if_neg (by simp [hm])]
theorem AaA {s : ByteArray} {k acc : Nat} (hlt : ¬ k < s.size) (h10 : k < 10) (h : getF (10 - k) k acc (s.data.toList.drop k) = Dy s.data.toList) :
 Dy s.data.toList = none:=by
 rw [<- h,ZV hlt,show 10 - k = (9 - k) + 1 by omega,getF]
theorem Y9 {s : ByteArray} {k acc : Nat} (hlt : k < s.size) (h10 : k < 10) (h128 : ¬ s[k].toNat < 128) (hacc : acc < 128 ^ k) (h : getF (10 - k) k acc (s.data.toList.drop k) = Dy s.data.toList) :
 Ur s (k + 1) (bits .or .u64 (acc : Int) (IntKind.u64.wrap (IntKind.u64.wrap (bits .and .u8 (s[k].toNat : Int) 127) * 2 ^ (7 * k)))):=by
 have hc:=UInt8.toNat_lt s[k]
 have e : s[k].toNat - 128 = s[k].toNat % 128:=by omega
 rw [Q9 hlt,show 10 - k = (9 - k) + 1 by omega,getF,if_neg h128,e] at h
 constructor
 · intro h1
   refine ⟨_,TU (.inl (by omega)) hacc,?_,?_⟩
   · rw [Nat.pow_succ]
     have:=Nat.mul_le_mul (show s[k].toNat % 128 <= 127 by omega) (Nat.le_refl (128 ^ k))
     omega
   · rw [show 10 - (k + 1) = 9 - k by omega]; exact h
 · intro h1
   obtain rfl : k = 9:=by omega
   rw [<- h]; rfl
theorem M8 (l : List UInt8) : L8 l 0 0:=fun x _ => by simp
theorem Xu (c x : Nat) (h : c < 128) (hx : 1 <= x) : As (c + 128 * x) = UInt8.ofNat (c + 128) :: As x:=by
 rw [Ii (by omega),show (c + 128 * x) % 128 = c by omega,show (c + 128 * x) / 128 = x by omega]
theorem Kn {l : List UInt8} {k : Nat} (h : k < l.length) : l.take (k + 1) = l.take k ++ [l[k]]:=by
 rw [List.take_succ_eq_append_getElem h]
theorem Ro {l : List UInt8} {k acc : Nat} (hk : k < l.length) (h128 : ¬ l[k].toNat < 128) (h : L8 l k acc) : L8 l (k + 1) (acc + l[k].toNat % 128 * 128 ^ k):=by
 intro x hx
 have hx1 : 1 <= x:=by omega
 have hc:=UInt8.toNat_lt l[k]
 have e : acc + l[k].toNat % 128 * 128 ^ k + x * 128 ^ (k + 1) = acc + (l[k].toNat % 128 + 128 * x) * 128 ^ k:=by
  rw [Nat.pow_succ,Nat.add_mul,Nat.mul_comm 128 x,Nat.mul_assoc x 128,Nat.mul_comm 128 (128 ^ k)]; omega
 rw [e,h _ (.inr (by omega)),Xu _ _ (by omega) hx1,Kn hk,show l[k].toNat % 128 + 128 = l[k].toNat by omega,UInt8.ofNat_toNat,List.append_assoc]
 rfl
theorem AaW {l : List UInt8} {k acc : Nat} (hk : k < l.length) (h10 : k < 10) (h128 : l[k].toNat < 128) (hacc : acc < 128 ^ k) (h : L8 l k acc) :
 ∃ x : Nat,bits .or .u64 (acc : Int) (IntKind.u64.wrap ((l[k].toNat : Int) % 128 * 2 ^ (7 * k))) = (x : Int) /\ U64 x /\
  (Cv k l[k] = true -> x = acc + l[k].toNat % 128 * 128 ^ k /\ As x = l.take (k + 1)) /\ (Cv k l[k] = false -> As x ≠ l.take (k + 1)):=by
 have hc:=UInt8.toNat_lt l[k]
 generalize hcc : l[k] = c at *
 have hmod : c.toNat % 128 = c.toNat:=by omega
 have e2 : ((c.toNat : Int) % 128) = IntKind.u64.wrap (bits .and .u8 (c.toNat : Int) 127):=by
  have h : bits .and .u8 (c.toNat : Int) 127 = (c.toNat : Int) % 128:=bits_mask .u8 8 (by decide) wraps_u8 7 (by decide) _ (by omega) (by omega)
  rw [h]; exact (IntWalk.u64_in _ ⟨by omega,by omega⟩).symm
 rw [e2]
 have hshort : ∀ y,y < 128 ^ k -> 1 <= k -> As y ≠ l.take (k + 1):=fun y hy h1 e => by
  have h3:=N7 (k - 1) y (by rw [show k - 1 + 1 = k by omega]; exact hy)
  have:=congrArg List.length e
  rw [List.length_take] at this
  omega
 have hbig : acc + c.toNat % 128 * 128 ^ k < 128 ^ (k + 1):=by
  rw [Nat.pow_succ]
  have:=Nat.mul_le_mul (show c.toNat % 128 <= 127 by omega) (Nat.le_refl (128 ^ k))
  omega
 by_cases hs : k < 9 \/ (k = 9 /\ c.toNat % 128 <= 1)
 · refine ⟨_,TU hs hacc,?_,fun hm => ⟨rfl,?_⟩,fun hm => ?_⟩
   · have h9 : 128 ^ (k + 1) <= 128 ^ 9 \/ (k = 9 /\ c.toNat % 128 <= 1):=by
       rcases hs with hs | hs
       · exact .inl (Nat.pow_le_pow_right (by omega) (by omega))
       · exact .inr hs
     show _ < _
     rcases h9 with h9 | ⟨rfl,h9⟩
     · omega
     · have:=Nat.mul_le_mul h9 (Nat.le_refl (128 ^ 9))
       omega
   · have hx : k = 0 \/ 1 <= c.toNat % 128:=by
       by_cases h0 : k = 0
       · exact .inl h0
       · right
         by_cases h9 : k = 9
         · subst h9
           rw [Jr] at hm
           simp at hm; omega
         · rw [Jt h0 h9] at hm
           simp at hm
           omega
     rw [h _ hx,En (by omega),Kn hk,hcc,hmod]; simp
   · have h0 : k ≠ 0:=fun e => by subst e; rw [PE] at hm; cases hm
     have hc0 : c.toNat = 0:=by
      by_cases h9 : k = 9
      · rw [h9,Jr] at hm
        simp at hm
        rcases hs with hs | hs <;> omega
      · rw [Jt h0 h9] at hm
        simpa using hm
     rw [hc0]
     exact hshort _ (by omega) (by omega)
 · have p63 : (2 : Nat) ^ 63 = 9223372036854775808:=by simp
   have p9 : (128 : Nat) ^ 9 = 9223372036854775808:=by simp
   obtain rfl : k = 9:=by omega
   clear hbig
   rw [p9] at hacc
   have e3 : IntKind.u64.wrap (bits .and .u8 (c.toNat : Int) 127) * 2 ^ (7 * 9) = ((c.toNat % 128 : Nat) : Int) * 9223372036854775808:=by
    rw [<- e2]; simp
   rw [e3]
   have e4 : IntKind.u64.wrap (((c.toNat % 128 : Nat) : Int) * 9223372036854775808) = ((c.toNat % 2 * 9223372036854775808 : Nat) : Int):=by
    rw [IntKind.wrap_u64]; omega
   have hor:=u64_or_nat acc (c.toNat % 2 * 9223372036854775808) (by omega) (by omega)
   have e5 : acc ||| c.toNat % 2 * 9223372036854775808 = acc + c.toNat % 2 * 9223372036854775808:=by
    rw [Nat.or_comm,Nat.mul_comm,<- p63,<- Nat.two_pow_add_eq_or_of_lt (by rw [p63]; exact hacc)]
    omega
   have hlt : U64 (acc + c.toNat % 2 * 9223372036854775808):=by unfold U64; omega
   rw [e5] at hor
   refine ⟨acc + c.toNat % 2 * 9223372036854775808,by rw [e4,hor],hlt,fun hm => ?_,fun hm => ?_⟩
   · exfalso
     rw [Jr] at hm
     simp at hm; omega
   · by_cases hodd : c.toNat % 2 = 0
     · rw [hodd]
       exact hshort _ (by rw [p9]; omega) (by omega)
     · have h1 : c.toNat % 2 = 1:=Nat.mod_two_ne_zero.1 hodd
       rw [h1]
       have:=h 1 (.inr (by omega))
       rw [p9] at this
       rw [this,Kn hk,hcc]
       intro e
       have e6:=List.append_cancel_left e
       rw [En (by omega)] at e6
       injection e6 with e6 _
       subst e6
       simp at hs
theorem Aa5 (s : ByteArray) : AaY s 0 0:=⟨fun _ => ⟨0,rfl,by simp,rfl,M8 _⟩,fun h => absurd (by omega) h⟩
theorem SK (s : ByteArray) : Ur s 0 0:=⟨fun _ => ⟨0,rfl,by simp,rfl⟩,fun h => absurd (by omega) h⟩
theorem Y8 (l : List UInt8) : ∀ f k acc n j,f + k = 10 -> acc < 128 ^ k -> L8 l k acc -> getF f k acc (l.drop k) = some (n,j) -> U64 n /\ As n = l.take j /\ j <= l.length:=by
 intro f
 induction f with
 | zero => intro k acc n j _ _ _ h; cases h
 | succ f ih =>
   intro k acc n j hf hacc hinv h
   by_cases hk : k < l.length
   · rw [List.drop_eq_getElem_cons hk,getF] at h
     by_cases h128 : l[k].toNat < 128
     · rw [if_pos h128] at h
       by_cases hm : Cv k l[k] = true
       · rw [if_pos hm] at h
         obtain ⟨x,_,hx,hyes,_⟩:=AaW hk (by omega) h128 hacc hinv
         have hy:=hyes hm
         simp only [Option.some.injEq,Prod.mk.injEq] at h
         obtain ⟨rfl,rfl⟩:=h
         rw [Nat.mod_eq_of_lt h128] at hy
         rw [<- hy.1]
         exact ⟨hx,hy.2,by omega⟩
       · rw [if_neg hm] at h; cases h
     · rw [if_neg h128] at h
       have hc:=UInt8.toNat_lt l[k]
       have e : l[k].toNat - 128 = l[k].toNat % 128:=by omega
       rw [e] at h
       refine ih (k + 1) _ n j (by omega) ?_ (Ro hk h128 hinv) h
       rw [Nat.pow_succ]
       have:=Nat.mul_le_mul (show l[k].toNat % 128 <= 127 by omega) (Nat.le_refl (128 ^ k))
       omega
   · rw [List.drop_eq_nil_of_le (by omega),getF] at h; cases h
theorem IT {l : List UInt8} {n k : Nat} (h : Dy l = some (n,k)) : U64 n /\ As n = l.take k /\ k <= l.length:=
 Y8 l 10 0 0 n k rfl (by simp) (M8 l) (by simpa [Dy] using h)
theorem N8 {l : List UInt8} {n k : Nat} (h : Dy l = some (n,k)) : 1 <= k /\ k <= l.length:=by
 obtain ⟨_,h1,h2⟩:=IT h
 refine ⟨?_,h2⟩
 have:=ET n
 rw [h1,List.length_take] at this
 omega
theorem PG {acc n k : Nat} (h : U64 (acc + n * 128 ^ k)) (hk : 9 <= k) : n < 2:=by
 have h1:=h.out
 have h2 : 128 ^ 9 <= 128 ^ k:=Nat.pow_le_pow_right (by omega) hk
 have p9 : (128 : Nat) ^ 9 = 9223372036854775808:=by simp
 rw [p9] at h2
 have h3:=Nat.mul_le_mul_left n h2
 omega
theorem Rw (r : List UInt8) : ∀ f k acc n,f + k = 10 -> (k = 0 \/ 1 <= n) -> U64 (acc + n * 128 ^ k) -> 1 <= f -> getF f k acc (As n ++ r) = some (acc + n * 128 ^ k,k + (As n).length):=by
 intro f
 induction f with
 | zero => intro k acc n _ _ _ h; omega
 | succ f ih =>
   intro k acc n hf hn hu _
   by_cases h128 : n < 128
   · have hb : (UInt8.ofNat n).toNat = n:=Hu (by omega)
     have hm : Cv k (UInt8.ofNat n) = true:=by
      by_cases h0 : k = 0
      · subst h0; exact PE _
      · by_cases h9 : k = 9
        · have:=PG hu (by omega)
          obtain rfl : n = 1:=by omega
          subst h9; rfl
        · rw [Jt h0 h9,hb]
          have : n ≠ 0:=by omega
          simpa using this
     rw [En h128,List.singleton_append,getF,hb,if_pos h128,if_pos hm]; rfl
   · have hb : (UInt8.ofNat (n % 128 + 128)).toNat = n % 128 + 128:=Hu (by omega)
     have hk : k < 9:=by
      rcases Nat.lt_or_ge k 9 with h | h
      · exact h
      · have:=PG hu h; omega
     have e : acc + n % 128 * 128 ^ k + n / 128 * 128 ^ (k + 1) = acc + n * 128 ^ k:=by
      rw [Nat.pow_succ,Nat.mul_comm (128 ^ k) 128,<- Nat.mul_assoc,Nat.add_assoc,<- Nat.add_mul]
      congr 2; omega
     have:=ih (k + 1) (acc + n % 128 * 128 ^ k) (n / 128) (by omega) (.inr (by omega)) (by rw [e]; exact hu) (by omega)
     rw [Ii (by omega),List.cons_append,getF,hb,if_neg (by omega),show n % 128 + 128 - 128 = n % 128 by omega,this,e]
     simp only [List.length_cons]
     congr 2; omega
theorem GF {n : Nat} (h : U64 n) (r : List UInt8) : Dy (As n ++ r) = some (n,(As n).length):=by
 have:=Rw r 10 0 0 n rfl (.inl rfl) (by simpa using h) (by omega)
 simpa [Dy] using this
def dig : Nat -> Nat -> List UInt8
 | 0,_ => []
 | k + 1,n => UInt8.ofNat (n / 256 ^ k) :: dig k n
theorem A8 {B : Nat} {a b c : World} (h : Below B a b) (hB : B <= a.heap.size) (k : Below b.heap.size b c) : Below B a c:=h.trans (k.mono (Nat.le_trans hB h.size))
end
section
open Go.RowKit
def U32 (n : Nat) : Prop:=n < 4294967296
theorem U32.out {n : Nat} (h : U32 n) : n < 4294967296:=h
theorem U32.u64 {n : Nat} (h : U32 n) : U64 n:=by have:=h.out; unfold U64; omega
def RF (c : Nat) : Nat:=if c % 2 = 1 then c / 2 ^^^ 3988292384 else c / 2
def stepsC : Nat -> Nat -> Nat
 | 0,c => c
 | k + 1,c => RF (stepsC k c)
def VW (c : Nat) (b : UInt8) : Nat:=stepsC 8 (c ^^^ b.toNat)
def OI (l : List UInt8) : Nat:=l.foldl VW 4294967295
def Oy (l : List UInt8) : Nat:=4294967295 - OI l
theorem Aap {a b : Nat} (ha : a < 4294967296) (hb : b < 4294967296) : a ^^^ b < 4294967296:=Nat.xor_lt_two_pow (n:=32) ha hb
theorem Aao {c : Nat} (h : U32 c) : U32 (RF c):=by
 have:=h.out
 unfold RF U32
 split
 · exact Aap (by omega) (by omega)
 · omega
theorem Ls (k : Nat) {c : Nat} (h : U32 c) : U32 (stepsC k c):=by
 induction k with
 | zero => exact h
 | succ k ih => exact Aao ih
theorem Z0 {c : Nat} (h : U32 c) (b : UInt8) : U32 (VW c b):=Ls 8 (Aap h.out (by have:=UInt8.toNat_lt b; omega))
theorem Zd (l : List UInt8) : ∀ {c : Nat},U32 c -> U32 (l.foldl VW c):=by
 induction l with
 | nil => intro c h; exact h
 | cons b l ih => intro c h; exact ih (Z0 h b)
theorem VQ (l : List UInt8) : U32 (OI l):=Zd l (by unfold U32; omega)
theorem VZ (l : List UInt8) : U32 (Oy l):=by unfold Oy U32; omega
theorem WB {l : List UInt8} {k : Nat} (h : k < l.length) : OI (l.take (k + 1)) = VW (OI (l.take k)) l[k]:=by
 rw [List.take_succ_eq_append_getElem h,OI,List.foldl_append]; rfl
def Em (l : List UInt8) : List UInt8:=dig 4 (Oy l)
theorem Gx (l : List UInt8) : (Em l).length = 4:=rfl
theorem Ul (l : List UInt8) : (Gs (Oy l)).drop 4 = Em l:=rfl
def Ai (l : List UInt8) : List UInt8:=As l.length ++ (Em l ++ l)
theorem Fk (l : List UInt8) : (Ai l).length = (As l.length).length + 4 + l.length:=by simp [Ai,Gx]; omega
def Dz (l : List UInt8) : Bool:=decide (l.length < 10) && l.all fun c => decide (128 <= c.toNat)
def BQ (l : List UInt8) : Nat × List UInt8 × List UInt8:=
 if Dz l = true then (20,[],[]) else
 match Dy l with
 | none => (21,[],[])
 | some (n,k) =>
   if 1048576 < n then (21,[],[]) else
   if (l.drop k).length < 4 + n then (20,[],[]) else
   if (l.drop k).take 4 = Em (((l.drop k).take (4 + n)).drop 4) then (0,((l.drop k).take (4 + n)).drop 4,(l.drop k).drop (4 + n)) else (21,[],[])
theorem Hr {l : List UInt8} (h : Dz l = true) : BQ l = (20,[],[]):=by rw [BQ,if_pos h]
theorem Kr {l : List UInt8} (h : Dz l = false) (hg : Dy l = none) : BQ l = (21,[],[]):=by simp [BQ,h,hg]
theorem Jg {l : List UInt8} {n k : Nat} (h : Dz l = false) (hg : Dy l = some (n,k)) (hn : 1048576 < n) : BQ l = (21,[],[]):=by simp [BQ,h,hg,hn]
theorem GP {l : List UInt8} {n k : Nat} (h : Dz l = false) (hg : Dy l = some (n,k)) (hn : ¬ 1048576 < n) (hl : l.length - k < 4 + n) : BQ l = (20,[],[]):=by
 simp only [BQ,h,hg]
 rw [if_neg (by simp),if_neg hn,if_pos (by simpa using hl)]
theorem IJ {l : List UInt8} {n k : Nat} (h : Dz l = false) (hg : Dy l = some (n,k)) (hn : ¬ 1048576 < n) (hl : ¬ l.length - k < 4 + n) (hs : (l.drop k).take 4 ≠ Em (((l.drop k).take (4 + n)).drop 4)) : BQ l = (21,[],[]):=by
 simp only [BQ,h,hg]
 rw [if_neg (by simp),if_neg hn,if_neg (by simpa using hl),if_neg hs]
theorem Ky {l : List UInt8} {n k : Nat} (h : Dz l = false) (hg : Dy l = some (n,k)) (hn : ¬ 1048576 < n) (hl : ¬ l.length - k < 4 + n) (hs : (l.drop k).take 4 = Em (((l.drop k).take (4 + n)).drop 4)) :
 BQ l = (0,((l.drop k).take (4 + n)).drop 4,(l.drop k).drop (4 + n)):=by
 simp only [BQ,h,hg]
 rw [if_neg (by simp),if_neg hn,if_neg (by simpa using hl),if_pos hs]
theorem In {l : List UInt8} (h : (BQ l).1 = 0) : (BQ l).2.2.length + 5 <= l.length /\ (BQ l).2.1.length <= l.length:=by
 by_cases hc : Dz l = true
 · rw [Hr hc] at h; cases h
 have hc : Dz l = false:=by simpa using hc
 cases hg : Dy l with
 | none => rw [Kr hc hg] at h; cases h
 | some p =>
   obtain ⟨n,k⟩:=p
   have hp:=N8 hg
   by_cases hn : 1048576 < n
   · rw [Jg hc hg hn] at h; cases h
   by_cases hl : l.length - k < 4 + n
   · rw [GP hc hg hn hl] at h; cases h
   by_cases hs : (l.drop k).take 4 = Em (((l.drop k).take (4 + n)).drop 4)
   · rw [Ky hc hg hn hl hs]
     simp; omega
   · rw [IJ hc hg hn hl hs] at h; cases h
def BI (l : List UInt8) : List (List UInt8) × List UInt8:=
 if h : (BQ l).1 = 0 then ((BQ l).2.1 :: (BI (BQ l).2.2).1,(BI (BQ l).2.2).2) else ([],l)
termination_by l.length
decreasing_by all_goals (have:=(In h).1; omega)
theorem RU {l a r : List UInt8} (h : BQ l = (0,a,r)) : BI l = (a :: (BI r).1,(BI r).2):=by
 rw [BI,dif_pos (by rw [h]),h]
theorem P5 {l : List UInt8} (h : (BQ l).1 ≠ 0) : BI l = ([],l):=by rw [BI,dif_neg h]
theorem Ps (k : Nat) : ∀ n : Nat,n < 128 ^ (k + 1) -> ∀ j,j < (As n).length - 1 -> ∀ c,(As n)[j]? = some c -> 128 <= c.toNat:=by
 induction k with
 | zero => intro n h; rw [En (by simpa using h)]; simp
 | succ k ih =>
   intro n h
   by_cases h1 : n < 128
   · rw [En h1]; simp
   · rw [Ii (by omega)]
     intro j hj c hc
     cases j with
     | zero =>
       simp only [List.getElem?_cons_zero,Option.some.injEq] at hc
       subst hc
       rw [Hu (by omega)]; omega
     | succ j =>
       simp only [List.length_cons,Nat.add_one_sub_one] at hj
       rw [List.getElem?_cons_succ] at hc
       exact ih (n / 128) (by rw [Nat.pow_succ] at h; omega) j (by omega) c hc
theorem Sv (k : Nat) : ∀ n : Nat,n < 128 ^ (k + 1) -> ∃ c ∈ As n,c.toNat < 128:=by
 induction k with
 | zero =>
   intro n h
   have h : n < 128:=by simpa using h
   exact ⟨UInt8.ofNat n,by rw [En h]; simp,by rw [Hu (by omega)]; omega⟩
 | succ k ih =>
   intro n h
   by_cases h1 : n < 128
   · exact ⟨UInt8.ofNat n,by rw [En h1]; simp,by rw [Hu (by omega)]; omega⟩
   · obtain ⟨c,hc,h2⟩:=ih (n / 128) (by rw [Nat.pow_succ] at h; omega)
     exact ⟨c,by rw [Ii (by omega)]; exact List.mem_cons_of_mem _ hc,h2⟩
theorem Pc {l : List UInt8} {c : UInt8} (h : c ∈ l) (hc : c.toNat < 128) : Dz l = false:=by
 unfold Dz
 rw [Bool.and_eq_false_iff]
 right
 rw [List.all_eq_false]
 exact ⟨c,h,by simpa using hc⟩
theorem PP {n : Nat} (hn : n <= 1048576) (r : List UInt8) : Dz (As n ++ r) = false:=by
 obtain ⟨c,hc,h⟩:=Sv 9 n (by simp; omega)
 exact Pc (List.mem_append_left _ hc) h
theorem Ic {n : Nat} (hn : n <= 1048576) : U64 n:=by unfold U64; omega
theorem Sn {l : List UInt8} (hl : l.length <= 1048576) (r : List UInt8) : BQ (Ai l ++ r) = (0,l,r):=by
 have e : Ai l ++ r = As l.length ++ (Em l ++ (l ++ r)):=by simp [Ai]
 rw [e]
 have hg:=GF (Ic hl) (Em l ++ (l ++ r))
 have hd : (As l.length ++ (Em l ++ (l ++ r))).drop (As l.length).length = Em l ++ (l ++ r):=by simp
 have h4:=Gx l
 have ht : (Em l ++ (l ++ r)).take (4 + l.length) = Em l ++ l:=by
  rw [<- List.append_assoc,List.take_left' (by simp [h4])]
 have hr : (Em l ++ (l ++ r)).drop (4 + l.length) = r:=by
  rw [<- List.append_assoc,List.drop_left' (by simp [h4])]
 have:=Ky (PP hl _) hg (by omega) (by simp [h4]) (by rw [hd,ht,List.take_left' h4,List.drop_left' h4])
 rw [this,hd,ht,hr,List.drop_left' h4]
theorem V3 {l : List UInt8} (hl : l.length <= 1048576) {k : Nat} (hk : k < (Ai l).length) : BQ ((Ai l).take k) = (20,[],[]):=by
 have hlen:=Fk l
 have h10:=N7 2 l.length (by simp; omega)
 by_cases hc : k < (As l.length).length
 · apply Hr
   have e : (Ai l).take k = (As l.length).take k:=by rw [Ai,List.take_append_of_le_length (by omega)]
   rw [e]
   unfold Dz
   rw [Bool.and_eq_true,List.all_eq_true]
   refine ⟨by simp; omega,fun c hcm => ?_⟩
   obtain ⟨j,hj,rfl⟩:=List.getElem_of_mem hcm
   rw [List.length_take] at hj
   have:=Ps 9 l.length (by simp; omega) j (by omega) _ (List.getElem?_eq_getElem (by omega))
   simpa using this
 · have e : (Ai l).take k = As l.length ++ (Em l ++ l).take (k - (As l.length).length):=by
     rw [Ai,List.take_append,List.take_of_length_le (by omega)]
   rw [e]
   refine GP (PP hl _) (GF (Ic hl) _) (by omega) ?_
   simp [Gx]
   omega
def A6 (ls : List (List UInt8)) : List UInt8:=ls.flatMap Ai
theorem EO (l : List UInt8) (ls : List (List UInt8)) : A6 (l :: ls) = Ai l ++ A6 ls:=rfl
theorem nextL_nil : BQ [] = (20,[],[]):=Hr rfl
theorem I3 {ls : List (List UInt8)} (h : ∀ l ∈ ls,l.length <= 1048576) (r : List UInt8) (hr : (BQ r).1 ≠ 0) : BI (A6 ls ++ r) = (ls,r):=by
 induction ls with
 | nil => exact P5 hr
 | cons l ls ih =>
   rw [EO,List.append_assoc,RU (Sn (h l (by simp)) _),ih fun m hm => h m (by simp [hm])]
theorem Fj {l : List UInt8} (hl : l.length <= 1048576) : (Ai l).length <= l.length + 14:=by
 rw [Fk]
 have:=Au (Ic hl)
 omega
end
end Go.Proofs.YtlkefgngefpkiaaGreatDoor
