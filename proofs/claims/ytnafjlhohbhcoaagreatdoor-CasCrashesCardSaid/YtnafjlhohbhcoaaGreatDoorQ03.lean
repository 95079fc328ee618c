/- Parts of the proof. -/
import Derived.WalkKit
import Derived.Lib.Strings
import Derived.Lib.Hide
import Derived.OpenShut
namespace Go.Proofs.YtnafjlhohbhcoaaGreatDoor
set_option linter.unusedVariables false
section
open Go.RowKit
def bv (b : UInt8) : Value:=.int .u8 (b.toNat : Int)
def As (n : Nat) : List UInt8:=if n < 128 then [UInt8.ofNat n] else UInt8.ofNat (n % 128 + 128) :: As (n / 128)
termination_by n
decreasing_by omega
theorem El {n : Nat} (h : n < 128) : As n = [UInt8.ofNat n]:=by rw [As,if_pos h]
theorem Ip {n : Nat} (h : 128 <= n) : As n = UInt8.ofNat (n % 128 + 128) :: As (n / 128):=by rw [As,if_neg (by omega)]
theorem EJ (n : Nat) : 1 <= (As n).length:=by
 by_cases h : n < 128
 · rw [El h]; simp
 · rw [Ip (by omega)]; simp
theorem Nx (k : Nat) : ∀ n : Nat,n < 128 ^ (k + 1) -> (As n).length <= k + 1:=by
 induction k with
 | zero => intro n h; rw [El (by simpa using h)]; simp
 | succ k ih =>
   intro n h
   by_cases h1 : n < 128
   · rw [El h1]; simp
   · rw [Ip (by omega)]
     have:=ih (n / 128) (by rw [Nat.pow_succ] at h; omega)
     simp; omega
def Gv (n : Nat) : List UInt8:=(List.range 8).map fun j => UInt8.ofNat (n / 256 ^ (7 - j))
def U64 (n : Nat) : Prop:=n < 18446744073709551616
theorem U64.out {n : Nat} (h : U64 n) : n < 18446744073709551616:=h
theorem U64.le {n m : Nat} (h : U64 n) (k : m <= n) : U64 m:=Nat.lt_of_le_of_lt k h
theorem Av {n : Nat} (h : U64 n) : (As n).length <= 10:=by
 have:=Nx 9 n (by have:=h.out; simp; omega)
 omega
theorem or128 : ∀ x : Nat,x < 256 -> x ||| 128 = x % 128 + 128:=by decide +kernel
theorem Hh {n : Nat} (h : n < 256) : (UInt8.ofNat n).toNat = n:=by simp; omega
theorem XO (m : Nat) : bits .or .u8 ((m : Int) % 256) 128 = ((UInt8.ofNat (m % 128 + 128)).toNat : Int):=by
 have h:=u8_or_nat (m % 256) 128 (by omega) (by omega)
 rw [or128 _ (by omega)] at h
 rw [Hh (by omega),show m % 128 + 128 = m % 256 % 128 + 128 by omega,<- h]
 simp
theorem In (n : Nat) : (Gv n).length = 8:=by simp [Gv]
theorem Xk (n j : Nat) (h : j < 8) : (Gv n)[j]? = some (UInt8.ofNat (n / 256 ^ (7 - j))):=by simp [Gv,h]
def KB (a k j : Nat) : Int:=if 8 <= k + j then ((UInt8.ofNat (a / 256 ^ (7 - j))).toNat : Int) else 0
theorem UW {a j : Nat} (h : j < 8) : KB a 0 j = 0:=by unfold KB; rw [if_neg (by omega)]
theorem Wq {a k : Nat} (h : k < 8) : KB a (k + 1) (7 - k) = ((a / 256 ^ k % 256 : Nat) : Int):=by
 unfold KB; rw [if_pos (by omega),show 7 - (7 - k) = k by omega]; simp
theorem XA {a k j : Nat} (h : j ≠ 7 - k) (h7 : j < 8) : KB a (k + 1) j = KB a k j:=by
 unfold KB
 by_cases h8 : 8 <= k + j
 · rw [if_pos (by omega),if_pos h8]
 · rw [if_neg (by omega),if_neg h8]
def Cm (i : Nat) (c : UInt8) : Bool:=if i = 9 then c == 1 else (i == 0 || c != 0)
theorem VF (c d : UInt8) : ((c.toNat : Int) == (d.toNat : Int)) = (c == d):=by
 rw [Bool.eq_iff_iff]
 simp only [beq_iff_eq,Int.natCast_inj,UInt8.toNat_inj]
theorem Jw (c : UInt8) : Cm 9 c = ((c.toNat : Int) == 1):=by
 have:=VF c 1
 rw [Cm,if_pos rfl,<- this]; rfl
theorem PE (c : UInt8) : Cm 0 c = true:=by simp [Cm]
theorem Ju {i : Nat} (h0 : i ≠ 0) (h9 : i ≠ 9) (c : UInt8) : Cm i c = ((c.toNat : Int) != 0):=by
 have:=VF c 0
 rw [Cm,if_neg h9,bne,bne,<- this]; simp [h0]
def getF : Nat -> Nat -> Nat -> List UInt8 -> Option (Nat × Nat)
 | 0,_,_,_ => none
 | _ + 1,_,_,[] => none
 | f + 1,i,n,c :: r => if c.toNat < 128 then (if Cm i c = true then some (n + c.toNat * 128 ^ i,i + 1) else none) else getF f (i + 1) (n + (c.toNat - 128) * 128 ^ i) r
def Dt (l : List UInt8) : Option (Nat × Nat):=getF 10 0 0 l
def AbF (s : ByteArray) (e : Ending) : Prop:=
 (∃ n k t,Dt s.data.toList = some (n,k) /\ t.data.toList = s.data.toList.drop k /\ e = .returned (.tuple #[.int .u64 (n : Int),.string t,.bool true])) \/
 (Dt s.data.toList = none /\ e = .returned (.tuple #[.int .u64 0,.string ⟨#[]⟩,.bool false]))
structure TV (s : ByteArray) (k : Nat) (A : Int) : Prop where
 yes : k < 10 -> ∃ acc : Nat,A = acc /\ (acc < 128 ^ k /\ getF (10 - k) k acc (s.data.toList.drop k) = Dt s.data.toList)
 no : ¬ k < 10 -> Dt s.data.toList = none
def Ly (l : List UInt8) (k acc : Nat) : Prop:=∀ x,(k = 0 \/ 1 <= x) -> As (acc + x * 128 ^ k) = l.take k ++ As x
structure Abj (s : ByteArray) (k : Nat) (A : Int) : Prop where
 yes : k < 10 -> ∃ acc : Nat,A = acc /\ (acc < 128 ^ k /\ getF (10 - k) k acc (s.data.toList.drop k) = Dt s.data.toList /\ Ly s.data.toList k acc)
 no : ¬ k < 10 -> Dt s.data.toList = none
theorem Qi (k : Nat) : 2 ^ (7 * k) = 128 ^ k:=by rw [Nat.pow_mul]
theorem Vg {c : UInt8} {k acc : Nat} (hk : k < 9 \/ (k = 9 /\ c.toNat % 128 <= 1)) (hacc : acc < 128 ^ k) :
 bits .or .u64 (acc : Int) (IntKind.u64.wrap (IntKind.u64.wrap (bits .and .u8 (c.toNat : Int) 127) * 2 ^ (7 * k))) = ((acc + c.toNat % 128 * 128 ^ k : Nat) : Int):=by
 have hc:=UInt8.toNat_lt c
 have e1 : bits .and .u8 (c.toNat : Int) 127 = ((c.toNat % 128 : Nat) : Int):=by
  have h : bits .and .u8 (c.toNat : Int) 127 = (c.toNat : Int) % 128:=bits_mask .u8 8 (by decide) wraps_u8 7 (by decide) _ (by omega) (by omega)
  rw [h]; simp
 have e2 : IntKind.u64.wrap ((c.toNat % 128 : Nat) : Int) = ((c.toNat % 128 : Nat) : Int):=IntWalk.u64_in _ ⟨by omega,by omega⟩
 have hp : 128 ^ k <= 128 ^ 9:=Nat.pow_le_pow_right (by omega) (by omega)
 have hx : c.toNat % 128 * 128 ^ k < 18446744073709551616:=by
  rcases hk with hk | ⟨rfl,hk⟩
  · have h8 : 128 ^ k <= 128 ^ 8:=Nat.pow_le_pow_right (by omega) (by omega)
    have:=Nat.mul_le_mul (show c.toNat % 128 <= 127 by omega) h8
    omega
  · have:=Nat.mul_le_mul hk (Nat.le_refl (128 ^ 9))
    omega
 have e3 : ((c.toNat % 128 : Nat) : Int) * 2 ^ (7 * k) = ((c.toNat % 128 * 128 ^ k : Nat) : Int):=by
  rw [<- Qi]; simp
 have e4 : IntKind.u64.wrap ((c.toNat % 128 * 128 ^ k : Nat) : Int) = ((c.toNat % 128 * 128 ^ k : Nat) : Int):=IntWalk.u64_in _ ⟨by omega,by omega⟩
 rw [e1,e2,e3,e4,u64_or_nat _ _ (by omega) hx,<- Qi,Nat.or_comm,Nat.mul_comm (c.toNat % 128),<- Nat.two_pow_add_eq_or_of_lt (by rw [Qi]; exact hacc)]
 rw [Nat.add_comm]
theorem OG {k : Nat} {c : UInt8} (h : Cm k c = true) (hk : k < 10) : k < 9 \/ (k = 9 /\ c.toNat % 128 <= 1):=by
 by_cases h9 : k = 9
 · subst h9
   simp [Cm] at h
   subst h
   exact .inr ⟨rfl,by decide⟩
 · exact .inl (by omega)
theorem Ir (s : ByteArray) (k : Nat) : (s.extract k s.size).data.toList = s.data.toList.drop k:=by
 rw [Lib.extract_data,List.take_of_length_le]; simp
theorem Qn (s : ByteArray) (k : Nat) : (s.extract 0 k).data.toList = s.data.toList.take k:=by
 rw [Lib.extract_data]; simp
theorem Le (l : List UInt8) (s : ByteArray) : (⟨l.toArray⟩ : ByteArray) ++ s = ⟨(l ++ s.data.toList).toArray⟩:=by
 apply ByteArray.ext
 simp
theorem Qa {s : ByteArray} {k : Nat} (h : k < s.size) : s.data.toList.drop k = s[k] :: s.data.toList.drop (k + 1):=by
 rw [List.drop_eq_getElem_cons (by simpa using h)]; rfl
theorem ZV {s : ByteArray} {k : Nat} (h : ¬ k < s.size) : s.data.toList.drop k = []:=List.drop_eq_nil_of_le (by simpa using h)
theorem Aa9 {s : ByteArray} {k acc : Nat} (hlt : k < s.size) (h10 : k < 10) (h128 : s[k].toNat < 128) (hm : Cm k s[k] = true) (h : getF (10 - k) k acc (s.data.toList.drop k) = Dt s.data.toList) :
 Dt s.data.toList = some (acc + s[k].toNat % 128 * 128 ^ k,k + 1):=by
 rw [<- h,Qa hlt,show 10 - k = (9 - k) + 1 by omega,getF,if_pos h128,if_pos hm,Nat.mod_eq_of_lt h128]
theorem Aa2 {s : ByteArray} {k acc : Nat} (hlt : k < s.size) (h10 : k < 10) (h128 : s[k].toNat < 128) (hm : Cm k s[k] = false) (h : getF (10 - k) k acc (s.data.toList.drop k) = Dt s.data.toList) :
 Dt s.data.toList = none:=by
 rw [<- h,Qa hlt,show 10 - k = (9 - k) + 1 by omega,getF,if_pos h128,if_neg (by simp [hm])]
theorem AaD {s : ByteArray} {k acc : Nat} (hlt : ¬ k < s.size) (h10 : k < 10) (h : getF (10 - k) k acc (s.data.toList.drop k) = Dt s.data.toList) :
 Dt s.data.toList = none:=by
 rw [<- h,ZV hlt,show 10 - k = (9 - k) + 1 by omega,getF]
theorem Y7 {s : ByteArray} {k acc : Nat} (hlt : k < s.size) (h10 : k < 10) (h128 : ¬ s[k].toNat < 128) (hacc : acc < 128 ^ k) (h : getF (10 - k) k acc (s.data.toList.drop k) = Dt s.data.toList) :
 TV s (k + 1) (bits .or .u64 (acc : Int) (IntKind.u64.wrap (IntKind.u64.wrap (bits .and .u8 (s[k].toNat : Int) 127) * 2 ^ (7 * k)))):=by
 have hc:=UInt8.toNat_lt s[k]
 have e : s[k].toNat - 128 = s[k].toNat % 128:=by omega
 rw [Qa hlt,show 10 - k = (9 - k) + 1 by omega,getF,if_neg h128,e] at h
 constructor
 · intro h1
   refine ⟨_,Vg (.inl (by omega)) hacc,?_,?_⟩
   · rw [Nat.pow_succ]
     have:=Nat.mul_le_mul (show s[k].toNat % 128 <= 127 by omega) (Nat.le_refl (128 ^ k))
     omega
   · rw [show 10 - (k + 1) = 9 - k by omega]; exact h
 · intro h1
   obtain rfl : k = 9:=by omega
   rw [<- h]; rfl
theorem Mk (l : List UInt8) : Ly l 0 0:=fun x _ => by simp
theorem XR (c x : Nat) (h : c < 128) (hx : 1 <= x) : As (c + 128 * x) = UInt8.ofNat (c + 128) :: As x:=by
 rw [Ip (by omega),show (c + 128 * x) % 128 = c by omega,show (c + 128 * x) / 128 = x by omega]
theorem Kf {l : List UInt8} {k : Nat} (h : k < l.length) : l.take (k + 1) = l.take k ++ [l[k]]:=by
 rw [List.take_succ_eq_append_getElem h]
theorem Rq {l : List UInt8} {k acc : Nat} (hk : k < l.length) (h128 : ¬ l[k].toNat < 128) (h : Ly l k acc) : Ly l (k + 1) (acc + l[k].toNat % 128 * 128 ^ k):=by
 intro x hx
 have hx1 : 1 <= x:=by omega
 have hc:=UInt8.toNat_lt l[k]
 have e : acc + l[k].toNat % 128 * 128 ^ k + x * 128 ^ (k + 1) = acc + (l[k].toNat % 128 + 128 * x) * 128 ^ k:=by
  rw [Nat.pow_succ,Nat.add_mul,Nat.mul_comm 128 x,Nat.mul_assoc x 128,Nat.mul_comm 128 (128 ^ k)]; omega
 rw [e,h _ (.inr (by omega)),XR _ _ (by omega) hx1,Kf hk,show l[k].toNat % 128 + 128 = l[k].toNat by omega,UInt8.ofNat_toNat,List.append_assoc]
 rfl
theorem AaV {l : List UInt8} {k acc : Nat} (hk : k < l.length) (h10 : k < 10) (h128 : l[k].toNat < 128) (hacc : acc < 128 ^ k) (h : Ly l k acc) :
 ∃ x : Nat,bits .or .u64 (acc : Int) (IntKind.u64.wrap ((l[k].toNat : Int) % 128 * 2 ^ (7 * k))) = (x : Int) /\ U64 x /\
  (Cm k l[k] = true -> x = acc + l[k].toNat % 128 * 128 ^ k /\ As x = l.take (k + 1)) /\ (Cm k l[k] = false -> As x ≠ l.take (k + 1)):=by
 have hc:=UInt8.toNat_lt l[k]
 generalize hcc : l[k] = c at *
 have hmod : c.toNat % 128 = c.toNat:=by omega
 have e2 : ((c.toNat : Int) % 128) = IntKind.u64.wrap (bits .and .u8 (c.toNat : Int) 127):=by
  have h : bits .and .u8 (c.toNat : Int) 127 = (c.toNat : Int) % 128:=bits_mask .u8 8 (by decide) wraps_u8 7 (by decide) _ (by omega) (by omega)
  rw [h]; exact (IntWalk.u64_in _ ⟨by omega,by omega⟩).symm
 rw [e2]
 have hshort : ∀ y,y < 128 ^ k -> 1 <= k -> As y ≠ l.take (k + 1):=fun y hy h1 e => by
  have h3:=Nx (k - 1) y (by rw [show k - 1 + 1 = k by omega]; exact hy)
  have:=congrArg List.length e
  rw [List.length_take] at this
  omega
 have hbig : acc + c.toNat % 128 * 128 ^ k < 128 ^ (k + 1):=by
  rw [Nat.pow_succ]
  have:=Nat.mul_le_mul (show c.toNat % 128 <= 127 by omega) (Nat.le_refl (128 ^ k))
  omega
 by_cases hs : k < 9 \/ (k = 9 /\ c.toNat % 128 <= 1)
 · refine ⟨_,Vg hs hacc,?_,fun hm => ⟨rfl,?_⟩,fun hm => ?_⟩
   · have h9 : 128 ^ (k + 1) <= 128 ^ 9 \/ (k = 9 /\ c.toNat % 128 <= 1):=by
       rcases hs with hs | hs
       · exact .inl (Nat.pow_le_pow_right (by omega) (by omega))
       · exact .inr hs
     show _ < _
     rcases h9 with h9 | ⟨rfl,h9⟩
     · omega
     · have:=Nat.mul_le_mul h9 (Nat.le_refl (128 ^ 9))
       omega
   · have hx : k = 0 \/ 1 <= c.toNat % 128:=by
       by_cases h0 : k = 0
       · exact .inl h0
       · right
         by_cases h9 : k = 9
         · subst h9
           rw [Jw] at hm
           simp at hm; omega
         · rw [Ju h0 h9] at hm
           simp at hm
           omega
     rw [h _ hx,El (by omega),Kf hk,hcc,hmod]; simp
   · have h0 : k ≠ 0:=fun e => by subst e; rw [PE] at hm; cases hm
     have hc0 : c.toNat = 0:=by
      by_cases h9 : k = 9
      · rw [h9,Jw] at hm
        simp at hm
        rcases hs with hs | hs <;> omega
      · rw [Ju h0 h9] at hm
        simpa using hm
     rw [hc0]
     exact hshort _ (by omega) (by omega)
 · have p63 : (2 : Nat) ^ 63 = 9223372036854775808:=by simp
   have p9 : (128 : Nat) ^ 9 = 9223372036854775808:=by simp
   obtain rfl : k = 9:=by omega
   clear hbig
   rw [p9] at hacc
   have e3 : IntKind.u64.wrap (bits .and .u8 (c.toNat : Int) 127) * 2 ^ (7 * 9) = ((c.toNat % 128 : Nat) : Int) * 9223372036854775808:=by
    rw [<- e2]; simp
   rw [e3]
   have e4 : IntKind.u64.wrap (((c.toNat % 128 : Nat) : Int) * 9223372036854775808) = ((c.toNat % 2 * 9223372036854775808 : Nat) : Int):=by
    rw [IntKind.wrap_u64]; omega
   have hor:=u64_or_nat acc (c.toNat % 2 * 9223372036854775808) (by omega) (by omega)
   have e5 : acc ||| c.toNat % 2 * 9223372036854775808 = acc + c.toNat % 2 * 9223372036854775808:=by
    rw [Nat.or_comm,Nat.mul_comm,<- p63,<- Nat.two_pow_add_eq_or_of_lt (by rw [p63]; exact hacc)]
    omega
   have hlt : U64 (acc + c.toNat % 2 * 9223372036854775808):=by unfold U64; omega
   rw [e5] at hor
   refine ⟨acc + c.toNat % 2 * 9223372036854775808,by rw [e4,hor],hlt,fun hm => ?_,fun hm => ?_⟩
   · exfalso
     rw [Jw] at hm
     simp at hm; omega
   · by_cases hodd : c.toNat % 2 = 0
     · rw [hodd]
       exact hshort _ (by rw [p9]; omega) (by omega)
     · have h1 : c.toNat % 2 = 1:=Nat.mod_two_ne_zero.1 hodd
       rw [h1]
       have:=h 1 (.inr (by omega))
       rw [p9] at this
       rw [this,Kf hk,hcc]
       intro e
       have e6:=List.append_cancel_left e
       rw [El (by omega)] at e6
       injection e6 with e6 _
       subst e6
       simp at hs
theorem Abn (s : ByteArray) : Abj s 0 0:=⟨fun _ => ⟨0,rfl,by simp,rfl,Mk _⟩,fun h => absurd (by omega) h⟩
theorem SY (s : ByteArray) : TV s 0 0:=⟨fun _ => ⟨0,rfl,by simp,rfl⟩,fun h => absurd (by omega) h⟩
theorem Ze (l : List UInt8) : ∀ f k acc n j,f + k = 10 -> acc < 128 ^ k -> Ly l k acc -> getF f k acc (l.drop k) = some (n,j) -> U64 n /\ As n = l.take j /\ j <= l.length:=by
 intro f
 induction f with
 | zero => intro k acc n j _ _ _ h; cases h
 | succ f ih =>
   intro k acc n j hf hacc hinv h
   by_cases hk : k < l.length
   · rw [List.drop_eq_getElem_cons hk,getF] at h
     by_cases h128 : l[k].toNat < 128
     · rw [if_pos h128] at h
       by_cases hm : Cm k l[k] = true
       · rw [if_pos hm] at h
         obtain ⟨x,_,hx,hyes,_⟩:=AaV hk (by omega) h128 hacc hinv
         have hy:=hyes hm
         simp only [Option.some.injEq,Prod.mk.injEq] at h
         obtain ⟨rfl,rfl⟩:=h
         rw [Nat.mod_eq_of_lt h128] at hy
         rw [<- hy.1]
         exact ⟨hx,hy.2,by omega⟩
       · rw [if_neg hm] at h; cases h
     · rw [if_neg h128] at h
       have hc:=UInt8.toNat_lt l[k]
       have e : l[k].toNat - 128 = l[k].toNat % 128:=by omega
       rw [e] at h
       refine ih (k + 1) _ n j (by omega) ?_ (Rq hk h128 hinv) h
       rw [Nat.pow_succ]
       have:=Nat.mul_le_mul (show l[k].toNat % 128 <= 127 by omega) (Nat.le_refl (128 ^ k))
       omega
   · rw [List.drop_eq_nil_of_le (by omega),getF] at h; cases h
theorem Jf {l : List UInt8} {n k : Nat} (h : Dt l = some (n,k)) : U64 n /\ As n = l.take k /\ k <= l.length:=
 Ze l 10 0 0 n k rfl (by simp) (Mk l) (by simpa [Dt] using h)
theorem Nr {l : List UInt8} {n k : Nat} (h : Dt l = some (n,k)) : 1 <= k /\ k <= l.length:=by
 obtain ⟨_,h1,h2⟩:=Jf h
 refine ⟨?_,h2⟩
 have:=EJ n
 rw [h1,List.length_take] at this
 omega
theorem Pz {acc n k : Nat} (h : U64 (acc + n * 128 ^ k)) (hk : 9 <= k) : n < 2:=by
 have h1:=h.out
 have h2 : 128 ^ 9 <= 128 ^ k:=Nat.pow_le_pow_right (by omega) hk
 have p9 : (128 : Nat) ^ 9 = 9223372036854775808:=by simp
 rw [p9] at h2
 have h3:=Nat.mul_le_mul_left n h2
 omega
theorem SW (r : List UInt8) : ∀ f k acc n,f + k = 10 -> (k = 0 \/ 1 <= n) -> U64 (acc + n * 128 ^ k) -> 1 <= f -> getF f k acc (As n ++ r) = some (acc + n * 128 ^ k,k + (As n).length):=by
 intro f
 induction f with
 | zero => intro k acc n _ _ _ h; omega
 | succ f ih =>
   intro k acc n hf hn hu _
   by_cases h128 : n < 128
   · have hb : (UInt8.ofNat n).toNat = n:=Hh (by omega)
     have hm : Cm k (UInt8.ofNat n) = true:=by
      by_cases h0 : k = 0
      · subst h0; exact PE _
      · by_cases h9 : k = 9
        · have:=Pz hu (by omega)
          obtain rfl : n = 1:=by omega
          subst h9; rfl
        · rw [Ju h0 h9,hb]
          have : n ≠ 0:=by omega
          simpa using this
     rw [El h128,List.singleton_append,getF,hb,if_pos h128,if_pos hm]; rfl
   · have hb : (UInt8.ofNat (n % 128 + 128)).toNat = n % 128 + 128:=Hh (by omega)
     have hk : k < 9:=by
      rcases Nat.lt_or_ge k 9 with h | h
      · exact h
      · have:=Pz hu h; omega
     have e : acc + n % 128 * 128 ^ k + n / 128 * 128 ^ (k + 1) = acc + n * 128 ^ k:=by
      rw [Nat.pow_succ,Nat.mul_comm (128 ^ k) 128,<- Nat.mul_assoc,Nat.add_assoc,<- Nat.add_mul]
      congr 2; omega
     have:=ih (k + 1) (acc + n % 128 * 128 ^ k) (n / 128) (by omega) (.inr (by omega)) (by rw [e]; exact hu) (by omega)
     rw [Ip (by omega),List.cons_append,getF,hb,if_neg (by omega),show n % 128 + 128 - 128 = n % 128 by omega,this,e]
     simp only [List.length_cons]
     congr 2; omega
theorem GK {n : Nat} (h : U64 n) (r : List UInt8) : Dt (As n ++ r) = some (n,(As n).length):=by
 have:=SW r 10 0 0 n rfl (.inl rfl) (by simpa using h) (by omega)
 simpa [Dt] using this
def dig : Nat -> Nat -> List UInt8
 | 0,_ => []
 | k + 1,n => UInt8.ofNat (n / 256 ^ k) :: dig k n
theorem A4 {B : Nat} {a b c : World} (h : Below B a b) (hB : B <= a.heap.size) (k : Below b.heap.size b c) : Below B a c:=h.trans (k.mono (Nat.le_trans hB h.size))
end
section
open Go.RowKit
def U32 (n : Nat) : Prop:=n < 4294967296
theorem U32.out {n : Nat} (h : U32 n) : n < 4294967296:=h
theorem U32.u64 {n : Nat} (h : U32 n) : U64 n:=by have:=h.out; unfold U64; omega
def Rn (c : Nat) : Nat:=if c % 2 = 1 then c / 2 ^^^ 3988292384 else c / 2
def stepsC : Nat -> Nat -> Nat
 | 0,c => c
 | k + 1,c => Rn (stepsC k c)
def V5 (c : Nat) (b : UInt8) : Nat:=stepsC 8 (c ^^^ b.toNat)
def OS (l : List UInt8) : Nat:=l.foldl V5 4294967295
def MQ (l : List UInt8) : Nat:=4294967295 - OS l
theorem Aac {a b : Nat} (ha : a < 4294967296) (hb : b < 4294967296) : a ^^^ b < 4294967296:=Nat.xor_lt_two_pow (n:=32) ha hb
theorem Zd {c : Nat} (h : U32 c) : U32 (Rn c):=by
 have:=h.out
 unfold Rn U32
 split
 · exact Aac (by omega) (by omega)
 · omega
theorem LS (k : Nat) {c : Nat} (h : U32 c) : U32 (stepsC k c):=by
 induction k with
 | zero => exact h
 | succ k ih => exact Zd ih
theorem ZP {c : Nat} (h : U32 c) (b : UInt8) : U32 (V5 c b):=LS 8 (Aac h.out (by have:=UInt8.toNat_lt b; omega))
theorem YU (l : List UInt8) : ∀ {c : Nat},U32 c -> U32 (l.foldl V5 c):=by
 induction l with
 | nil => intro c h; exact h
 | cons b l ih => intro c h; exact ih (ZP h b)
theorem V2 (l : List UInt8) : U32 (OS l):=YU l (by unfold U32; omega)
theorem VI (l : List UInt8) : U32 (MQ l):=by unfold MQ U32; omega
theorem Wp {l : List UInt8} {k : Nat} (h : k < l.length) : OS (l.take (k + 1)) = V5 (OS (l.take k)) l[k]:=by
 rw [List.take_succ_eq_append_getElem h,OS,List.foldl_append]; rfl
def Ei (l : List UInt8) : List UInt8:=dig 4 (MQ l)
theorem Gq (l : List UInt8) : (Ei l).length = 4:=rfl
theorem Vs (l : List UInt8) : (Gv (MQ l)).drop 4 = Ei l:=rfl
def Ai (l : List UInt8) : List UInt8:=As l.length ++ (Ei l ++ l)
theorem Fk (l : List UInt8) : (Ai l).length = (As l.length).length + 4 + l.length:=by simp [Ai,Gq]; omega
def Dv (l : List UInt8) : Bool:=decide (l.length < 10) && l.all fun c => decide (128 <= c.toNat)
def BJ (l : List UInt8) : Nat × List UInt8 × List UInt8:=
 if Dv l = true then (20,[],[]) else
 match Dt l with
 | none => (21,[],[])
 | some (n,k) =>
   if 1048576 < n then (21,[],[]) else
   if (l.drop k).length < 4 + n then (20,[],[]) else
   if (l.drop k).take 4 = Ei (((l.drop k).take (4 + n)).drop 4) then (0,((l.drop k).take (4 + n)).drop 4,(l.drop k).drop (4 + n)) else (21,[],[])
theorem Hr {l : List UInt8} (h : Dv l = true) : BJ l = (20,[],[]):=by rw [BJ,if_pos h]
theorem Ke {l : List UInt8} (h : Dv l = false) (hg : Dt l = none) : BJ l = (21,[],[]):=by simp [BJ,h,hg]
theorem ID {l : List UInt8} {n k : Nat} (h : Dv l = false) (hg : Dt l = some (n,k)) (hn : 1048576 < n) : BJ l = (21,[],[]):=by simp [BJ,h,hg,hn]
theorem GJ {l : List UInt8} {n k : Nat} (h : Dv l = false) (hg : Dt l = some (n,k)) (hn : ¬ 1048576 < n) (hl : l.length - k < 4 + n) : BJ l = (20,[],[]):=by
 simp only [BJ,h,hg]
 rw [if_neg (by simp),if_neg hn,if_pos (by simpa using hl)]
theorem I9 {l : List UInt8} {n k : Nat} (h : Dv l = false) (hg : Dt l = some (n,k)) (hn : ¬ 1048576 < n) (hl : ¬ l.length - k < 4 + n) (hs : (l.drop k).take 4 ≠ Ei (((l.drop k).take (4 + n)).drop 4)) : BJ l = (21,[],[]):=by
 simp only [BJ,h,hg]
 rw [if_neg (by simp),if_neg hn,if_neg (by simpa using hl),if_neg hs]
theorem Lb {l : List UInt8} {n k : Nat} (h : Dv l = false) (hg : Dt l = some (n,k)) (hn : ¬ 1048576 < n) (hl : ¬ l.length - k < 4 + n) (hs : (l.drop k).take 4 = Ei (((l.drop k).take (4 + n)).drop 4)) :
 BJ l = (0,((l.drop k).take (4 + n)).drop 4,(l.drop k).drop (4 + n)):=by
 simp only [BJ,h,hg]
 rw [if_neg (by simp),if_neg hn,if_neg (by simpa using hl),if_pos hs]
theorem Il {l : List UInt8} (h : (BJ l).1 = 0) : (BJ l).2.2.length + 5 <= l.length /\ (BJ l).2.1.length <= l.length:=by
 by_cases hc : Dv l = true
 · rw [Hr hc] at h; cases h
 have hc : Dv l = false:=by simpa using hc
 cases hg : Dt l with
 | none => rw [Ke hc hg] at h; cases h
 | some p =>
   obtain ⟨n,k⟩:=p
   have hp:=Nr hg
   by_cases hn : 1048576 < n
   · rw [ID hc hg hn] at h; cases h
   by_cases hl : l.length - k < 4 + n
   · rw [GJ hc hg hn hl] at h; cases h
   by_cases hs : (l.drop k).take 4 = Ei (((l.drop k).take (4 + n)).drop 4)
   · rw [Lb hc hg hn hl hs]
     simp; omega
   · rw [I9 hc hg hn hl hs] at h; cases h
def Bz (l : List UInt8) : List (List UInt8) × List UInt8:=
 if h : (BJ l).1 = 0 then ((BJ l).2.1 :: (Bz (BJ l).2.2).1,(Bz (BJ l).2.2).2) else ([],l)
termination_by l.length
decreasing_by all_goals (have:=(Il h).1; omega)
theorem Rz {l a r : List UInt8} (h : BJ l = (0,a,r)) : Bz l = (a :: (Bz r).1,(Bz r).2):=by
 rw [Bz,dif_pos (by rw [h]),h]
theorem Pu {l : List UInt8} (h : (BJ l).1 ≠ 0) : Bz l = ([],l):=by rw [Bz,dif_neg h]
theorem Pe (k : Nat) : ∀ n : Nat,n < 128 ^ (k + 1) -> ∀ j,j < (As n).length - 1 -> ∀ c,(As n)[j]? = some c -> 128 <= c.toNat:=by
 induction k with
 | zero => intro n h; rw [El (by simpa using h)]; simp
 | succ k ih =>
   intro n h
   by_cases h1 : n < 128
   · rw [El h1]; simp
   · rw [Ip (by omega)]
     intro j hj c hc
     cases j with
     | zero =>
       simp only [List.getElem?_cons_zero,Option.some.injEq] at hc
       subst hc
       rw [Hh (by omega)]; omega
     | succ j =>
       simp only [List.length_cons,Nat.add_one_sub_one] at hj
       rw [List.getElem?_cons_succ] at hc
       exact ih (n / 128) (by rw [Nat.pow_succ] at h; omega) j (by omega) c hc
theorem RZ (k : Nat) : ∀ n : Nat,n < 128 ^ (k + 1) -> ∃ c ∈ As n,c.toNat < 128:=by
 induction k with
 | zero =>
   intro n h
   have h : n < 128:=by simpa using h
   exact ⟨UInt8.ofNat n,by rw [El h]; simp,by rw [Hh (by omega)]; omega⟩
 | succ k ih =>
   intro n h
   by_cases h1 : n < 128
   · exact ⟨UInt8.ofNat n,by rw [El h1]; simp,by rw [Hh (by omega)]; omega⟩
   · obtain ⟨c,hc,h2⟩:=ih (n / 128) (by rw [Nat.pow_succ] at h; omega)
     exact ⟨c,by rw [Ip (by omega)]; exact List.mem_cons_of_mem _ hc,h2⟩
theorem Pk {l : List UInt8} {c : UInt8} (h : c ∈ l) (hc : c.toNat < 128) : Dv l = false:=by
 unfold Dv
 rw [Bool.and_eq_false_iff]
 right
 rw [List.all_eq_false]
 exact ⟨c,h,by simpa using hc⟩
theorem P7 {n : Nat} (hn : n <= 1048576) (r : List UInt8) : Dv (As n ++ r) = false:=by
 obtain ⟨c,hc,h⟩:=RZ 9 n (by simp; omega)
 exact Pk (List.mem_append_left _ hc) h
theorem Ia {n : Nat} (hn : n <= 1048576) : U64 n:=by unfold U64; omega
theorem Ta {l : List UInt8} (hl : l.length <= 1048576) (r : List UInt8) : BJ (Ai l ++ r) = (0,l,r):=by
 have e : Ai l ++ r = As l.length ++ (Ei l ++ (l ++ r)):=by simp [Ai]
 rw [e]
 have hg:=GK (Ia hl) (Ei l ++ (l ++ r))
 have hd : (As l.length ++ (Ei l ++ (l ++ r))).drop (As l.length).length = Ei l ++ (l ++ r):=by simp
 have h4:=Gq l
 have ht : (Ei l ++ (l ++ r)).take (4 + l.length) = Ei l ++ l:=by
  rw [<- List.append_assoc,List.take_left' (by simp [h4])]
 have hr : (Ei l ++ (l ++ r)).drop (4 + l.length) = r:=by
  rw [<- List.append_assoc,List.drop_left' (by simp [h4])]
 have:=Lb (P7 hl _) hg (by omega) (by simp [h4]) (by rw [hd,ht,List.take_left' h4,List.drop_left' h4])
 rw [this,hd,ht,hr,List.drop_left' h4]
theorem Uw {l : List UInt8} (hl : l.length <= 1048576) {k : Nat} (hk : k < (Ai l).length) : BJ ((Ai l).take k) = (20,[],[]):=by
 have hlen:=Fk l
 have h10:=Nx 2 l.length (by simp; omega)
 by_cases hc : k < (As l.length).length
 · apply Hr
   have e : (Ai l).take k = (As l.length).take k:=by rw [Ai,List.take_append_of_le_length (by omega)]
   rw [e]
   unfold Dv
   rw [Bool.and_eq_true,List.all_eq_true]
   refine ⟨by simp; omega,fun c hcm => ?_⟩
   obtain ⟨j,hj,rfl⟩:=List.getElem_of_mem hcm
   rw [List.length_take] at hj
   have:=Pe 9 l.length (by simp; omega) j (by omega) _ (List.getElem?_eq_getElem (by omega))
   simpa using this
 · have e : (Ai l).take k = As l.length ++ (Ei l ++ l).take (k - (As l.length).length):=by
     rw [Ai,List.take_append,List.take_of_length_le (by omega)]
   rw [e]
   refine GJ (P7 hl _) (GK (Ia hl) _) (by omega) ?_
   simp [Gq]
   omega
def A6 (ls : List (List UInt8)) : List UInt8:=ls.flatMap Ai
theorem EP (l : List UInt8) (ls : List (List UInt8)) : A6 (l :: ls) = Ai l ++ A6 ls:=rfl
theorem nextL_nil : BJ [] = (20,[],[]):=Hr rfl
theorem It {ls : List (List UInt8)} (h : ∀ l ∈ ls,l.length <= 1048576) (r : List UInt8) (hr : (BJ r).1 ≠ 0) : Bz (A6 ls ++ r) = (ls,r):=by
 induction ls with
 | nil => exact Pu hr
 | cons l ls ih =>
   rw [EP,List.append_assoc,Rz (Ta (h l (by simp)) _),ih fun m hm => h m (by simp [hm])]
theorem Fu {l : List UInt8} (hl : l.length <= 1048576) : (Ai l).length <= l.length + 14:=by
 rw [Fk]
 have:=Av (Ia hl)
 omega
end
end Go.Proofs.YtnafjlhohbhcoaaGreatDoor
