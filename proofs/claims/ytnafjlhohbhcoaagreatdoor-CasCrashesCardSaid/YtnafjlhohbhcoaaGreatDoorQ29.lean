/- Parts of the proof. -/
import Derived.Test.YtnafjlhohbhcoaaGreatDoorQ03
import Derived.Test.YtnafjlhohbhcoaaGreatDoorQ02
import Derived.Lib.ItoaNum
import Derived.Lib.Repeat
namespace Go.Proofs.YtnafjlhohbhcoaaGreatDoor
set_option linter.unusedVariables false
def decN : Nat -> Nat -> List UInt8
 | 0,_ => []
 | k + 1,n => decN k (n / 10) ++ [UInt8.ofNat (48 + n % 10)]
def I3 (c : UInt8) : Bool:=decide (48 <= c.toNat /\ c.toNat <= 57)
def IX (l : List UInt8) : Nat:=l.foldl (fun a c => 10 * a + (c.toNat - 48)) 0
theorem decN_len : ∀ k n,(decN k n).length = k
 | 0,_ => rfl
 | k + 1,n => by rw [decN,List.length_append,decN_len k]; rfl
theorem QH (n : Nat) : (UInt8.ofNat (48 + n % 10)).toNat = 48 + n % 10:=by
 rw [UInt8.toNat_ofNat']
 omega
theorem Hx (l : List UInt8) (c : UInt8) : IX (l ++ [c]) = 10 * IX l + (c.toNat - 48):=by
 unfold IX
 rw [List.foldl_append]; rfl
theorem valN_dec : ∀ k n,n < 10 ^ k -> IX (decN k n) = n
 | 0,n,h => by simp at h; subst h; rfl
 | k + 1,n,h => by
   rw [Nat.pow_succ] at h
   rw [decN,Hx,valN_dec k (n / 10) (by omega),QH]
   omega
theorem decN_all : ∀ k n,(decN k n).all I3 = true
 | 0,_ => rfl
 | k + 1,n => by
   rw [decN,List.all_append,decN_all k]
   simp only [List.all_cons,List.all_nil,Bool.and_true,Bool.true_and,I3,QH]
   exact decide_eq_true (by omega)
theorem dec_valN : ∀ (k : Nat) (l : List UInt8),l.length = k -> l.all I3 = true -> decN k (IX l) = l /\ IX l < 10 ^ k
 | 0,l,h,_ => by
   have:=List.length_eq_zero_iff.1 h
   subst this
   exact ⟨rfl,by decide⟩
 | k + 1,l,h,ha => by
   obtain ⟨m,c,rfl⟩ : ∃ m c,l = m ++ [c]:=by
    have hne : l ≠ []:=by rintro rfl; simp at h
    exact ⟨l.dropLast,l.getLast hne,(List.dropLast_concat_getLast hne).symm⟩
   rw [List.length_append] at h
   rw [List.all_append] at ha
   simp only [List.all_cons,List.all_nil,Bool.and_true,Bool.and_eq_true,I3,decide_eq_true_eq] at ha
   obtain ⟨ha1,hc⟩:=ha
   obtain ⟨i1,i2⟩:=dec_valN k m (by simpa using h) ha1
   rw [Hx,decN]
   have e1 : (10 * IX m + (c.toNat - 48)) / 10 = IX m:=by omega
   have e2 : (10 * IX m + (c.toNat - 48)) % 10 = c.toNat - 48:=by omega
   rw [e1,e2,i1,show 48 + (c.toNat - 48) = c.toNat by omega,Nat.pow_succ]
   refine ⟨by simp,by omega⟩
theorem YR {k n m : Nat} (hn : n < 10 ^ k) (hm : m < 10 ^ k) (h : decN k n = decN k m) : n = m:=by
 rw [<- valN_dec k n hn,h,valN_dec k m hm]
theorem VV (c d : UInt8) : ∀ l m : List UInt8,l.length = m.length -> (bytesBefore (l ++ [c]) (m ++ [d]) = true ↔ bytesBefore l m = true \/ (l = m /\ c < d))
 | [],[],_ => by simp [bytesBefore]
 | [],_ :: _,h => by simp at h
 | _ :: _,[],h => by simp at h
 | a :: l,b :: m,h => by
   have ih:=VV c d l m (by simpa using h)
   simp only [List.cons_append,bytesBefore,Bool.or_eq_true,Bool.and_eq_true,decide_eq_true_eq,beq_iff_eq,ih,List.cons.injEq]
   constructor
   · rintro (h1 | ⟨rfl,h1 | ⟨rfl,h1⟩⟩)
     · exact .inl (.inl h1)
     · exact .inl (.inr ⟨rfl,h1⟩)
     · exact .inr ⟨⟨rfl,rfl⟩,h1⟩
   · rintro ((h1 | ⟨rfl,h1⟩) | ⟨⟨rfl,rfl⟩,h1⟩)
     · exact .inl h1
     · exact .inr ⟨rfl,.inl h1⟩
     · exact .inr ⟨rfl,.inr ⟨rfl,h1⟩⟩
theorem decN_lt : ∀ k n m,n < 10 ^ k -> m < 10 ^ k -> (bytesBefore (decN k n) (decN k m) = true ↔ n < m)
 | 0,n,m,hn,hm => by simp at hn hm; subst hn; subst hm; simp [decN,bytesBefore]
 | k + 1,n,m,hn,hm => by
   rw [Nat.pow_succ] at hn hm
   rw [decN,decN,VV _ _ _ _ (by rw [decN_len,decN_len]),decN_lt k (n / 10) (m / 10) (by omega) (by omega),UInt8.lt_iff_toNat_lt,QH,QH]
   constructor
   · rintro (h | ⟨h,h2⟩)
     · omega
     · have:=YR (by omega) (by omega) h
       omega
   · intro h
     by_cases h1 : n / 10 < m / 10
     · exact .inl h1
     · have h2 : n / 10 = m / 10:=by omega
       exact .inr ⟨by rw [h2],by omega⟩
theorem decN_zero : ∀ k,decN k 0 = Lib.repeatL [48] k
 | 0 => rfl
 | k + 1 => by
   rw [decN,Nat.zero_div,decN_zero k]
   have : ∀ k,Lib.repeatL [(48 : UInt8)] k ++ [48] = 48 :: Lib.repeatL [48] k:=by
    intro k
    induction k with
    | zero => rfl
    | succ k ih => rw [Lib.repeatL,List.append_assoc,ih]; rfl
   exact this k
theorem nDigits_le : ∀ k n,1 <= k -> n < 10 ^ k -> Lib.nDigits n <= k:=by
 intro k
 induction k with
 | zero => intro n h; omega
 | succ k ih =>
   intro n _ h
   by_cases h10 : n < 10
   · rw [Lib.nDigits_small h10]; omega
   · rw [Lib.nDigits_big h10]
     rw [Nat.pow_succ] at h
     have hk : 1 <= k:=by
      rcases Nat.eq_zero_or_pos k with rfl | h'
      · simp at h; omega
      · exact h'
     have:=ih (n / 10) hk (by omega)
     omega
theorem decN_pad : ∀ k n,1 <= k -> n < 10 ^ k -> Lib.repeatL [48] (k - (Lib.decDigits n).length) ++ Lib.decDigits n = decN k n:=by
 intro k
 induction k with
 | zero => intro n h; omega
 | succ k ih =>
   intro n _ h
   by_cases h10 : n < 10
   · rw [Lib.decDigits_one h10,decN,Nat.div_eq_of_lt h10,Nat.mod_eq_of_lt h10,decN_zero]; rfl
   · rw [Nat.pow_succ] at h
     have hk : 1 <= k:=by
      rcases Nat.eq_zero_or_pos k with rfl | h'
      · simp at h; omega
      · exact h'
     rw [Lib.decDigits,dif_neg h10,decN,<- ih (n / 10) hk (by omega),List.length_append]
     rw [show k + 1 - ((Lib.decDigits (n / 10)).length + [UInt8.ofNat (48 + n % 10)].length) = k - (Lib.decDigits (n / 10)).length by simp,List.append_assoc]
def Af (nm : Key) (n : Nat) : Key:=nm ++ decN 8 n
def AE (nm f : Key) : Nat:=if Lib.hasPrefix f nm = true /\ (f.drop nm.length).length = 8 /\ (f.drop nm.length).all I3 = true then IX (f.drop nm.length) else 0
theorem Jd (nm : Key) (n : Nat) : (Af nm n).length = nm.length + 8:=by rw [Af,List.length_append,decN_len]
theorem GQ (nm : Key) {n : Nat} (h : n < 100000000) : AE nm (Af nm n) = n:=by
 unfold AE Af
 rw [List.drop_left,decN_len,if_pos ⟨by unfold Lib.hasPrefix; rw [List.isPrefixOf_iff_prefix]; exact List.prefix_append _ _,rfl,decN_all 8 n⟩]
 exact valN_dec 8 n (by simpa using h)
theorem JY {nm f : Key} (h : AE nm f ≠ 0) : f = Af nm (AE nm f) /\ AE nm f < 100000000:=by
 unfold AE at h ⊢
 split at h
 · rename_i hc
   rw [if_pos hc]
   obtain ⟨h1,h2,h3⟩:=hc
   obtain ⟨i1,i2⟩:=dec_valN 8 _ h2 h3
   unfold Lib.hasPrefix at h1
   rw [List.isPrefixOf_iff_prefix] at h1
   obtain ⟨t,rfl⟩:=h1
   rw [List.drop_left] at i1 i2 ⊢
   exact ⟨by unfold Af; rw [i1],by simpa using i2⟩
 · exact absurd rfl h
theorem RQ {nm : Key} {a b : Nat} (ha : a < 100000000) (hb : b < 100000000) (h : Af nm a = Af nm b) : a = b:=by
 rw [<- GQ nm ha,h,GQ nm hb]
theorem UI (p : Key) (a b : Key) : bytesBefore (p ++ a) (p ++ b) = bytesBefore a b:=by
 induction p with
 | nil => rfl
 | cons c r ih => simp [bytesBefore,ih]
theorem N0 (nm : Key) {a b : Nat} (ha : a < 100000000) (hb : b < 100000000) : bytesBefore (Af nm a) (Af nm b) = decide (a < b):=by
 unfold Af
 rw [UI,Bool.eq_iff_iff,decN_lt 8 a b (by simpa using ha) (by simpa using hb),decide_eq_true_eq]
theorem Uk {nm : Key} (n : Nat) (h : nm.length <= 8) : Cp (Af nm n) = true:=by
 unfold Cp
 rw [Jd]
 exact decide_eq_true (by omega)
def AD (nm : Key) (l : List (Key × Ae)) : List Nat:=(l.map fun x => AE nm x.1).filter fun n => decide (1 <= n)
def F4 (nm : Key) (l : List (Key × Ae)) : Nat:=(AD nm l).getLastD 0 + 1
def Dy (nm : Key) (l : List (Key × Ae)) : List (List UInt8):=l.flatMap fun x => if AE nm x.1 = 0 then [] else (Bz x.2.bytes).1
def Bu (nm : Key) (l : List (Key × Ae)) : List (Key × Ae):=l.filter fun x => !(AE nm x.1 == 0)
theorem Mt (nm : Key) (l : List (Key × Ae)) : AD nm l = (Bu nm l).map fun x => AE nm x.1:=by
 induction l with
 | nil => rfl
 | cons x r ih =>
   unfold AD Bu at *
   rw [List.map_cons,List.filter_cons,List.filter_cons]
   by_cases h : AE nm x.1 = 0
   · rw [if_neg (by simp [h]),if_neg (by simp [h]),ih]
   · rw [if_pos (by simp; omega),if_pos (by simp [h]),ih,List.map_cons]
theorem Nb (nm : Key) (l : List (Key × Ae)) : Dy nm l = (Bu nm l).flatMap fun x => (Bz x.2.bytes).1:=by
 induction l with
 | nil => rfl
 | cons x r ih =>
   unfold Dy Bu at *
   rw [List.flatMap_cons,List.filter_cons,ih]
   by_cases h : AE nm x.1 = 0
   · rw [if_pos h,if_neg (by simp [h])]; rfl
   · rw [if_neg h,if_pos (by simp [h]),List.flatMap_cons]
theorem YZ {nm : Key} {k : Key} {f : Ae} (h : AE nm k = 0) (l : List (Key × Ae)) : Bu nm (Bh (k,f) l) = Bu nm l:=by
 induction l with
 | nil => simp [Bh,Bu,h]
 | cons x r ih =>
   unfold Bh
   split
   · unfold Bu
     rw [List.filter_cons,if_neg (by simp [h])]
   · unfold Bu at *
     rw [List.filter_cons,List.filter_cons,ih]
theorem PF (nm k : Key) (l : List (Key × Ae)) : Bu nm (Bw k l) = Bw k (Bu nm l):=by
 unfold Bu Bw
 rw [List.filter_filter,List.filter_filter]
 congr 1
 funext x
 rw [Bool.and_comm]
end Go.Proofs.YtnafjlhohbhcoaaGreatDoor
