/- Parts of the proof. -/
import Derived.Test.YtlkefgngefpkiaaGreatDoorQ01
namespace Go.Proofs.YtlkefgngefpkiaaGreatDoor
set_option linter.unusedVariables false
def GV (k : ByteArray) : ByteArray:=k ++ ⟨#[0]⟩
theorem lt_snoc0 : ∀ a b : List UInt8,a < b ++ [0] ↔ ¬ b < a
 | [],[] => by simp
 | [],y :: s => by simp
 | x :: r,[] => by
   simp only [List.nil_append,List.nil_lt_cons,not_true_eq_false,iff_false]
   intro h
   rcases List.cons_lt_cons_iff.1 h with h | ⟨h1,h2⟩
   · exact absurd h (by simp [UInt8.lt_iff_toNat_lt])
   · exact List.not_lt_nil _ h2
 | x :: r,y :: s => by
   rw [List.cons_append,List.cons_lt_cons_iff,List.cons_lt_cons_iff,lt_snoc0 r s]
   constructor
   · rintro (h | ⟨rfl,h⟩)
     · rintro (h2 | ⟨rfl,h2⟩)
       · exact UInt8.lt_asymm h h2
       · exact UInt8.lt_irrefl _ h
     · rintro (h2 | ⟨_,h2⟩)
       · exact UInt8.lt_irrefl _ h2
       · exact h h2
   · intro h
     by_cases e : x = y
     · subst e
       exact .inr ⟨rfl,fun h2 => h (.inr ⟨rfl,h2⟩)⟩
     · left
       have h1 : ¬ y < x:=fun h2 => h (.inl h2)
       simp only [UInt8.lt_iff_toNat_lt] at h1 ⊢
       have : x.toNat ≠ y.toNat:=fun e2 => e (UInt8.toNat_inj.1 e2)
       omega
theorem Yf (a k : ByteArray) : AR a (GV k) = !AR k a:=by
 have h1 : AR a (GV k) = true ↔ ¬ (AR k a = true):=by
  rw [DR,DR]
  have e : (GV k).data.toList = k.data.toList ++ [0]:=by simp [GV]
  rw [e]
  exact lt_snoc0 _ _
 cases h : AR k a with
 | true => rw [h] at h1; simpa using h1
 | false => rw [h] at h1; simpa using h1
theorem Sx {m : List Aa} (h : Aj m) {i : Nat} (hi : i < m.length) : m.filter (inM (GV m[i].key) ⟨#[]⟩) = m.drop (i + 1):=by
 have e : m = m.take (i + 1) ++ m.drop (i + 1):=(List.take_append_drop _ _).symm
 have hin : ∀ x,inM (GV m[i].key) ⟨#[]⟩ x = AR m[i].key x.key:=fun x => by
  unfold inM
  rw [Yf,Bool.not_not]
  have h0 : decide ((⟨#[]⟩ : ByteArray).size = 0) = true:=by decide
  rw [h0,Bool.true_or,Bool.and_true]
 have h1 : (m.take (i + 1)).filter (inM (GV m[i].key) ⟨#[]⟩) = []:=by
  rw [List.filter_eq_nil_iff]
  intro x hx
  rw [hin]
  obtain ⟨j,hj,rfl⟩:=List.mem_iff_getElem.1 hx
  rw [List.length_take] at hj
  rw [List.getElem_take]
  rcases Nat.lt_or_ge j i with hji | hji
  · have:=List.pairwise_iff_getElem.1 h j i (by omega) hi hji
    rw [Kk this]
    simp
  · have : j = i:=by omega
    subst this
    rw [Br]
    simp
 have h2 : (m.drop (i + 1)).filter (inM (GV m[i].key) ⟨#[]⟩) = m.drop (i + 1):=by
  rw [List.filter_eq_self]
  intro x hx
  rw [hin]
  obtain ⟨j,hj,rfl⟩:=List.mem_iff_getElem.1 hx
  rw [List.length_drop] at hj
  rw [List.getElem_drop]
  exact List.pairwise_iff_getElem.1 h i (i + 1 + j) hi (by omega) (by omega)
 generalize inM (GV m[i].key) ⟨#[]⟩ = f at *
 calc m.filter f = (m.take (i + 1) ++ m.drop (i + 1)).filter f:=by rw [List.take_append_drop]
  _ = m.drop (i + 1):=by rw [List.filter_append,h1,h2,List.nil_append]
def GU (m : List Aa) (fr : ByteArray) (i : Nat) : Prop:=i <= m.length /\ m.filter (inM fr ⟨#[]⟩) = m.drop i
theorem GU.start (m : List Aa) : GU m ⟨#[]⟩ 0:=by
 refine ⟨Nat.zero_le _,?_⟩
 rw [List.filter_eq_self.2 (fun x _ => ?_)]
 · rfl
 · unfold inM
   rw [MM]
   rfl
theorem GU.scan {m : List Aa} {fr : ByteArray} {i : Nat} (h : GU m fr i) (most : Int) : AZ m fr ⟨#[]⟩ most = (m.drop i).take most.toNat:=by
 unfold AZ
 rw [h.2]
theorem GU.next {m : List Aa} (hr : Aj m) {fr : ByteArray} {i : Nat} (h : GU m fr i) {most : Int} {l : List Aa} (hl : l = AZ m fr ⟨#[]⟩ most) (hp : 0 < l.length) : GU m (GV (l[l.length - 1]).key) (i + l.length) /\ m.take (i + l.length) = m.take i ++ l:=by
 have e:=h.scan most
 rw [<- hl] at e
 have hle : i + l.length <= m.length:=by
  have:=h.1
  have h2 : l.length <= (m.drop i).length:=by rw [e,List.length_take]; omega
  rw [List.length_drop] at h2
  omega
 have hlast : l[l.length - 1] = m[i + l.length - 1]:=by
  have : ∀ j (hj : j < l.length),l[j] = m[i + j]:=fun j hj => by
   subst e
   rw [List.getElem_take,List.getElem_drop]
  rw [this (l.length - 1) (by omega)]
  congr 1
  omega
 refine ⟨⟨hle,?_⟩,?_⟩
 · rw [hlast,Sx hr (by omega)]
   congr 1
   omega
 · rw [List.take_add]
   congr 1
   have h3 : l.length = min most.toNat (m.drop i).length:=by rw [e,List.length_take]
   exact (List.take_eq_take_iff.2 (by rw [h3]; omega)).trans e.symm
end Go.Proofs.YtlkefgngefpkiaaGreatDoor
