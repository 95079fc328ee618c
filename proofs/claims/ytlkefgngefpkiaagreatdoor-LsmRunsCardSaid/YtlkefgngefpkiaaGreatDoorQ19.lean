/- Parts of the proof. -/
import Derived.Test.YtlkefgngefpkiaaGreatDoorQ17
import Derived.Test.YtlkefgngefpkiaaGreatDoorQ05
import Derived.Test.YtlkefgngefpkiaaGreatDoorQ08
import Derived.Deep.CutBlock
import Derived.Deep.CutRange
import Derived.Deep.RegionHeld3
namespace Go.Proofs.YtlkefgngefpkiaaGreatDoor
set_option linter.unusedVariables false
section
open Go.RowKit
theorem A0 (l : List UInt8) : (⟨l.toArray⟩ : ByteArray).size = l.length:=by show l.toArray.size = _; simp
theorem V0 (a b : List UInt8) : (⟨a.toArray⟩ : ByteArray) ++ ⟨b.toArray⟩ = ⟨(a ++ b).toArray⟩:=by rw [L0]
theorem X4 {k v : ByteArray} : D1 ⟨k,v,true⟩ = (As k.size ++ k.data.toList) ++ As 0:=by unfold D1 Od; simp
theorem Vn {k v : ByteArray} : D1 ⟨k,v,false⟩ = ((As k.size ++ k.data.toList) ++ As (v.size + 1)) ++ v.data.toList:=by unfold D1 Od; simp
end
section
open Go.RowKit
theorem Q0 (l : List UInt8) : ∃ K : ByteArray,tv l = .string K /\ K.data.toList = l /\ K.size = l.length:=⟨⟨l.toArray⟩,rfl,rfl,A0 l⟩
theorem VR {K : ByteArray} {l : List UInt8} (h : K.data.toList = l) : K = ⟨l.toArray⟩:=by rw [<- h]
theorem Yp {w w' : World} {b : Nat} {R : Option (List UInt8)} (h : ER w w' b R) {base : Nat} {E : TypeId} {sz : Nat} {v : Value} {n : Nat} {xs : List Value} (ho : w.ownsRow base E sz v n xs) (hb : b < base) : w'.ownsRow base E sz v n xs:=by
 refine ho.kept h.2 ?_
 cases hv : v.ownBlock with
 | none => exact .inl rfl
 | some k => exact .inr (fun e => by injection e with e; have:=(ho.lt k hv).1; omega)
theorem Abv (m : Nat) (R : Option (List UInt8)) : (CW (m : Int) R).1 <= m:=by rw [Gu]; exact MO m R
end
end Go.Proofs.YtlkefgngefpkiaaGreatDoor
