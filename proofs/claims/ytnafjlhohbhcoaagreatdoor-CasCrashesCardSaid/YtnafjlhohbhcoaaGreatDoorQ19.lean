/- Parts of the proof. -/
import Derived.Test.YtnafjlhohbhcoaaGreatDoorQ17
import Derived.Test.YtnafjlhohbhcoaaGreatDoorQ05
import Derived.Test.YtnafjlhohbhcoaaGreatDoorQ08
import Derived.Deep.CutBlock
import Derived.Deep.CutRange
import Derived.Deep.RegionHeld3
namespace Go.Proofs.YtnafjlhohbhcoaaGreatDoor
set_option linter.unusedVariables false
section
open Go.RowKit
theorem A0 (l : List UInt8) : (⟨l.toArray⟩ : ByteArray).size = l.length:=by show l.toArray.size = _; simp
theorem U4 (a b : List UInt8) : (⟨a.toArray⟩ : ByteArray) ++ ⟨b.toArray⟩ = ⟨(a ++ b).toArray⟩:=by rw [Le]
theorem XB {k v : ByteArray} : Du ⟨k,v,true⟩ = (As k.size ++ k.data.toList) ++ As 0:=by unfold Du NK; simp
theorem TZ {k v : ByteArray} : Du ⟨k,v,false⟩ = ((As k.size ++ k.data.toList) ++ As (v.size + 1)) ++ v.data.toList:=by unfold Du NK; simp
end
section
open Go.RowKit
theorem Q8 (l : List UInt8) : ∃ K : ByteArray,tv l = .string K /\ K.data.toList = l /\ K.size = l.length:=⟨⟨l.toArray⟩,rfl,rfl,A0 l⟩
theorem VG {K : ByteArray} {l : List UInt8} (h : K.data.toList = l) : K = ⟨l.toArray⟩:=by rw [<- h]
theorem Y8 {w w' : World} {b : Nat} {R : Option (List UInt8)} (h : EH w w' b R) {base : Nat} {E : TypeId} {sz : Nat} {v : Value} {n : Nat} {xs : List Value} (ho : w.ownsRow base E sz v n xs) (hb : b < base) : w'.ownsRow base E sz v n xs:=by
 refine ho.kept h.2 ?_
 cases hv : v.ownBlock with
 | none => exact .inl rfl
 | some k => exact .inr (fun e => by injection e with e; have:=(ho.lt k hv).1; omega)
theorem Aav (m : Nat) (R : Option (List UInt8)) : (CI (m : Int) R).1 <= m:=by rw [Gk]; exact MB m R
end
end Go.Proofs.YtnafjlhohbhcoaaGreatDoor
