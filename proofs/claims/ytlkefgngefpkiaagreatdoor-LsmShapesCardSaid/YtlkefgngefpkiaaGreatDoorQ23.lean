/- Parts of the proof. -/
import Derived.Test.YtlkefgngefpkiaaGreatDoorQ01
import Derived.Test.YtlkefgngefpkiaaGreatDoorQ07
namespace Go.Proofs.YtlkefgngefpkiaaGreatDoor
set_option linter.unusedVariables false
open Go.RowKit Go.Maps Go.WideMaps
def JI (x : Aa) : DU:=.agg [.lit (.string x.key.data.toList),.lit (.string x.val.data.toList),.lit (.bool x.gone)]
def IR (v : Value) : Option (DU × List MemPlace):=match v with
 | .agg ⟨[.string a,.string b,.bool c]⟩ => some (JI ⟨a,b,c⟩,[])
 | _ => none
theorem Yt (x : Aa) : IR x.val' = some (JI x,[]):=rfl
theorem Xs {v : Value} {x : Aa} {ps : List MemPlace} (h : IR v = some (JI x,ps)) : v = x.val':=by
 unfold IR at h
 split at h
 · rename_i a b c
   obtain ⟨xk,xv,xg⟩:=x
   simp only [JI,Option.some.injEq,Prod.mk.injEq,DataW.agg.injEq,List.cons.injEq,DataW.lit.injEq,Lit.string.injEq,Lit.bool.injEq,and_true] at h
   obtain ⟨⟨h1,h2,h3⟩,_⟩:=h
   have e1 : a = xk:=ByteArray.ext (Array.toList_inj.1 h1)
   have e2 : b = xv:=ByteArray.ext (Array.toList_inj.1 h2)
   rw [e1,e2,h3]
   rfl
 · cases h
theorem Lk {a b : ByteArray} (h : a ≠ b) : (Lit.string a.data.toList) ≠ .string b.data.toList:=fun e => by
 injection e with e
 exact h (ByteArray.ext (Array.toList_inj.1 e))
theorem MF (a : ByteArray) : WideAt.IsKeyLit (.string a.data.toList):=trivial
def I5 (w : World) (b k : Nat) (l : List Aa) : Prop:=
 Aj l /\ ∃ D,w.ownsMap Tryz.prog 9 IR b k D /\ Maps.size D = l.length /\ ∀ s : ByteArray,D.atKey (.string s.data.toList) (JI zeroP) = JI ((CG s l).getD zeroP) /\ Maps.has D (.string s.data.toList) = (CG s l).isSome
theorem I5.made (w : World) : I5 (w.alloc (.map #[] 0)) w.heap.size 0 []:=⟨List.Pairwise.nil,_,World.ownsMap_made _ _ _ _,rfl,fun s => ⟨rfl,rfl⟩⟩
theorem I5.kept {w w' : World} {b k : Nat} {l : List Aa} {G : Nat -> Prop} (h : I5 w b k l) (t : Ac G w w') (hg : ¬ G b) : I5 w' b k l:=by
 obtain ⟨hr,D,h1,h2⟩:=h
 exact ⟨hr,D,t.map h1 hg,h2⟩
theorem I5.put {w : World} {b k : Nat} {l : List Aa} (h : I5 w b k l) (x : Aa) (hs : x.key.size <= maxLen) (hk : k < maxLen) :
 ∃ w',(Instr.mapUpdate 59 (.map (some b)) (.string x.key) x.val').run Tryz.prog w = .ok () w' /\ I5 w' b (k + 1) (Cn x l) /\ w.grownBy w' (some b):=by
 obtain ⟨hr,D,h1,h2,h3⟩:=h
 have hK:=string_keyed Tryz.underlying9
 obtain ⟨w',hrun,ho,hg⟩:=World.ownsMap.update h1 hK Tryz.underlying59 hk (keyOf_string_mk Tryz.underlying9 hs) (val:=x.val') (d:=JI x) (ps:=[]) (Yt x)
 refine ⟨w',hrun,⟨Cz hr,_,ho,?_,fun s => ?_⟩,hg⟩
 · rw [size_put (World.ownsMap.tidy h1 hK),Sb,h2,(h3 x.key).2]
 · rw [Xt hr]
   by_cases hx : s = x.key
   · subst hx
     rw [if_pos rfl,atKey_put_same (World.ownsMap.isMap h1) (MF _),has_put_same (World.ownsMap.isMap h1) (MF _)]
     exact ⟨rfl,rfl⟩
   · rw [if_neg hx,atKey_put_other (Lk hx),has_put_other (Lk hx)]
     exact h3 s
end Go.Proofs.YtlkefgngefpkiaaGreatDoor
