/- Parts of the proof. -/
import Derived.Test.YtnafjlhohbhcoaaGreatDoorQ26
import Derived.Lib.SmallJoins
namespace Go.Proofs.YtnafjlhohbhcoaaGreatDoor
set_option linter.unusedVariables false
open Go.ChangeShapes Go.WideShapes Go.ChangeAt Go.RowKit Go.Deep
section
variable {H : Type} {enc : TypeId × Value -> H} {W : World} {base : Nat} {v : Value} {d : DataW H} {p : List MemPlace}
set_option maxRecDepth 100000 in
theorem PZ {fuel : Nat} {u : Value} {y : DataW H × List MemPlace} (hf : DataW.trod enc Tryz.prog W 0 (fun _ => true) true fuel 52 [u] = some y) :
 ∃ a cap ss,u = .slice a (List.length ss) cap /\ GY W a ss.length (fun i => .string ((ss : List ByteArray).getD i ByteArray.empty)):=by
 rcases open_strings Tryz.underlying52 Tryz.underlying9 (by kernel_rfl) hf with ⟨hcs,hx⟩ | ⟨x,len,c,ss,hcs,_,hl,hm,hz,hx,hcell,hws⟩
 · simp only [List.cons.injEq,and_true] at hcs
   subst hcs
   exact ⟨none,0,[],rfl,⟨by simp,.inl rfl⟩⟩
 · simp only [List.cons.injEq,and_true] at hcs
   subst hcs
   simp only [if_true] at hz
   have hlen : (ss.take len).length = len:=by rw [List.length_take]; omega
   refine ⟨some x,c,ss.take len,by rw [hlen],?_⟩
   rw [hlen]
   refine VX (n:=len) (Nat.le_refl _) (by omega) fun i hi => ?_
   rw [hcell i (by omega)]
   have hi' : i < ss.length:=by omega
   congr 2
   simp [List.getD,hi,hi']
set_option maxRecDepth 100000 in
theorem SG {ts : List TypeId} {ds : List (DataW H)} {j : Nat} (hval : Value.okWide Tryz.prog W .any base 60 v) (h : DataW.Trod enc Tryz.prog W 0 (fun _ => true) true 60 v d p)
 (hsz : (DataW.weightsEach Tryz.prog ts ds).all (· <= reachBytes) = true) (ht : ts[j]? = some 60) (hd : ds[j]? = some d) :
 ∃ (a0 a1 a2 : Option Addr) (c0 c1 c2 : Nat) (l b : List Aa) (ks : List ByteArray) (z : Int),v = .agg #[.slice a0 l.length c0,.slice a1 ks.length c1,.slice a2 b.length c2,.int .i64 z] /\ Aj W (.slice a0 l.length c0) l /\ GY W a1 ks.length (fun i => .string (ks.getD i ByteArray.empty)) /\ Aj W (.slice a2 b.length c2) b /\ (Lit.int .i64 z).wf = true:=by
 obtain ⟨v0,v1,v2,v3,y0,y1,y2,y3,n,rfl,_,_,t0,t1,t2,t3⟩:=Joins.open_agg4 Tryz.underlying60 (by kernel_rfl) (by kernel_rfl) hval h
 obtain ⟨a0,c0,l,rfl,h0,-,-⟩:=Gu t0
 obtain ⟨a1,c1,ks,rfl,h1⟩:=PZ t1
 obtain ⟨a2,c2,b,rfl,h2,-,-⟩:=Gu t2
 obtain ⟨z,e3,_,w3⟩:=DataW.trod_int Tryz.underlying3 t3
 simp only [List.cons.injEq,and_true] at e3
 subst e3
 exact ⟨a0,a1,a2,c0,c1,c2,l,b,ks,z,rfl,h0,h1,h2,w3⟩
end
end Go.Proofs.YtnafjlhohbhcoaaGreatDoor
