/- Parts of the proof. -/
import Derived.Test.YtlkefgngefpkiaaGreatDoorQ56
import Derived.Test.YtlkefgngefpkiaaGreatDoorQ49
namespace Go.Proofs.YtlkefgngefpkiaaGreatDoor
set_option linter.unusedVariables false
open Go.ChangeShapes Go.WideShapes Go.ChangeAt Go.RowKit Go.Deep
instance : Inhabited I1:=⟨⟨0,.slice none 0 0,[],0,.slice none 0 0,[]⟩⟩
section
variable {H : Type} {enc : TypeId × Value -> H} {W : World} {base : Nat} {v : Value} {d : DataW H} {p : List MemPlace}
set_option maxRecDepth 100000 in
theorem Qq {ts : List TypeId} {ds : List (DataW H)} {j : Nat} (hval : Value.okWide Tryz.prog W .any base 53 v) (h : DataW.Trod enc Tryz.prog W 0 (fun _ => true) true 53 v d p)
 (hsz : (DataW.weightsEach Tryz.prog ts ds).all (· <= reachBytes) = true) (ht : ts[j]? = some 53) (hd : ds[j]? = some d) :
 ∃ a cap cs,v = .slice a (List.length cs) cap /\ Qc W (.slice a (List.length cs) cap) cs:=by
 obtain ⟨a0,len0,cap0,rfl⟩:=okWide_slice Tryz.underlying53 hval
 obtain ⟨fuel,hf⟩:=h
 have hf' : DataW.trod enc Tryz.prog W 0 (fun _ => true) true fuel 53 [.slice a0 len0 cap0] = some (d,p):=by simpa [Value.cells] using hf
 rcases Js Tryz.underlying53 Tryz.underlying57 (by kernel_rfl) (by kernel_rfl) hf' with ⟨h1,h2⟩ | ⟨a,len,cap,D,rest,h1,h2,h3,h4,h5⟩
 · injection h1 with e1 e2 e3
   subst e1; subst e2; subst e3
   exact ⟨none,0,[],rfl,by decide,none,0,rfl,.inl rfl⟩
 · injection h1 with e1 e2 e3
   subst e1; subst e2; subst e3
   have each : ∀ i,i < len0 -> ∃ c : I1,(W.cell? (a.add (i * 4)) = some (.int .i64 c.fuel) /\ W.cell? (a.add (i * 4 + 1)) = some c.keep /\ W.cell? (a.add (i * 4 + 2)) = some (.int .i64 c.more) /\ W.cell? (a.add (i * 4 + 3)) = some c.again) /\ LA W c:=fun i hi => by
    obtain ⟨vs,ys,n,hvl,hyl,hD,hcell,hfld⟩:=h5 i hi
    match vs,hvl,ys,hyl with
    | [v0,v1,v2,v3],_,[y0,y1,y2,y3],_ =>
      obtain ⟨u0,z0,eu0,ez0,t0⟩:=hfld 0 _ rfl
      obtain ⟨u1,z1,eu1,ez1,t1⟩:=hfld 1 _ rfl
      obtain ⟨u2,z2,eu2,ez2,t2⟩:=hfld 2 _ rfl
      obtain ⟨u3,z3,eu3,ez3,t3⟩:=hfld 3 _ rfl
      simp only [List.getElem?_cons_zero,List.getElem?_cons_succ,Option.some.injEq] at eu0 ez0 eu1 ez1 eu2 ez2 eu3 ez3
      subst eu0; subst ez0; subst eu1; subst ez1; subst eu2; subst ez2; subst eu3; subst ez3
      obtain ⟨k,ek,ekd,wk⟩:=DataW.trod_int Tryz.underlying3 t0
      obtain ⟨ks,hks,hkb⟩:=Jv t1
      obtain ⟨k2,ek2,ek2d,wk2⟩:=DataW.trod_int Tryz.underlying3 t2
      obtain ⟨ag,hag,hab⟩:=Jv t3
      simp only [List.cons.injEq,and_true] at ek ek2
      subst ek; subst ek2
      refine ⟨⟨k,v1,ks,k2,v3,ag⟩,⟨?_,?_,?_,?_⟩,⟨wk,wk2,hks,hag⟩⟩
      · simpa using hcell 0 (by simp)
      · simpa using hcell 1 (by simp)
      · simpa using hcell 2 (by simp)
      · simpa using hcell 3 (by simp)
   obtain ⟨q,hq⟩:=JT (α:=I1) each
   have hl : ((List.range len0).map q).length = len0:=by simp
   refine ⟨some a,cap0,(List.range len0).map q,by rw [hl],by rw [hl]; unfold maxLen at h3; omega,some a,cap0,rfl,?_⟩
   by_cases h0 : len0 = 0
   · exact .inl (List.eq_nil_of_length_eq_zero (by rw [hl]; exact h0))
   · obtain ⟨b,off,spot⟩:=a
     have h00:=(hq 0 (by omega)).1.1
     have hspot : spot = none:=by simpa [Addr.add] using World.cell?_spot h00
     subst hspot
     refine .inr ⟨b,off,rfl,fun i hi => ?_⟩
     rw [hl] at hi
     obtain ⟨⟨q0,q1,q2,q3⟩,ok⟩:=hq i hi
     simp only [List.getElem_map,List.getElem_range]
     rw [Addr.add_lit] at q0 q1 q2 q3
     exact ⟨q0,q1,q2,q3,ok⟩
end
end Go.Proofs.YtlkefgngefpkiaaGreatDoor
