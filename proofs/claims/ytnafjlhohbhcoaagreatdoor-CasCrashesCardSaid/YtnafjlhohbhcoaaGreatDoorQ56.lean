/- Parts of the proof. -/
import Derived.Test.YtnafjlhohbhcoaaGreatDoorQ26
import Derived.Test.YtnafjlhohbhcoaaGreatDoorQ40
import Derived.Test.YtnafjlhohbhcoaaGreatDoorQ54
namespace Go.Proofs.YtnafjlhohbhcoaaGreatDoor
set_option linter.unusedVariables false
open Go.ChangeShapes Go.WideShapes Go.ChangeAt Go.RowKit Go.Deep
instance : Inhabited FJ:=⟨⟨0,.slice none 0 0,[],.slice none 0 0,[],⟨#[]⟩,⟨#[]⟩,0,false⟩⟩
section
variable {H : Type} {enc : TypeId × Value -> H} {W : World} {base : Nat} {v : Value} {d : DataW H} {p : List MemPlace}
set_option maxRecDepth 100000 in
theorem If {ts : List TypeId} {ds : List (DataW H)} {j : Nat} (hval : Value.okWide Tryz.prog W .any base 22 v) (h : DataW.Trod enc Tryz.prog W 0 (fun _ => true) true 22 v d p)
 (hsz : (DataW.weightsEach Tryz.prog ts ds).all (· <= reachBytes) = true) (ht : ts[j]? = some 22) (hd : ds[j]? = some d) :
 ∃ a cap cs,v = .slice a (List.length cs) cap /\ Jr W (.slice a (List.length cs) cap) cs:=by
 obtain ⟨a0,len0,cap0,rfl⟩:=okWide_slice Tryz.underlying22 hval
 obtain ⟨fuel,hf⟩:=h
 have hf' : DataW.trod enc Tryz.prog W 0 (fun _ => true) true fuel 22 [.slice a0 len0 cap0] = some (d,p):=by simpa [Value.cells] using hf
 rcases Lt Tryz.underlying22 Tryz.underlying36 (by kernel_rfl) (by kernel_rfl) hf' with ⟨h1,h2⟩ | ⟨a,len,cap,D,rest,h1,h2,h3,h4,h5⟩
 · injection h1 with e1 e2 e3
   subst e1; subst e2; subst e3
   exact ⟨none,0,[],rfl,by decide,none,0,rfl,.inl rfl⟩
 · injection h1 with e1 e2 e3
   subst e1; subst e2; subst e3
   have h4' : d = .slice ((List.range len0).map D) rest:=h4
   have each : ∀ i,i < len0 -> ∃ c : FJ,(W.cell? (a.add (i * 7)) = some (.int .i64 c.kind) /\ W.cell? (a.add (i * 7 + 1)) = some c.cv /\ W.cell? (a.add (i * 7 + 2)) = some c.bv /\ W.cell? (a.add (i * 7 + 3)) = some (.string c.key) /\ W.cell? (a.add (i * 7 + 4)) = some (.string c.frm) /\ W.cell? (a.add (i * 7 + 5)) = some (.int .i64 c.most) /\ W.cell? (a.add (i * 7 + 6)) = some (.bool c.all)) /\ Ou W c:=fun i hi => by
    obtain ⟨vs,ys,n,hvl,hyl,hD,hcell,hfld⟩:=h5 i hi
    match vs,hvl,ys,hyl with
    | [v0,v1,v2,v3,v4,v5,v6],_,[y0,y1,y2,y3,y4,y5,y6],_ =>
      obtain ⟨u0,z0,eu0,ez0,t0⟩:=hfld 0 _ rfl
      obtain ⟨u1,z1,eu1,ez1,t1⟩:=hfld 1 _ rfl
      obtain ⟨u2,z2,eu2,ez2,t2⟩:=hfld 2 _ rfl
      obtain ⟨u3,z3,eu3,ez3,t3⟩:=hfld 3 _ rfl
      obtain ⟨u4,z4,eu4,ez4,t4⟩:=hfld 4 _ rfl
      obtain ⟨u5,z5,eu5,ez5,t5⟩:=hfld 5 _ rfl
      obtain ⟨u6,z6,eu6,ez6,t6⟩:=hfld 6 _ rfl
      simp only [List.getElem?_cons_zero,List.getElem?_cons_succ,Option.some.injEq] at eu0 ez0 eu1 ez1 eu2 ez2 eu3 ez3 eu4 ez4 eu5 ez5 eu6 ez6
      subst eu0; subst ez0; subst eu1; subst ez1; subst eu2; subst ez2; subst eu3; subst ez3; subst eu4; subst ez4; subst eu5; subst ez5; subst eu6; subst ez6
      obtain ⟨k,ek,ekd,wk⟩:=DataW.trod_int Tryz.underlying3 t0
      obtain ⟨ya,yc,cds,ec,hC,-,-⟩:=Gu t1
      obtain ⟨xa,xc,ps,eb,hR,-,-⟩:=Gu t2
      obtain ⟨s3,es3,es3d,ws3⟩:=DataW.trod_string Tryz.underlying9 t3
      obtain ⟨s4,es4,es4d,ws4⟩:=DataW.trod_string Tryz.underlying9 t4
      obtain ⟨k5,ek5,ek5d,wk5⟩:=DataW.trod_int Tryz.underlying3 t5
      obtain ⟨al,eal,eald⟩:=DataW.trod_bool Tryz.underlying4 t6
      simp only [List.cons.injEq,and_true] at ek es3 es4 ek5 eal
      subst ek; subst ec; subst eb; subst es3; subst es4; subst ek5; subst eal
      have hky : ∀ (j : Nat) (s : ByteArray) (y : DataW H),[3,30,30,9,9,3,4][j]? = some 9 -> [y0.1,y1.1,y2.1,y3.1,y4.1,y5.1,y6.1][j]? = some y -> y = .lit (.string s.data.toList) -> s.size <= 140737488351232:=fun j s y e1 e2 e3 => by
       have hm : D i ∈ (List.range len0).map D:=List.mem_map.2 ⟨i,List.mem_range.2 hi,rfl⟩
       have h9:=List.all_eq_true.1 hsz _ (DataW.weights_mem_each ht hd s.data.toList.length (by
        rw [h4']
        simp only [DataW.weights,Tryz.underlying22,List.mem_cons]
        exact .inr (List.mem_append_left _ (G4 hm _ (by
         rw [hD]
         simp only [DataW.weights,Tryz.underlying36]
         exact DataW.weights_mem_each (j:=j) (t:=9) e1 e2 _ (by rw [e3]; simp [DataW.weights]))))))
       have e9 : s.data.toList.length = s.size:=by simp
       have h9:=of_decide_eq_true h9
       unfold reachBytes at h9
       omega
      refine ⟨⟨k,.slice ya cds.length yc,cds,.slice xa ps.length xc,ps,s3,s4,k5,al⟩,⟨?_,?_,?_,?_,?_,?_,?_⟩,⟨hC,hR,wk,hky 3 s3 _ rfl rfl (by rw [es3d]),hky 4 s4 _ rfl rfl (by rw [es4d]),wk5⟩⟩
      · simpa using hcell 0 (by simp)
      · simpa using hcell 1 (by simp)
      · simpa using hcell 2 (by simp)
      · simpa using hcell 3 (by simp)
      · simpa using hcell 4 (by simp)
      · simpa using hcell 5 (by simp)
      · simpa using hcell 6 (by simp)
   obtain ⟨q,hq⟩:=Ob (α:=FJ) each
   have hl : ((List.range len0).map q).length = len0:=by simp
   refine ⟨some a,cap0,(List.range len0).map q,by rw [hl],by rw [hl]; unfold maxLen at h3; omega,some a,cap0,rfl,?_⟩
   by_cases h0 : len0 = 0
   · exact .inl (List.eq_nil_of_length_eq_zero (by rw [hl]; exact h0))
   · obtain ⟨b,off,spot⟩:=a
     have h00:=(hq 0 (by omega)).1.1
     have hspot : spot = none:=by simpa [Addr.add] using World.cell?_spot h00
     subst hspot
     refine .inr ⟨b,off,rfl,fun i hi => ?_⟩
     rw [hl] at hi
     obtain ⟨⟨q0,q1,q2,q3,q4,q5,q6⟩,ok⟩:=hq i hi
     simp only [List.getElem_map,List.getElem_range]
     rw [Addr.add_lit] at q0 q1 q2 q3 q4 q5 q6
     exact ⟨q0,q1,q2,q3,q4,q5,q6,ok⟩
set_option maxRecDepth 100000 in
theorem Sy {ts : List TypeId} {ds : List (DataW H)} {j : Nat} (hval : Value.okWide Tryz.prog W .any base 62 v) (h : DataW.Trod enc Tryz.prog W 0 (fun _ => true) true 62 v d p)
 (hsz : (DataW.weightsEach Tryz.prog ts ds).all (· <= reachBytes) = true) (ht : ts[j]? = some 62) (hd : ds[j]? = some d) :
 ∃ ks,Eo (fun k => W.heap.size <= k) W v ks /\ ks.length <= Rows.uptoBulk d:=We hval h
end
end Go.Proofs.YtnafjlhohbhcoaaGreatDoor
