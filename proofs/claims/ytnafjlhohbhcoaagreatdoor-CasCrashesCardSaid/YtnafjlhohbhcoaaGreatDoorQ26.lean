/- Parts of the proof. -/
import Derived.Test.YtnafjlhohbhcoaaGreatDoorQ25
import Derived.Test.YtnafjlhohbhcoaaGreatDoorQ08
namespace Go.Proofs.YtnafjlhohbhcoaaGreatDoor
set_option linter.unusedVariables false
section
open Go.ChangeShapes Go.WideShapes Go.ChangeAt Go.RowKit Go.Deep
theorem Ob {α : Type} [Inhabited α] {n : Nat} {p : Nat -> α -> Prop} (h : ∀ i,i < n -> ∃ a,p i a) : ∃ f : Nat -> α,∀ i,i < n -> p i (f i):=by
 refine ⟨fun i => if hi : i < n then (h i hi).choose else default,fun i hi => ?_⟩
 simp only [dif_pos hi]
 exact (h i hi).choose_spec
instance : Inhabited Aa:=⟨zeroP⟩
section
variable {H : Type} {enc : TypeId × Value -> H} {W : World} {base : Nat} {v : Value} {d : DataW H} {p : List MemPlace}
set_option maxRecDepth 100000 in
theorem Gu {fuel : Nat} {u : Value} {y : DataW H × List MemPlace} (hf : DataW.trod enc Tryz.prog W 0 (fun _ => true) true fuel 30 [u] = some y) :
 ∃ a cap ps,u = .slice a (List.length ps) cap /\ Aj W u ps /\ At ps + ps.length + 1 <= Rows.uptoBulk y.1 /\ ∀ x ∈ ps,x.key.size <= maxLen:=by
 rcases Lt Tryz.underlying30 Tryz.underlying57 (by kernel_rfl) (by kernel_rfl) hf with ⟨h1,h2⟩ | ⟨a,len0,cap0,D,rest,h1,h2,h3,h4,h5⟩
 · subst h1
   exact ⟨none,0,[],rfl,⟨by decide,none,0,rfl,.inl rfl⟩,by rw [h2]; simp [At,Rows.uptoBulk],fun _ h => by cases h⟩
 · subst h1
   have each : ∀ i,i < len0 -> ∃ x : Aa,(W.cell? (a.add (i * 3)) = some (.string x.key) /\ W.cell? (a.add (i * 3 + 1)) = some (.string x.val) /\ W.cell? (a.add (i * 3 + 2)) = some (.bool x.gone)) /\ x.key.size + x.val.size + 1 <= Rows.uptoBulk (D i) /\ x.key.size <= maxLen:=fun i hi => by
    obtain ⟨vs,ys,n,hvl,hyl,hD,hcell,hfld⟩:=h5 i hi
    match vs,hvl,ys,hyl with
    | [v0,v1,v2],_,[y0,y1,y2],_ =>
      obtain ⟨u0,z0,eu0,ez0,t0⟩:=hfld 0 _ rfl
      obtain ⟨u1,z1,eu1,ez1,t1⟩:=hfld 1 _ rfl
      obtain ⟨u2,z2,eu2,ez2,t2⟩:=hfld 2 _ rfl
      simp only [List.getElem?_cons_zero,List.getElem?_cons_succ,Option.some.injEq] at eu0 ez0 eu1 ez1 eu2 ez2
      subst eu0; subst ez0; subst eu1; subst ez1; subst eu2; subst ez2
      obtain ⟨s0,es0,es0d,ws0⟩:=DataW.trod_string Tryz.underlying9 t0
      obtain ⟨s1,es1,es1d,ws1⟩:=DataW.trod_string Tryz.underlying9 t1
      obtain ⟨g,eg,egd⟩:=DataW.trod_bool Tryz.underlying4 t2
      simp only [List.cons.injEq,and_true] at es0 es1 eg
      subst es0; subst es1; subst eg
      refine ⟨⟨s0,s1,g⟩,⟨?_,?_,?_⟩,?_,ws0⟩
      · simpa using hcell 0 (by simp)
      · simpa using hcell 1 (by simp)
      · simpa using hcell 2 (by simp)
      · rw [hD]
        subst es0d; subst es1d; subst egd
        simp only [List.map_cons,List.map_nil,Rows.uptoBulk,Rows.uptoBulkAll,Array.length_toList]
        show s0.data.size + s1.data.size + 1 <= _
        omega
   obtain ⟨q,hq⟩:=Ob each
   have hl : ((List.range len0).map q).length = len0:=by simp
   refine ⟨some a,cap0,(List.range len0).map q,by rw [hl],⟨by rw [hl]; omega,some a,cap0,by rw [hl],?_⟩,?_,fun x hx => ?_⟩
   · by_cases h0 : len0 = 0
     · exact .inl (List.eq_nil_of_length_eq_zero (by rw [hl]; exact h0))
     · obtain ⟨b,off,spot⟩:=a
       have h00:=(hq 0 (by omega)).1.1
       have hspot : spot = none:=by simpa [Addr.add] using World.cell?_spot h00
       subst hspot
       refine .inr ⟨b,off,rfl,fun i hi => ?_⟩
       rw [hl] at hi
       have:=hq i hi
       simp only [List.getElem_map,List.getElem_range]
       obtain ⟨t0,t1,t2⟩:=this.1
       rw [Addr.add_lit] at t0 t1 t2
       exact ⟨t0,by rw [Nat.add_assoc]; exact t1,by rw [Nat.add_assoc]; exact t2⟩
   · rw [h4]
     simp only [Rows.uptoBulk]
     have:=R9 D (fun i => (q i).key.size + (q i).val.size + 1) (List.range len0) (fun i hi => (hq i (List.mem_range.1 hi)).2.1)
     have e : ∀ l : List Nat,At (l.map q) + l.length = (l.map fun i => (q i).key.size + (q i).val.size + 1).sum:=by
      intro l
      induction l with
      | nil => rfl
      | cons x r ih =>
        rw [List.map_cons,Cw,List.length_cons,List.map_cons,List.sum_cons]
        omega
     have e2:=e (List.range len0)
     rw [List.length_map]
     omega
   · obtain ⟨i,hi,rfl⟩:=List.mem_map.1 hx
     exact (hq i (List.mem_range.1 hi)).2.2
set_option maxRecDepth 100000 in
theorem Uu (hval : Value.okWide Tryz.prog W .any base 30 v) (h : DataW.Trod enc Tryz.prog W 0 (fun _ => true) true 30 v d p) :
 ∃ a cap ps,v = .slice a (List.length ps) cap /\ Aj W v ps /\ At ps + ps.length <= Rows.uptoBulk d /\ ∀ x ∈ ps,x.key.size <= maxLen:=by
 obtain ⟨a0,len0,cap0,rfl⟩:=okWide_slice Tryz.underlying30 hval
 obtain ⟨fuel,hf⟩:=h
 have hf' : DataW.trod enc Tryz.prog W 0 (fun _ => true) true fuel 30 [.slice a0 len0 cap0] = some (d,p):=by simpa [Value.cells] using hf
 obtain ⟨a,c,ps,h1,h2,h3,h4⟩:=Gu hf'
 exact ⟨a,c,ps,h1,h2,by simp only at h3; omega,h4⟩
end
end
section
open Go.ChangeShapes Go.WideShapes Go.ChangeAt Go.RowKit Go.Deep
theorem G4 {H : Type} {P : Program} {e : TypeId} {d : DataW H} : ∀ {l : List (DataW H)},d ∈ l -> ∀ n ∈ d.weights P e,n ∈ DataW.weightsAll P e l
 | x :: r,h,n,hn => by
   unfold DataW.weightsAll
   rcases List.mem_cons.1 h with rfl | h
   · exact List.mem_append_left _ hn
   · exact List.mem_append_right _ (G4 h n hn)
section
variable {H : Type} {enc : TypeId × Value -> H} {W : World} {base : Nat} {v : Value} {d : DataW H} {p : List MemPlace}
set_option maxRecDepth 100000 in
theorem M3 {ts : List TypeId} {ds : List (DataW H)} {j : Nat} (hval : Value.okWide Tryz.prog W .any base 52 v) (h : DataW.Trod enc Tryz.prog W 0 (fun _ => true) true 52 v d p)
 (hsz : (DataW.weightsEach Tryz.prog ts ds).all (· <= reachBytes) = true) (ht : ts[j]? = some 52) (hd : ds[j]? = some d) :
 ∃ a len cap ss,v = .slice a len cap /\ GY W a len (fun i => .string ((ss : List ByteArray).getD i ByteArray.empty)) /\ ss.length = len /\ len <= cap /\ ∀ i,(ss.getD i ByteArray.empty).size <= 140737488351232:=by
 obtain ⟨a0,len,cap,rfl⟩:=okWide_slice Tryz.underlying52 hval
 obtain ⟨fuel,hf⟩:=h
 rcases open_strings Tryz.underlying52 Tryz.underlying9 (by kernel_rfl) hf with ⟨hcs,hx⟩ | ⟨x,l,c,ss,hcs,_,hl,hm,hz,hx,hcell,hws⟩
 · simp [Value.cells] at hcs
   obtain ⟨rfl,rfl,rfl⟩:=hcs
   exact ⟨none,0,0,[],rfl,⟨by omega,.inl rfl⟩,rfl,Nat.le_refl _,fun i => by simp⟩
 · simp [Value.cells] at hcs
   obtain ⟨rfl,rfl,rfl⟩:=hcs
   simp only [Prod.mk.injEq] at hx
   obtain ⟨rfl,rfl⟩:=hx
   simp only [if_true] at hz
   refine ⟨some x,len,cap,ss.take len,rfl,?_,by simp; omega,hl,fun i => ?_⟩
   · refine VX (n:=len) (Nat.le_refl _) (by omega) fun i hi => ?_
     rw [hcell i (by omega)]
     have hi' : i < ss.length:=by omega
     congr 2
     simp [List.getD,hi,hi']
   · by_cases hi : i < (ss.take len).length
     · have he : (ss.take len).getD i ByteArray.empty = (ss.take len)[i]:=by simp [List.getD,List.getElem?_eq_getElem hi]
       rw [he]
       have hm : (DataW.lit (.string (ss.take len)[i].data.toList) : DataW H) ∈ strs (ss.take len):=List.mem_map.2 ⟨_,List.getElem_mem hi,rfl⟩
       have:=List.all_eq_true.1 hsz _ (DataW.weights_mem_each ht hd (ss.take len)[i].data.toList.length (by
        simp only [DataW.weights,Tryz.underlying52,List.mem_cons]
        exact .inr (List.mem_append_left _ (G4 hm _ (by simp [DataW.weights])))))
       simpa [reachBytes] using this
     · have he : (ss.take len).getD i ByteArray.empty = ByteArray.empty:=by
         unfold List.getD
         rw [List.getElem?_eq_none (by omega)]
         rfl
       rw [he]
       simp
theorem bytesPair : Tryz.prog.bytesOf 57 = 40:=by kernel_rfl
set_option maxRecDepth 100000 in
theorem LY {ts : List TypeId} {ds : List (DataW H)} {j : Nat} (hval : Value.okWide Tryz.prog W .any base 30 v) (h : DataW.Trod enc Tryz.prog W 0 (fun _ => true) true 30 v d p)
 (hsz : (DataW.weightsEach Tryz.prog ts ds).all (· <= reachBytes) = true) (ht : ts[j]? = some 30) (hd : ds[j]? = some d) :
 ∃ a cap ps,v = .slice a (List.length ps) cap /\ Aj W v ps /\ ps.length <= 3518437208780 /\ ∀ x ∈ ps,x.key.size <= maxLen:=by
 obtain ⟨a,cap,ps,e,h1,_,h2⟩:=Uu hval h
 refine ⟨a,cap,ps,e,h1,?_,h2⟩
 obtain ⟨fuel,hf⟩:=h
 rw [e] at hf
 have hf' : DataW.trod enc Tryz.prog W 0 (fun _ => true) true fuel 30 [.slice a ps.length cap] = some (d,p):=by simpa [Value.cells] using hf
 rcases Lt Tryz.underlying30 Tryz.underlying57 (by kernel_rfl) (by kernel_rfl) hf' with ⟨g1,g2⟩ | ⟨a',len,cap',D,rest,g1,g2,g3,g4,g5⟩
 · injection g1 with e1 e2 e3
   omega
 · injection g1 with e1 e2 e3
   have g4' : d = .slice ((List.range len).map D) rest:=g4
   have hw:=sized_slice (e:=57) hsz ht (by rw [<- g4']; exact hd) Tryz.underlying30
   rw [bytesPair,List.length_map,List.length_range] at hw
   unfold reachBytes at hw
   omega
end
end
end Go.Proofs.YtnafjlhohbhcoaaGreatDoor
