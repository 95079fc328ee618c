/- Parts of the proof. -/
import Derived.Test.YtnafjlhohbhcoaaGreatDoorQ39
namespace Go.Proofs.YtnafjlhohbhcoaaGreatDoor
set_option linter.unusedVariables false
open Go.ChangeShapes Go.WideShapes Go.ChangeAt Go.RowKit
section
variable {H : Type} {enc : TypeId × Value -> H} {W : World} {base : Nat} {v : Value} {d : DataW H} {p : List MemPlace}
set_option maxRecDepth 100000 in
theorem XC {fuel : Nat} {x : DataW H × List MemPlace} (hf : DataW.trod enc Tryz.prog W 0 (fun _ => true) true fuel 62 [v] = some x) :
 ∃ ks,Eo (fun k => W.heap.size <= k) W v ks /\ ks.length <= Rows.uptoBulk x.1:=by
 rcases open_ints Tryz.underlying62 Tryz.underlying3 (by kernel_rfl) hf with ⟨hcs,hx⟩ | ⟨x0,len,cap,zs,hcs,_,hl,hm,hz,hx,hcell,hwz⟩
 · simp at hcs
   subst hcs
   exact ⟨[],⟨⟨none,0,rfl,.inl rfl⟩,by decide,by simp⟩,by simp⟩
 · simp at hcs
   subst hcs
   subst hx
   simp only [if_true] at hz
   have hlen : (zs.take len).length = len:=by rw [List.length_take]; omega
   refine ⟨zs.take len,⟨⟨some x0,cap,by rw [hlen],?_⟩,by rw [hlen]; unfold maxLen at hm; omega,fun k hk => bounds_i64 (hwz k (List.mem_of_mem_take hk))⟩,?_⟩
   · by_cases h0 : len = 0
     · exact .inl (by omega)
     · obtain ⟨b,off,spot⟩:=x0
       have hspot : spot = none:=by simpa [Addr.add] using World.cell?_spot (hcell 0 (by omega))
       subst hspot
       have hc : ∀ i,i < len -> W.cell? ⟨b,off + i,none⟩ = some (.int .i64 ((zs.take len).getD i 0)):=fun i hi => by
        rw [<- Addr.add_lit,hcell i (by omega)]
        have hi' : i < zs.length:=by omega
        congr 2
        simp [List.getD,hi,hi']
       have hlt:=World.block_lt_of_cell? W ⟨b,off + 0,none⟩ (hc 0 (by omega))
       exact .inr ⟨b,off,rfl,hlt,fun hh => by have : b < W.heap.size:=hlt; omega,fun i hi => hc i (by omega)⟩
   · have:=Tn (lits (H:=H) .i64 (zs.take len))
     simp only [Rows.uptoBulk]
     simp only [lits,List.length_map] at this ⊢
     omega
set_option maxRecDepth 100000 in
theorem We (hval : Value.okWide Tryz.prog W .any base 62 v) (h : DataW.Trod enc Tryz.prog W 0 (fun _ => true) true 62 v d p) :
 ∃ ks,Eo (fun k => W.heap.size <= k) W v ks /\ ks.length <= Rows.uptoBulk d:=by
 obtain ⟨a0,len,cap,rfl⟩:=okWide_slice Tryz.underlying62 hval
 obtain ⟨fuel,hf⟩:=h
 exact XC (x:=(d,p)) (by simpa [Value.cells] using hf)
end
end Go.Proofs.YtnafjlhohbhcoaaGreatDoor
