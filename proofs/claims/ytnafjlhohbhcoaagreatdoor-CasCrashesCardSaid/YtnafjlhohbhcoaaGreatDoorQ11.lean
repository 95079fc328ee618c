/- Parts of the proof. -/
import Derived.Test.YtnafjlhohbhcoaaGreatDoorQ09
import Derived.Deep.RegionHeld3
import Derived.Test.YtnafjlhohbhcoaaGreatDoorQ10
namespace Go.Proofs.YtnafjlhohbhcoaaGreatDoor
open Go.Lib (hid)
set_option linter.unusedVariables false
section
open Go.RowKit
theorem OK {fn : Func} {p : Tmp} {ty : TypeId} (h : fn.results = #[.cell p ty]) (tmps : Array Value) (P : Program) (w : World) :
 (results fn tmps).run P w = ((asAddr (tmps.getD p undef)).run P w).andThen fun a w₁ => (loadVar ty a).run P w₁:=by
 simp only [results,h]
 simp [Sem.run_bind,Result.andThen]
set_option maxHeartbeats 8000000 in
set_option maxRecDepth 100000 in
theorem Sf {w : World} {v0 : Value} {m : List Aa} (h : w.ownsRow 0 57 3 v0 m.length (AA m)) {a : Option Addr} {c : Nat} {l : List Aa} (hl : Aj w (.slice a l.length c) l) (hN : m.length + l.length <= 3518437208780) :
 Calls Tryz.prog 27 #[.agg #[v0],.slice a l.length c] w fun e w' => ∃ v,e = .returned (.agg #[v]) /\ w'.ownsRow 0 57 3 v (AP m l).length (AA (AP m l)) /\ Below w.heap.size w w' /\ ∀ k,v.ownBlock = some k -> v0.ownBlock = some k \/ w.heap.size <= k:=by
 obtain ⟨i0,hi,hz0,hz1,hz2⟩:=info_parts infoPair
 obtain ⟨va,vc,rfl⟩:=An h
 obtain ⟨W1,hW1⟩ : ∃ W1,(w.alloc (.cells #[.slice va m.length vc] 32)).alloc (.cells #[.slice none 0 0] 32) = W1:=⟨_,rfl⟩
 have hb : Below w.heap.size w W1:=by rw [<- hW1]; exact ((Below.refl _ w).alloc (Nat.le_refl _) _).alloc (by simp) _
 have hx1 : W1.heap[w.heap.size]? = some (.cells #[.slice va m.length vc] 32 (0,0)):=by
  rw [<- hW1,Below.heap_alloc _ _ _ (by simp)]; exact heap_alloc_new _ _
 have hy1 : W1.heap[w.heap.size + 1]? = some (.cells #[.slice none 0 0] 32 (0,0)):=by
  have:=heap_alloc_new (w.alloc (.cells #[.slice va m.length vc] 32)) (.cells #[.slice none 0 0] 32)
  rwa [hW1,World.size_alloc] at this
 have hmx : l.length <= 9223372036854775807:=by omega
 have H1:=hid (Ah h hb)
 have HL:=hid hl
 have HB:=hid hb
 have HX1:=hid hx1
 have HY1:=hid hy1
 have HW1:=hid hW1
 clear h hl hb hx1 hy1
 go_enter Tryz.func27,Tryz.ntmps27
 go_wp2
 clear hW1
 go_loopw [5] (fun iv wr => ∃ (i : Nat) (v : Value),i <= l.length /\ iv = .int .i64 (i : Int) /\ Hid (wr.heap[w.heap.size]? = some (.cells #[v] 32 (0,0)) /\ wr.ownsRow 0 57 3 v (AP m (l.take i)).length (AA (AP m (l.take i))) /\ (∀ k,v.ownBlock = some k -> (Value.slice va m.length vc).ownBlock = some k \/ w.heap.size <= k) /\ Below w.heap.size w wr /\ wr.heap[w.heap.size + 1]? = some (.cells #[.slice none 0 0] 32 (0,0)))) (fun iv _ => l.length - (intOf iv).toNat)
 case atStart => exact ⟨0,_,Nat.zero_le _,rfl,HX1.out,by rw [List.take_zero,UY]; exact H1.out,fun k hk => .inl hk,HB.out,HY1.out⟩
 case round =>
  obtain ⟨i,v,hil,rfl,HI⟩:=hrel
  by_cases hlt : i < l.length
  · obtain ⟨b,o,rfl,q0,q1,q2⟩:=HL.out.in HI.out.2.2.2.1 hlt
    have hmes : l.length - (intOf (.int .i64 ((i : Int) + 1))).toNat < l.length - (intOf (.int .i64 (i : Int))).toNat:=by simp [intOf]; omega
    have HLR : Hid (∀ w',Below w.heap.size w w' -> w'.cell? ⟨b,o + i * 3,none⟩ = some (.string l[i].key) /\ w'.cell? ⟨b,o + i * 3 + 1,none⟩ = some (.string l[i].val) /\ w'.cell? ⟨b,o + i * 3 + 2,none⟩ = some (.bool l[i].gone)):=fun w' t => by
     obtain ⟨b',o',e,z0,z1,z2⟩:=HL.out.in t hlt
     injection e with e
     injection e with e1 e2
     subst e1 e2
     exact ⟨z0,z1,z2⟩
    have HWT : Hid (AP m (l.take (i + 1)) = J7 l[i] (AP m (l.take i))):=SE hlt
    have hlen : (AP m (l.take i)).length <= m.length + i:=by
     have:=writeP_len (l.take i) m
     rw [List.length_take] at this
     omega
    generalize l[i] = X at *
    generalize AP m (l.take i) = M at *
    obtain ⟨M2,hM2⟩ : ∃ M2,AP m (l.take (i + 1)) = M2:=⟨_,rfl⟩
    rw [hM2] at HWT
    have HM2:=hid hM2
    clear hM2
    obtain ⟨hx,hrow,hown,hbw,hy⟩:=HI.out
    have HAT:=hid (fun w' (t : Below wr.heap.size wr w') => RH (Ah hrow t) X.key)
    have c0:=Ab hx (i:=0)
    have c1 : wr.cell? ⟨w.heap.size,0,none⟩ = some v:=c0
    obtain ⟨ra,rc,rfl⟩:=An hrow
    obtain ⟨xk,xv,xg⟩:=X
    simp only at q0 q1 q2
    clear hx hrow hown hbw hy c0
    go_wp2_with fail
    have SB : Hid (∀ w',Below wr.heap.size wr w' -> w'.cell? ⟨w.heap.size,0,none⟩ = some (.slice ra M.length rc) /\ w'.cell? ⟨b,o + i * 3,none⟩ = some (.string xk)):=fun w' t =>
     ⟨(t.cell (World.block_lt_of_cell? wr ⟨w.heap.size,0,none⟩ c1)).trans c1,(t.cell (World.block_lt_of_cell? wr ⟨b,o + i * 3,none⟩ q0)).trans q0⟩
    go_region_held3 (fun w' => w'.cell? ⟨w.heap.size,0,none⟩ = some (.slice ra M.length rc) /\ w'.cell? ⟨b,o + i * 3,none⟩ = some (.string xk)) (exact SB.out _ (by repeat (first | exact B22.out | exact Below.refl _ _ | apply Below.drew)))
     (first | (go_at_call 37; refine (HAT.out _ (by repeat (first | exact Below.refl _ _ | apply Below.drew))).mono ?_; rintro e w2 ⟨rfl,b2⟩; have B22 : Hid (Below wr.heap.size wr w2):=A4 (by repeat (first | exact Below.refl _ _ | apply Below.drew)) (Nat.le_refl _) b2; clear b2))
    have B2:=hid (A4 HI.out.2.2.2.1 (Nat.le_refl _) B22.out)
    have h2row:=Ah HI.out.2.1 B22.out
    have HX2:=hid ((B22.out.block _ (Ad HI.out.1)).trans HI.out.1)
    have HY2:=hid ((B22.out.block _ (Ad HI.out.2.2.2.2)).trans HI.out.2.2.2.2)
    have c2 : w2.cell? ⟨w.heap.size,0,none⟩ = some (.slice ra M.length rc):=(Ab HX2.out 0).trans rfl
    have hpl:=C8 xk M
    obtain ⟨s1v,e1,s1⟩:=Aah slPair JR h2row (KC _) hpl
    rw [Wx] at s1
    have S1:=hid s1
    have hjl : placeP xk M + (if Bd xk M then 1 else 0) <= M.length:=by
     by_cases ht : Bd xk M = true
     · obtain ⟨hlt,_⟩:=Fx ht
       rw [if_pos ht]; omega
     · rw [if_neg ht]; omega
    obtain ⟨s2v,e2,s2⟩:=Zt slPair JR h2row (KC _) hjl
    rw [WM] at s2
    have S2:=hid s2
    have HP : Hid (M2 = M.take (placeP xk M) ++ (if xg then [] else [⟨xk,xv,xg⟩]) ++ M.drop (placeP xk M + (if Bd xk M then 1 else 0))):=HWT.out
    have hnil:=World.ownsRow_nil w2 0 57 3
    clear h2row s1 s2 HAT
    generalize hT : Bd xk M = tt at *
    generalize placeP xk M = j at *
    clear hT
    cases tt
    · cases xg
      · have e2' : ∀ wx,(Instr.slice 30 (.slice ra M.length rc) (some (.int .i64 (j : Int))) none none).run Tryz.prog wx = .ok (s2v : Value) wx:=e2
        have E2:=hid e2'
        clear e2 e2'
        go_wp2_with (at_builtin; refine Bp _ rfl _ (.tmp 28) rfl Tryz.underlying30 hi hz0 hz1 hz2 rfl (by decide) rfl hnil rfl (S1.out w2 (Ac.refl _ _)) ?c1_00 ?c2_00 ?_)
        case c1_00 => omega
        case c2_00 => unfold maxLen; omega
        intro v3 w3 o3 g3 l3
        have t3 : Ac NoF w2 w3:=(Ac.refl NoF w2).grown g3 (fun k hk => by simp [Value.ownBlock] at hk)
        have n3 : ∀ j,v3.ownBlock = some j -> w2.heap.size <= j:=fun j hj => by
         rcases l3 j hj with h | h
         · simp [Value.ownBlock] at h
         · exact h
        have b3 : Below w.heap.size w w3:=B2.out.trans ⟨t3.os,t3.tape,t3.output,t3.size,fun k hk => t3.block k (by have:=B2.out.size; omega) (fun h => h)⟩
        obtain ⟨z0,z1,z2⟩ : _ /\ _ /\ _:=(HLR.out w3 b3)
        have B3:=hid b3
        have N3:=hid n3
        have T3:=hid t3
        have x3 : w3.cell? ⟨w.heap.size,0,none⟩ = some (.slice ra M.length rc):=by rw [World.cell?_of_block (w:=w2) (t3.block _ (Ad HX2.out) (fun h => h))]; exact (Ab HX2.out 0).trans rfl
        clear hnil g3 l3 n3 t3 b3 c2
        have hsrc:=K8 (sz:=3) w3 #[.string xk,.string xv,.bool false] 57 rfl (by simp [Value.oneCell'])
        have o3':=o3.alloc (.cells #[.string xk,.string xv,.bool false] 57)
        go_wp2_with (at_builtin; refine Bp _ rfl (.tmp 36) (.tmp 41) rfl Tryz.underlying30 hi hz0 hz1 hz2 rfl (by decide) rfl o3' rfl hsrc ?d1_00 ?d2_00 ?_)
        case d1_00 => omega
        case d2_00 => unfold maxLen; omega
        intro v4 w4 o4 g4 l4
        have t4 : Ac NoF w2 w4:=(T3.out.alloc _).grown g4 (fun j hj => .inr (N3.out j hj))
        have n4 : ∀ j,v4.ownBlock = some j -> w2.heap.size <= j:=fun j hj => by
         rcases l4 j hj with h | h
         · exact N3.out j h
         · have:=T3.out.size
           have h' : w3.heap.size + 1 <= j:=by simpa using h
           omega
        have c4 : w4.cell? ⟨w.heap.size,0,none⟩ = some (.slice ra M.length rc):=by rw [World.cell?_of_block (w:=w2) (t4.block _ (Ad HX2.out) (fun h => h))]; exact (Ab HX2.out 0).trans rfl
        have N4:=hid n4
        have T4:=hid t4
        have hs4:=S2.out w4 t4
        have e2':=E2.out
        clear hsrc o3 o3' g4 l4 n4 t4 z0 z1 z2 x3
        go_wp2_with (at_builtin; refine Bp _ rfl (.tmp 46) (.tmp 50) rfl Tryz.underlying30 hi hz0 hz1 hz2 rfl (by decide) rfl o4 rfl hs4 ?e1_00 ?e2_00 ?_)
        case e1_00 => omega
        case e2_00 => unfold maxLen; omega
        intro v5 w5 o5 g5 l5
        have t5 : Ac NoF w2 w5:=T4.out.grown g5 (fun j hj => .inr (N4.out j hj))
        have n5 : ∀ j,v5.ownBlock = some j -> w2.heap.size <= j:=fun j hj => by
         rcases l5 j hj with h | h
         · exact N4.out j h
         · have:=T4.out.size; omega
        have x5:=(t5.block _ (Ad HX2.out) (fun h => h)).trans HX2.out
        have c5 : w5.cell? ⟨w.heap.size,0,none⟩ = some (.slice ra M.length rc):=(Ab x5 0).trans rfl
        have f5 : w5.frozen? ⟨w.heap.size,0,none⟩ = false:=Ag x5 0
        have hcl : AA (M.take j) ++ [.string xk,.string xv,.bool false] ++ AA (M.drop (j + 0)) = AA M2:=by
         rw [HP.out]
         simp only [FE,↓reduceIte,Bool.false_eq_true,EB,List.append_assoc]
         try rfl
        have hln : j + 1 + (M.length - (j + 0)) = M2.length:=by rw [HP.out]; simp; omega
        have o5' : w5.ownsRow 0 57 3 v5 M2.length (AA M2):=by
         rw [<- hln,<- hcl]; first | exact o5 | simpa using o5 | (have h5:=o5; simp at h5 ⊢; rw [show j + (M.length - j) = M.length by omega]; exact h5)
        have HO5:=hid o5'
        have N5:=hid n5
        have X5:=hid x5
        have HY5:=hid ((t5.block _ (Ad HY2.out) (fun h => h)).trans HY2.out)
        have B5 : Hid (Below w.heap.size w w5):=B2.out.trans ⟨t5.os,t5.tape,t5.output,t5.size,fun k hk => t5.block k (by have:=B2.out.size; omega) (fun h => h)⟩
        obtain ⟨a5,k5,rfl⟩:=An o5'
        have HN5 : Hid (a5 = none \/ ∃ g,a5 = some ⟨g,0,none⟩ /\ w2.heap.size <= g):=by
         rcases o5'.2 with ⟨hv,_⟩ | ⟨g,cap,cur,hv,_⟩
         · injection hv with hv; exact .inl hv
         · injection hv with hv; exact .inr ⟨g,hv,N5.out g (by rw [hv]; simp [Value.ownBlock])⟩
        have hb5:=block_set x5 0 (.slice a5 M2.length k5)
        clear hcl o5 o5' g5 l5 n5 t5 o4 hs4 c4 x5
        clear hln
        go_wp2
        go_roundw
        case rel =>
         have hs2:=B2.out.size
         have hlx:=Ad HX2.out
         have ht : Ac (fun k => k = w.heap.size) w5 (w5.setCell ⟨w.heap.size,0,none⟩ (.slice a5 M2.length k5)):=(Ac.refl (fun k => k = w.heap.size) w5).setCell (p:=⟨w.heap.size,0,none⟩) (.inl rfl) _
         exact ⟨i + 1,_,by omega,by go_num,block_set X5.out 0 (.slice a5 M2.length k5),by rw [HM2.out]; exact ht.row HO5.out (fun k hk => by have:=N5.out k hk; omega),(fun k hk => .inr (by have:=N5.out k hk; omega)),B5.out.setCell (p:=⟨w.heap.size,0,none⟩) (Nat.le_refl _) _,(ht.block _ (by have:=Ad X5.out; have:=Ad HY5.out; omega) (by omega)).trans HY5.out⟩
        case measure => exact hmes
      · have e2' : ∀ wx,(Instr.slice 30 (.slice ra M.length rc) (some (.int .i64 (j : Int))) none none).run Tryz.prog wx = .ok (s2v : Value) wx:=e2
        have E2:=hid e2'
        clear e2 e2'
        go_wp2_with (at_builtin; refine Bp _ rfl _ (.tmp 28) rfl Tryz.underlying30 hi hz0 hz1 hz2 rfl (by decide) rfl hnil rfl (S1.out w2 (Ac.refl _ _)) ?c1_01 ?c2_01 ?_)
        case c1_01 => omega
        case c2_01 => unfold maxLen; omega
        intro v3 w3 o3 g3 l3
        have t3 : Ac NoF w2 w3:=(Ac.refl NoF w2).grown g3 (fun k hk => by simp [Value.ownBlock] at hk)
        have n3 : ∀ j,v3.ownBlock = some j -> w2.heap.size <= j:=fun j hj => by
         rcases l3 j hj with h | h
         · simp [Value.ownBlock] at h
         · exact h
        have b3 : Below w.heap.size w w3:=B2.out.trans ⟨t3.os,t3.tape,t3.output,t3.size,fun k hk => t3.block k (by have:=B2.out.size; omega) (fun h => h)⟩
        obtain ⟨z0,z1,z2⟩ : _ /\ _ /\ _:=(HLR.out w3 b3)
        have B3:=hid b3
        have N3:=hid n3
        have T3:=hid t3
        have x3 : w3.cell? ⟨w.heap.size,0,none⟩ = some (.slice ra M.length rc):=by rw [World.cell?_of_block (w:=w2) (t3.block _ (Ad HX2.out) (fun h => h))]; exact (Ab HX2.out 0).trans rfl
        clear hnil g3 l3 n3 t3 b3 c2
        have o4:=o3
        have t4:=T3.out
        have n4:=N3.out
        have c4 : w3.cell? ⟨w.heap.size,0,none⟩ = some (.slice ra M.length rc):=by rw [World.cell?_of_block (w:=w2) (t4.block _ (Ad HX2.out) (fun h => h))]; exact (Ab HX2.out 0).trans rfl
        have N4:=hid n4
        have T4:=hid t4
        have hs4:=S2.out w3 t4
        have e2':=E2.out
        clear n4 t4 x3
        go_wp2_with (at_builtin; refine Bp _ rfl (.tmp 46) (.tmp 50) rfl Tryz.underlying30 hi hz0 hz1 hz2 rfl (by decide) rfl o4 rfl hs4 ?e1_01 ?e2_01 ?_)
        case e1_01 => omega
        case e2_01 => unfold maxLen; omega
        intro v5 w5 o5 g5 l5
        have t5 : Ac NoF w2 w5:=T4.out.grown g5 (fun j hj => .inr (N4.out j hj))
        have n5 : ∀ j,v5.ownBlock = some j -> w2.heap.size <= j:=fun j hj => by
         rcases l5 j hj with h | h
         · exact N4.out j h
         · have:=T4.out.size; omega
        have x5:=(t5.block _ (Ad HX2.out) (fun h => h)).trans HX2.out
        have c5 : w5.cell? ⟨w.heap.size,0,none⟩ = some (.slice ra M.length rc):=(Ab x5 0).trans rfl
        have f5 : w5.frozen? ⟨w.heap.size,0,none⟩ = false:=Ag x5 0
        have hcl : AA (M.take j) ++ AA (M.drop (j + 0)) = AA M2:=by
         rw [HP.out]
         simp only [FE,↓reduceIte,Bool.false_eq_true,List.append_nil]
         try rfl
        have hln : j + (M.length - (j + 0)) = M2.length:=by rw [HP.out]; simp; omega
        have o5' : w5.ownsRow 0 57 3 v5 M2.length (AA M2):=by
         rw [<- hln,<- hcl]; first | exact o5 | simpa using o5 | (have h5:=o5; simp at h5 ⊢; rw [show j + (M.length - j) = M.length by omega]; exact h5)
        have HO5:=hid o5'
        have N5:=hid n5
        have X5:=hid x5
        have HY5:=hid ((t5.block _ (Ad HY2.out) (fun h => h)).trans HY2.out)
        have B5 : Hid (Below w.heap.size w w5):=B2.out.trans ⟨t5.os,t5.tape,t5.output,t5.size,fun k hk => t5.block k (by have:=B2.out.size; omega) (fun h => h)⟩
        obtain ⟨a5,k5,rfl⟩:=An o5'
        have HN5 : Hid (a5 = none \/ ∃ g,a5 = some ⟨g,0,none⟩ /\ w2.heap.size <= g):=by
         rcases o5'.2 with ⟨hv,_⟩ | ⟨g,cap,cur,hv,_⟩
         · injection hv with hv; exact .inl hv
         · injection hv with hv; exact .inr ⟨g,hv,N5.out g (by rw [hv]; simp [Value.ownBlock])⟩
        have hb5:=block_set x5 0 (.slice a5 M2.length k5)
        clear hcl o5 o5' g5 l5 n5 t5 o4 hs4 c4 x5
        clear hln
        go_wp2
        go_roundw
        case rel =>
         have hs2:=B2.out.size
         have hlx:=Ad HX2.out
         have ht : Ac (fun k => k = w.heap.size) w5 (w5.setCell ⟨w.heap.size,0,none⟩ (.slice a5 M2.length k5)):=(Ac.refl (fun k => k = w.heap.size) w5).setCell (p:=⟨w.heap.size,0,none⟩) (.inl rfl) _
         exact ⟨i + 1,_,by omega,by go_num,block_set X5.out 0 (.slice a5 M2.length k5),by rw [HM2.out]; exact ht.row HO5.out (fun k hk => by have:=N5.out k hk; omega),(fun k hk => .inr (by have:=N5.out k hk; omega)),B5.out.setCell (p:=⟨w.heap.size,0,none⟩) (Nat.le_refl _) _,(ht.block _ (by have:=Ad X5.out; have:=Ad HY5.out; omega) (by omega)).trans HY5.out⟩
        case measure => exact hmes
    · cases xg
      · have e2' : ∀ wx,(Instr.slice 30 (.slice ra M.length rc) (some (.int .i64 ((j : Int) + 1))) none none).run Tryz.prog wx = .ok (s2v : Value) wx:=e2
        have E2:=hid e2'
        have hwk : IntKind.i64.wrap ((j : Int) + 1) = (j : Int) + 1:=IntWalk.i64_in _ (by omega)
        clear e2 e2'
        go_wp2_with (at_builtin; refine Bp _ rfl _ (.tmp 28) rfl Tryz.underlying30 hi hz0 hz1 hz2 rfl (by decide) rfl hnil rfl (S1.out w2 (Ac.refl _ _)) ?c1_10 ?c2_10 ?_)
        case c1_10 => omega
        case c2_10 => unfold maxLen; omega
        intro v3 w3 o3 g3 l3
        have t3 : Ac NoF w2 w3:=(Ac.refl NoF w2).grown g3 (fun k hk => by simp [Value.ownBlock] at hk)
        have n3 : ∀ j,v3.ownBlock = some j -> w2.heap.size <= j:=fun j hj => by
         rcases l3 j hj with h | h
         · simp [Value.ownBlock] at h
         · exact h
        have b3 : Below w.heap.size w w3:=B2.out.trans ⟨t3.os,t3.tape,t3.output,t3.size,fun k hk => t3.block k (by have:=B2.out.size; omega) (fun h => h)⟩
        obtain ⟨z0,z1,z2⟩ : _ /\ _ /\ _:=(HLR.out w3 b3)
        have B3:=hid b3
        have N3:=hid n3
        have T3:=hid t3
        have x3 : w3.cell? ⟨w.heap.size,0,none⟩ = some (.slice ra M.length rc):=by rw [World.cell?_of_block (w:=w2) (t3.block _ (Ad HX2.out) (fun h => h))]; exact (Ab HX2.out 0).trans rfl
        clear hnil g3 l3 n3 t3 b3 c2
        have hsrc:=K8 (sz:=3) w3 #[.string xk,.string xv,.bool false] 57 rfl (by simp [Value.oneCell'])
        have o3':=o3.alloc (.cells #[.string xk,.string xv,.bool false] 57)
        go_wp2_with (at_builtin; refine Bp _ rfl (.tmp 36) (.tmp 41) rfl Tryz.underlying30 hi hz0 hz1 hz2 rfl (by decide) rfl o3' rfl hsrc ?d1_10 ?d2_10 ?_)
        case d1_10 => omega
        case d2_10 => unfold maxLen; omega
        intro v4 w4 o4 g4 l4
        have t4 : Ac NoF w2 w4:=(T3.out.alloc _).grown g4 (fun j hj => .inr (N3.out j hj))
        have n4 : ∀ j,v4.ownBlock = some j -> w2.heap.size <= j:=fun j hj => by
         rcases l4 j hj with h | h
         · exact N3.out j h
         · have:=T3.out.size
           have h' : w3.heap.size + 1 <= j:=by simpa using h
           omega
        have c4 : w4.cell? ⟨w.heap.size,0,none⟩ = some (.slice ra M.length rc):=by rw [World.cell?_of_block (w:=w2) (t4.block _ (Ad HX2.out) (fun h => h))]; exact (Ab HX2.out 0).trans rfl
        have N4:=hid n4
        have T4:=hid t4
        have hs4:=S2.out w4 t4
        have e2':=E2.out
        clear hsrc o3 o3' g4 l4 n4 t4 z0 z1 z2 x3
        go_wp2_with (at_builtin; refine Bp _ rfl (.tmp 46) (.tmp 50) rfl Tryz.underlying30 hi hz0 hz1 hz2 rfl (by decide) rfl o4 rfl hs4 ?e1_10 ?e2_10 ?_)
        case e1_10 => omega
        case e2_10 => unfold maxLen; omega
        intro v5 w5 o5 g5 l5
        have t5 : Ac NoF w2 w5:=T4.out.grown g5 (fun j hj => .inr (N4.out j hj))
        have n5 : ∀ j,v5.ownBlock = some j -> w2.heap.size <= j:=fun j hj => by
         rcases l5 j hj with h | h
         · exact N4.out j h
         · have:=T4.out.size; omega
        have x5:=(t5.block _ (Ad HX2.out) (fun h => h)).trans HX2.out
        have c5 : w5.cell? ⟨w.heap.size,0,none⟩ = some (.slice ra M.length rc):=(Ab x5 0).trans rfl
        have f5 : w5.frozen? ⟨w.heap.size,0,none⟩ = false:=Ag x5 0
        have hcl : AA (M.take j) ++ [.string xk,.string xv,.bool false] ++ AA (M.drop (j + 1)) = AA M2:=by
         rw [HP.out]
         simp only [FE,↓reduceIte,Bool.false_eq_true,EB,List.append_assoc]
         try rfl
        have hln : j + 1 + (M.length - (j + 1)) = M2.length:=by rw [HP.out]; simp; omega
        have o5' : w5.ownsRow 0 57 3 v5 M2.length (AA M2):=by
         rw [<- hln,<- hcl]; first | exact o5 | simpa using o5 | (have h5:=o5; simp at h5 ⊢; rw [show j + (M.length - j) = M.length by omega]; exact h5)
        have HO5:=hid o5'
        have N5:=hid n5
        have X5:=hid x5
        have HY5:=hid ((t5.block _ (Ad HY2.out) (fun h => h)).trans HY2.out)
        have B5 : Hid (Below w.heap.size w w5):=B2.out.trans ⟨t5.os,t5.tape,t5.output,t5.size,fun k hk => t5.block k (by have:=B2.out.size; omega) (fun h => h)⟩
        obtain ⟨a5,k5,rfl⟩:=An o5'
        have HN5 : Hid (a5 = none \/ ∃ g,a5 = some ⟨g,0,none⟩ /\ w2.heap.size <= g):=by
         rcases o5'.2 with ⟨hv,_⟩ | ⟨g,cap,cur,hv,_⟩
         · injection hv with hv; exact .inl hv
         · injection hv with hv; exact .inr ⟨g,hv,N5.out g (by rw [hv]; simp [Value.ownBlock])⟩
        have hb5:=block_set x5 0 (.slice a5 M2.length k5)
        clear hcl o5 o5' g5 l5 n5 t5 o4 hs4 c4 x5
        clear hln
        go_wp2
        go_roundw
        case rel =>
         have hs2:=B2.out.size
         have hlx:=Ad HX2.out
         have ht : Ac (fun k => k = w.heap.size) w5 (w5.setCell ⟨w.heap.size,0,none⟩ (.slice a5 M2.length k5)):=(Ac.refl (fun k => k = w.heap.size) w5).setCell (p:=⟨w.heap.size,0,none⟩) (.inl rfl) _
         exact ⟨i + 1,_,by omega,by go_num,block_set X5.out 0 (.slice a5 M2.length k5),by rw [HM2.out]; exact ht.row HO5.out (fun k hk => by have:=N5.out k hk; omega),(fun k hk => .inr (by have:=N5.out k hk; omega)),B5.out.setCell (p:=⟨w.heap.size,0,none⟩) (Nat.le_refl _) _,(ht.block _ (by have:=Ad X5.out; have:=Ad HY5.out; omega) (by omega)).trans HY5.out⟩
        case measure => exact hmes
      · have e2' : ∀ wx,(Instr.slice 30 (.slice ra M.length rc) (some (.int .i64 ((j : Int) + 1))) none none).run Tryz.prog wx = .ok (s2v : Value) wx:=e2
        have E2:=hid e2'
        have hwk : IntKind.i64.wrap ((j : Int) + 1) = (j : Int) + 1:=IntWalk.i64_in _ (by omega)
        clear e2 e2'
        go_wp2_with (at_builtin; refine Bp _ rfl _ (.tmp 28) rfl Tryz.underlying30 hi hz0 hz1 hz2 rfl (by decide) rfl hnil rfl (S1.out w2 (Ac.refl _ _)) ?c1_11 ?c2_11 ?_)
        case c1_11 => omega
        case c2_11 => unfold maxLen; omega
        intro v3 w3 o3 g3 l3
        have t3 : Ac NoF w2 w3:=(Ac.refl NoF w2).grown g3 (fun k hk => by simp [Value.ownBlock] at hk)
        have n3 : ∀ j,v3.ownBlock = some j -> w2.heap.size <= j:=fun j hj => by
         rcases l3 j hj with h | h
         · simp [Value.ownBlock] at h
         · exact h
        have b3 : Below w.heap.size w w3:=B2.out.trans ⟨t3.os,t3.tape,t3.output,t3.size,fun k hk => t3.block k (by have:=B2.out.size; omega) (fun h => h)⟩
        obtain ⟨z0,z1,z2⟩ : _ /\ _ /\ _:=(HLR.out w3 b3)
        have B3:=hid b3
        have N3:=hid n3
        have T3:=hid t3
        have x3 : w3.cell? ⟨w.heap.size,0,none⟩ = some (.slice ra M.length rc):=by rw [World.cell?_of_block (w:=w2) (t3.block _ (Ad HX2.out) (fun h => h))]; exact (Ab HX2.out 0).trans rfl
        clear hnil g3 l3 n3 t3 b3 c2
        have o4:=o3
        have t4:=T3.out
        have n4:=N3.out
        have c4 : w3.cell? ⟨w.heap.size,0,none⟩ = some (.slice ra M.length rc):=by rw [World.cell?_of_block (w:=w2) (t4.block _ (Ad HX2.out) (fun h => h))]; exact (Ab HX2.out 0).trans rfl
        have N4:=hid n4
        have T4:=hid t4
        have hs4:=S2.out w3 t4
        have e2':=E2.out
        clear n4 t4 x3
        go_wp2_with (at_builtin; refine Bp _ rfl (.tmp 46) (.tmp 50) rfl Tryz.underlying30 hi hz0 hz1 hz2 rfl (by decide) rfl o4 rfl hs4 ?e1_11 ?e2_11 ?_)
        case e1_11 => omega
        case e2_11 => unfold maxLen; omega
        intro v5 w5 o5 g5 l5
        have t5 : Ac NoF w2 w5:=T4.out.grown g5 (fun j hj => .inr (N4.out j hj))
        have n5 : ∀ j,v5.ownBlock = some j -> w2.heap.size <= j:=fun j hj => by
         rcases l5 j hj with h | h
         · exact N4.out j h
         · have:=T4.out.size; omega
        have x5:=(t5.block _ (Ad HX2.out) (fun h => h)).trans HX2.out
        have c5 : w5.cell? ⟨w.heap.size,0,none⟩ = some (.slice ra M.length rc):=(Ab x5 0).trans rfl
        have f5 : w5.frozen? ⟨w.heap.size,0,none⟩ = false:=Ag x5 0
        have hcl : AA (M.take j) ++ AA (M.drop (j + 1)) = AA M2:=by
         rw [HP.out]
         simp only [FE,↓reduceIte,List.append_nil]
         try rfl
        have hln : j + (M.length - (j + 1)) = M2.length:=by rw [HP.out]; simp; omega
        have o5' : w5.ownsRow 0 57 3 v5 M2.length (AA M2):=by
         rw [<- hln,<- hcl]; first | exact o5 | simpa using o5 | (have h5:=o5; simp at h5 ⊢; rw [show j + (M.length - j) = M.length by omega]; exact h5)
        have HO5:=hid o5'
        have N5:=hid n5
        have X5:=hid x5
        have HY5:=hid ((t5.block _ (Ad HY2.out) (fun h => h)).trans HY2.out)
        have B5 : Hid (Below w.heap.size w w5):=B2.out.trans ⟨t5.os,t5.tape,t5.output,t5.size,fun k hk => t5.block k (by have:=B2.out.size; omega) (fun h => h)⟩
        obtain ⟨a5,k5,rfl⟩:=An o5'
        have HN5 : Hid (a5 = none \/ ∃ g,a5 = some ⟨g,0,none⟩ /\ w2.heap.size <= g):=by
         rcases o5'.2 with ⟨hv,_⟩ | ⟨g,cap,cur,hv,_⟩
         · injection hv with hv; exact .inl hv
         · injection hv with hv; exact .inr ⟨g,hv,N5.out g (by rw [hv]; simp [Value.ownBlock])⟩
        have hb5:=block_set x5 0 (.slice a5 M2.length k5)
        clear hcl o5 o5' g5 l5 n5 t5 o4 hs4 c4 x5
        clear hln
        go_wp2
        go_roundw
        case rel =>
         have hs2:=B2.out.size
         have hlx:=Ad HX2.out
         have ht : Ac (fun k => k = w.heap.size) w5 (w5.setCell ⟨w.heap.size,0,none⟩ (.slice a5 M2.length k5)):=(Ac.refl (fun k => k = w.heap.size) w5).setCell (p:=⟨w.heap.size,0,none⟩) (.inl rfl) _
         exact ⟨i + 1,_,by omega,by go_num,block_set X5.out 0 (.slice a5 M2.length k5),by rw [HM2.out]; exact ht.row HO5.out (fun k hk => by have:=N5.out k hk; omega),(fun k hk => .inr (by have:=N5.out k hk; omega)),B5.out.setCell (p:=⟨w.heap.size,0,none⟩) (Nat.le_refl _) _,(ht.block _ (by have:=Ad X5.out; have:=Ad HY5.out; omega) (by omega)).trans HY5.out⟩
        case measure => exact hmes
  · obtain rfl : i = l.length:=by omega
    rw [List.take_length] at HI
    obtain ⟨hx,hrow,hown,hbw,hy⟩:=HI.out
    obtain ⟨ra,rc,rfl⟩:=An hrow
    have c0 : wr.cell? ⟨w.heap.size,0,none⟩ = some (.slice ra (AP m l).length rc):=(Ab hx 0).trans rfl
    have d1 : wr.frozen? ⟨w.heap.size + 1,0,none⟩ = false:=Ag hy 0
    have d0 : wr.cell? ⟨w.heap.size + 1,0,none⟩ = some (.slice none 0 0):=(Ab hy 0).trans rfl
    clear hx hrow hown hbw hy
    go_wp2
    refine bodyPost_ret (v:=.agg #[.slice ra (AP m l).length rc]) ?_ rfl ?_
    · rw [OK rfl]
      go_simp
    · have hs:=HI.out.2.2.2.1.size
      have hly:=Ad HI.out.2.2.2.2
      have ht : Ac (fun k => k = w.heap.size + 1) wr (wr.setCell ⟨w.heap.size + 1,0,none⟩ (.slice ra (AP m l).length rc)):=(Ac.refl (fun k => k = w.heap.size + 1) wr).setCell (p:=⟨w.heap.size + 1,0,none⟩) (.inl rfl) _
      have hrow:=HI.out.2.1
      refine ⟨_,rfl,ht.row hrow (fun k hk e => ?_),HI.out.2.2.2.1.setCell (p:=⟨w.heap.size + 1,0,none⟩) (Nat.le_succ _) _,HI.out.2.2.1⟩
      subst e
      rcases hrow.2 with ⟨hv,_⟩ | ⟨g,cap,cur,hv,_,hg,_⟩
      · rw [hv] at hk; simp [Value.ownBlock] at hk
      · rw [hv] at hk
        simp [Value.ownBlock] at hk
        subst hk
        rw [HI.out.2.2.2.2] at hg
        injection hg with hg
        injection hg with _ hg _
        exact absurd hg (by decide)
end
section
open Go.RowKit
structure Cv where
 box : Bx
 map : List Aa
 mem : List (ByteArray × Nat)
 tabs : Nat
 n : Nat
def Y9 (k : Key) : Bool:=match k with | c :: _ => decide (c = 122) | [] => false
def Bv (S : Bx) : List (Key × Ae):=S.files.filter fun x => Y9 x.1
def memP (mem : List (ByteArray × Nat)) (x : Aa) : List (ByteArray × Nat):=
 if mem.any (fun y => decide (y.1 = x.key)) then mem.map (fun y => if y.1 = x.key then (x.key,x.key.size + x.val.size) else y) else mem ++ [(x.key,x.key.size + x.val.size)]
def QL (mem : List (ByteArray × Nat)) (l : List Aa) : List (ByteArray × Nat):=l.foldl memP mem
def ZW (mem : List (ByteArray × Nat)) : Nat:=(mem.map (·.2)).sum
def limN : Nat:=1000
def limW : Nat:=2199023255552
def Cb (F : Nat -> Prop) (w : World) (F' : Nat -> Prop) : Prop:=∀ k,F' k -> F k \/ w.heap.size <= k
def Fe (Op : Bx -> List Aa -> Nat -> Prop) (w : World) (b : Nat) (S : Bx) (F : Nat -> Prop) (ms : List (List Aa)) (n : Nat) : Prop:=AH w b S F /\ S.down = true /\ weigh S.files <= limW /\ ∀ keep,∃ m ∈ ms,Op (S.crash keep) m n
structure Is (E : Nat -> World -> Prop) (St : World -> Nat -> Nat -> Cv -> (Nat -> Prop) -> Prop) (Op : Bx -> List Aa -> Nat -> Prop) : Prop where
 e_size : ∀ {B w},E B w -> B <= w.heap.size
 e_turn : ∀ {B w w' G},E B w -> Ac G w w' -> (∀ k,G k -> B <= k) -> E B w'
 turn : ∀ {w w' d b s F G},St w d b s F -> Ac G w w' -> (∀ k,F k -> ¬ G k) -> St w' d b s F
 mono : ∀ {w d b s F G},St w d b s F -> (∀ k,F k -> G k) -> St w d b s G
 tight : ∀ {w d b s F},St w d b s F -> St w d b s (fun k => F k /\ k < w.heap.size)
 box : ∀ {w d b s F},St w d b s F -> AH w b s.box F /\ s.box.down = false
 good : ∀ {w d b s F},St w d b s F -> Ak s.map /\ Abs s.map /\ s.map.length <= 64 * s.n /\ s.tabs <= 3 /\ weigh s.box.files <= limW
 hold : ∀ {w d b s F},St w d b s F -> ∀ keep,Op (s.box.crash keep) s.map s.n
 empty : ∀ {S : Bx},(∀ x ∈ S.files,Y9 x.1 = true /\ x.1.length <= 18 /\ x.2.dur = x.2.bytes.length) -> S.down = false -> weigh S.files <= 1099511627776 -> AC S.files -> Op S [] 0
 fuel : ∀ {w d b s F},St w d b s F -> ∀ n : Int,(Lit.int .i64 n).wf = true -> Calls Tryz.prog 23 #[.pointer (some ⟨b,0,none⟩),.int .i64 n] w fun e w' => e = .returned (.tuple #[]) /\ Ac F w w' /\ St w' d b { s with box:=⟨s.box.files,n,s.box.down⟩ } F
 refuel : ∀ {S : Bx} {m n} (f : Int),Op S m n -> Op ⟨S.files,f,S.down⟩ m n
 check : ∀ {w a c l},Aj w (.slice a l.length c) l -> Calls Tryz.prog 29 #[.slice a l.length c] w fun e w' => e = .returned (.int .i64 (A5 l : Nat)) /\ Below w.heap.size w w'
 opens : ∀ {B w b S F m n},E B w -> AH w b S F -> (∀ k,F k -> B <= k) -> S.down = false -> Op S m n -> n <= limN -> Calls Tryz.prog 24 #[.pointer (some ⟨b,0,none⟩)] w fun e w' => Ac F w w' /\
  ((∃ d s F',e = .returned (.tuple #[.pointer (some ⟨d,0,none⟩),.int .i64 0]) /\ St w' d b s F' /\ Cb F w F' /\ s.map = m /\ s.n = n + 1 /\ Bv s.box = Bv S /\ (S.fuel < 0 -> s.box.fuel < 0) /\ (S.files = [] -> s.mem = [] /\ s.tabs = 0)) \/
   (0 <= S.fuel /\ ∃ p S' F',e = .returned (.tuple #[.pointer p,.int .i64 30]) /\ Fe Op w' b S' F' [m] (n + 1) /\ Cb F w F'))
 write : ∀ {B w d b s F a c l},E B w -> St w d b s F -> (∀ k,F k -> B <= k) -> Aj w (.slice a l.length c) l -> (∀ g o,a = some ⟨g,o,none⟩ -> l ≠ [] -> ¬ F g) -> s.n <= limN -> Calls Tryz.prog 31 #[.pointer (some ⟨d,0,none⟩),.slice a l.length c] w fun e w' => Ac F w w' /\
  ((A5 l ≠ 0 /\ e = .returned (.int .i64 (A5 l : Nat)) /\ ∃ F',St w' d b s F' /\ Cb F w F') \/
   (A5 l = 0 /\ e = .returned (.int .i64 0) /\ ∃ s' F',St w' d b s' F' /\ Cb F w F' /\ s'.map = AP s.map l /\ s'.n = s.n + 1 /\ Bv s'.box = Bv s.box /\ (s.box.fuel < 0 -> s'.box.fuel < 0) /\ s'.mem = (if 4096 <= ZW (QL s.mem l) then [] else QL s.mem l)) \/
   (A5 l = 0 /\ 0 <= s.box.fuel /\ e = .returned (.int .i64 30) /\ ∃ S' F',Fe Op w' b S' F' [s.map,AP s.map l] (s.n + 1) /\ Cb F w F'))
 get : ∀ {B w d b s F},E B w -> St w d b s F -> (∀ k,F k -> B <= k) -> ∀ k : ByteArray,Calls Tryz.prog 36 #[.pointer (some ⟨d,0,none⟩),.string k] w fun e w' => e = .returned (.tuple #[.string (CE k s.map).1,.bool (CE k s.map).2,.int .i64 0]) /\ Ac F w w' /\ ∃ F',St w' d b s F' /\ Cb F w F'
 scan : ∀ {B w d b s F},E B w -> St w d b s F -> (∀ k,F k -> B <= k) -> ∀ (fr tu : ByteArray) (most : Int),(Lit.int .i64 most).wf = true -> fr.size <= 281474976710656 -> Calls Tryz.prog 33 #[.pointer (some ⟨d,0,none⟩),.string fr,.string tu,.int .i64 most] w fun e w' => ∃ r F',e = .returned (.tuple #[r,.int .i64 0]) /\ w'.ownsRow w.heap.size 57 3 r (I8 s.map fr tu most).length (AA (I8 s.map fr tu most)) /\ (∀ k,r.ownBlock = some k -> ¬ F' k) /\ Ac F w w' /\ St w' d b s F' /\ Cb F w F'
 flush : ∀ {B w d b s F},E B w -> St w d b s F -> (∀ k,F k -> B <= k) -> s.n <= limN -> Calls Tryz.prog 38 #[.pointer (some ⟨d,0,none⟩)] w fun e w' => Ac F w w' /\
  ((e = .returned (.int .i64 0) /\ ∃ s' F',St w' d b s' F' /\ Cb F w F' /\ s'.map = s.map /\ s'.n = s.n + 1 /\ Bv s'.box = Bv s.box /\ (s.box.fuel < 0 -> s'.box.fuel < 0) /\ s'.mem = []) \/
   (0 <= s.box.fuel /\ e = .returned (.int .i64 30) /\ ∃ S' F',Fe Op w' b S' F' [s.map] (s.n + 1) /\ Cb F w F'))
 compact : ∀ {B w d b s F},E B w -> St w d b s F -> (∀ k,F k -> B <= k) -> s.n <= limN -> Calls Tryz.prog 39 #[.pointer (some ⟨d,0,none⟩)] w fun e w' => Ac F w w' /\
  ((e = .returned (.int .i64 0) /\ ∃ s' F',St w' d b s' F' /\ Cb F w F' /\ s'.map = s.map /\ s'.n = s.n + 1 /\ Bv s'.box = Bv s.box /\ (s.box.fuel < 0 -> s'.box.fuel < 0) /\ s'.tabs <= 1) \/
   (0 <= s.box.fuel /\ e = .returned (.int .i64 30) /\ ∃ S' F',Fe Op w' b S' F' [s.map] (s.n + 1) /\ Cb F w F'))
end
section
open Go.RowKit
theorem AbA {m : List Aa} (h : Ak m) {i : Nat} (hi : i < m.length) : CE m[i].key m = (m[i].val,true):=by
 unfold CE
 rw [V8 h hi]
end
end Go.Proofs.YtnafjlhohbhcoaaGreatDoor
