/- Parts of the proof. -/
import Derived.Test.YtnafjlhohbhcoaaGreatDoorQ41
import Derived.JoinedCond
namespace Go.Proofs.YtnafjlhohbhcoaaGreatDoor
open Go.Lib (hid)
set_option linter.unusedVariables false
open Go.RowKit Go.Maps Go.WideMaps Go.Shelf
attribute [local go_sem] Oper.semAt_some
theorem Zc {f : Int} (h : (Lit.int .i64 f).wf = true) : (Lit.int .i64 (max f 0)).wf = true:=by
 rcases (by omega : max f 0 = f \/ max f 0 = 0) with e | e
 · rw [e]; exact h
 · rw [e]; decide
theorem AbD (m cs l : List Aa) : doC m cs l ≠ 30:=by
 by_cases h0 : 64 < cs.length
 · rw [KV h0]; decide
 by_cases h1 : A5 l = 0
 · rw [Hj h0 h1]; rcases SL m cs with e | e <;> rw [e] <;> decide
 · rw [J2 h0 h1]
   unfold A5
   split
   · decide
   split
   · decide
   split
   · unfold Aw; split
     · decide
     split <;> decide
   · decide
section
variable {E : Nat -> World -> Prop} {St : World -> Nat -> Nat -> Cv -> (Nat -> Prop) -> Prop} {Op : Bx -> List Aa -> Nat -> Prop} (K : Is E St Op)
include K
set_option maxHeartbeats 16000000 in
set_option maxRecDepth 100000 in
theorem MN {w : World} (hE : E w.heap.size w) (a0 : Option Addr) (c0 : Nat) (cs : List FJ) (fu : Int) (kv : Value) (ks : List Int) (hC : Jr w (.slice a0 cs.length c0) cs) (hfu : (Lit.int .i64 fu).wf = true) (hks : Eo (fun k => w.heap.size <= k) w kv ks) :
 Calls Tryz.prog 6 #[.slice a0 cs.length c0,.int .i64 fu,kv] w fun e w' => e = .returned (.bool true) /\ Below w.heap.size w w':=by
 have haw:=E9 K hE
 have hcm:=hC.1
 have HC:=hid hC
 obtain ⟨ka,kc,rfl,-⟩:=hks.ex
 have HKS:=hid hks
 have HFU:=hid (Zc hfu)
 have hfb:=bounds_i64 hfu
 clear hC hks hfu
 go_enter Tryz.func6,Tryz.ntmps6
 go_wp2_with fail
 refine haw.mono ?_
 rintro e w1 ⟨rfl,B1⟩
 have E1:=K.e_below hE B1
 clear haw
 by_cases hbig : 100 < cs.length
 · have hbg : (100 : Int) < cs.length:=by omega
   go_wp2
   go_ret
   exact ⟨rfl,B1⟩
 go_wp2_with fail
 refine (GN w1).mono ?_
 rintro e w2 ⟨p,rfl,hp,hbx,b2⟩
 have hop:=DM K (Gr K E1 B1 hbx (fun k hk => hk.1) b2) (by decide) (by decide)
 clear hbx b2 hp
 go_wp2_with fail
 refine hop.mono ?_
 rintro e w3 ⟨c,d,s0,rfl,-,h3,em,en,-⟩
 have hfl:=YY K h3.a _ HFU.out
 have HN:=hid (And.intro em en)
 have H3:=hid h3
 clear hop h3 em en E1 B1 hE
 go_wp2_with fail
 refine hfl.mono ?_
 rintro e w4 ⟨rfl,t4,a4⟩
 have h4:=H3.out.turn t4 a4
 have b5 : Below w4.heap.size w4 (w4.alloc (.cells #[.slice none 0 0,.int .i64 0] 34)):=(Below.refl _ w4).alloc (Nat.le_refl _) _
 have h5:=h4.laid K b5
 have HM5:=hid (A7.new (X:=fun _ => False) (h4.size K))
 have m0 : (w4.alloc (.cells #[.slice none 0 0,.int .i64 0] 34)).cell? ⟨w4.heap.size,0,none⟩ = some (.slice none 0 0):=(Ab (heap_alloc_new _ _) 0).trans rfl
 have m1 : (w4.alloc (.cells #[.slice none 0 0,.int .i64 0] 34)).cell? ⟨w4.heap.size,1,none⟩ = some (.int .i64 0):=(Ab (heap_alloc_new _ _) 1).trans rfl
 have b6 : Below (w4.alloc (.cells #[.slice none 0 0,.int .i64 0] 34)).heap.size (w4.alloc (.cells #[.slice none 0 0,.int .i64 0] 34)) ((w4.alloc (.cells #[.slice none 0 0,.int .i64 0] 34)).alloc (.cells #[.slice none 0 0,.int .i64 0] 34)):=(Below.refl _ _).alloc (Nat.le_refl _) _
 have HU6:=hid (h5.laid K b6)
 have HM6:=hid ((HM5.out.below b6).more (Y:=fun k => (False \/ (w4.heap.size <= k /\ k < (w4.alloc (.cells #[.slice none 0 0,.int .i64 0] 34)).heap.size)) \/ ((w4.alloc (.cells #[.slice none 0 0,.int .i64 0] 34)).heap.size <= k /\ k < ((w4.alloc (.cells #[.slice none 0 0,.int .i64 0] 34)).alloc (.cells #[.slice none 0 0,.int .i64 0] 34)).heap.size)) (fun _ h => .inl h))
 have HA6:=hid (A7.new (X:=fun k => False \/ (w4.heap.size <= k /\ k < (w4.alloc (.cells #[.slice none 0 0,.int .i64 0] 34)).heap.size)) (h5.size K))
 clear hfl t4 a4 h4 b5 h5 b6 H3
 go_upto_block 0 with (fail)
 generalize (fun k => (False \/ (w4.heap.size <= k /\ k < (w4.alloc (.cells #[.slice none 0 0,.int .i64 0] 34)).heap.size)) \/ ((w4.alloc (.cells #[.slice none 0 0,.int .i64 0] 34)).heap.size <= k /\ k < ((w4.alloc (.cells #[.slice none 0 0,.int .i64 0] 34)).alloc (.cells #[.slice none 0 0,.int .i64 0] 34)).heap.size)) = X0 at *
 generalize (w4.alloc (.cells #[.slice none 0 0,.int .i64 0] 34)).alloc (.cells #[.slice none 0 0,.int .i64 0] 34) = w6 at *
 rw [World.size_alloc] at HA6
 have hmap : ({ s0 with box:=⟨s0.box.files,max fu 0,s0.box.down⟩ } : Cv).map = []:=HN.out.1
 have HST : Hid (∃ X s d n nm na,Cas E St w.heap.size w X w6 c d p s n /\ A7 w.heap.size X w6 w4.heap.size s.map nm /\ A7 w.heap.size X w6 (w4.heap.size + 1) s.map na /\ s.n <= 2 * 0 + 1 /\ n <= 0 /\ nm <= 0):=⟨X0,_,d,0,0,0,HU6.out,by rw [hmap]; exact HM6.out,by rw [hmap]; exact HA6.out,by have:=HN.out.2; show s0.n <= _; omega,Nat.le_refl _,Nat.le_refl _⟩
 clear hmap HU6 HM6 HA6 HM5 m0 m1 HN HFU hfb
 generalize w4.heap.size = mb at *
 go_cut [] from 12 (fun wx => Hid (∃ X ms nn M1 M2 n1 n2,Jb E Op w.heap.size w X wx p ms nn /\ A7 w.heap.size X wx mb M1 n1 /\ A7 w.heap.size X wx (mb + 1) M2 n2 /\ (∀ m ∈ ms,m = M1 \/ m = M2) /\ nn <= 900))
 case first =>
  go_wp2_with fail
  go_loopw [39] (fun iv wr => ∃ i : Nat,i <= cs.length /\ iv = .int .i64 (i : Int) /\ Hid (∃ X s d n nm na,Cas E St w.heap.size w X wr c d p s n /\ A7 w.heap.size X wr mb s.map nm /\ A7 w.heap.size X wr (mb + 1) s.map na /\ s.n <= 2 * i + 1 /\ n <= i /\ nm <= i)) (fun iv _ => cs.length - (intOf iv).toNat)
  case atStart => exact ⟨0,Nat.zero_le _,rfl,HST.out⟩
  case round =>
   obtain ⟨i,hil,rfl,HI⟩:=hrel
   clear HST
   by_cases hlt : i < cs.length
   · obtain ⟨X,s,d,n,nm,na,hr,hm,ha,hn,hni,hnm⟩:=HI.out
     obtain ⟨g,o,rfl,q0,q1,q2,q3,q4,q5,q6,ok⟩:=HC.out.at hr.a.bel hlt
     have hmes : cs.length - (intOf (.int .i64 ((i : Int) + 1))).toNat < cs.length - (intOf (.int .i64 (i : Int))).toNat:=by simp [intOf]; omega
     generalize cs[i] = C at *
     obtain ⟨ck,cv,cds,bv,cb,ckey,cfr,cmost,call⟩:=C
     obtain ⟨ya,yc,ecv⟩:=ok.rc.slice
     obtain ⟨ba,bc,ebv⟩:=ok.read.slice
     simp only at q0 q1 q2 q3 q4 q5 q6 ecv ebv
     subst ecv
     subst ebv
     have hbl : Below wr.heap.size wr (wr.alloc (.cells #[.int .i64 ck,.slice ya cds.length yc,.slice ba cb.length bc,.string ckey,.string cfr,.int .i64 cmost,.bool call] 36)):=(Below.refl _ wr).alloc (Nat.le_refl _) _
     have hcb:=CA.new wr ⟨ck,.slice ya cds.length yc,cds,.slice ba cb.length bc,cb,ckey,cfr,cmost,call⟩
     obtain ⟨y0,y1,y2,y3,y4,y5,y6⟩:=hcb.cs
     simp only at y0 y1 y2 y3 y4 y5 y6
     have HR:=hid (hr.laid K hbl)
     have HM:=hid ((hm.below hbl).more (Y:=fun k => X k \/ (wr.heap.size <= k /\ k < (wr.alloc (.cells #[.int .i64 ck,.slice ya cds.length yc,.slice ba cb.length bc,.string ckey,.string cfr,.int .i64 cmost,.bool call] 36)).heap.size)) (fun _ h => .inl h))
     have HA:=hid ((ha.below hbl).more (Y:=fun k => X k \/ (wr.heap.size <= k /\ k < (wr.alloc (.cells #[.int .i64 ck,.slice ya cds.length yc,.slice ba cb.length bc,.string ckey,.string cfr,.int .i64 cmost,.bool call] 36)).heap.size)) (fun _ h => .inl h))
     have HXL : Hid ((fun k => X k \/ (wr.heap.size <= k /\ k < (wr.alloc (.cells #[.int .i64 ck,.slice ya cds.length yc,.slice ba cb.length bc,.string ckey,.string cfr,.int .i64 cmost,.bool call] 36)).heap.size)) wr.heap.size):=.inr ⟨Nat.le_refl _,by simp⟩
     have HML : Hid (s.map.length <= 64 * s.n):=(K.good hr.a.st).2.2.1
     have HNX:=hid hn
     have HOK:=hid ok
     clear hr hm ha hn HI ok
     go_upto_region 15 with (fail)
     clear q0 q1 q2 q3 q4 q5 q6 hbl
     generalize wr.alloc (.cells #[.int .i64 ck,.slice ya cds.length yc,.slice ba cb.length bc,.string ckey,.string cfr,.int .i64 cmost,.bool call] 36) = wl at *
     generalize (fun k => X k \/ (wr.heap.size <= k /\ k < wl.heap.size)) = X2 at *
     generalize wr.heap.size = lb at *
     have HCB:=hid hcb
     clear hcb
     have HB:=hid HR.out.a.bel
     by_cases k3 : ck = 3
     · subst k3
       have hsc:=Aao K HR.out call (by have:=HNX.out; unfold limN; omega)
       go_wp2_with fail
       refine hsc.mono ?_
       rintro e w5 ⟨t5,⟨rfl,s5,h5,em5,en5,-⟩ | ⟨-,rfl,n5,hn5,wa⟩⟩
       · have hcb5 : CA w5 lb _:=(t5.block _ (Ad HCB.out) (fun g => g.2 HXL.out)).trans HCB.out
         have z0:=hcb5.cs.1
         simp only at z0
         have HGo : Hid (∃ X s d n nm na,Cas E St w.heap.size w X w5 c d p s n /\ A7 w.heap.size X w5 mb s.map nm /\ A7 w.heap.size X w5 (mb + 1) s.map na /\ s.n <= 2 * (i + 1) + 1 /\ n <= (i + 1) /\ nm <= (i + 1)):=⟨X2,s5,d,n,nm,na,h5,by rw [em5]; exact HM.out.ox t5,by rw [em5]; exact HA.out.ox t5,by have:=HNX.out; omega,by omega,by omega⟩
         clear hsc t5 h5 em5 en5 hcb5 y0 y1 y2 y3 y4 y5 y6
         go_wp2
         go_roundw
         case rel => exact ⟨i + 1,by omega,by go_num,HGo⟩
         case measure => exact hmes
       · have HGo : Hid (∃ X ms nn M1 M2 n1 n2,Jb E Op w.heap.size w X w5 p ms nn /\ A7 w.heap.size X w5 mb M1 n1 /\ A7 w.heap.size X w5 (mb + 1) M2 n2 /\ (∀ m ∈ ms,m = M1 \/ m = M2) /\ nn <= 900):=⟨_,_,n5,s.map,s.map,nm,na,wa,(HM.out.ox t5).more (fun _ h => .inl h),(HA.out.ox t5).more (fun _ h => .inl h),fun m hm => .inl (List.mem_singleton.1 hm),by have:=HNX.out; omega⟩
         clear hsc t5 wa y0 y1 y2 y3 y4 y5 y6
         go_wp2_with fail
         go_meet
         exact HGo
     have k3' : (ck == 3) = false:=by simpa using k3
     by_cases k0 : ck = 0
     · subst k0
       obtain ⟨va,vc,m0,m1,-,-,hrow,hxr⟩:=HM.out.cs
       have hrd:=Hq hrow nm (by omega) (HOK.out.rc.below HB.out) (HOK.out.read.below HB.out) (by have:=HML.out; have:=HNX.out; omega)
       have HXR:=hid hxr
       clear hrow hxr
       go_wp2_with fail
       refine hrd.mono ?_
       rintro e w5 ⟨r,rfl,hr5,b5,hv5⟩
       obtain ⟨ra,rc,rfl⟩:=An hr5
       have b6 : Below w5.heap.size w5 (w5.alloc (.cells #[.slice ra (Dw s.map cds cb).length rc,.int .i64 (Dh s.map cds cb nm : Nat)] 34)):=(Below.refl _ w5).alloc (Nat.le_refl _) _
       have b56:=b5.trans (b6.mono b5.size)
       have HNB:=hid (NR (n2:=Dh s.map cds cb nm) (HR.out.size K) b5 hr5 (X:=X2) (fun k hk => (hv5 k hk).imp_left (HXR.out k)))
       have HR6:=hid (HR.out.laid K b56)
       have HM6:=hid ((HM.out.below b56).more (Y:=fun k => X2 k \/ (wl.heap.size <= k /\ k < (w5.alloc (.cells #[.slice ra (Dw s.map cds cb).length rc,.int .i64 (Dh s.map cds cb nm : Nat)] 34)).heap.size)) (fun _ h => .inl h))
       have HA6:=hid ((HA.out.below b56).more (Y:=fun k => X2 k \/ (wl.heap.size <= k /\ k < (w5.alloc (.cells #[.slice ra (Dw s.map cds cb).length rc,.int .i64 (Dh s.map cds cb nm : Nat)] 34)).heap.size)) (fun _ h => .inl h))
       have hcb6 : CA (w5.alloc (.cells #[.slice ra (Dw s.map cds cb).length rc,.int .i64 (Dh s.map cds cb nm : Nat)] 34)) lb _:=(b56.block _ (Ad HCB.out)).trans HCB.out
       obtain ⟨z0,z1,z2,z3,z4,z5,z6⟩:=hcb6.cs
       simp only at z0 z1 z2 z3 z4 z5 z6
       have HB6:=hid HR6.out.a.bel
       have HNE : Hid (w5.heap.size ≠ mb + 1):=fun e => by obtain ⟨_,_,h1,-⟩:=HA.out.m; have:=Ad h1; have:=b5.size; omega
       clear hrd hr5 b5 hv5 b6 b56 y0 y1 y2 y3 y4 y5 y6 m0 m1 HXR hcb6
       go_upto_region 19 with (fail)
       generalize (fun k => X2 k \/ (wl.heap.size <= k /\ k < (w5.alloc (.cells #[.slice ra (Dw s.map cds cb).length rc,.int .i64 (Dh s.map cds cb nm : Nat)] 34)).heap.size)) = X6 at *
       generalize w5.alloc (.cells #[.slice ra (Dw s.map cds cb).length rc,.int .i64 (Dh s.map cds cb nm : Nat)] 34) = w6 at *
       generalize w5.heap.size = nb at *
       have hdo:=Abm K HR6.out (HOK.out.rc.below HB6.out) (EO HOK.out.rc) (HOK.out.read.below HB6.out) (EO HOK.out.read) (by have:=HNX.out; unfold limN; omega) (by omega)
       have hcn : Dh s.map cds cb nm <= i + 1:=by unfold Dh; split <;> omega
       have HQ30:=hid (AbD s.map cds cb)
       have HAF : Hid ((doC s.map cds cb ≠ 0 -> Dw s.map cds cb = s.map) /\ (doC s.map cds cb = 0 -> Dw s.map cds cb = AP s.map cb)):=⟨Jp,KF⟩
       generalize doC s.map cds cb = q at *
       go_wp2_with fail
       refine hdo.mono ?_
       rintro e w7 ⟨t7,⟨h0,rfl,h7⟩ | ⟨rfl,rfl,s7,h7,em7,en7,-⟩ | ⟨rfl,-,rfl,wa⟩⟩
       · have h30 : ((q : Int) == 30) = false:=by rw [beq_eq_false_iff_ne]; have:=HQ30.out; omega
         have HM7:=hid (HM6.out.ox t7)
         have HN7:=hid (HNB.out.ox t7)
         have HA7:=hid (HA6.out.ox t7)
         have HR7:=hid h7
         have EM7 : Hid (Dw s.map cds cb = s.map):=HAF.out.1 h0
         have EN7 : Hid (s.n <= 2 * (i + 1) + 1 /\ n <= i + 1):=⟨by have:=HNX.out; omega,by omega⟩
         clear hdo h7 t7
         generalize Dw s.map cds cb = M9 at *
         generalize Dh s.map cds cb nm = k9 at *
         obtain ⟨v7,c7,n0,n1,nf0,nf1,hrow7,hx7⟩:=HN7.out.cs
         obtain ⟨v8,c8,m0,m1,mf0,mf1,-,-⟩:=HM7.out.cs
         have HPUT:=hid (HM7.out.put (n2:=k9) hrow7 hx7)
         clear hrow7 hx7
         go_upto_region 27 with (fail)
         have h8:=HPUT.out
         generalize hw8 : ((w7.setCell ⟨mb,0,none⟩ (.slice v7 M9.length c7)).setCell ⟨mb,1,none⟩ (.int .i64 k9)) = w8 at *
         have hs8 : w8.heap.size = w7.heap.size:=by rw [<- hw8]; simp
         have HR8:=hid (HR7.out.onRef K HM7.out.xm HM7.out.lo h8.2 hs8)
         have HM8:=hid h8.1
         have HA8:=hid (HA7.out.beside HM7.out (by omega) h8.2)
         clear h8 hs8 hw8 HPUT n0 n1 nf0 nf1 m0 m1 mf0 mf1
         obtain ⟨v9,c9,m0,m1,mf0,mf1,hrow9,hx9⟩:=HM8.out.cs
         obtain ⟨v10,c10,n0,n1,nf0,nf1,-,-⟩:=HA8.out.cs
         have HPUT:=hid (HA8.out.put (n2:=k9) hrow9 hx9)
         clear hrow9 hx9
         have HGo : Hid (∃ X s d n nm na,Cas E St w.heap.size w X ((w8.setCell ⟨mb + 1,0,none⟩ (.slice v9 M9.length c9)).setCell ⟨mb + 1,1,none⟩ (.int .i64 k9)) c d p s n /\ A7 w.heap.size X ((w8.setCell ⟨mb + 1,0,none⟩ (.slice v9 M9.length c9)).setCell ⟨mb + 1,1,none⟩ (.int .i64 k9)) mb s.map nm /\ A7 w.heap.size X ((w8.setCell ⟨mb + 1,0,none⟩ (.slice v9 M9.length c9)).setCell ⟨mb + 1,1,none⟩ (.int .i64 k9)) (mb + 1) s.map na /\ s.n <= 2 * (i + 1) + 1 /\ n <= (i + 1) /\ nm <= (i + 1)):=by
          have h9:=HPUT.out
          have hs9 : ((w8.setCell ⟨mb + 1,0,none⟩ (.slice v9 M9.length c9)).setCell ⟨mb + 1,1,none⟩ (.int .i64 k9)).heap.size = w8.heap.size:=by simp
          exact ⟨X6,s,d,n,_,_,HR8.out.onRef K HA8.out.xm HA8.out.lo h9.2 hs9,by rw [<- EM7.out]; exact HM8.out.beside HA8.out (by omega) h9.2,by rw [<- EM7.out]; exact h9.1,EN7.out.1,EN7.out.2,hcn⟩
         clear HPUT
         go_wp2
         go_roundw
         case rel => exact ⟨i + 1,by omega,by go_num,HGo⟩
         case measure => exact hmes
       · have HM7:=hid (HM6.out.ox t7)
         have HN7:=hid (HNB.out.ox t7)
         have HA7:=hid (HA6.out.ox t7)
         have HR7:=hid h7
         have EM7 : Hid (Dw s.map cds cb = s7.map):=(HAF.out.2 rfl).trans em7.symm
         have EN7 : Hid (s7.n <= 2 * (i + 1) + 1 /\ (n + 1) <= i + 1):=⟨by have:=HNX.out; omega,by omega⟩
         clear hdo h7 t7
         generalize Dw s.map cds cb = M9 at *
         generalize Dh s.map cds cb nm = k9 at *
         obtain ⟨v7,c7,n0,n1,nf0,nf1,hrow7,hx7⟩:=HN7.out.cs
         obtain ⟨v8,c8,m0,m1,mf0,mf1,-,-⟩:=HM7.out.cs
         have HPUT:=hid (HM7.out.put (n2:=k9) hrow7 hx7)
         clear hrow7 hx7
         go_upto_region 27 with (fail)
         have h8:=HPUT.out
         generalize hw8 : ((w7.setCell ⟨mb,0,none⟩ (.slice v7 M9.length c7)).setCell ⟨mb,1,none⟩ (.int .i64 k9)) = w8 at *
         have hs8 : w8.heap.size = w7.heap.size:=by rw [<- hw8]; simp
         have HR8:=hid (HR7.out.onRef K HM7.out.xm HM7.out.lo h8.2 hs8)
         have HM8:=hid h8.1
         have HA8:=hid (HA7.out.beside HM7.out (by omega) h8.2)
         clear h8 hs8 hw8 HPUT n0 n1 nf0 nf1 m0 m1 mf0 mf1
         obtain ⟨v9,c9,m0,m1,mf0,mf1,hrow9,hx9⟩:=HM8.out.cs
         obtain ⟨v10,c10,n0,n1,nf0,nf1,-,-⟩:=HA8.out.cs
         have HPUT:=hid (HA8.out.put (n2:=k9) hrow9 hx9)
         clear hrow9 hx9
         have HGo : Hid (∃ X s d n nm na,Cas E St w.heap.size w X ((w8.setCell ⟨mb + 1,0,none⟩ (.slice v9 M9.length c9)).setCell ⟨mb + 1,1,none⟩ (.int .i64 k9)) c d p s n /\ A7 w.heap.size X ((w8.setCell ⟨mb + 1,0,none⟩ (.slice v9 M9.length c9)).setCell ⟨mb + 1,1,none⟩ (.int .i64 k9)) mb s.map nm /\ A7 w.heap.size X ((w8.setCell ⟨mb + 1,0,none⟩ (.slice v9 M9.length c9)).setCell ⟨mb + 1,1,none⟩ (.int .i64 k9)) (mb + 1) s.map na /\ s.n <= 2 * (i + 1) + 1 /\ n <= (i + 1) /\ nm <= (i + 1)):=by
          have h9:=HPUT.out
          have hs9 : ((w8.setCell ⟨mb + 1,0,none⟩ (.slice v9 M9.length c9)).setCell ⟨mb + 1,1,none⟩ (.int .i64 k9)).heap.size = w8.heap.size:=by simp
          exact ⟨X6,s7,d,(n + 1),_,_,HR8.out.onRef K HA8.out.xm HA8.out.lo h9.2 hs9,by rw [<- EM7.out]; exact HM8.out.beside HA8.out (by omega) h9.2,by rw [<- EM7.out]; exact h9.1,EN7.out.1,EN7.out.2,hcn⟩
         clear HPUT
         go_wp2
         go_roundw
         case rel => exact ⟨i + 1,by omega,by go_num,HGo⟩
         case measure => exact hmes
       · have HM7:=hid (HM6.out.ox t7)
         have HN7:=hid (HNB.out.ox t7)
         have HA7:=hid (HA6.out.ox t7)
         have HWA:=hid wa
         have EM7:=hid (HAF.out.2 rfl)
         clear hdo wa t7 HAF HQ30
         obtain ⟨v8,c8,m0,m1,mf0,mf1,hrow8,hx8⟩:=HM7.out.cs
         obtain ⟨v10,c10,n0,n1,nf0,nf1,-,-⟩:=HA7.out.cs
         have HPUT:=hid (HA7.out.put (n2:=nm) hrow8 hx8)
         clear hrow8 hx8
         go_upto_region 22 with (fail)
         have h8:=HPUT.out
         generalize hw8 : ((w7.setCell ⟨mb + 1,0,none⟩ (.slice v8 s.map.length c8)).setCell ⟨mb + 1,1,none⟩ (.int .i64 (nm : Nat))) = w8 at *
         have HN8:=hid (HN7.out.beside HA7.out HNE.out h8.2)
         have HM8:=hid (HM7.out.beside HA7.out (by omega) h8.2)
         have HA8:=hid h8.1
         have HT8:=hid h8.2
         clear h8 hw8 HPUT m0 m1 mf0 mf1 n0 n1 nf0 nf1
         obtain ⟨v9,c9,m0,m1,mf0,mf1,hrow9,hx9⟩:=HN8.out.cs
         obtain ⟨v11,c11,n0,n1,nf0,nf1,-,-⟩:=HA8.out.cs
         have HPUT:=hid (HA8.out.put (n2:=Dh s.map cds cb nm) hrow9 hx9)
         clear hrow9 hx9
         generalize Dh s.map cds cb nm = k9 at *
         generalize Dw s.map cds cb = M9 at *
         have HGo : Hid (∃ X ms nn M1 M2 n1 n2,Jb E Op w.heap.size w X ((w8.setCell ⟨mb + 1,0,none⟩ (.slice v9 M9.length c9)).setCell ⟨mb + 1,1,none⟩ (.int .i64 (k9 : Nat))) p ms nn /\ A7 w.heap.size X ((w8.setCell ⟨mb + 1,0,none⟩ (.slice v9 M9.length c9)).setCell ⟨mb + 1,1,none⟩ (.int .i64 (k9 : Nat))) mb M1 n1 /\ A7 w.heap.size X ((w8.setCell ⟨mb + 1,0,none⟩ (.slice v9 M9.length c9)).setCell ⟨mb + 1,1,none⟩ (.int .i64 (k9 : Nat))) (mb + 1) M2 n2 /\ (∀ m ∈ ms,m = M1 \/ m = M2) /\ nn <= 900):=by
          have h9:=HPUT.out
          have hwa:=HWA.out.own (K:=K) (HT8.out.trans h9.2 (fun i hi => .inl hi)) (fun i hi => by subst hi; exact ⟨.inl HA8.out.xm,HA8.out.lo⟩)
          exact ⟨_,_,_,s.map,M9,nm,k9,hwa,(HM8.out.beside HA8.out (by omega) h9.2).more (fun _ h => .inl (.inl h)),h9.1.more (fun _ h => .inl (.inl h)),fun m hm => by rw [EM7.out]; simpa using hm,by have:=HNX.out; omega⟩
         clear HPUT
         go_wp2_with fail
         go_meet
         exact HGo
     · have k0' : (ck != 0) = true:=by simpa using k0
       have HGo : Hid (∃ X s d n nm na,Cas E St w.heap.size w X wl c d p s n /\ A7 w.heap.size X wl mb s.map nm /\ A7 w.heap.size X wl (mb + 1) s.map na /\ s.n <= 2 * (i + 1) + 1 /\ n <= (i + 1) /\ nm <= (i + 1)):=⟨X2,s,d,n,nm,na,HR.out,HM.out,HA.out,by have:=HNX.out; omega,by omega,by omega⟩
       clear y1 y2 y3 y4 y5 y6
       go_wp2
       go_roundw
       case rel => exact ⟨i + 1,by omega,by go_num,HGo⟩
       case measure => exact hmes
   · obtain rfl : i = cs.length:=by omega
     obtain ⟨X,s,d,n,nm,na,hr,hm,ha,hn,hni,hnm⟩:=HI.out
     have HGo : Hid (∃ X ms nn M1 M2 n1 n2,Jb E Op w.heap.size w X wr p ms nn /\ A7 w.heap.size X wr mb M1 n1 /\ A7 w.heap.size X wr (mb + 1) M2 n2 /\ (∀ m ∈ ms,m = M1 \/ m = M2) /\ nn <= 900):=⟨_,_,s.n,s.map,s.map,nm,na,hr.a.was K,hm.more (fun _ h => .inl h),ha.more (fun _ h => .inl h),fun m hm => .inl (List.mem_singleton.1 hm),by omega⟩
     clear hr hm ha hn hni hnm HI
     go_wp2_with fail
     go_meet
     exact HGo
 case rest =>
  clear HST
  obtain ⟨X,ms,nn,M1,M2,n1,n2,hwas,hm,ha,hms,hnn⟩:=hcut.out
  have hcr:=OZ K hwas ((HKS.out.turn (Ac.of_below (fun _ => False) hwas.bel) (fun _ h => h.elim)).fit (fun k hk => .inl hk.1))
  have HM:=hid hm
  have HA:=hid ha
  have HMS:=hid hms
  clear hcut hwas hm ha hms
  go_wp2_with fail
  refine hcr.mono ?_
  rintro e w5 ⟨t5,q,S,m,rfl,hm5,hS,hi5⟩
  have hop:=DM K hi5 hS (by unfold limN; omega)
  have HT5:=hid t5
  have HM5:=hid (HMS.out m hm5)
  clear hcr t5 hm5 hi5
  go_wp2_with fail
  refine hop.mono ?_
  rintro e w6 ⟨c6,d6,s6,rfl,t6,h6,em6,en6,-⟩
  have hml : s6.map.length <= 1048576:=by have:=(K.good h6.a.st).2.2.1; omega
  have hsc:=IV K h6 ⟨#[]⟩ ⟨#[]⟩ 1048576 (by decide) (by decide) (by decide)
  rw [M6 hml] at hsc
  have HT6:=hid t6
  have EM6:=hid em6
  clear hop t6 h6 em6 en6 hml
  go_wp2_with fail
  refine hsc.mono ?_
  rintro e w7 ⟨r,rfl,hr7,t7,h7⟩
  obtain ⟨ra,rc,rfl⟩:=An hr7
  obtain ⟨va,vc,m0,m1,-,-,hrow1,-⟩:=(((HM.out.ox HT5.out).ox HT6.out).ox t7).cs
  obtain ⟨vb,vd,a0,a1,-,-,hrow2,-⟩:=(((HA.out.ox HT5.out).ox HT6.out).ox t7).cs
  have hsm:=Fo (Aj.own hr7) (Aj.own hrow1)
  have HR2:=hid (Aj.own hrow2)
  have HR7:=hid (Aj.own hr7)
  have HB:=hid h7.a.bel
  clear hsc hr7 t7 h7 hrow1 hrow2 HM HA HT5 HT6
  by_cases hM : s6.map = M1
  · subst hM
    rw [Fz] at hsm
    go_wp2_with fail
    refine hsm.mono ?_
    rintro e w8 ⟨rfl,n8,rfl⟩
    have HB8:=hid (below_drewN HB.out n8)
    clear hsm
    go_wp2
    go_ret
    exact ⟨rfl,HB8.out⟩
  · have hM2 : s6.map = M2:=by
      rcases HM5.out with g | g
      · exact absurd (EM6.out.trans g) hM
      · exact EM6.out.trans g
    rw [show IS s6.map M1 = false by simp [IS,hM]] at hsm
    subst hM2
    clear hM
    go_wp2_with fail
    refine hsm.mono ?_
    rintro e w8 ⟨rfl,n8,rfl⟩
    have hsm2:=Fo (HR7.out.below (below_drewN (Below.refl _ _) n8)) (HR2.out.below (below_drewN (Below.refl _ _) n8))
    rw [Fz] at hsm2
    have HB8:=hid (below_drewN HB.out n8)
    have a0b : (w7.drewN n8).cell? ⟨mb + 1,0,none⟩ = some (.slice vb s6.map.length vd):=a0
    clear hsm
    go_wp2_with fail
    refine hsm2.mono ?_
    rintro e w9 ⟨rfl,n9,rfl⟩
    have HB9:=hid (below_drewN HB8.out n9)
    clear hsm2
    go_wp2
    go_ret
    exact ⟨rfl,by rw [<- World.drewN_drewN]; exact HB9.out⟩
end
end Go.Proofs.YtnafjlhohbhcoaaGreatDoor
