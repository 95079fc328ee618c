/- Parts of the proof. -/
import Derived.Test.YtnafjlhohbhcoaaGreatDoorQ41
namespace Go.Proofs.YtnafjlhohbhcoaaGreatDoor
open Go.Lib (hid)
set_option linter.unusedVariables false
open Go.RowKit Go.Maps Go.WideMaps Go.Shelf
attribute [local go_sem] Oper.semAt_some
section
variable {E : Nat -> World -> Prop} {St : World -> Nat -> Nat -> Cv -> (Nat -> Prop) -> Prop} {Op : Bx -> List Aa -> Nat -> Prop} (K : Is E St Op)
include K
set_option maxHeartbeats 16000000 in
set_option maxRecDepth 100000 in
theorem Su {w : World} (hE : E w.heap.size w) (a0 : Option Addr) (c0 : Nat) (cs : List FJ) (hC : Jr w (.slice a0 cs.length c0) cs) :
 Calls Tryz.prog 3 #[.slice a0 cs.length c0] w fun e w' => e = .returned (.bool true) /\ Below w.heap.size w w':=by
 have haw:=E9 K hE
 have hcm:=hC.1
 have HC:=hid hC
 clear hC
 go_enter Tryz.func3,Tryz.ntmps3
 go_wp2_with fail
 refine haw.mono ?_
 rintro e w1 ⟨rfl,B1⟩
 have E1:=K.e_below hE B1
 clear haw
 by_cases hbig : 200 < cs.length
 · have hbg : (200 : Int) < cs.length:=by omega
   go_wp2
   go_ret
   exact ⟨rfl,B1⟩
 go_wp2_with fail
 refine (GN w1).mono ?_
 rintro e w2 ⟨p,rfl,hp,hbx,b2⟩
 have hop:=DM K (Gr K E1 B1 hbx (fun k hk => hk.1) b2) (by decide) (by decide)
 clear hbx b2 hp
 go_wp2_with fail
 refine hop.mono ?_
 rintro e w3 ⟨c,d,s0,rfl,-,h3,em,en,ef⟩
 have b4 : Below w3.heap.size w3 (w3.alloc (.cells #[.slice none 0 0,.int .i64 0] 34)):=(Below.refl _ w3).alloc (Nat.le_refl _) _
 have HU:=hid (h3.laid K b4)
 have HM:=hid (A7.new (X:=fun _ => False) (h3.size K))
 have HN:=hid (And.intro em (And.intro en ef))
 clear hop h3 em en ef E1 B1 hE b4
 go_wp2
 generalize w3.heap.size = mb at *
 go_loopw [3,4,34] (fun bv sv iv wr => ∃ (i p c : Nat),i <= cs.length /\ bv = .pointer (some ⟨p,0,none⟩) /\ sv = .pointer (some ⟨c,0,none⟩) /\ iv = .int .i64 (i : Int) /\ Hid (∃ X s d n,Cas E St w.heap.size w X wr c d p s n /\ A7 w.heap.size X wr mb s.map n /\ s.n <= 2 * i + 1 /\ n <= i /\ s.box.fuel < 0)) (fun _ _ iv _ => cs.length - (intOf iv).toNat)
 case atStart => exact ⟨0,p,c,Nat.zero_le _,rfl,rfl,rfl,_,s0,d,0,HU.out,by rw [HN.out.1]; exact HM.out,by have:=HN.out.2.1; omega,Nat.le_refl _,HN.out.2.2⟩
 case round =>
  obtain ⟨i,p,c,hil,rfl,rfl,rfl,HI⟩:=hrel
  clear HU HN HM
  by_cases hlt : i < cs.length
  · obtain ⟨X,s,d,n,hr,hm,hn,hni,hf⟩:=HI.out
    obtain ⟨g,o,rfl,q0,q1,q2,q3,q4,q5,q6,ok⟩:=HC.out.at hr.a.bel hlt
    have hmes : cs.length - (intOf (.int .i64 ((i : Int) + 1))).toNat < cs.length - (intOf (.int .i64 (i : Int))).toNat:=by simp [intOf]; omega
    generalize cs[i] = C at *
    obtain ⟨ck,cv,cds,bv,cb,ckey,cfr,cmost,call⟩:=C
    obtain ⟨ya,yc,ecv⟩:=ok.rc.slice
    obtain ⟨ba,bc,ebv⟩:=ok.read.slice
    simp only at q0 q1 q2 q3 q4 q5 q6 ecv ebv
    subst ecv
    subst ebv
    have hbl : Below wr.heap.size wr (wr.alloc (.cells #[.int .i64 ck,.slice ya cds.length yc,.slice ba cb.length bc,.string ckey,.string cfr,.int .i64 cmost,.bool call] 36)):=(Below.refl _ wr).alloc (Nat.le_refl _) _
    have hcb:=CA.new wr ⟨ck,.slice ya cds.length yc,cds,.slice ba cb.length bc,cb,ckey,cfr,cmost,call⟩
    obtain ⟨y0,y1,y2,y3,y4,y5,y6⟩:=hcb.cs
    simp only at y0 y1 y2 y3 y4 y5 y6
    have HR:=hid (hr.laid K hbl)
    have HM:=hid ((hm.below hbl).more (Y:=fun k => X k \/ (wr.heap.size <= k /\ k < (wr.alloc (.cells #[.int .i64 ck,.slice ya cds.length yc,.slice ba cb.length bc,.string ckey,.string cfr,.int .i64 cmost,.bool call] 36)).heap.size)) (fun _ h => .inl h))
    have HXL : Hid ((fun k => X k \/ (wr.heap.size <= k /\ k < (wr.alloc (.cells #[.int .i64 ck,.slice ya cds.length yc,.slice ba cb.length bc,.string ckey,.string cfr,.int .i64 cmost,.bool call] 36)).heap.size)) wr.heap.size):=.inr ⟨Nat.le_refl _,by simp⟩
    have HML : Hid (s.map.length <= 64 * s.n):=(K.good hr.a.st).2.2.1
    have HNX:=hid (And.intro hn (And.intro hni hf))
    have HOK:=hid ok
    clear hr hm hn hni hf HI ok
    go_upto_region 13 with (fail)
    clear q0 q1 q2 q3 q4 q5 q6 hbl
    generalize wr.alloc (.cells #[.int .i64 ck,.slice ya cds.length yc,.slice ba cb.length bc,.string ckey,.string cfr,.int .i64 cmost,.bool call] 36) = wl at *
    generalize (fun k => X k \/ (wr.heap.size <= k /\ k < wl.heap.size)) = X2 at *
    generalize wr.heap.size = lb at *
    have HCB:=hid hcb
    clear hcb
    have HB:=hid HR.out.a.bel
    have hni:=HNX.out.2.1
    by_cases k0 : ck = 0
    · subst k0
      obtain ⟨va,vc,m0,m1,mf0,mf1,hrow,hxr⟩:=HM.out.cs
      have hrd:=Hq hrow n (by omega) (HOK.out.rc.below HB.out) (HOK.out.read.below HB.out) (by have:=HML.out; have:=HNX.out.1; omega)
      have HXR:=hid hxr
      clear hrow hxr
      go_wp2_with fail
      refine hrd.mono ?_
      rintro e w5 ⟨r,rfl,hr5,b5,hv5⟩
      obtain ⟨ra,rc,rfl⟩:=An hr5
      have b6 : Below w5.heap.size w5 (w5.alloc (.cells #[.slice ra (Dw s.map cds cb).length rc,.int .i64 (Dh s.map cds cb n : Nat)] 34)):=(Below.refl _ w5).alloc (Nat.le_refl _) _
      have b56:=b5.trans (b6.mono b5.size)
      have HNB:=hid (NR (n2:=Dh s.map cds cb n) (HR.out.size K) b5 hr5 (X:=X2) (fun k hk => (hv5 k hk).imp_left (HXR.out k)))
      have HR6:=hid (HR.out.laid K b56)
      have HM6:=hid ((HM.out.below b56).more (Y:=fun k => X2 k \/ (wl.heap.size <= k /\ k < (w5.alloc (.cells #[.slice ra (Dw s.map cds cb).length rc,.int .i64 (Dh s.map cds cb n : Nat)] 34)).heap.size)) (fun _ h => .inl h))
      have hcb6 : CA (w5.alloc (.cells #[.slice ra (Dw s.map cds cb).length rc,.int .i64 (Dh s.map cds cb n : Nat)] 34)) lb _:=(b56.block _ (Ad HCB.out)).trans HCB.out
      obtain ⟨z0,z1,z2,z3,z4,z5,z6⟩:=hcb6.cs
      simp only at z0 z1 z2 z3 z4 z5 z6
      have HB6:=hid HR6.out.a.bel
      have HNE : Hid (w5.heap.size ≠ mb):=fun e => by obtain ⟨_,_,h1,-⟩:=HM.out.m; have:=Ad h1; have:=b5.size; omega
      have HZ:=hid (rfl : doC s.map cds cb = doC s.map cds cb)
      clear hrd hr5 b5 hv5 b6 b56 y0 y1 y2 y3 y4 y5 y6 m0 m1 mf0 mf1 HXR hcb6
      go_upto_region 16 with (fail)
      generalize (fun k => X2 k \/ (wl.heap.size <= k /\ k < (w5.alloc (.cells #[.slice ra (Dw s.map cds cb).length rc,.int .i64 (Dh s.map cds cb n : Nat)] 34)).heap.size)) = X6 at *
      generalize w5.alloc (.cells #[.slice ra (Dw s.map cds cb).length rc,.int .i64 (Dh s.map cds cb n : Nat)] 34) = w6 at *
      generalize w5.heap.size = nb at *
      have hdo:=Gc K HR6.out HNX.out.2.2 (HOK.out.rc.below HB6.out) (EO HOK.out.rc) (HOK.out.read.below HB6.out) (EO HOK.out.read) (by have:=HNX.out.1; unfold limN; omega) (by omega)
      go_wp2_with fail
      refine hdo.mono ?_
      rintro e w7 ⟨rfl,t7,s7,h7,em7,en7,ef7⟩
      have HR7:=hid h7
      have HM7:=hid (HM6.out.ox t7)
      have HN7:=hid (HNB.out.ox t7)
      have HE7:=hid (And.intro em7 (And.intro en7 ef7))
      obtain ⟨v7,c7,n0,n1,nf0,nf1,hrow7,hx7⟩:=HN7.out.cs
      obtain ⟨v8,c8,m0,m1,mf0,mf1,-,-⟩:=HM7.out.cs
      have HPUT:=hid (HM7.out.put (n2:=Dh s.map cds cb n) hrow7 hx7)
      clear hdo h7 t7 em7 en7 ef7 z0 z1 z2 z3 z4 z5 z6 hrow7 hx7
      have hcn : Dh s.map cds cb n <= i + 1:=by unfold Dh; split <;> omega
      generalize doC s.map cds cb = q at *
      go_upto_region 37 with (fail)
      have h8:=HPUT.out
      generalize hw8 : ((w7.setCell ⟨mb,0,none⟩ (.slice v7 (Dw s.map cds cb).length c7)).setCell ⟨mb,1,none⟩ (.int .i64 (Dh s.map cds cb n : Nat))) = w8 at *
      have hs8 : w8.heap.size = w7.heap.size:=by rw [<- hw8]; simp
      have HR8:=hid (HR7.out.onRef K HM7.out.xm HM7.out.lo h8.2 hs8)
      have HM8 : Hid (A7 w.heap.size X6 w8 mb s7.map (Dh s.map cds cb n)):=by rw [HE7.out.1]; exact h8.1
      clear h8 hs8 hw8 HPUT n0 n1 nf0 nf1 m0 m1 mf0 mf1
      generalize Dh s.map cds cb n = n8 at *
      have HGo : Hid (∃ X s d n,Cas E St w.heap.size w X (w8).drew c d p s n /\ A7 w.heap.size X (w8).drew mb s.map n /\ s.n <= 2 * (i + 1) + 1 /\ n <= i + 1 /\ s.box.fuel < 0):=⟨X6,s7,d,n8,(HR8.out).below K (Db _),(HM8.out).below (Db _),by have:=HE7.out.2.1; have:=HNX.out.1; omega,hcn,HE7.out.2.2⟩
      have HCT:=hid (DJ ((HR8.out).below K (Db _)))
      obtain ⟨xa,xc,x0,x1,-⟩:=(HM8.out).cs
      have x1a : (w8).drew.cell? ⟨mb,1,none⟩ = some (.int .i64 (n8 : Nat)):=x1
      go_upto_region 37 with (fail)
      go_region_held3 (fun w' => w'.cell? ⟨mb,1,none⟩ = some (.int .i64 (n8 : Nat))) (first | exact x1 | exact x1a)
       (first | (go_at_call 21; refine HCT.out.mono ?_; rintro e w9 ⟨rfl,rfl⟩))
      go_wp2
      go_roundw
      case rel => exact ⟨i + 1,p,c,by omega,rfl,rfl,by go_num,HGo⟩
      case measure => exact hmes
    have k0' : (ck == 0) = false:=by simpa using k0
    by_cases k1 : ck = 1
    · subst k1
      have hsc:=IV K HR.out ckey cfr cmost HOK.out.most HOK.out.key HOK.out.frm
      go_wp2_with fail
      refine hsc.mono ?_
      rintro e w5 ⟨r,rfl,hr5,t5,h5⟩
      obtain ⟨ra,rc,rfl⟩:=An hr5
      have HR5:=hid h5
      have HM5:=hid ((HM.out.ox t5).more (Y:=fun k => X2 k \/ (Value.slice ra (BI s.map ckey cfr cmost).length rc).ownBlock = some k) (fun _ h => .inl h))
      have hcb5 : CA w5 lb _:=(t5.block _ (Ad HCB.out) (fun g => g.2 HXL.out)).trans HCB.out
      obtain ⟨z0,z1,z2,z3,z4,z5,z6⟩:=hcb5.cs
      simp only at z0 z1 z2 z3 z4 z5 z6
      obtain ⟨va,vc,m0,m1,-,-,hrow,-⟩:=HM5.out.cs
      have HRW:=hid (Aj.own hr5)
      have hrs:=SP hrow (n : Int) (by have:=HML.out; have:=HNX.out.1; omega) ckey cfr cmost HOK.out.most
      clear hsc hr5 t5 h5 hcb5 y0 y1 y2 y3 y4 y5 y6 hrow
      go_wp2_with fail
      refine hrs.mono ?_
      rintro e w6 ⟨r2,rfl,hr6,b6⟩
      obtain ⟨rb,rd,rfl⟩:=An hr6
      have hsm:=Fo (HRW.out.below b6) (Aj.own hr6)
      rw [Fz] at hsm
      have HR6:=hid (HR5.out.below K b6)
      have HM6:=hid (HM5.out.below b6)
      clear hrs hr6 b6 m0 m1 z0 z1 z2 z3 z4 z5 z6
      go_wp2_with fail
      refine hsm.mono ?_
      rintro e w7 ⟨rfl,n7,rfl⟩
      have HR7:=hid (HR6.out.below K (below_drewN (Below.refl _ _) n7))
      have HM7:=hid (HM6.out.below (below_drewN (Below.refl _ _) n7))
      clear hsm
      generalize w6.drewN n7 = w7 at *
      have HGo : Hid (∃ X s d n,Cas E St w.heap.size w X (w7).drew c d p s n /\ A7 w.heap.size X (w7).drew mb s.map n /\ s.n <= 2 * (i + 1) + 1 /\ n <= i + 1 /\ s.box.fuel < 0):=⟨_,s,d,n,(HR7.out).below K (Db _),(HM7.out).below (Db _),by have:=HNX.out.1; omega,by omega,HNX.out.2.2⟩
      have HCT:=hid (DJ ((HR7.out).below K (Db _)))
      obtain ⟨xa,xc,x0,x1,-⟩:=(HM7.out).cs
      have x1a : (w7).drew.cell? ⟨mb,1,none⟩ = some (.int .i64 (n : Nat)):=x1
      go_upto_region 37 with (fail)
      go_region_held3 (fun w' => w'.cell? ⟨mb,1,none⟩ = some (.int .i64 (n : Nat))) (first | exact x1 | exact x1a)
       (first | (go_at_call 21; refine HCT.out.mono ?_; rintro e w9 ⟨rfl,rfl⟩))
      go_wp2
      go_roundw
      case rel => exact ⟨i + 1,p,c,by omega,rfl,rfl,by go_num,HGo⟩
      case measure => exact hmes
    have k1' : (ck == 1) = false:=by simpa using k1
    by_cases k2 : ck = 2
    · subst k2
      have hsc:=Abw K HR.out ckey
      go_wp2_with fail
      refine hsc.mono ?_
      rintro e w5 ⟨rfl,t5,h5⟩
      have HR5:=hid h5
      have HM5:=hid (HM.out.ox t5)
      have hcb5 : CA w5 lb _:=(t5.block _ (Ad HCB.out) (fun g => g.2 HXL.out)).trans HCB.out
      obtain ⟨z0,z1,z2,z3,z4,z5,z6⟩:=hcb5.cs
      simp only at z0 z1 z2 z3 z4 z5 z6
      obtain ⟨va,vc,m0,m1,-,-,hrow,-⟩:=HM5.out.cs
      have hrg:=Jt hrow ckey
      clear hsc t5 h5 hcb5 y0 y1 y2 y3 y4 y5 y6 hrow
      go_wp2_with fail
      refine hrg.mono ?_
      rintro e w6 ⟨rfl,b6⟩
      have HR6:=hid (HR5.out.below K b6)
      have HM6:=hid (HM5.out.below b6)
      clear hrg b6 m0 m1 z0 z1 z2 z3 z4 z5 z6
      generalize CE ckey s.map = V at *
      obtain ⟨vv,vt⟩:=V
      simp only
      have HGo : Hid (∃ X s d n,Cas E St w.heap.size w X (w6).drew c d p s n /\ A7 w.heap.size X (w6).drew mb s.map n /\ s.n <= 2 * (i + 1) + 1 /\ n <= i + 1 /\ s.box.fuel < 0):=⟨_,s,d,n,(HR6.out).below K (Db _),(HM6.out).below (Db _),by have:=HNX.out.1; omega,by omega,HNX.out.2.2⟩
      have HCT:=hid (DJ ((HR6.out).below K (Db _)))
      obtain ⟨xa,xc,x0,x1,-⟩:=(HM6.out).cs
      have x1a : (w6).drew.cell? ⟨mb,1,none⟩ = some (.int .i64 (n : Nat)):=x1
      go_upto_region 37 with (fail)
      go_region_held3 (fun w' => w'.cell? ⟨mb,1,none⟩ = some (.int .i64 (n : Nat))) (first | exact x1 | exact x1a)
       (first | (go_at_call 21; refine HCT.out.mono ?_; rintro e w9 ⟨rfl,rfl⟩))
      go_wp2
      go_roundw
      case rel => exact ⟨i + 1,p,c,by omega,rfl,rfl,by go_num,HGo⟩
      case measure => exact hmes
    have k2' : (ck == 2) = false:=by simpa using k2
    by_cases k3 : ck = 3
    · subst k3
      have hsc:=PP K HR.out HNX.out.2.2 call (by have:=HNX.out.1; unfold limN; omega)
      go_wp2_with fail
      refine hsc.mono ?_
      rintro e w5 ⟨rfl,t5,s5,h5,em5,en5,ef5⟩
      have HR5:=hid h5
      have HM5 : Hid (A7 w.heap.size X2 w5 mb s5.map n):=by rw [em5]; exact HM.out.ox t5
      have HE5:=hid (And.intro en5 ef5)
      clear hsc h5 t5 em5 en5 ef5 y0 y1 y2 y3 y4 y5 y6
      have HGo : Hid (∃ X s d n,Cas E St w.heap.size w X (w5).drew c d p s n /\ A7 w.heap.size X (w5).drew mb s.map n /\ s.n <= 2 * (i + 1) + 1 /\ n <= i + 1 /\ s.box.fuel < 0):=⟨_,s5,d,n,(HR5.out).below K (Db _),(HM5.out).below (Db _),by have:=HE5.out.1; have:=HNX.out.1; omega,by omega,HE5.out.2⟩
      have HCT:=hid (DJ ((HR5.out).below K (Db _)))
      obtain ⟨xa,xc,x0,x1,-⟩:=(HM5.out).cs
      have x1a : (w5).drew.cell? ⟨mb,1,none⟩ = some (.int .i64 (n : Nat)):=x1
      go_upto_region 37 with (fail)
      go_region_held3 (fun w' => w'.cell? ⟨mb,1,none⟩ = some (.int .i64 (n : Nat))) (first | exact x1 | exact x1a)
       (first | (go_at_call 21; refine HCT.out.mono ?_; rintro e w9 ⟨rfl,rfl⟩))
      go_wp2
      go_roundw
      case rel => exact ⟨i + 1,p,c,by omega,rfl,rfl,by go_num,HGo⟩
      case measure => exact hmes
    have k3' : (ck == 3) = false:=by simpa using k3
    by_cases k4 : ck = 4
    · subst k4
      have hcr:=OZ K (HR.out.a.was K) (Wk _ _)
      go_wp2_with fail
      refine hcr.mono ?_
      rintro e w5 ⟨t5,q,S,m,rfl,hm5,hS,hi5⟩
      have hop:=DM K hi5 hS (by have:=HNX.out.1; unfold limN; omega)
      have T5:=hid t5.ox
      have EM:=hid (List.mem_singleton.1 hm5)
      clear hcr t5 hm5 hi5 y0 y1 y2 y3 y4 y5 y6
      go_wp2_with fail
      refine hop.mono ?_
      rintro e w6 ⟨c6,d6,s6,rfl,t6,h6,em6,en6,ef6⟩
      have HR6:=hid h6
      have HM6 : Hid (A7 w.heap.size (fun i => X2 i \/ i = c) w6 mb s6.map n):=by
       have h1 : A7 w.heap.size X2 w6 mb s.map n:=HM.out.turn (T5.out.trans t6 (fun i hi => .inl (Uh hi).1)) (fun k hk g => g.2 hk)
       rw [em6,EM.out]
       exact h1.more fun _ h => .inl h
      have HE6:=hid (And.intro en6 ef6)
      obtain ⟨va,vc,m0,m1,mf0,mf1,-,-⟩:=HM6.out.cs
      have HZR:=hid HM6.out.zero
      clear hop h6 t6 em6 en6 ef6
      go_upto_region 37 with (fail)
      have h8:=HZR.out
      have hs8 : (w6.setCell ⟨mb,1,none⟩ (.int .i64 0)).heap.size = w6.heap.size:=by simp
      have HR8:=hid (HR6.out.onRef K HM6.out.xm HM6.out.lo h8.2 hs8)
      have HM8:=hid h8.1
      clear h8 hs8 HZR m0 m1 mf0 mf1
      generalize w6.setCell ⟨mb,1,none⟩ (.int .i64 0) = w8 at *
      have HGo : Hid (∃ X s d n,Cas E St w.heap.size w X (w8).drew c6 d q s n /\ A7 w.heap.size X (w8).drew mb s.map n /\ s.n <= 2 * (i + 1) + 1 /\ n <= i + 1 /\ s.box.fuel < 0):=⟨_,s6,d6,0,(HR8.out).below K (Db _),(HM8.out).below (Db _),by have:=HE6.out.1; have:=HNX.out.1; omega,Nat.zero_le _,HE6.out.2⟩
      have HCT:=hid (DJ ((HR8.out).below K (Db _)))
      obtain ⟨xa,xc,x0,x1,-⟩:=(HM8.out).cs
      have x1a : (w8).drew.cell? ⟨mb,1,none⟩ = some (.int .i64 (0 : Nat)):=x1
      go_upto_region 37 with (fail)
      go_region_held3 (fun w' => w'.cell? ⟨mb,1,none⟩ = some (.int .i64 (0 : Nat))) (first | exact x1 | exact x1a)
       (first | (go_at_call 21; refine HCT.out.mono ?_; rintro e w9 ⟨rfl,rfl⟩))
      go_wp2
      go_roundw
      case rel => exact ⟨i + 1,q,c6,by omega,rfl,rfl,by go_num,HGo⟩
      case measure => exact hmes
    · have k4' : (ck == 4) = false:=by simpa using k4
      clear y1 y2 y3 y4 y5 y6
      have HGo : Hid (∃ X s d n,Cas E St w.heap.size w X (wl).drew c d p s n /\ A7 w.heap.size X (wl).drew mb s.map n /\ s.n <= 2 * (i + 1) + 1 /\ n <= i + 1 /\ s.box.fuel < 0):=⟨_,s,d,n,(HR.out).below K (Db _),(HM.out).below (Db _),by have:=HNX.out.1; omega,by omega,HNX.out.2.2⟩
      have HCT:=hid (DJ ((HR.out).below K (Db _)))
      obtain ⟨xa,xc,x0,x1,-⟩:=(HM.out).cs
      have x1a : (wl).drew.cell? ⟨mb,1,none⟩ = some (.int .i64 (n : Nat)):=x1
      go_upto_region 37 with (fail)
      go_region_held3 (fun w' => w'.cell? ⟨mb,1,none⟩ = some (.int .i64 (n : Nat))) (first | exact x1 | exact x1a)
       (first | (go_at_call 21; refine HCT.out.mono ?_; rintro e w9 ⟨rfl,rfl⟩))
      go_wp2
      go_roundw
      case rel => exact ⟨i + 1,p,c,by omega,rfl,rfl,by go_num,HGo⟩
      case measure => exact hmes
  · obtain rfl : i = cs.length:=by omega
    obtain ⟨X,s,d,n,hr,hm,hn,hni,hf⟩:=HI.out
    have hml : s.map.length <= 1048576:=by have:=(K.good hr.a.st).2.2.1; omega
    have hsc:=IV K hr ⟨#[]⟩ ⟨#[]⟩ 1048576 (by decide) (by decide) (by decide)
    rw [M6 hml] at hsc
    have HM:=hid hm
    clear hr hm HI
    go_wp2_with fail
    refine hsc.mono ?_
    rintro e w5 ⟨r,rfl,hr5,t5,h5⟩
    obtain ⟨ra,rc,rfl⟩:=An hr5
    obtain ⟨va,vc,m0,m1,-,-,hrow,-⟩:=(HM.out.ox t5).cs
    have hsm:=Fo (Aj.own hr5) (Aj.own hrow)
    rw [Fz] at hsm
    have HB:=hid h5.a.bel
    clear hsc hr5 t5 h5 hrow
    go_wp2_with fail
    refine hsm.mono ?_
    rintro e w6 ⟨rfl,n6,rfl⟩
    have HB6:=hid (below_drewN HB.out n6)
    clear hsm
    go_wp2
    go_ret
    exact ⟨rfl,HB6.out⟩
end
end Go.Proofs.YtnafjlhohbhcoaaGreatDoor
