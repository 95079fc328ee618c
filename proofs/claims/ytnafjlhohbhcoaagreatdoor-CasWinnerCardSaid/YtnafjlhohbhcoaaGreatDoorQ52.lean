/- Parts of the proof. -/
import Derived.Test.YtnafjlhohbhcoaaGreatDoorQ41
import Derived.JoinedCond
namespace Go.Proofs.YtnafjlhohbhcoaaGreatDoor
open Go.Lib (hid)
set_option linter.unusedVariables false
open Go.RowKit Go.Maps Go.WideMaps Go.Shelf
attribute [local go_sem] Oper.semAt_some
theorem Aaf {x : Aa} {m : List Aa} (h : Ak m) (hg : x.gone = false) : CE x.key (J7 x m) = (x.val,true):=by
 unfold CE
 rw [(Dm (LZ h) x.key x).2 ⟨(Ra h x).2 (.inl ⟨hg,rfl⟩),rfl⟩]
theorem Aab {M : List Aa} {ks : List ByteArray} {k v : ByteArray} (h : Ak M) (h0 : 0 < ks.length) (hk : ks.getD 0 ByteArray.empty = k) (hv : v ≠ (CE k M).1) : GL (AP M [⟨k,v,false⟩]) (CZ M ks) = 100:=by
 refine Ku (i:=0) (by rw [Hv]; exact h0) ?_
 have e : (CZ M ks)[0]'(by rw [Hv]; exact h0) = isC M k:=by rw [<- hk]; simp [CZ,List.getD,h0]
 rw [e]
 unfold isC D9
 simp only
 rw [show AP M [⟨k,v,false⟩] = J7 ⟨k,v,false⟩ M from rfl,Aaf (x:=⟨k,v,false⟩) h rfl]
 cases hb : (CE k M).2 with
 | false => rfl
 | true => simp [hv]
def Of (M : List Aa) (k ov : ByteArray) (n : Nat) (m : List Aa) : Prop:=(n = 0 /\ m = M) \/ (n = 1 /\ ∃ v,m = AP M [⟨k,v,false⟩] /\ v ≠ ov)
theorem Wg {k v : ByteArray} (h1 : k.size ≠ 0) (h2 : ¬ 64 < k.size) (h3 : ¬ 8192 < v.size) : A5 [⟨k,v,false⟩] = 0:=by
 refine Kb (by simp) (by simp) fun x hx => ?_
 rw [List.mem_singleton.1 hx]
 unfold Aw
 rw [if_neg (by simp [h1]),if_neg (by simp only; omega)]
theorem ZK (i : Nat) : ∃ b : UInt8,(i : Int) % 256 = (b.toNat : Int):=⟨UInt8.ofNat (i % 256),by rw [UInt8.toNat_ofNat']; omega⟩
section
variable {E : Nat -> World -> Prop} {St : World -> Nat -> Nat -> Cv -> (Nat -> Prop) -> Prop} {Op : Bx -> List Aa -> Nat -> Prop} (K : Is E St Op)
include K
set_option maxHeartbeats 16000000 in
set_option maxRecDepth 100000 in
theorem OM {w : World} (hE : E w.heap.size w) (a0 a1 a2 : Option Addr) (c0 c1 c2 : Nat) (l : List Aa) (ks vs : List ByteArray) (hl : Aj w (.slice a0 l.length c0) l) (hK : GY w a1 ks.length (fun i => .string (ks.getD i ByteArray.empty))) (hV : GY w a2 vs.length (fun i => .string (vs.getD i ByteArray.empty))) (hvs : ∀ i,(vs.getD i ByteArray.empty).size <= 140737488351232) :
 Calls Tryz.prog 4 #[.slice a0 l.length c0,.slice a1 ks.length c1,.slice a2 vs.length c2] w fun e w' => e = .returned (.bool true) /\ Below w.heap.size w w':=by
 have haw:=E9 K hE
 have hkx:=hK.max
 have hvx:=hV.max
 have HL:=hid hl
 have HK:=hid hK
 have HV:=hid hV
 have HVS:=hid hvs
 clear hl hK hV hvs
 go_enter Tryz.func4,Tryz.ntmps4
 go_wp2_with fail
 refine haw.mono ?_
 rintro e w1 ⟨rfl,B1⟩
 have E1:=K.e_below hE B1
 clear haw
 go_wp2_with fail
 refine (GN w1).mono ?_
 rintro e w2 ⟨p,rfl,hp0,hbx,b2⟩
 have hop:=DM K (Gr K E1 B1 hbx (fun k hk => hk.1) b2) (by decide) (by decide)
 clear hbx b2 hp0
 go_wp2_with fail
 refine hop.mono ?_
 rintro e w3 ⟨c,d,s0,rfl,-,h3,em,en,ef⟩
 have b4 : Below w3.heap.size w3 (w3.alloc (.cells #[.slice none 0 0,.int .i64 0] 34)):=(Below.refl _ w3).alloc (Nat.le_refl _) _
 have HM:=hid (A7.new (X:=fun _ => False) (h3.size K))
 have h4:=h3.laid K b4
 have hdo:=Gc K h4 ef (cs:=[]) (Ht _) Qb (HL.out.below h4.a.bel) (EO HL.out) (by unfold limN; omega) (by decide)
 have EM:=hid em
 clear hop h3 h4 E1 B1 hE b4
 go_wp2_with fail
 generalize w3.alloc (.cells #[.slice none 0 0,.int .i64 0] 34) = w4 at *
 generalize (fun k => False \/ (w3.heap.size <= k /\ k < w4.heap.size)) = X at *
 generalize w3.heap.size = mb at *
 refine hdo.mono ?_
 rintro e w5 ⟨rfl,t5,s5,h5,em5,en5,ef5⟩
 have HU5:=hid h5
 have HM5:=hid (HM.out.ox t5)
 have HE5:=hid (And.intro em5 (And.intro en5 ef5))
 clear hdo t5 h5 em5 en5 ef5 HM ef em
 rw [EM.out] at HU5 HE5
 rw [EM.out]
 clear EM
 have hn5 : s5.n <= 2:=by have:=HE5.out.2.1; omega
 go_upto_if 29 with (fail)
 go_cut [] from 28 (fun wx => Hid (∃ X n k,Cas E St w.heap.size w X wx c d p s5 k /\ A7 w.heap.size X wx mb s5.map n /\ k <= 1))
 case first =>
  by_cases hz : doC [] [] l = 0
  · obtain ⟨va,vc,m0,m1,mf0,mf1,hrow,-⟩:=HM5.out.cs
    have hrd:=Hq hrow 0 (by decide) (Ht _) (HL.out.below HU5.out.a.bel) (by decide)
    rw [hz]
    have HXR:=hid (HM5.out.m)
    clear hrow
    go_wp2_with fail
    refine hrd.mono ?_
    rintro e w6 ⟨r,rfl,hr6,b6,hv6⟩
    obtain ⟨ra,rc,rfl⟩:=An hr6
    have HM6:=hid ((HM5.out.below b6).more (Y:=fun k => X k \/ (w5.heap.size <= k /\ k < w6.heap.size)) (fun _ h => .inl h))
    have HU6:=hid (HU5.out.laid K b6)
    have hx6 : ∀ k,(Value.slice ra (Dw [] [] l).length rc).ownBlock = some k -> X k \/ (w5.heap.size <= k /\ k < w6.heap.size):=fun k hk => by
     rcases hv6 k hk with g | g
     · obtain ⟨_,_,h1,h2,h3⟩:=HM5.out.m
       have e:=(Ab h1 0).symm.trans m0
       simp at e
       obtain ⟨rfl,rfl⟩:=e
       exact .inl (h3 k g)
     · exact .inr ⟨g,(hr6.lt k hk).2⟩
    obtain ⟨v8,c8,n0,n1,nf0,nf1,-,-⟩:=HM6.out.cs
    have HPUT:=hid (HM6.out.put (n2:=Dh [] [] l 0) hr6 hx6)
    clear hrd hr6 b6 hv6 hx6 m0 m1 mf0 mf1 HXR
    go_wp2_with fail
    have h8:=HPUT.out
    have hs8 : ((w6.setCell ⟨mb,0,none⟩ (.slice ra (Dw [] [] l).length rc)).setCell ⟨mb,1,none⟩ (.int .i64 (Dh [] [] l 0 : Nat))).heap.size = w6.heap.size:=by simp
    have hc8 : Dh [] [] l 0 <= 1:=by unfold Dh; split <;> omega
    go_meet
    exact ⟨_,_,_,HU6.out.onRef K HM6.out.xm HM6.out.lo h8.2 hs8,by rw [HE5.out.1]; exact h8.1,hc8⟩
  · have hz2 : ((doC [] [] l : Int) == 0) = false:=by rw [beq_eq_false_iff_ne]; omega
    have HG : Hid (∃ X n k,Cas E St w.heap.size w X w5 c d p s5 k /\ A7 w.heap.size X w5 mb s5.map n /\ k <= 1):=⟨X,0,_,HU5.out,by rw [HE5.out.1,Jp hz]; exact HM5.out,by rw [GO hz]; decide⟩
    generalize doC [] [] l = q at *
    go_wp2_with fail
    go_meet
    exact HG
 case rest =>
  have HI:=hcut
  clear hcut HU5 HM5
  obtain ⟨X,n,k,hu,hm,hk1⟩:=HI.out
  have HU:=hid hu
  have HM:=hid hm
  have HF:=hid HE5.out.2.2
  have HG:=hid (K.good hu.a.st).1
  have hB:=hu.a.bel
  have HB:=hid hB
  clear HI hu hm HE5
  by_cases h0 : ks.length = 0
  · have h0I : ((ks.length : Int) == 0) = true:=by rw [h0]; rfl
    clear h0 hB
    go_wp2
    go_ret
    exact ⟨rfl,HB.out⟩
  have h0I : ((ks.length : Int) == 0) = false:=by rw [beq_eq_false_iff_ne]; omega
  by_cases h60 : 60 < ks.length
  · have h60I : (60 : Int) < (ks.length : Int):=by omega
    clear h0 hB
    go_wp2
    go_ret
    exact ⟨rfl,HB.out⟩
  have h60I : ¬ (60 : Int) < (ks.length : Int):=by omega
  obtain ⟨gk,ok,rfl,q0⟩:=HK.out.in hB (k:=0) (by omega)
  have h0p : 0 < ks.length:=by omega
  clear hB
  generalize hk0 : ks.getD 0 ByteArray.empty = k0 at *
  simp only [Nat.add_zero] at q0
  by_cases hz0 : k0.size = 0
  · have he:=Hz hz0
    go_wp2
    go_ret
    exact ⟨rfl,HB.out⟩
  have he:=DI hz0
  by_cases hz64 : 64 < k0.size
  · have h64I : (64 : Int) < (k0.size : Int):=by omega
    go_wp2
    go_ret
    exact ⟨rfl,HB.out⟩
  have h64I : ¬ (64 : Int) < (k0.size : Int):=by omega
  obtain ⟨va,vc,m0,m1,-,-,hrow,-⟩:=HM.out.cs
  have HRG:=hid (Jt (Ah hrow (Db _)) k0)
  have hmb:=World.block_lt_of_cell? _ _ m0
  have hgk:=World.block_lt_of_cell? _ _ q0
  simp only at hmb hgk
  have HQ : Hid (∀ w',Below wc.drew.heap.size wc.drew w' -> (w'.cell? ⟨mb,0,none⟩ = some (.slice va s5.map.length vc) /\ w'.cell? ⟨gk,ok,none⟩ = some (.string k0)) /\ w'.cell? ⟨mb,1,none⟩ = some (.int .i64 (n : Int)) /\ w'.ownsRow 0 57 3 (.slice va s5.map.length vc) s5.map.length (AA s5.map)):=fun w' t =>
   ⟨⟨(t.cell (p:=⟨mb,0,none⟩) hmb).trans m0,(t.cell (p:=⟨gk,ok,none⟩) hgk).trans q0⟩,(t.cell (p:=⟨mb,1,none⟩) hmb).trans m1,Ah (Ah hrow (Db _)) t⟩
  have HUD:=hid (HU.out.below K (Db _))
  have HMD:=hid (HM.out.below (Db _))
  clear hrow hmb hgk
  go_upto_region 11 with (fail)
  go_region_held3 (fun w' => w'.cell? ⟨mb,0,none⟩ = some (.slice va s5.map.length vc) /\ w'.cell? ⟨gk,ok,none⟩ = some (.string k0)) (first | exact ⟨m0,q0⟩ | exact ⟨m0a,q0a⟩)
   (first | (go_at_call 18; refine HRG.out.mono ?_; rintro e w6 ⟨rfl,b6⟩; have HU6:=hid (HUD.out.below K b6); have HM6:=hid (HMD.out.below b6); have HB6:=hid HU6.out.a.bel; obtain ⟨⟨m0a,q0a⟩,m1a,hrow6⟩:=HQ.out _ b6; clear b6))
  clear m0 m1 q0 m0a q0a HRG HU HM HB HQ HUD HMD
  have hnw:=Pr hrow6 (n : Int) (HK.out.below HB6.out) (cp:=c1) (by omega)
  clear hrow6
  go_wp2_with fail
  refine hnw.mono ?_
  rintro e w7 ⟨r,rfl,hr7,b7⟩
  obtain ⟨ra,rc,rfl⟩:=An hr7
  have hnl:=Hv s5.map ks
  have hu7:=HU6.out.laid K b7
  have HST : Hid (∃ X s d n,Cas E St w.heap.size w X w7 c d p s n /\ (∀ g o,ra = some ⟨g,o,none⟩ -> X g) /\ Aj w7 (.slice ra (CZ s5.map ks).length rc) (CZ s5.map ks) /\ s.n <= 2 + 0 /\ n <= 1 + 0 /\ s.box.fuel < 0 /\ Of s5.map k0 (CE k0 s5.map).1 0 s.map):=
   ⟨_,s5,d,k,hu7,fun g o e => by
     subst e
     have h1 : (Value.slice (some ⟨g,o,none⟩) (CZ s5.map ks).length rc).ownBlock = some g:=rfl
     exact .inr (hr7.lt g h1),Aj.own hr7,hn5,hk1,HF.out,.inl ⟨rfl,rfl⟩⟩
  have HN60 : Hid ((CZ s5.map ks).length <= 64):=by show (CZ s5.map ks).length <= 64; omega
  have HPAST : Hid (∀ v,v ≠ (CE k0 s5.map).1 -> GL (AP s5.map [⟨k0,v,false⟩]) (CZ s5.map ks) = 100):=fun v hv => Aab HG.out (by omega) hk0 hv
  have HNOW : Hid (GL s5.map (CZ s5.map ks) = 0):=Oi (Vz s5.map ks)
  have HB7:=hid hu7.a.bel
  clear hnw hr7 b7 hu7 HU6 HM6 HB6 m1a hk1 hnl
  generalize CZ s5.map ks = W at *
  generalize CE k0 s5.map = V0 at *
  obtain ⟨ov,ot⟩:=V0
  simp only at HST HPAST
  go_wp2
  go_loopw [13,71] (fun kv iv wr => ∃ (i k : Nat),i <= vs.length /\ k <= 1 /\ kv = .int .i64 (k : Int) /\ iv = .int .i64 (i : Int) /\ Hid (∃ X s d n,Cas E St w.heap.size w X wr c d p s n /\ (∀ g o,ra = some ⟨g,o,none⟩ -> X g) /\ Aj wr (.slice ra W.length rc) W /\ s.n <= 2 + k /\ n <= 1 + k /\ s.box.fuel < 0 /\ Of s5.map k0 ov k s.map)) (fun _ iv _ => vs.length - (intOf iv).toNat)
  case atStart => exact ⟨0,0,Nat.zero_le _,Nat.zero_le _,rfl,rfl,HST.out⟩
  case round =>
   obtain ⟨i,k,hil,hk1,rfl,rfl,HI⟩:=hrel
   clear HST
   by_cases hlt : i < vs.length
   · obtain ⟨X,s,d,n,hu,hx,hw,hn,hnn,hf,hst⟩:=HI.out
     obtain ⟨gv,ow,rfl,q0⟩:=HV.out.in hu.a.bel hlt
     have hvz:=HVS.out i
     have hmes : vs.length - (intOf (.int .i64 ((i : Int) + 1))).toNat < vs.length - (intOf (.int .i64 (i : Int))).toNat:=by simp [intOf]; omega
     generalize vs.getD i ByteArray.empty = v at *
     obtain ⟨x1,hx1⟩:=ZK i
     obtain ⟨x2,hx2⟩:=ZK (i / 256)
     have hx2 : (i : Int) / 256 % 256 = (x2.toNat : Int):=by rw [<- hx2]; omega
     have HU:=hid hu
     have HXW:=hid hx
     have HWR:=hid hw
     have HE:=hid (And.intro hn (And.intro hnn (And.intro hf hst)))
     clear hu hx hw hn hnn hf hst HI
     have hcv : (convert 55 9 (.slice (some ⟨wr.heap.size,0,none⟩) 2 2)).run Tryz.prog (wr.alloc (.cells #[.int .u8 (x1.toNat : Int),.int .u8 (x2.toNat : Int)] 5)) = .ok (.string ⟨#[x1,x2]⟩) (wr.alloc (.cells #[.int .u8 (x1.toNat : Int),.int .u8 (x2.toNat : Int)] 5)):=
      run_convert_bytes_back (P:=Tryz.prog) (wr.alloc (.cells #[.int .u8 (x1.toNat : Int),.int .u8 (x2.toNat : Int)] 5)) 55 9 5 ⟨wr.heap.size,0,none⟩ 2 [x1,x2] Tryz.underlying55 Tryz.underlying5 Tryz.underlying9 (fun j hj => by
       match j,hj with
       | 0,_ | 1,_ => rw [Addr.add_lit,Ab (heap_alloc_new wr _)]; rfl)
     have hb4 : Below wr.heap.size wr (wr.alloc (.cells #[.int .u8 (x1.toNat : Int),.int .u8 (x2.toNat : Int)] 5)):=(Below.refl _ wr).alloc (Nat.le_refl _) _
     have HU4:=hid (HU.out.below K hb4)
     have HWR4:=hid (HWR.out.below hb4)
     have q1 : (wr.alloc (.cells #[.int .u8 (x1.toNat : Int),.int .u8 (x2.toNat : Int)] 5)).cell? ⟨gk,ok,none⟩ = some (.string k0):=by
      obtain ⟨b',o',e,q1⟩:=HK.out.in HU4.out.a.bel (k:=0) h0p
      injection e with e
      injection e with e1 e2
      subst e1; subst e2
      rw [<- hk0]
      exact q1
     clear hb4
     go_upto_region 18 with (fail)
     generalize hVV : v ++ ((⟨#[120]⟩ : ByteArray) ++ ⟨#[x1,x2]⟩) = V at *
     generalize wr.alloc (.cells #[.int .u8 (x1.toNat : Int),.int .u8 (x2.toNat : Int)] 5) = w4 at *
     clear hcv hx1 hx2 hvz q0
     by_cases hov : V = ov
     · have hoI : (V.toList == ov.toList) = true:=by rw [hov]; simp
       have HGo : Hid (∃ X s d n,Cas E St w.heap.size w X w4 c d p s n /\ (∀ g o,ra = some ⟨g,o,none⟩ -> X g) /\ Aj w4 (.slice ra W.length rc) W /\ s.n <= 2 + k /\ n <= 1 + k /\ s.box.fuel < 0 /\ Of s5.map k0 ov k s.map):=⟨X,s,d,n,HU4.out,HXW.out,HWR4.out,HE.out.1,HE.out.2.1,HE.out.2.2.1,HE.out.2.2.2⟩
       clear hov
       go_wp2
       go_roundw
       case rel => exact ⟨i + 1,k,by omega,hk1,rfl,by go_num,HGo⟩
       case measure => exact hmes
     have hoI : (V.toList == ov.toList) = false:=by rw [JC]; simp [hov]
     by_cases h8 : 8192 < V.size
     · have h8I : (8192 : Int) < (V.size : Int):=by omega
       have HGo : Hid (∃ X s d n,Cas E St w.heap.size w X w4 c d p s n /\ (∀ g o,ra = some ⟨g,o,none⟩ -> X g) /\ Aj w4 (.slice ra W.length rc) W /\ s.n <= 2 + k /\ n <= 1 + k /\ s.box.fuel < 0 /\ Of s5.map k0 ov k s.map):=⟨X,s,d,n,HU4.out,HXW.out,HWR4.out,HE.out.1,HE.out.2.1,HE.out.2.2.1,HE.out.2.2.2⟩
       clear hov
       go_wp2
       go_roundw
       case rel => exact ⟨i + 1,k,by omega,hk1,rfl,by go_num,HGo⟩
       case measure => exact hmes
     have h8I : ¬ (8192 : Int) < (V.size : Int):=by omega
     have hb5 : Below w4.heap.size w4 (w4.alloc (.cells #[.string k0,.string V,.bool false] 57)):=(Below.refl _ w4).alloc (Nat.le_refl _) _
     have hrw:=L0 w4 ⟨k0,V,false⟩ (heap_alloc_new w4 (.cells #[.string k0,.string V,.bool false] 57))
     have hlt5 : w4.heap.size < (w4.alloc (.cells #[.string k0,.string V,.bool false] 57)).heap.size:=by simp
     have hno:=Abm K (HU4.out.laid K hb5) (HWR4.out.below hb5) (fun g o e _ hk => hk.2 (.inl (HXW.out g o e))) hrw (fun g o e _ hk => hk.2 (.inr (by injection e with e; injection e with e; subst e; exact ⟨Nat.le_refl _,hlt5⟩))) (by have:=HE.out.1; unfold limN; omega) (by have:=HE.out.2.1; omega)
     have hdo:=Gc K (HU4.out.laid K hb5) HE.out.2.2.1 (HWR4.out.below hb5) (fun g o e _ hk => hk.2 (.inl (HXW.out g o e))) hrw (fun g o e _ hk => hk.2 (.inr (by injection e with e; injection e with e; subst e; exact ⟨Nat.le_refl _,hlt5⟩))) (by have:=HE.out.1; unfold limN; omega) (by have:=HE.out.2.1; omega)
     have HDC:=hid (Hj (m:=s.map) (cs:=W) (l:=[⟨k0,V,false⟩]) (by have:=HN60.out; omega) (Wg hz0 hz64 h8))
     have HWB:=hid (HWR4.out.below hb5)
     have HOV:=hid hov
     clear hb5 hrw hlt5 hov
     rcases HE.out.2.2.2 with ⟨rfl,hm0⟩ | ⟨rfl,v',hm1,hv'⟩
     · have hd0 : doC s.map W [⟨k0,V,false⟩] = 0:=by rw [HDC.out,hm0]; exact HNOW.out
       rw [hd0,KF hd0,KS hd0,hm0] at hdo
       have HM0:=hid hm0
       clear hd0 hm0 hno
       go_wp2_with fail
       refine hdo.mono ?_
       rintro e w6 ⟨rfl,t6,s6,h6,em6,en6,ef6⟩
       have HGo : Hid (∃ X s d n,Cas E St w.heap.size w X w6 c d p s n /\ (∀ g o,ra = some ⟨g,o,none⟩ -> X g) /\ Aj w6 (.slice ra W.length rc) W /\ s.n <= 2 + 1 /\ n <= 1 + 1 /\ s.box.fuel < 0 /\ Of s5.map k0 ov 1 s.map):=
        ⟨_,s6,d,n + 1,h6,fun g o e => .inl (HXW.out g o e),HWB.out.turn t6 (fun g o e _ hk => hk.2 (.inl (HXW.out g o e))),by have:=HE.out.1; omega,by have:=HE.out.2.1; omega,ef6,.inr ⟨rfl,V,em6,HOV.out⟩⟩
       clear hdo t6 h6 em6 en6 ef6
       go_wp2
       go_roundw
       case rel => exact ⟨i + 1,1,by omega,Nat.le_refl _,rfl,by go_num,HGo⟩
       case measure => exact hmes
     · have hd0 : doC s.map W [⟨k0,V,false⟩] = 100:=by rw [HDC.out,hm1]; exact HPAST.out v' hv'
       rw [hd0] at hno
       have HM1:=hid (show Of s5.map k0 ov 1 s.map from .inr ⟨rfl,v',hm1,hv'⟩)
       clear hd0 hm1 hv' hdo
       go_wp2_with fail
       refine hno.mono ?_
       rintro e w6 ⟨t6,⟨-,rfl,h6⟩ | ⟨h1,-⟩ | ⟨h1,-⟩⟩
       · have HGo : Hid (∃ X s d n,Cas E St w.heap.size w X w6 c d p s n /\ (∀ g o,ra = some ⟨g,o,none⟩ -> X g) /\ Aj w6 (.slice ra W.length rc) W /\ s.n <= 2 + 1 /\ n <= 1 + 1 /\ s.box.fuel < 0 /\ Of s5.map k0 ov 1 s.map):=
           ⟨_,s,d,n,h6,fun g o e => .inl (HXW.out g o e),HWB.out.turn t6 (fun g o e _ hk => hk.2 (.inl (HXW.out g o e))),HE.out.1,HE.out.2.1,HE.out.2.2.1,HM1.out⟩
         clear hno t6 h6
         go_wp2
         go_roundw
         case rel => exact ⟨i + 1,1,by omega,Nat.le_refl _,rfl,by go_num,HGo⟩
         case measure => exact hmes
       · exact absurd h1 (by decide)
       · exact absurd h1 (by decide)
   · obtain rfl : i = vs.length:=by omega
     obtain ⟨X,s,d,n,hu,-⟩:=HI.out
     have HB:=hid hu.a.bel
     have hkI : (k : Int) <= 1:=by omega
     clear hu HI
     go_wp2
     go_ret
     exact ⟨rfl,HB.out⟩
end
end Go.Proofs.YtnafjlhohbhcoaaGreatDoor
