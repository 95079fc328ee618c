/- Parts of the proof. -/
import Derived.Test.YtnafjlhohbhcoaaGreatDoorQ48
namespace Go.Proofs.YtnafjlhohbhcoaaGreatDoor
open Go.Lib (hid)
set_option linter.unusedVariables false
section
open Go.RowKit Go.Maps Go.WideMaps Go.Shelf
theorem Vp {w : World} {rv : Value} {l : List Aa} {F : Nat -> Prop} (h : CQ w rv l F) : ∃ g c,rv = .slice (some ⟨g,0,none⟩) 1 c:=by
 obtain ⟨g,c,p,h1,_⟩:=h
 exact ⟨g,c,h1⟩
theorem Pt {k : ByteArray} {l : List Aa} {L : List (List Aa)} : Hn k (l :: L) = (match DS k l with | some y => some y | none => Hn k L):=rfl
theorem Wv {k : ByteArray} {L : List (List Aa)} {i : Nat} (h : i < L.length) : Hn k (L.drop i) = (match DS k L[i] with | some y => some y | none => Hn k (L.drop (i + 1))):=by
 rw [List.drop_eq_getElem_cons h,Pt]
theorem ZY {w : World} {b : Nat} {x y : Aa} (h : AF w b x) : AF (((w.setCell ⟨b,0,none⟩ (.string y.key)).setCell ⟨b,1,none⟩ (.string y.val)).setCell ⟨b,2,none⟩ (.bool y.gone)) b y:=
 block_set (block_set (block_set h 0 (.string y.key)) 1 (.string y.val)) 2 (.bool y.gone)
set_option maxRecDepth 100000 in
set_option maxHeartbeats 4000000 in
theorem ZR {w : World} {d b : Nat} {s : Cv} {F : Nat -> Prop} (h : St9 w d b s F) (k : ByteArray) :
 Calls Tryz.prog 36 #[.pointer (some ⟨d,0,none⟩),.string k] w fun e w' => e = .returned (.tuple #[.string (CE k s.map).1,.bool (CE k s.map).2,.int .i64 0]) /\ Ac F w w' /\ ∃ F',St9 w' d b s F' /\ Cb F w F':=by
 have HST:=hid h
 obtain ⟨q,mp,tv,st,c,ap,A,F0,Fb,Fm,Fr,I⟩:=h
 have HDN:=hid (FG I.db.head)
 have HGT:=hid (Zm I.db.mem k)
 have c2:=I.db.head.c2
 have hmap : s.map = By (BY (st.mem :: st.runs)):=I.map
 rw [hmap,Abh I.shape.good k]
 have HRN:=hid I.db.runs
 have HHD:=hid I.db.head
 have hdl:=I.db.head.lt
 have HFL : Hid (∀ j,Fr j -> j < w.heap.size):=fun j hj => I.db.lt j (I.db.fr j hj)
 obtain ⟨ta,tc,rfl,-,-,-⟩:=I.db.runs.read
 have HLK:=hid (Pt (k:=k) (l:=st.mem) (L:=st.runs))
 obtain ⟨RES,hRES⟩ : ∃ R,Hn k (st.mem :: st.runs) = R:=⟨_,rfl⟩
 rw [hRES] at HLK ⊢
 have h3:=I.shape.few
 clear I hmap hRES
 generalize DS k st.mem = G0 at *
 generalize st.runs = rs at *
 go_enter Tryz.func36,Tryz.ntmps36
 go_wp2_with fail
 refine HDN.out.mono ?_
 rintro e w1 ⟨rfl,rfl⟩
 go_wp2_with fail
 refine HGT.out.mono ?_
 rintro e w1 ⟨rfl,b1⟩
 have al:=(Below.refl w1.heap.size w1).alloc (Nat.le_refl _) (.cells #[.string (G0.getD zeroP).key,.string (G0.getD zeroP).val,.bool (G0.getD zeroP).gone] 57)
 have hpx : AF (w1.alloc (.cells #[.string (G0.getD zeroP).key,.string (G0.getD zeroP).val,.bool (G0.getD zeroP).gone] 57)) w1.heap.size (G0.getD zeroP):=AF.new w1 _
 have PX:=hid hpx
 have B2:=hid (b1.trans (al.mono b1.size))
 have hs1:=b1.size
 clear b1 al hpx HDN HGT
 unfold Aa.val'
 go_wp2
 generalize w1.heap.size = pb at *
 go_loopw [8,9] (fun ov iv wr => ∃ (i : Nat) (r : Option Aa),i <= rs.length /\ iv = .int .i64 (i : Int) /\ ov = .bool r.isSome /\ Hid (RES = (match r with | some y => some y | none => Hn k (rs.drop i)) /\ AF wr pb (r.getD zeroP) /\ Below w.heap.size w wr)) (fun _ iv _ => rs.length - (intOf iv).toNat)
 case atStart => exact ⟨0,G0,Nat.zero_le _,rfl,rfl,HLK.out,PX.out,B2.out⟩
 case round =>
  clear PX B2 HLK
  obtain ⟨i,r,hi,rfl,rfl,HI⟩:=hrel
  have d3 : wr.cell? ⟨d,3,none⟩ = some (.slice ta rs.length tc):=(HI.out.2.2.cell hdl).trans HHD.out.c3
  have fin : ∀ (nq : Nat) (x : Aa) (o : Bool),RES.getD zeroP = x -> RES.isSome = o -> (RES.getD zeroP).val = x.val /\ (RES.isSome && !(RES.getD zeroP).gone) = (o && !x.gone):=fun _ x o e1 e2 => by rw [e1,e2]; exact ⟨rfl,rfl⟩
  clear fin
  cases r with
  | some y =>
    have x1:=HI.out.2.1.c1
    have x2:=HI.out.2.1.c2
    simp only [Option.getD_some,Option.isSome_some] at x1 x2 ⊢
    have hR : RES = some y:=HI.out.1
    obtain ⟨yk,yv,yg⟩:=y
    simp only at x1 x2
    have HB:=hid HI.out.2.2
    have HRR:=hid hR
    clear HI hR
    go_wp2
    go_quiet (fail)
    go_wp2
    go_ret3
    have BZ:=below_drewN HB.out nq
    refine ⟨?_,Ac.of_below F BZ,F,HST.out.turn (Ac.of_below (fun _ => False) BZ) (fun _ _ h => h),fun k hk => .inl hk⟩
    rw [HRR.out]
    cases yg <;> rfl
  | none =>
    simp only [Option.isSome_none]
    by_cases hlt : i < rs.length
    · obtain ⟨a',c',e1,_,_,hcell⟩:=(HRN.out.below HI.out.2.2).read
      injection e1 with e1 _ e2
      subst e1
      subst e2
      obtain ⟨gg,rv,rfl,hFg,hcl,hrun⟩:=hcell i hlt
      have HG:=hid (UG k hrun (fun j hj => by have:=HFL.out j hj; have:=HI.out.2.2.size; omega))
      have HLD:=hid (Wv (k:=k) hlt)
      have hmes : rs.length - (intOf (.int .i64 ((i : Int) + 1))).toNat < rs.length - (intOf (.int .i64 (i : Int))).toNat:=by simp [intOf]; omega
      have HR0 : Hid (RES = Hn k (rs.drop i)):=HI.out.1
      have HB:=hid HI.out.2.2
      have HP:=hid HI.out.2.1
      obtain ⟨g0,c0,rfl⟩:=Vp hrun
      clear hcell hrun HI
      generalize DS k rs[i] = G1 at *
      go_wp2_with fail
      refine HG.out.mono ?_
      rintro e w2 ⟨rfl,b2⟩
      have hp2 : AF w2 pb zeroP:=(b2.block _ (Ad HP.out)).trans HP.out
      have B3:=hid (HB.out.trans (b2.mono HB.out.size))
      have f0:=Ag hp2 0
      have f1:=Ag hp2 1
      have f2:=Ag hp2 2
      have p0:=hp2.c0
      have p1:=hp2.c1
      have p2:=hp2.c2
      have HP2:=hid (ZY (y:=G1.getD zeroP) hp2)
      have hpb : w.heap.size <= pb:=hs1
      clear b2 hp2 HG
      unfold Aa.val'
      go_wp2
      go_roundw
      case rel =>
       refine ⟨i + 1,G1,by omega,by go_num,rfl,?_,HP2.out,((B3.out.setCell (p:=⟨pb,0,none⟩) hpb _).setCell (p:=⟨pb,1,none⟩) hpb _).setCell (p:=⟨pb,2,none⟩) hpb _⟩
       rw [HR0.out,HLD.out]
      case measure => exact hmes
    · obtain rfl : i = rs.length:=by omega
      have hR : RES = none:=by
       have:=HI.out.1
       rw [List.drop_length] at this
       exact this
      have x1:=HI.out.2.1.c1
      have x2:=HI.out.2.1.c2
      have HB:=hid HI.out.2.2
      have HRR:=hid hR
      simp only [Option.getD_none] at x1 x2
      clear HI hR
      go_wp2
      go_quiet (fail)
      go_wp2
      go_ret3
      have BZ:=below_drewN HB.out nq
      refine ⟨?_,Ac.of_below F BZ,F,HST.out.turn (Ac.of_below (fun _ => False) BZ) (fun _ _ h => h),fun k hk => .inl hk⟩
      rw [HRR.out]
      rfl
end
section
open Go.RowKit Go.Maps Go.WideMaps Go.Shelf
set_option maxRecDepth 100000 in
set_option maxHeartbeats 1000000 in
theorem WT {w : World} {d b : Nat} {s : Cv} {F : Nat -> Prop} (h : St9 w d b s F) (fr tu : ByteArray) (most : Int) (hm : (Lit.int .i64 most).wf = true) (hfr : fr.size <= 281474976710656) :
 Calls Tryz.prog 33 #[.pointer (some ⟨d,0,none⟩),.string fr,.string tu,.int .i64 most] w fun e w' => ∃ r F',e = .returned (.tuple #[r,.int .i64 0]) /\ w'.ownsRow w.heap.size 57 3 r (I8 s.map fr tu most).length (AA (I8 s.map fr tu most)) /\ (∀ k,r.ownBlock = some k -> ¬ F' k) /\ Ac F w w' /\ St9 w' d b s F' /\ Cb F w F':=by
 have HST:=hid h.tight
 obtain ⟨q,mp,tv,st,c,ap,A,F0,Fb,Fm,Fr,I⟩:=h
 have HDN:=hid (FG I.db.head)
 have HFR:=hid (OX I.db fr hfr I.shape.few)
 have hmap : s.map = CT st.mem st.runs:=I.map
 have HSC:=hid (Yi I.shape.good fr tu most)
 have HGD:=hid (OY I.shape.good fr)
 have hsum : Bk ((st.mem :: st.runs).map (AG fr)) <= 100000:=by
  have h1:=SR fr (st.mem :: st.runs)
  have h2:=I.few.sum
  have h3:=I.n
  omega
 have hll : ((st.mem :: st.runs).map (AG fr)).length <= 4:=by
  have:=I.shape.few
  rw [List.length_map,List.length_cons]; omega
 rw [hmap,<- HSC.out]
 clear I hmap HSC
 generalize (st.mem :: st.runs).map (AG fr) = L at *
 have hal:=allP_len L
 have hlv:=Jn (BY L)
 go_enter Tryz.func33,Tryz.ntmps33
 go_wp2_with fail
 refine HDN.out.mono ?_
 rintro e w1 ⟨rfl,rfl⟩
 go_wp2_with fail
 refine HFR.out.mono ?_
 rintro e w1 ⟨v,xs,rfl,ho,b1⟩
 obtain ⟨G,hs⟩:=ho.seqs
 obtain ⟨va,vc,rfl⟩:=An ho.row
 have HA:=hid (mergeK.all hs HGD.out (by omega))
 have B1:=hid b1
 clear ho hs b1 HFR HDN
 go_wp2_with fail
 refine HA.out.mono ?_
 rintro e w2 ⟨g,lb,G1,rfl,s1,b2,_⟩
 have HL:=hid (mergeK.live s1 (by omega))
 have B2:=hid (B1.out.trans (b2.mono B1.out.size))
 clear s1 b2 HA
 go_wp2_with fail
 refine HL.out.mono ?_
 rintro e w3 ⟨g2,lb2,G2,rfl,s2,b3,_⟩
 have HSM:=hid (Lk tu most s2 (by omega) hm)
 have B3:=hid (B2.out.trans (b3.mono B2.out.size))
 clear s2 b3 HL
 go_wp2_with fail
 refine HSM.out.mono ?_
 rintro e w4 ⟨r,rfl,⟨_,_,h4⟩,b4⟩
 have HR4:=hid h4
 have B4:=hid (B3.out.trans (b4.mono B3.out.size))
 have hs3:=B3.out.size
 clear h4 b4 HSM
 go_wp2
 go_ret2
 refine ⟨r,_,rfl,Au HR4.out hs3,fun k hk hF => ?_,Ac.of_below F B4.out,HST.out.turn (Ac.of_below (fun _ => False) B4.out) (fun _ _ h => h),fun k hk => .inl hk.1⟩
 have h1:=(HR4.out.lt k hk).1
 have h2:=hF.2
 omega
end
section
open Go.RowKit
theorem St9.box {w : World} {d b : Nat} {s : Cv} {F : Nat -> Prop} (h : St9 w d b s F) : AH w b s.box F /\ s.box.down = false:=by
 obtain ⟨q,mp,tv,st,c,ap,A,F0,Fb,Fm,Fr,I⟩:=h
 exact ⟨I.db.box.mono fun k hk => I.sub _ (I.db.fb k hk),I.down⟩
theorem Xf {w : World} {d b : Nat} {s : Cv} {F : Nat -> Prop} (h : St9 w d b s F) (n : Int) (hn : (Lit.int .i64 n).wf = true) :
 Calls Tryz.prog 23 #[.pointer (some ⟨b,0,none⟩),.int .i64 n] w fun e w' => e = .returned (.tuple #[]) /\ Ac F w w' /\ St9 w' d b { s with box:=⟨s.box.files,n,s.box.down⟩ } F:=by
 obtain ⟨q,mp,tv,st,c,ap,A,F0,Fb,Fm,Fr,I⟩:=h
 refine (YW I.db.box n hn).mono ?_
 rintro e w1 ⟨rfl,hb,t⟩
 obtain ⟨h1,h2⟩:=I.db.onBox0 hb t
 exact ⟨rfl,h2.mono (fun k hk => .inl (I.sub k hk)),q,mp,tv,st,c,ap,A,F0,Fb,Fm,Fr,{ db:=h1,sub:=I.sub,disk:=I.disk,cur:=I.cur,shape:=I.shape,few:=I.few,down:=I.down,z:=I.z,c1:=I.c1,w:=I.w,n:=I.n,size:=I.size,mem:=I.mem,map:=I.map,tabs:=I.tabs }⟩
theorem Wu {S : Bx} (h : ∀ x ∈ S.files,Y9 x.1 = true /\ x.1.length <= 18 /\ x.2.dur = x.2.bytes.length) (hd : S.down = false) (hw : weigh S.files <= 1099511627776) (hr : AC S.files) : OpZ S [] 0:=by
 have hz : ∀ x ∈ S.files,zK x.1 = true:=fun x hx => (h x hx).1
 have hsg : Bu LOG S.files = []:=by
  unfold Bu
  rw [List.filter_eq_nil_iff]
  intro x hx
  rw [PG (hz x hx)]
  simp
 have hdk : AZ S.files ⟨0,[],[],0,0⟩ [] (IL ⟨0,[],[],0,0⟩):=
  { rising:=hr
    firm:=fun x hx => ⟨(h x hx).2.2,fun e => by rw [hz x hx] at e; cases e⟩
    segs:=⟨hsg,(fun a ha => by cases ha),(fun a ha => by cases ha),(fun r hr => by cases hr)⟩
    chain:=CV.nil
    play:=rfl
    tabs:=⟨(fun i hi => by cases hi),fun x hx => .inl (hz x hx)⟩ }
 have hsh : AV ⟨0,[],[],0,0⟩:=⟨List.Pairwise.nil,(fun _ h => by cases h),(fun _ h => by cases h),Nat.zero_le _,Nat.le_refl _⟩
 have hfw : Gs ⟨0,[],[],0,0⟩ 0:=⟨Nat.le_refl _,Nat.le_refl _,Nat.le_refl _,Nat.le_refl _⟩
 refine ⟨⟨hd,⟨_,[],hdk,hsh,hfw,?_,(fun a ha => by cases ha)⟩,by unfold wB; omega,by omega⟩,fun x hx => (h x (List.mem_filter.1 hx).1).2.1⟩
 show ([] : List Aa) = CT [] []
 unfold CT
 simp [CS,allP_nil,Bc,By]
theorem lsmK : Is EY St9 OpZ where
 e_size:=EY.size
 e_turn:=fun h t hG => h.turn t hG
 turn:=fun h t hd => h.turn t hd
 mono:=fun h hg => h.mono hg
 tight:=fun h => h.tight
 box:=fun h => h.box
 good:=fun h => h.good
 hold:=fun h keep => h.hold keep
 empty:=fun h hd hw hr => Wu h hd hw hr
 fuel:=fun h n hn => Xf h n hn
 refuel:=fun f h => ⟨⟨h.1.1,h.1.2.1,h.1.2.2⟩,h.2⟩
 check:=fun h => Km h
 opens:=fun E hb hB hd ho hn => WH E hb hB hd ho hn
 write:=fun E h hB hR hA hn => U0 E h hB hR hA hn
 get:=fun _ h _ k => ZR h k
 scan:=fun _ h _ fr tu most hm hfr => WT h fr tu most hm hfr
 flush:=fun E h hB hn => TQ E h hB hn
 compact:=fun E h hB hn => QI E h hB hn
end
end Go.Proofs.YtnafjlhohbhcoaaGreatDoor
