/- Parts of the proof. -/
import Derived.Test.YtlkefgngefpkiaaGreatDoorQ48
import Derived.Test.YtlkefgngefpkiaaGreatDoorQ30
namespace Go.Proofs.YtlkefgngefpkiaaGreatDoor
set_option linter.unusedVariables false
open Go.RowKit
attribute [local go_sem] Oper.semAt_some
section
variable {E : Nat -> World -> Prop} {St : World -> Nat -> Nat -> Dd -> (Nat -> Prop) -> Prop} {Op : Bx -> List Aa -> Nat -> Prop} (K : Kf E St Op)
include K
set_option maxHeartbeats 8000000 in
set_option maxRecDepth 100000 in
theorem SV {w : World} (hE : E w.heap.size w) (a0 : Option Addr) (c0 : Nat) (cs : List Gt) (most : Int) (hC : JS w (.slice a0 cs.length c0) cs) (hm : (Lit.int .i64 most).wf = true) :
 Calls Tryz.prog 6 #[.slice a0 cs.length c0,.int .i64 most] w fun e w' => e = .returned (.bool true) /\ Below w.heap.size w w':=by
 have hmb:=bounds_i64 hm
 have haw:=Es K hE
 have hcm:=hC.1
 have HC:=Lib.hid hC
 have HM:=Lib.hid hm
 obtain ⟨i0,hi,hz0,hz1,hz2⟩:=info_parts infoPair
 have HI0:=Lib.hid hi
 clear hC hm hi
 go_enter Tryz.func6,Tryz.ntmps6
 go_wp2_with fail
 refine haw.mono ?_
 rintro e w1 ⟨rfl,B1⟩
 have E1:=K.e_turn hE (Ac.of_below (fun _ => False) B1) (fun _ h => h.elim)
 clear haw hE
 by_cases hbig : 100 < cs.length
 · have hbg : (100 : Int) < cs.length:=by omega
   go_wp2
   go_ret
   exact ⟨rfl,B1⟩
 by_cases hone : most < 1
 · go_wp2
   go_ret
   exact ⟨rfl,B1⟩
 go_wp2_with fail
 refine (Ge w1).mono ?_
 rintro e w2 ⟨p,rfl,hp,hbx,b2⟩
 have hs1:=B1.size
 have hop:=Gf K (B:=w.heap.size) (w0:=w) (X:=fun _ => False) (K.e_below E1 b2) (B1.trans (b2.mono hs1)) (hbx.mono fun k hk => ⟨by omega,fun h => h⟩) (fun k hk => hk.elim) rfl (by decide) (K.empty (S:=Bx.new) (fun x hx => by cases hx) rfl (by decide) List.Pairwise.nil) (by decide)
 clear hbx E1 b2 B1 hs1 hp
 go_wp2_with fail
 refine hop.mono ?_
 rintro e w3 ⟨d,s0,rfl,u3,-,-,en,-,-⟩
 have HU:=Lib.hid u3
 have HN0 : s0.n = 1:=en
 clear hop u3 en
 go_wp2
 go_loopw [32] (fun iv wr => ∃ i : Nat,i <= cs.length /\ iv = .int .i64 (i : Int) /\ Hid (∃ s,Ups E St w.heap.size w (fun _ => False) wr d p s /\ s.n <= i + 1)) (fun iv _ => cs.length - (intOf iv).toNat)
 case atStart => exact ⟨0,Nat.zero_le _,rfl,s0,HU.out,by omega⟩
 case round =>
  obtain ⟨i,hil,rfl,HI⟩:=hrel
  clear HU
  by_cases hlt : i < cs.length
  · obtain ⟨s,hu,hn⟩:=HI.out
    obtain ⟨g,o,rfl,q0,q1,q2,q3,q4,q5,ok⟩:=HC.out.at hu.bel hlt
    have hmes : cs.length - (intOf (.int .i64 ((i : Int) + 1))).toNat < cs.length - (intOf (.int .i64 (i : Int))).toNat:=by simp [intOf]; omega
    generalize cs[i] = C at *
    obtain ⟨ck,cbv,cb,ckey,cto,cmost,ckeep,cks⟩:=C
    obtain ⟨ba,bc,ebv⟩:=ok.read.slice
    obtain ⟨ka,kc,ekp,-⟩:=ok.ks.ex
    simp only at q0 q1 q2 q3 q4 q5 ebv ekp
    subst ebv
    subst ekp
    have hkb:=bounds_i64 ok.kind
    have hbl : Below wr.heap.size wr (wr.alloc (.cells #[.int .i64 ck,.slice ba cb.length bc,.string ckey,.string cto,.int .i64 cmost,.slice ka cks.length kc] 35)):=(Below.refl _ wr).alloc (Nat.le_refl _) _
    have hcb:=Bt.new wr ⟨ck,.slice ba cb.length bc,cb,ckey,cto,cmost,.slice ka cks.length kc,cks⟩
    have y0:=hcb.c0
    have y1:=hcb.c1
    simp only at y0 y1
    have hu2:=hu.below K hbl
    have HU2:=Lib.hid hu2
    have HNX:=Lib.hid hn
    have HOK:=Lib.hid ok
    clear hu hn HI hbl hu2 ok hcb
    by_cases k0 : ck = 0
    · have hwr:=NT K HU2.out HOK.out (by have:=HNX.out; unfold limN; omega)
      subst k0
      go_wp2_with fail
      refine hwr.mono ?_
      rintro e w5 ⟨rfl,-,s5,u5,-,hn5,-,-⟩
      have HG : Hid (∃ s,Ups E St w.heap.size w (fun _ => False) w5 d p s /\ s.n <= (i + 1) + 1):=⟨s5,u5,by have:=HNX.out; omega⟩
      clear hwr u5 hn5
      go_wp2
      exact ⟨⟨i + 1,by omega,by go_num,HG⟩,hmes⟩
    by_cases k3 : ck = 3
    · subst k3
      have hfl:=Kz K HU2.out (by have:=HNX.out; unfold limN; omega)
      go_wp2_with fail
      refine hfl.mono ?_
      rintro e w5 ⟨rfl,-,s5,u5,-,hn5,-,-⟩
      have HG : Hid (∃ s,Ups E St w.heap.size w (fun _ => False) w5 d p s /\ s.n <= (i + 1) + 1):=⟨s5,u5,by have:=HNX.out; omega⟩
      clear hfl u5 hn5
      go_wp2
      exact ⟨⟨i + 1,by omega,by go_num,HG⟩,hmes⟩
    by_cases k4 : ck = 4
    · subst k4
      have hcp:=JM K HU2.out (by have:=HNX.out; unfold limN; omega)
      go_wp2_with fail
      refine hcp.mono ?_
      rintro e w5 ⟨rfl,-,s5,u5,-,hn5,-,-⟩
      have HG : Hid (∃ s,Ups E St w.heap.size w (fun _ => False) w5 d p s /\ s.n <= (i + 1) + 1):=⟨s5,u5,by have:=HNX.out; omega⟩
      clear hcp u5 hn5
      go_wp2
      exact ⟨⟨i + 1,by omega,by go_num,HG⟩,hmes⟩
    · have HG : Hid (∃ s,Ups E St w.heap.size w (fun _ => False) (wr.alloc (.cells #[.int .i64 ck,.slice ba cb.length bc,.string ckey,.string cto,.int .i64 cmost,.slice ka cks.length kc] 35)) d p s /\ s.n <= (i + 1) + 1):=⟨s,HU2.out,by have:=HNX.out; omega⟩
      have g0 : (ck == 0) = false:=by simpa using k0
      have g3 : (ck == 3) = false:=by simpa using k3
      have g4 : (ck == 4) = false:=by simpa using k4
      go_wp2
      exact ⟨⟨i + 1,by omega,by go_num,HG⟩,hmes⟩
  · obtain ⟨s,hu,hn⟩:=HI.out
    have hi2 : i = cs.length:=by omega
    subst hi2
    have hg:=K.good hu.st
    have hlen : s.map.length <= 1048576:=by have:=hg.2.2.1; omega
    have hsc:=GQ K hu ⟨#[]⟩ ⟨#[]⟩ 1048576 (by decide) (by decide)
    rw [Hk hlen] at hsc
    have HG:=Lib.hid hg
    clear hu hn HI HC
    go_wp2_with fail
    refine hsc.mono ?_
    rintro e w4 ⟨r1,rfl,hr1,-,u4⟩
    obtain ⟨ra,rc,rfl⟩:=Ar hr1
    have HST : Hid (∃ (i : Nat) (fr : ByteArray) (X : Nat -> Prop),Value.string ⟨#[]⟩ = .string fr /\ GU s.map fr i /\ (∃ a c,Value.slice none 0 0 = .slice a i c) /\ w4.ownsRow 0 61 3 (.slice none 0 0) i (AH (s.map.take i)) /\ Ups E St w.heap.size w X w4 d p s /\ (∀ k,(Value.slice none 0 0).ownBlock = some k -> X k /\ w.heap.size <= k) /\ (∀ k,(Value.slice ra s.map.length rc).ownBlock = some k -> X k /\ k < w4.heap.size /\ ∀ j,(Value.slice none 0 0).ownBlock = some j -> k ≠ j) /\ w4.ownsRow 0 61 3 (.slice ra s.map.length rc) s.map.length (AH s.map) /\ fr.size <= 281474976710656):=
     ⟨0,⟨#[]⟩,_,rfl,GU.start _,⟨_,_,rfl⟩,World.ownsRow_nil _ _ _ _,u4,fun k hk => by simp [Value.ownBlock] at hk,fun k hk => ⟨.inr hk,(hr1.lt k hk).2,fun j hj => by simp [Value.ownBlock] at hj⟩,Ax hr1 (Nat.zero_le _),by decide⟩
    clear hsc hr1 u4
    go_wp2
    go_loopw [10,11] (fun pv fv wr => Hid (∃ (i : Nat) (fr : ByteArray) (X : Nat -> Prop),fv = .string fr /\ GU s.map fr i /\ (∃ a c,pv = .slice a i c) /\ wr.ownsRow 0 61 3 pv i (AH (s.map.take i)) /\ Ups E St w.heap.size w X wr d p s /\ (∀ k,pv.ownBlock = some k -> X k /\ w.heap.size <= k) /\ (∀ k,(Value.slice ra s.map.length rc).ownBlock = some k -> X k /\ k < wr.heap.size /\ ∀ j,pv.ownBlock = some j -> k ≠ j) /\ wr.ownsRow 0 61 3 (.slice ra s.map.length rc) s.map.length (AH s.map) /\ fr.size <= 281474976710656)) (fun pv _ _ => s.map.length - (match pv with | .slice _ n _ => n | _ => 0))
    case atStart => exact HST
    case round =>
     obtain ⟨i,fr,X,rfl,hpa,⟨pa,pc,rfl⟩,hpr,hu,hpx,hrx,hrr,hfz⟩:=hrel.out
     have hsc:=GQ K hu fr ⟨#[]⟩ most HM.out hfz
     clear hfz
     have HPA:=Lib.hid hpa
     have HPR:=Lib.hid hpr
     have HPX:=Lib.hid hpx
     have HRX:=Lib.hid hrx
     have HRR:=Lib.hid hrr
     have HSZ:=Lib.hid (K.e_size hu.e)
     clear hrel HST hpa hpr hu hpx hrx hrr
     go_wp2_with fail
     refine hsc.mono ?_
     rintro e w5 ⟨l,rfl,hl,t5,u5⟩
     obtain ⟨la,lc,rfl⟩:=Ar hl
     have hp5:=t5.row HPR.out (fun k hk h => h.2 (HPX.out k hk).1)
     have hr5:=t5.row HRR.out (fun k hk h => h.2 (HRX.out k hk).1)
     have HPS:=Lib.hid (HPA.out.scan most)
     have HNX:=Lib.hid (fun (hh : 0 < (AZ s.map fr ⟨#[]⟩ most).length) => HPA.out.next HG.out.1 (most:=most) rfl hh)
     clear hsc
     generalize AZ s.map fr ⟨#[]⟩ most = L at *
     have T5:=Lib.hid t5.size
     have HL:=Lib.hid hl
     have U5:=Lib.hid u5
     have HR5:=Lib.hid hr5
     have HP5:=Lib.hid hp5
     clear t5 hl u5 hr5 hp5
     have hLm : L.length <= 9223372036854775807:=by have:=(Ao.own HL.out).1; unfold maxLen at this; omega
     have hle:=HPA.out.1
     by_cases hz : L.length = 0
     · have him : i = s.map.length:=by
         have h1:=HPS.out
         have h2 : L.length = min most.toNat (s.map.drop i).length:=by rw [h1,List.length_take]
         rw [List.length_drop] at h2
         omega
       subst him
       have hm2 : s.map.take s.map.length = s.map:=by simp
       have hrd:=HP5.out
       rw [hm2] at hrd
       have hsm:=Gg (Ao.own hrd) (Ao.own HR5.out)
       have hss : EX s.map s.map = true:=by unfold EX; simp
       rw [hss] at hsm
       have HSM:=Lib.hid hsm
       clear hrd hsm hss hm2
       go_wp2_with fail
       refine HSM.out.mono ?_
       rintro e w6 ⟨rfl,n6,rfl⟩
       have HB:=Lib.hid (below_drewN U5.out.bel n6)
       go_wp2
       go_ret
       exact ⟨rfl,HB.out⟩
     · have hLp : 0 < L.length:=by omega
       obtain ⟨HP2,HTK⟩:=HNX.out hLp
       have hle2:=HP2.1
       have hi:=HI0.out
       have hsrc:=VJ HL.out (KM L)
       have hp5:=HP5.out
       go_wp2_with (at_builtin; go_loud (refine Bq _ rfl (.tmp 70) (.tmp 71) rfl Tryz.underlying30 hi hz0 hz1 hz2 rfl (by decide) rfl hp5 rfl hsrc ?a1 ?a2 ?_))
       case a1 => omega
       case a2 => unfold maxLen; omega
       intro v6 w6 o6 g6 l6
       obtain ⟨va,vc,rfl⟩:=Ar o6
       have hrow6 : w6.ownsRow 0 61 3 (.slice va (i + L.length) vc) (i + L.length) (AH (s.map.take (i + L.length))):=by rw [HTK,ED]; exact o6
       have u6:=U5.out.grown K g6 (fun k hk => ⟨.inl (HPX.out k hk).1,(HPX.out k hk).2⟩)
       have t6 : Ac (fun k => (Value.slice pa i pc).ownBlock = some k) w5 w6:=(Ac.refl _ w5).grown g6 (fun k hk => .inl hk)
       have hl6:=t6.row HL.out (fun k hk h => by have:=(HL.out.lt k hk).1; have:=(HPR.out.lt k h).2; omega)
       have hr6:=t6.row HR5.out (fun k hk h => (HRX.out k hk).2.2 k h rfl)
       have hs6:=t6.size
       have HVX : Hid (∀ k,(Value.slice va (i + L.length) vc).ownBlock = some k -> (((X k \/ (Value.slice la L.length lc).ownBlock = some k) \/ (w5.heap.size <= k /\ k < w6.heap.size)) /\ w.heap.size <= k) /\ (∀ j,(Value.slice ra s.map.length rc).ownBlock = some j -> j ≠ k)):=fun k hk => by
        have h5:=T5.out
        have h6:=HSZ.out
        rcases l6 k hk with h | h
        · exact ⟨⟨.inl (.inl (HPX.out k h).1),(HPX.out k h).2⟩,fun j hj => (HRX.out j hj).2.2 k h⟩
        · exact ⟨⟨.inr ⟨h,(o6.lt k hk).2⟩,by omega⟩,fun j hj e => by have:=(HR5.out.lt j hj).2; omega⟩
       have HR6:=Lib.hid hr6
       have HW6:=Lib.hid hrow6
       have U6:=Lib.hid u6
       have hmes : s.map.length - (i + L.length) < s.map.length - i:=by omega
       obtain ⟨gl,ol,rfl,q0,-,-⟩:=(Ao.own hl6).at (i:=L.length - 1) (by omega)
       clear o6 g6 l6 t6 hl6 hr6 hrow6 u6 hsrc hp5 hi hs6
       have hks : (L[L.length - 1]).key.size <= 64:=by
        have h1 : L[L.length - 1] ∈ s.map:=by
         have h2 : L[L.length - 1] ∈ L:=List.getElem_mem _
         have h3 : L[L.length - 1] ∈ (s.map.drop i).take most.toNat:=by rw [<- HPS.out]; exact h2
         exact List.mem_of_mem_drop (List.mem_of_mem_take h3)
        have h4:=(HG.out.2.1 _ h1).1
        unfold Av at h4
        split at h4
        · cases h4
        · split at h4
          · cases h4
          · omega
       generalize hkk : (L[L.length - 1]).key = kk at *
       have hsz : ¬ 9223372036854775807 < kk.size + 1:=by omega
       have q0a : (w6.alloc (.cells #[.int .u8 0] 5)).drew.cell? ⟨gl,ol + (L.length - 1) * 3,none⟩ = some (.string kk):=(((Below.refl w6.heap.size w6).alloc (Nat.le_refl _) (.cells #[.int .u8 0] 5)).cell (p:=⟨gl,_,none⟩) (World.block_lt_of_cell? w6 _ q0)).trans q0
       have hcv : (convert 62 9 (.slice (some ⟨w6.heap.size,0,none⟩) 1 1)).run Tryz.prog (w6.alloc (.cells #[.int .u8 0] 5)).drew = .ok (.string ⟨#[0]⟩) (w6.alloc (.cells #[.int .u8 0] 5)).drew:=
        run_convert_bytes_back (P:=Tryz.prog) (w6.alloc (.cells #[.int .u8 0] 5)).drew 62 9 5 ⟨w6.heap.size,0,none⟩ 1 [0] Tryz.underlying62 Tryz.underlying5 Tryz.underlying9 (fun j hj => by
         have h1:=Fx w6 (.int .u8 0) 5 j (.int .u8 0) (by match j,hj with | 0,_ => rfl)
         match j,hj with
         | 0,_ => exact h1)
       have hwr : IntKind.i64.wrap ((L.length : Int) - 1) = ((L.length - 1 : Nat) : Int):=by
        rw [show ((L.length : Int) - 1) = ((L.length - 1 : Nat) : Int) by omega]
        rw [IntKind.wrap_i64]; omega
       have hwlt : ((L.length - 1 : Nat) : Int) < (L.length : Int):=by omega
       go_wp2
       go_region
       have b7 : Below w6.heap.size w6 (w6.alloc (.cells #[.int .u8 0] 5)).drew:=((Below.refl _ w6).alloc (Nat.le_refl _) _).drew
       go_wp2
       go_roundw
       case rel => exact ⟨i + L.length,kk ++ ⟨#[0]⟩,_,rfl,HP2,⟨_,_,rfl⟩,Ah HW6.out b7,U6.out.below K b7,fun k hk => (HVX.out k hk).1,fun k hk => ⟨.inl (.inl (HRX.out k hk).1),by have:=(HR6.out.lt k hk).2; have:=b7.size; omega,fun j hj => (HVX.out j hj).2 k hk⟩,Ah HR6.out b7,by show (kk ++ (⟨#[0]⟩ : ByteArray)).size <= _; rw [ByteArray.size_append]; have : (⟨#[0]⟩ : ByteArray).size = 1:=rfl; omega⟩
       case measure => exact hmes
end
end Go.Proofs.YtlkefgngefpkiaaGreatDoor
