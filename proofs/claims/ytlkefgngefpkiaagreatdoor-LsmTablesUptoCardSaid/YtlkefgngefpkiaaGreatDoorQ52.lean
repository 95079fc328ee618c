/- Parts of the proof. -/
import Derived.Test.YtlkefgngefpkiaaGreatDoorQ48
namespace Go.Proofs.YtlkefgngefpkiaaGreatDoor
set_option linter.unusedVariables false
open Go.RowKit
theorem GZ {α : Type} {k : Key} (hk : Pi k = true) : ∀ l : List (Key × α),Ak k (l.filter fun x => Pi x.1) = Ak k l
 | [] => rfl
 | y :: r => by
   rw [Bi,List.filter_cons]
   by_cases e : y.1 = k
   · rw [if_pos (show Pi y.1 = true by rw [e]; exact hk),Bi,if_pos e,if_pos e]
   · rw [if_neg e]
     split
     · rw [Bi,if_neg e,GZ hk r]
     · exact GZ hk r
def zOth : Key:=[122,111,116,104,101,114]
def zB (o : ByteArray) : Bx:=⟨[(zOth,⟨o.data.toList,o.data.toList.length⟩)],-1,false⟩
theorem Za (o : ByteArray) : Bx.new.append zOth o.data.toList = (⟨[(zOth,⟨o.data.toList,0⟩)],-1,false⟩,0):=rfl
theorem Ab9 (o : ByteArray) : Bx.sync ⟨[(zOth,⟨o.data.toList,0⟩)],-1,false⟩ zOth = (zB o,0):=by
 rw [Bx.sync_some (f:=⟨o.data.toList,0⟩) rfl (by rw [Bi]; rfl)]
 rfl
theorem Ab3 {S : Bx} (hd : S.down = false) {o : ByteArray} (h : AE S = AE (zB o)) : S.read zOth = (o.data.toList,0):=by
 refine Bx.read_some (f:=⟨o.data.toList,o.data.toList.length⟩) hd ?_
 rw [<- GZ (by rfl)]
 show Ak zOth (AE S) = _
 rw [h]
 rfl
theorem Abd (o : ByteArray) : tx o.data.toList = .string o:=by simp [tx]
section
variable {E : Nat -> World -> Prop} {St : World -> Nat -> Nat -> Dd -> (Nat -> Prop) -> Prop} {Op : Bx -> List Aa -> Nat -> Prop} (K : Kf E St Op)
include K
set_option maxHeartbeats 8000000 in
set_option maxRecDepth 100000 in
theorem Qw {w : World} (hE : E w.heap.size w) (a0 : Option Addr) (c0 : Nat) (cs : List Gt) (other : ByteArray) (hC : JS w (.slice a0 cs.length c0) cs) (ho : other.size <= 1099511627000) :
 Calls Tryz.prog 7 #[.slice a0 cs.length c0,.string other] w fun e w' => e = .returned (.bool true) /\ Below w.heap.size w w':=by
 have haw:=Es K hE
 have hcm:=hC.1
 have HC:=Lib.hid hC
 clear hC
 go_enter Tryz.func7,Tryz.ntmps7
 go_wp2_with fail
 refine haw.mono ?_
 rintro e w1 ⟨rfl,B1⟩
 have E1:=K.e_turn hE (Ac.of_below (fun _ => False) B1) (fun _ h => h.elim)
 clear haw hE
 by_cases hbig : 100 < cs.length
 · have hbg : (100 : Int) < cs.length:=by omega
   go_wp2
   go_ret
   exact ⟨rfl,B1⟩
 go_wp2_with fail
 refine (Ge w1).mono ?_
 rintro e w2 ⟨p,rfl,hp,hbx,b2⟩
 have hs1:=B1.size
 have E2:=Lib.hid (K.e_below E1 b2)
 have B2:=Lib.hid (B1.trans (b2.mono hs1))
 have hx2:=hbx.mono (G:=fun k => w.heap.size <= k) (fun k hk => by omega)
 have hap:=It hx2 ⟨#[122,111,116,104,101,114]⟩ other (by decide) (by show 0 + _ <= _; omega)
 have hz1 : Bx.new.append (⟨#[122,111,116,104,101,114]⟩ : ByteArray).data.toList other.data.toList = (⟨[(zOth,⟨other.data.toList,0⟩)],-1,false⟩,0):=Za other
 rw [hz1] at hap
 clear hbx hx2 E1 b2 B1 hs1 hp hz1
 go_wp2_with fail
 refine hap.mono ?_
 rintro e w3 ⟨rfl,hx3,t3⟩
 have hx3:=hx3.mono (G:=fun k => w.heap.size <= k) (fun k hk => by have:=B2.out.size; unfold AK at hk; rcases hk with hk | hk <;> omega)
 have E3:=Lib.hid (K.e_turn E2.out t3 (fun k hk => hk))
 have B3:=Lib.hid (B2.out.trans (t3.below (fun k hk => hk) B2.out.size))
 have hsy:=Nx hx3 ⟨#[122,111,116,104,101,114]⟩ (by decide)
 have hz2 : Bx.sync ⟨[(zOth,⟨other.data.toList,0⟩)],-1,false⟩ (⟨#[122,111,116,104,101,114]⟩ : ByteArray).data.toList = (zB other,0):=Ab9 other
 rw [hz2] at hsy
 clear hap hx3 t3 E2 B2 hz2
 go_wp2_with fail
 refine hsy.mono ?_
 rintro e w4 ⟨rfl,hx4,t4⟩
 have hop:=Gf K (B:=w.heap.size) (w0:=w) (X:=fun _ => False) (K.e_turn E3.out t4 (fun k hk => hk)) (B3.out.trans (t4.below (fun k hk => hk) B3.out.size)) (hx4.mono fun k hk => ⟨hk,fun h => h⟩) (fun k hk => hk.elim) rfl (by show (-1 : Int) < 0; decide) (K.empty (S:=zB other) (fun x hx => by rw [List.mem_singleton.1 hx]; exact ⟨rfl,(by decide : zOth.length <= 18),rfl⟩) rfl (by show other.data.toList.length + 1 + 0 <= _; have hl : other.data.toList.length = other.size:=(by simp); omega) (List.pairwise_singleton _ _)) (by decide)
 clear hsy hx4 t4 E3 B3
 go_wp2_with fail
 refine hop.mono ?_
 rintro e w5 ⟨d,s0,rfl,u5,-,-,en,ez,-⟩
 have HU:=Lib.hid u5
 have HZ:=Lib.hid ez
 have HN0 : s0.n = 1:=en
 clear hop u5 en ez
 go_wp2
 go_loopw [40] (fun iv wr => ∃ i : Nat,i <= cs.length /\ iv = .int .i64 (i : Int) /\ Hid (∃ s,Ups E St w.heap.size w (fun _ => False) wr d p s /\ s.n <= 2 * i + 1 /\ AE s.box = AE (zB other))) (fun iv _ => cs.length - (intOf iv).toNat)
 case atStart => exact ⟨0,Nat.zero_le _,rfl,s0,HU.out,by omega,HZ.out⟩
 case round =>
  obtain ⟨i,hil,rfl,HI⟩:=hrel
  clear HU HZ
  by_cases hlt : i < cs.length
  · obtain ⟨s,hu,hn,hz⟩:=HI.out
    obtain ⟨g,o,rfl,q0,q1,q2,q3,q4,q5,ok⟩:=HC.out.at hu.bel hlt
    have hmes : cs.length - (intOf (.int .i64 ((i : Int) + 1))).toNat < cs.length - (intOf (.int .i64 (i : Int))).toNat:=by simp [intOf]; omega
    generalize cs[i] = C at *
    obtain ⟨ck,cbv,cb,ckey,cto,cmost,ckeep,cks⟩:=C
    obtain ⟨ba,bc,ebv⟩:=ok.read.slice
    obtain ⟨ka,kc,ekp,-⟩:=ok.ks.ex
    simp only at q0 q1 q2 q3 q4 q5 ebv ekp
    subst ebv
    subst ekp
    have hbl : Below wr.heap.size wr (wr.alloc (.cells #[.int .i64 ck,.slice ba cb.length bc,.string ckey,.string cto,.int .i64 cmost,.slice ka cks.length kc] 35)):=(Below.refl _ wr).alloc (Nat.le_refl _) _
    have hcb:=Bt.new wr ⟨ck,.slice ba cb.length bc,cb,ckey,cto,cmost,.slice ka cks.length kc,cks⟩
    have y0:=hcb.c0
    have y1:=hcb.c1
    simp only at y0 y1
    have HU2:=Lib.hid (hu.laid K hbl)
    have HNX:=Lib.hid hn
    have HZX:=Lib.hid hz
    have HOK:=Lib.hid ok
    have HCB:=Lib.hid hcb
    have hg:=K.good hu.st
    have hlen : s.map.length <= 1048576:=by have:=hg.2.2.1; omega
    have HWL : Hid (wr.heap.size < (wr.alloc (.cells #[.int .i64 ck,.slice ba cb.length bc,.string ckey,.string cto,.int .i64 cmost,.slice ka cks.length kc] 35)).heap.size):=by show _ < _; simp
    clear hu hn HI hbl ok hcb hg hz
    by_cases k0 : ck = 0
    · subst k0
      have hwr:=NT K HU2.out HOK.out (by have:=HNX.out; unfold limN; omega)
      go_wp2_with fail
      refine hwr.mono ?_
      rintro e w6 ⟨rfl,-,s6,u6,-,hn6,hz6,-⟩
      have HG : Hid (∃ s,Ups E St w.heap.size w (fun _ => False) w6 d p s /\ s.n <= 2 * (i + 1) + 1 /\ AE s.box = AE (zB other)):=⟨s6,u6.forget K (fun _ h => h.elim),by have:=HNX.out; omega,hz6.trans HZX.out⟩
      clear hwr u6 hn6 hz6
      go_wp2
      exact ⟨⟨i + 1,by omega,by go_num,HG⟩,hmes⟩
    have k0' : (ck == 0) = false:=by simpa using k0
    have hsc:=GQ K HU2.out ⟨#[]⟩ ⟨#[]⟩ 1048576 (by decide) (by decide)
    rw [Hk hlen] at hsc
    go_wp2_with fail
    refine hsc.mono ?_
    rintro e w6 ⟨r1,rfl,hr1,t6,u6⟩
    obtain ⟨ra,rc,rfl⟩:=Ar hr1
    have hcb6 : Bt w6 wr.heap.size ⟨ck,.slice ba cb.length bc,cb,ckey,cto,cmost,.slice ka cks.length kc,cks⟩:=(t6.block _ HWL.out (fun h => h.2 (.inr ⟨Nat.le_refl _,HWL.out⟩))).trans HCB.out
    have hfl:=Kz K u6 (by have:=HNX.out; unfold limN; omega)
    have hX6 : (fun k => ((False \/ (wr.heap.size <= k /\ k < (wr.alloc (.cells #[.int .i64 ck,.slice ba cb.length bc,.string ckey,.string cto,.int .i64 cmost,.slice ka cks.length kc] 35)).heap.size)) \/ (Value.slice ra s.map.length rc).ownBlock = some k)) wr.heap.size:=.inl (.inr ⟨Nat.le_refl _,HWL.out⟩)
    have HCB6:=Lib.hid hcb6
    have HR1:=Lib.hid (Ax hr1 (Nat.zero_le _))
    clear hsc hr1 t6 u6 hcb6 HU2 HCB
    go_wp2_with fail
    refine hfl.mono ?_
    rintro e w7 ⟨rfl,t7,s7,u7,em7,en7,ez7,-⟩
    have hcb7 : Bt w7 wr.heap.size ⟨ck,.slice ba cb.length bc,cb,ckey,cto,cmost,.slice ka cks.length kc,cks⟩:=(t7.block _ (Ad HCB6.out) (fun h => h.2 hX6)).trans HCB6.out
    have x0:=hcb7.c0
    simp only at x0
    have HR7:=Lib.hid (t7.row HR1.out (fun k hk h => h.2 (.inr hk)))
    have HU7:=Lib.hid u7
    have HZ7:=Lib.hid (ez7.trans HZX.out)
    have HN7 : Hid (s7.n <= 2 * i + 2):=by have:=HNX.out; show s7.n <= _; omega
    have HM7:=Lib.hid em7
    clear hfl t7 u7 em7 en7 ez7 hcb7 HCB6 HR1 y0 y1
    by_cases k4 : ck = 4
    · subst k4
      have hcp:=JM K HU7.out (by have:=HN7.out; unfold limN; omega)
      go_wp2_with fail
      refine hcp.mono ?_
      rintro e w8 ⟨rfl,t8,s8,u8,em8,en8,ez8,-⟩
      have hsc:=GQ K u8 ⟨#[]⟩ ⟨#[]⟩ 1048576 (by decide) (by decide)
      rw [em8,HM7.out,Hk hlen] at hsc
      have HR8:=Lib.hid (t8.row HR7.out (fun k hk h => h.2 (.inr hk)))
      have HZ8:=Lib.hid (ez8.trans HZ7.out)
      have HN8 : Hid (s8.n <= 2 * (i + 1) + 1):=by have:=HN7.out; show s8.n <= _; omega
      clear hcp t8 u8 em8 en8 ez8 HR7 HZ7 HN7 HU7
      go_wp2_with fail
      refine hsc.mono ?_
      rintro e w9 ⟨r2,rfl,hr2,t9,u9⟩
      obtain ⟨rb,rd,rfl⟩:=Ar hr2
      have hr9:=t9.row HR8.out (fun k hk h => h.2 (.inr hk))
      have hsm:=Gg (Ao.own hr9) (Ao.own hr2)
      have hss : EX s.map s.map = true:=by unfold EX; simp
      rw [hss] at hsm
      have HSM:=Lib.hid hsm
      have HU9:=Lib.hid u9
      clear hsc hr2 t9 u9 hr9 hsm hss HR8
      go_wp2_with fail
      refine HSM.out.mono ?_
      rintro e wa ⟨rfl,na,rfl⟩
      have HG : Hid (∃ s,Ups E St w.heap.size w (fun _ => False) (w9.drewN na) d p s /\ s.n <= 2 * (i + 1) + 1 /\ AE s.box = AE (zB other)):=⟨s8,(HU9.out.below K (below_drewN (Below.refl _ _) na)).forget K (fun _ h => h.elim),HN8.out,HZ8.out⟩
      clear HSM HU9
      go_wp2
      exact ⟨⟨i + 1,by omega,by go_num,HG⟩,hmes⟩
    · have k4' : (ck == 4) = false:=by simpa using k4
      have hsc:=GQ K HU7.out ⟨#[]⟩ ⟨#[]⟩ 1048576 (by decide) (by decide)
      rw [HM7.out,Hk hlen] at hsc
      go_wp2_with fail
      refine hsc.mono ?_
      rintro e w9 ⟨r2,rfl,hr2,t9,u9⟩
      obtain ⟨rb,rd,rfl⟩:=Ar hr2
      have hr9:=t9.row HR7.out (fun k hk h => h.2 (.inr hk))
      have hsm:=Gg (Ao.own hr9) (Ao.own hr2)
      have hss : EX s.map s.map = true:=by unfold EX; simp
      rw [hss] at hsm
      have HSM:=Lib.hid hsm
      have HU9:=Lib.hid u9
      clear hsc hr2 t9 u9 hr9 hsm hss HR7 HU7
      go_wp2_with fail
      refine HSM.out.mono ?_
      rintro e wa ⟨rfl,na,rfl⟩
      have HG : Hid (∃ s,Ups E St w.heap.size w (fun _ => False) (w9.drewN na) d p s /\ s.n <= 2 * (i + 1) + 1 /\ AE s.box = AE (zB other)):=⟨s7,(HU9.out.below K (below_drewN (Below.refl _ _) na)).forget K (fun _ h => h.elim),by have:=HN7.out; omega,HZ7.out⟩
      clear HSM HU9
      go_wp2
      exact ⟨⟨i + 1,by omega,by go_num,HG⟩,hmes⟩
  · obtain ⟨s,hu,hn,hz⟩:=HI.out
    obtain ⟨hb,hd⟩:=K.box hu.st
    have hrd:=Lg hb ⟨#[122,111,116,104,101,114]⟩ (by decide)
    have hzr : s.box.read (⟨#[122,111,116,104,101,114]⟩ : ByteArray).data.toList = (other.data.toList,0):=Ab3 hd hz
    rw [hzr,Abd] at hrd
    have HB:=Lib.hid hu.bel
    clear hu hn hz HI hb hd hzr HC
    go_wp2_with fail
    refine hrd.mono ?_
    rintro e w6 ⟨rfl,rfl⟩
    go_wp2
    go_ret
    exact ⟨by simp,HB.out⟩
end
end Go.Proofs.YtlkefgngefpkiaaGreatDoor
