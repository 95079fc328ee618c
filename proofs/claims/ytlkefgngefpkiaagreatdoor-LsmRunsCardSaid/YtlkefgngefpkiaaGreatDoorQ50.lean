/- Parts of the proof. -/
import Derived.Test.YtlkefgngefpkiaaGreatDoorQ48
import Derived.Deep.Cut
namespace Go.Proofs.YtlkefgngefpkiaaGreatDoor
set_option linter.unusedVariables false
section
open Go.RowKit Go.Maps Go.WideMaps Go.Shelf
attribute [local go_sem] Oper.semAt_some
structure FJ (E : Nat -> World -> Prop) (St : World -> Nat -> Nat -> Dd -> (Nat -> Prop) -> Prop) (w0 : World) (X : Nat -> Prop) (w : World) (d b mb : Nat) (s : Dd) (va : Option Addr) (vc : Nat) (M : List Aa) : Prop where
 u : Ups E St w0.heap.size w0 X w d b s
 m : w.heap[mb]? = some (.cells #[.slice va M.length vc] 32 (0,0))
 xm : X mb
 lo : w0.heap.size <= mb
 row : w.ownsRow 0 61 3 (.slice va M.length vc) M.length (AH M)
 xr : ∀ k,(Value.slice va M.length vc).ownBlock = some k -> X k /\ k ≠ mb
section
variable {E : Nat -> World -> Prop} {St : World -> Nat -> Nat -> Dd -> (Nat -> Prop) -> Prop} {Op : Bx -> List Aa -> Nat -> Prop} (K : Kf E St Op) {w0 w w' : World} {X Y : Nat -> Prop} {d b d' b' mb : Nat} {s s' : Dd} {va : Option Addr} {vc : Nat} {M : List Aa}
include K
omit K in
theorem FJ.turn (h : FJ E St w0 X w d b mb s va vc M) (t : Ac (Ox w0.heap.size X) w w') (u : Ups E St w0.heap.size w0 X w' d' b' s') : FJ E St w0 X w' d' b' mb s' va vc M:=
 ⟨u,(t.block _ (Ad h.m) (fun g => g.2 h.xm)).trans h.m,h.xm,h.lo,t.row h.row (fun k hk g => g.2 (h.xr k hk).1),h.xr⟩
theorem FJ.laid (h : FJ E St w0 X w d b mb s va vc M) (t : Below w.heap.size w w') : FJ E St w0 (fun k => X k \/ (w.heap.size <= k /\ k < w'.heap.size)) w' d b mb s va vc M:=
 ⟨h.u.laid K t,(t.block _ (Ad h.m)).trans h.m,.inl h.xm,h.lo,Ah h.row t,fun k hk => ⟨.inl (h.xr k hk).1,(h.xr k hk).2⟩⟩
theorem FJ.below (h : FJ E St w0 X w d b mb s va vc M) (t : Below w.heap.size w w') : FJ E St w0 X w' d b mb s va vc M:=
 ⟨h.u.below K t,(t.block _ (Ad h.m)).trans h.m,h.xm,h.lo,Ah h.row t,h.xr⟩
omit K in
theorem FJ.more (h : FJ E St w0 X w d b mb s va vc M) (t : Ac (Ox w0.heap.size X) w w') (u : Ups E St w0.heap.size w0 Y w' d' b' s') (hY : ∀ k,X k -> Y k) : FJ E St w0 Y w' d' b' mb s' va vc M:=
 ⟨u,(t.block _ (Ad h.m) (fun g => g.2 h.xm)).trans h.m,hY _ h.xm,h.lo,t.row h.row (fun k hk g => g.2 (h.xr k hk).1),fun k hk => ⟨hY _ (h.xr k hk).1,(h.xr k hk).2⟩⟩
theorem FJ.stored (h : FJ E St w0 X w d b mb s va vc M) (t : Below w.heap.size w w') {v2 : Option Addr} {c2 : Nat} {M2 : List Aa} (hr : w'.ownsRow 0 61 3 (.slice v2 M2.length c2) M2.length (AH M2)) (hv : ∀ k,(Value.slice v2 M2.length c2).ownBlock = some k -> (Value.slice va M.length vc).ownBlock = some k \/ w.heap.size <= k) :
 ∃ Y,FJ E St w0 Y (w'.setCell ⟨mb,0,none⟩ (.slice v2 M2.length c2)) d b mb s v2 c2 M2:=by
 have h1:=h.laid K t
 have hml:=Ad h.m
 have hne : ∀ k,(Value.slice v2 M2.length c2).ownBlock = some k -> k ≠ mb:=fun k hk => by
  rcases hv k hk with g | g
  · exact (h.xr k g).2
  · omega
 have t2 : Ac (fun k => k = mb) w' (w'.setCell ⟨mb,0,none⟩ (.slice v2 M2.length c2)):=Ac.setCell (F:=fun k => k = mb) (p:=⟨mb,0,none⟩) (Ac.refl _ w') (.inl rfl) _
 have hs:=K.e_size h1.u.e
 have hu : Ups E St w0.heap.size w0 (fun k => X k \/ (w.heap.size <= k /\ k < w'.heap.size)) (w'.setCell ⟨mb,0,none⟩ (.slice v2 M2.length c2)) d b s:=
  ⟨K.e_turn h1.u.e t2 (fun k hk => by subst hk; exact h.lo),K.turn h1.u.st t2 (fun k hk g => by subst g; exact hk.2 h1.xm),fun k hk => Nat.lt_of_lt_of_le (h1.u.x k hk) t2.size,h1.u.fuel,h1.u.bel.trans (t2.below (fun i hi => by subst hi; exact h.lo) hs)⟩
 refine ⟨_,hu,?_,h1.xm,h.lo,t2.row hr (fun k hk e => hne k hk e),fun k hk => ⟨?_,hne k hk⟩⟩
 · exact (block_set h1.m 0 _).trans rfl
 · rcases hv k hk with g | g
   · exact .inl (h.xr k g).1
   · exact .inr ⟨g,(hr.lt k hk).2⟩
end
end
section
open Go.RowKit Go.Maps Go.WideMaps Go.Shelf
attribute [local go_sem] Oper.semAt_some
section
variable {E : Nat -> World -> Prop} {St : World -> Nat -> Nat -> Dd -> (Nat -> Prop) -> Prop} {Op : Bx -> List Aa -> Nat -> Prop} (K : Kf E St Op)
include K
set_option maxHeartbeats 16000000 in
set_option maxRecDepth 100000 in
theorem TR {w : World} (hE : E w.heap.size w) (a0 : Option Addr) (c0 : Nat) (cs : List Gt) (hC : JS w (.slice a0 cs.length c0) cs) :
 Calls Tryz.prog 3 #[.slice a0 cs.length c0] w fun e w' => e = .returned (.bool true) /\ Below w.heap.size w w':=by
 have haw:=Es K hE
 have hcm:=hC.1
 have HC:=Lib.hid hC
 clear hC
 go_enter Tryz.func3,Tryz.ntmps3
 go_wp2_with fail
 refine haw.mono ?_
 rintro e w1 ⟨rfl,B1⟩
 have E1:=K.e_turn hE (Ac.of_below (fun _ => False) B1) (fun _ h => h.elim)
 clear haw hE
 by_cases hbig : 200 < cs.length
 · have hbg : (200 : Int) < cs.length:=by omega
   go_wp2
   go_ret
   exact ⟨rfl,B1⟩
 go_wp2_with fail
 refine (Ge w1).mono ?_
 rintro e w2 ⟨p,rfl,hp,hbx,b2⟩
 have hs1:=B1.size
 have hop:=Gf K (B:=w.heap.size) (w0:=w) (X:=fun _ => False) (K.e_below E1 b2) (B1.trans (b2.mono hs1)) (hbx.mono fun k hk => ⟨by omega,fun h => h⟩) (fun k hk => hk.elim) rfl (by decide) (K.empty (S:=Bx.new) (fun x hx => by cases hx) rfl (by decide) List.Pairwise.nil) (by decide)
 clear hbx E1 b2 B1 hs1 hp
 go_wp2_with fail
 refine hop.mono ?_
 rintro e w3 ⟨d,s0,rfl,u3,-,em,en,-,-⟩
 have b4 : Below w3.heap.size w3 (w3.alloc (.cells #[.slice none 0 0] 32)):=(Below.refl _ w3).alloc (Nat.le_refl _) _
 have hst : FJ E St w (fun k => False \/ (w3.heap.size <= k /\ k < (w3.alloc (.cells #[.slice none 0 0] 32)).heap.size)) (w3.alloc (.cells #[.slice none 0 0] 32)) d p w3.heap.size s0 none 0 []:=
  ⟨u3.laid K b4,heap_alloc_new _ _,.inr ⟨Nat.le_refl _,by simp⟩,u3.bel.size,World.ownsRow_nil _ _ _ _,fun k hk => by simp [Value.ownBlock] at hk⟩
 have HU:=Lib.hid hst
 have HN0 : Hid (s0.map = [] /\ s0.n = 1):=⟨em,en⟩
 have HMB:=Lib.hid u3.bel.size
 clear hop u3 en em b4 hst
 go_wp2
 generalize w3.heap.size = mb at *
 go_loopw [3,4,37] (fun bv dv iv wr => ∃ (i p d : Nat),i <= cs.length /\ bv = .pointer (some ⟨p,0,none⟩) /\ dv = .pointer (some ⟨d,0,none⟩) /\ iv = .int .i64 (i : Int) /\ Hid (∃ X s va vc,FJ E St w X wr d p mb s va vc s.map /\ s.n <= i + 1)) (fun _ _ iv _ => cs.length - (intOf iv).toNat)
 case atStart => exact ⟨0,p,d,Nat.zero_le _,rfl,rfl,rfl,_,s0,none,0,by rw [HN0.out.1]; exact HU.out,by have:=HN0.out.2; omega⟩
 case round =>
  obtain ⟨i,p,d,hil,rfl,rfl,rfl,HI⟩:=hrel
  clear HU HN0
  by_cases hlt : i < cs.length
  · obtain ⟨X,s,va,vc,hr,hn⟩:=HI.out
    obtain ⟨g,o,rfl,q0,q1,q2,q3,q4,q5,ok⟩:=HC.out.at hr.u.bel hlt
    have hmes : cs.length - (intOf (.int .i64 ((i : Int) + 1))).toNat < cs.length - (intOf (.int .i64 (i : Int))).toNat:=by simp [intOf]; omega
    generalize cs[i] = C at *
    obtain ⟨ck,cbv,cb,ckey,cto,cmost,ckeep,cks⟩:=C
    obtain ⟨ba,bc,ebv⟩:=ok.read.slice
    obtain ⟨ka,kc,ekp,-⟩:=ok.ks.ex
    simp only at q0 q1 q2 q3 q4 q5 ebv ekp
    subst ebv
    subst ekp
    have hmb:=bounds_i64 ok.most
    simp only at hmb
    have hbl : Below wr.heap.size wr (wr.alloc (.cells #[.int .i64 ck,.slice ba cb.length bc,.string ckey,.string cto,.int .i64 cmost,.slice ka cks.length kc] 35)):=(Below.refl _ wr).alloc (Nat.le_refl _) _
    have hcb:=Bt.new wr ⟨ck,.slice ba cb.length bc,cb,ckey,cto,cmost,.slice ka cks.length kc,cks⟩
    have hxl : (X wr.heap.size \/ (wr.heap.size <= wr.heap.size /\ wr.heap.size < (wr.alloc (.cells #[.int .i64 ck,.slice ba cb.length bc,.string ckey,.string cto,.int .i64 cmost,.slice ka cks.length kc] 35)).heap.size)):=.inr ⟨Nat.le_refl _,by simp⟩
    have hr2:=hr.laid K hbl
    have HNX:=Lib.hid hn
    have HOK:=Lib.hid ok
    have HG:=Lib.hid (K.good hr.u.st)
    clear hr hn HI ok
    go_upto_region 13 with (fail)
    clear q0 q1 q2 q3 q4 q5 hbl
    generalize wr.alloc (.cells #[.int .i64 ck,.slice ba cb.length bc,.string ckey,.string cto,.int .i64 cmost,.slice ka cks.length kc] 35) = wl at *
    generalize hX2 : (fun k => X k \/ (wr.heap.size <= k /\ k < wl.heap.size)) = X2 at *
    have hxl : X2 wr.heap.size:=by subst hX2; exact hxl
    clear hX2
    generalize wr.heap.size = lb at *
    have HR:=Lib.hid hr2
    have HXL:=Lib.hid hxl
    have HCB:=Lib.hid hcb
    have y0:=hcb.c0
    have y1:=hcb.c1
    have y2:=hcb.c2
    have y3:=hcb.c3
    have y4:=hcb.c4
    have y5:=hcb.c5
    simp only at y0 y1 y2 y3 y4 y5
    clear hr2 hxl hcb
    by_cases k0 : ck = 0
    · subst k0
      go_upto_region 15 with (fail)
      have RD:=Lib.hid (HR.out.below K (drew1 _))
      have hnl : s.n <= limN:=by have:=HNX.out; unfold limN; omega
      go_region_held3 (fun w' => w'.cell? ⟨lb,1,none⟩ = some (.slice ba cb.length bc)) (first | exact y1b | exact y1a | exact y1)
       (first
       | (go_at_call 13; refine (NT K (by first | exact Rb.out.u | exact RD.out.u) HOK.out hnl).mono ?_; rintro e wA ⟨rfl,tA,sA,uA,emA,enA,-,-⟩; have Ra:=Lib.hid (by first | exact Rb.out.turn tA uA | exact RD.out.turn tA uA); have CBa:=Lib.hid (show Bt wA lb _ from by first | exact (tA.block _ (Ad CBb.out) (fun g => g.2 HXL.out)).trans CBb.out | exact (tA.block _ (Ad HCB.out) (fun g => g.2 HXL.out)).trans HCB.out); have y1a:=CBa.out.c1; have EMa:=Lib.hid emA; have ENa:=Lib.hid enA; clear tA uA emA enA)
       | (go_at_call 14; refine (Mr (l:=cb) (by first | exact HOK.out.read.below Ra.out.u.bel | exact HOK.out.read.below RD.out.u.bel)).mono ?_; rintro e wB ⟨rfl,bB⟩; have Rb:=Lib.hid (by first | exact Ra.out.below K bB | exact RD.out.below K bB); have CBb:=Lib.hid (show Bt wB lb _ from by first | exact (bB.block _ (Ad CBa.out)).trans CBa.out | exact (bB.block _ (Ad HCB.out)).trans HCB.out); have y1b:=CBb.out.c1; clear bB))
      have hck:=K.check (HOK.out.read.below Rb.out.u.bel)
      have HLN : Hid (A4 cb = 0 -> s.map.length + cb.length <= 3518437208780):=fun h0 => by have:=HG.out.2.2.1; have:=(GH h0).2.1; have:=HNX.out; omega
      clear HR RD HCB y0 y1 y2 y3 y4 y5 y1a Ra CBa
      generalize A4 cb = cn at *
      go_wp2_with fail
      refine hck.mono ?_
      rintro e w7 ⟨rfl,b7⟩
      have R7:=Lib.hid (Rb.out.below K b7)
      have hcb7 : Bt w7 lb _:=(b7.block _ (Ad CBb.out)).trans CBb.out
      have z1:=hcb7.c1
      simp only at z1
      clear hck b7 hcb7 CBb Rb y1b
      by_cases hz : cn = 0
      · subst hz
        have hem:=EMa.out
        rw [if_pos rfl] at hem
        have zm : w7.cell? ⟨mb,0,none⟩ = some (.slice va s.map.length vc):=(Ab R7.out.m 0).trans rfl
        have hrw:=Ml R7.out.row (HOK.out.read.below R7.out.u.bel) (HLN.out rfl)
        go_wp2_with fail
        refine hrw.mono ?_
        rintro e w8 ⟨v8,rfl,hr8,b8,hv8⟩
        obtain ⟨v2,c2,rfl⟩:=Ar hr8
        have hm8:=(b8.block _ (Ad R7.out.m)).trans R7.out.m
        have zm8 : w8.cell? ⟨mb,0,none⟩ = some (.slice va s.map.length vc):=(Ab hm8 0).trans rfl
        have zf8 : w8.frozen? ⟨mb,0,none⟩ = false:=Ag hm8 0
        obtain ⟨Y,hR9⟩:=R7.out.stored K b8 hr8 hv8
        have HGo : Hid (∃ X t va vc,FJ E St w X (w8.setCell ⟨mb,0,none⟩ (.slice v2 (AS s.map cb).length c2)) d p mb t va vc t.map /\ t.n <= (i + 1) + 1):=⟨Y,_,v2,c2,by rw [hem]; exact hR9,by have:=ENa.out; have:=HNX.out; omega⟩
        clear hrw hr8 b8 hv8 hR9 hm8 hem
        go_wp2
        go_roundw
        case rel => exact ⟨i + 1,p,d,by omega,rfl,rfl,by go_num,HGo⟩
        case measure => exact hmes
      · have hem:=EMa.out
        rw [if_neg hz] at hem
        have hzi : ((cn : Int) == 0) = false:=by rw [beq_eq_false_iff_ne]; omega
        have HGo : Hid (∃ X s va vc,FJ E St w X w7 d p mb s va vc s.map /\ s.n <= (i + 1) + 1):=⟨_,_,va,vc,by rw [hem]; exact R7.out,by have:=ENa.out; have:=HNX.out; omega⟩
        clear hem
        go_wp2
        go_roundw
        case rel => exact ⟨i + 1,p,d,by omega,rfl,rfl,by go_num,HGo⟩
        case measure => exact hmes
    have k0' : (ck == 0) = false:=by simpa using k0
    by_cases k1 : ck = 1
    · subst k1
      have hgt:=Qm K HR.out.u ckey
      go_wp2_with fail
      refine hgt.mono ?_
      rintro e w5 ⟨rfl,t5,u5⟩
      have R5:=Lib.hid (HR.out.turn t5 u5)
      have z2:=((show Bt w5 lb _ from (t5.block _ (Ad HCB.out) (fun g => g.2 HXL.out)).trans HCB.out)).c2
      simp only at z2
      have zm : w5.cell? ⟨mb,0,none⟩ = some (.slice va s.map.length vc):=(Ab R5.out.m 0).trans rfl
      have hrg:=Xx R5.out.row ckey
      clear hgt t5 u5
      go_wp2_with fail
      refine hrg.mono ?_
      rintro e w6 ⟨rfl,b6⟩
      have HGo : Hid (∃ X s va vc,FJ E St w X w6 d p mb s va vc s.map /\ s.n <= (i + 1) + 1):=⟨_,s,va,vc,R5.out.below K b6,by have:=HNX.out; omega⟩
      clear hrg b6
      go_wp2
      go_roundw
      case rel => exact ⟨i + 1,p,d,by omega,rfl,rfl,by go_num,HGo⟩
      case measure => exact hmes
    have k1' : (ck == 1) = false:=by simpa using k1
    by_cases k2 : ck = 2
    · subst k2
      have hsc:=GQ K HR.out.u ckey cto cmost HOK.out.most HOK.out.key
      have hml : s.map.length <= 3518437208780:=by have:=HG.out.2.2.1; have:=HNX.out; omega
      go_wp2_with fail
      refine hsc.mono ?_
      rintro e w5 ⟨r1,rfl,hr1,t5,u5⟩
      obtain ⟨ra,rc,rfl⟩:=Ar hr1
      have R5:=Lib.hid (HR.out.more t5 u5 (fun _ h => .inl h))
      have hcb5 : Bt w5 lb _:=(t5.block _ (Ad HCB.out) (fun g => g.2 HXL.out)).trans HCB.out
      have z2:=hcb5.c2
      have z3:=hcb5.c3
      have z4:=hcb5.c4
      simp only at z2 z3 z4
      have zm : w5.cell? ⟨mb,0,none⟩ = some (.slice va s.map.length vc):=(Ab R5.out.m 0).trans rfl
      have hrs:=UX R5.out.row hml ckey cto cmost HOK.out.most
      have HR1:=Lib.hid hr1
      clear hsc hr1 t5 u5 hcb5
      go_wp2_with fail
      refine hrs.mono ?_
      rintro e w6 ⟨r2,rfl,hr2,b6⟩
      obtain ⟨rb,rd,rfl⟩:=Ar hr2
      have hsm:=Gg (Ao.own (Ah HR1.out b6)) (Ao.own hr2)
      have hss : EX (AZ s.map ckey cto cmost) (AZ s.map ckey cto cmost) = true:=by unfold EX; simp
      rw [hss] at hsm
      have R6:=Lib.hid (R5.out.below K b6)
      clear hrs hr2 b6 hss
      go_wp2_with fail
      refine hsm.mono ?_
      rintro e w7 ⟨rfl,n7,rfl⟩
      have HGo : Hid (∃ X s va vc,FJ E St w X (w6.drewN n7) d p mb s va vc s.map /\ s.n <= (i + 1) + 1):=⟨_,s,va,vc,R6.out.below K (below_drewN (Below.refl _ _) n7),by have:=HNX.out; omega⟩
      clear hsm
      go_wp2
      go_roundw
      case rel => exact ⟨i + 1,p,d,by omega,rfl,rfl,by go_num,HGo⟩
      case measure => exact hmes
    have k2' : (ck == 2) = false:=by simpa using k2
    by_cases k3 : ck = 3
    · subst k3
      have hfl:=Kz K HR.out.u (by have:=HNX.out; unfold limN; omega)
      go_wp2_with fail
      refine hfl.mono ?_
      rintro e w5 ⟨rfl,t5,s5,u5,em5,en5,-,ee5⟩
      have hsh:=KQ K u5
      rw [ee5] at hsh
      have HR5:=Lib.hid (HR.out.turn t5 u5)
      clear hfl u5 t5
      go_wp2_with fail
      refine hsh.mono ?_
      rintro e w6 ⟨rfl,t6,u6⟩
      have HGo : Hid (∃ X s va vc,FJ E St w X w6 d p mb s va vc s.map /\ s.n <= (i + 1) + 1):=⟨_,s5,va,vc,by rw [em5]; exact HR5.out.turn t6 u6,by have:=HNX.out; omega⟩
      clear hsh t6 u6
      go_wp2
      go_roundw
      case rel => exact ⟨i + 1,p,d,by omega,rfl,rfl,by go_num,HGo⟩
      case measure => exact hmes
    have k3' : (ck == 3) = false:=by simpa using k3
    by_cases k4 : ck = 4
    · subst k4
      have hfl:=JM K HR.out.u (by have:=HNX.out; unfold limN; omega)
      go_wp2_with fail
      refine hfl.mono ?_
      rintro e w5 ⟨rfl,t5,s5,u5,em5,en5,-,ee5⟩
      have hsh:=KQ K u5
      have HR5:=Lib.hid (HR.out.turn t5 u5)
      have hnt : ¬ (1 : Int) < (s5.tabs : Int):=by omega
      clear hfl u5 t5
      go_wp2_with fail
      refine hsh.mono ?_
      rintro e w6 ⟨rfl,t6,u6⟩
      have HGo : Hid (∃ X s va vc,FJ E St w X w6 d p mb s va vc s.map /\ s.n <= (i + 1) + 1):=⟨_,s5,va,vc,by rw [em5]; exact HR5.out.turn t6 u6,by have:=HNX.out; omega⟩
      clear hsh t6 u6
      go_wp2
      go_roundw
      case rel => exact ⟨i + 1,p,d,by omega,rfl,rfl,by go_num,HGo⟩
      case measure => exact hmes
    have k4' : (ck == 4) = false:=by simpa using k4
    by_cases k5 : ck = 5
    · subst k5
      have hks : Cm (Ox w.heap.size X2) wl (.slice ka cks.length kc) cks:=(HOK.out.ks.turn (Ac.of_below (fun _ => False) HR.out.u.bel) (fun _ h => h.elim)).fit (fun k hk => .inl hk.1)
      have hcr:=Rt K HR.out.u hks
      go_wp2_with fail
      refine hcr.mono ?_
      rintro e w5 ⟨q,rfl,hE5,hb5,hx5,hX5,ho5,t5⟩
      have hop:=Gf K hE5 hb5 hx5 hX5 rfl (by show (-1 : Int) < 0; decide) ho5 (by have:=HNX.out; unfold limN; omega)
      have T5:=Lib.hid t5
      clear hcr hE5 hb5 hx5 hX5 ho5 t5
      go_wp2_with fail
      refine hop.mono ?_
      rintro e w6 ⟨d6,s6,rfl,u6,t6,em6,en6,-,-⟩
      have HGo : Hid (∃ X s va vc,FJ E St w X w6 d6 q mb s va vc s.map /\ s.n <= (i + 1) + 1):=⟨_,s6,va,vc,by rw [em6]; exact HR.out.turn (T5.out.trans t6 (fun k hk => .inl hk)) u6,by have:=HNX.out; omega⟩
      clear hop t6 u6
      go_wp2
      go_roundw
      case rel => exact ⟨i + 1,q,d6,by omega,rfl,rfl,by go_num,HGo⟩
      case measure => exact hmes
    · have k5' : (ck == 5) = false:=by simpa using k5
      have HGo : Hid (∃ X s va vc,FJ E St w X wl d p mb s va vc s.map /\ s.n <= (i + 1) + 1):=⟨_,s,va,vc,HR.out,by have:=HNX.out; omega⟩
      go_wp2
      go_roundw
      case rel => exact ⟨i + 1,p,d,by omega,rfl,rfl,by go_num,HGo⟩
      case measure => exact hmes
  · obtain ⟨X,s,va,vc,hr,hn⟩:=HI.out
    have hto:=Rq K hr.u.e hr.u.st (fun k hk => hk.1) (by unfold limN; omega) hr.row (fun k hk g => g.2 (hr.xr k hk).1)
    have zm : wr.cell? ⟨mb,0,none⟩ = some (.slice va s.map.length vc):=(Ab hr.m 0).trans rfl
    have HR:=Lib.hid hr
    clear hr HI HC
    go_wp2_with fail
    refine hto.mono ?_
    rintro e w5 ⟨rfl,t5,-⟩
    go_wp2
    go_ret
    exact ⟨by simp,HR.out.u.bel.trans (t5.below (fun k hk => hk.1) HR.out.u.bel.size)⟩
end
end
end Go.Proofs.YtlkefgngefpkiaaGreatDoor
