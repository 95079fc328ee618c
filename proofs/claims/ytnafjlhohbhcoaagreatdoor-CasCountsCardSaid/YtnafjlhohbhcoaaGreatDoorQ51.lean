/- Parts of the proof. -/
import Derived.Test.YtnafjlhohbhcoaaGreatDoorQ41
namespace Go.Proofs.YtnafjlhohbhcoaaGreatDoor
open Go.Lib (hid)
set_option linter.unusedVariables false
open Go.RowKit
section
variable {E : Nat -> World -> Prop} {St : World -> Nat -> Nat -> Cv -> (Nat -> Prop) -> Prop} {Op : Bx -> List Aa -> Nat -> Prop} (K : Is E St Op)
include K
set_option maxHeartbeats 16000000 in
set_option maxRecDepth 100000 in
theorem OQ {w : World} (hE : E w.heap.size w) (a0 : Option Addr) (c0 : Nat) (cs : List FJ) (hC : Jr w (.slice a0 cs.length c0) cs) :
 Calls Tryz.prog 8 #[.slice a0 cs.length c0] w fun e w' => e = .returned (.bool true) /\ Below w.heap.size w w':=by
 have haw:=E9 K hE
 have hcm:=hC.1
 have HC:=hid hC
 clear hC
 go_enter Tryz.func8,Tryz.ntmps8
 go_wp2_with fail
 refine haw.mono ?_
 rintro e w1 ⟨rfl,B1⟩
 have E1:=K.e_below hE B1
 clear haw
 by_cases hbig : 100 < cs.length
 · have hbg : (100 : Int) < cs.length:=by omega
   go_wp2
   go_ret
   exact ⟨rfl,B1⟩
 go_wp2_with fail
 refine (GN w1).mono ?_
 rintro e w2 ⟨p,rfl,hp,hbx,b2⟩
 have hop:=DM K (Gr K E1 B1 hbx (fun k hk => hk.1) b2) (by decide) (by decide)
 clear hbx b2 hp
 go_wp2_with fail
 refine hop.mono ?_
 rintro e w3 ⟨c,d,s0,rfl,-,h3,em,en,ef⟩
 have HU:=hid h3
 have HN:=hid (And.intro en ef)
 clear hop h3 em en ef E1 B1 hE
 go_wp2
 go_loopw [5,22] (fun nv iv wr => ∃ (i n : Nat),i <= cs.length /\ nv = .int .i64 (n : Int) /\ n <= i /\ iv = .int .i64 (i : Int) /\ Hid (∃ s,Cas E St w.heap.size w (fun _ => False) wr c d p s n /\ s.n <= 2 * i + 1 /\ s.box.fuel < 0)) (fun _ iv _ => cs.length - (intOf iv).toNat)
 case atStart => exact ⟨0,0,Nat.zero_le _,rfl,Nat.le_refl _,rfl,s0,HU.out,by have:=HN.out.1; omega,HN.out.2⟩
 case round =>
  obtain ⟨i,n,hil,rfl,hni,rfl,HI⟩:=hrel
  clear HU HN
  by_cases hlt : i < cs.length
  · obtain ⟨s,hr,hn,hf⟩:=HI.out
    obtain ⟨g,o,rfl,q0,q1,q2,q3,q4,q5,q6,ok⟩:=HC.out.at hr.a.bel hlt
    have hmes : cs.length - (intOf (.int .i64 ((i : Int) + 1))).toNat < cs.length - (intOf (.int .i64 (i : Int))).toNat:=by simp [intOf]; omega
    generalize cs[i] = C at *
    obtain ⟨ck,cv,cds,bv,cb,ckey,cfr,cmost,call⟩:=C
    obtain ⟨ya,yc,ecv⟩:=ok.rc.slice
    obtain ⟨ba,bc,ebv⟩:=ok.read.slice
    simp only at q0 q1 q2 q3 q4 q5 q6 ecv ebv
    subst ecv
    subst ebv
    have hbl : Below wr.heap.size wr (wr.alloc (.cells #[.int .i64 ck,.slice ya cds.length yc,.slice ba cb.length bc,.string ckey,.string cfr,.int .i64 cmost,.bool call] 36)):=(Below.refl _ wr).alloc (Nat.le_refl _) _
    have hcb:=CA.new wr ⟨ck,.slice ya cds.length yc,cds,.slice ba cb.length bc,cb,ckey,cfr,cmost,call⟩
    obtain ⟨y0,y1,y2,y3,y4,y5,y6⟩:=hcb.cs
    simp only at y0 y1 y2 y3 y4 y5 y6
    have HR:=hid (hr.laid K hbl)
    have HNX:=hid (And.intro hn hf)
    have HOK:=hid ok
    clear hr hn hf HI ok
    go_upto_region 13 with (fail)
    clear q0 q1 q2 q3 q4 q5 q6 hbl hcb
    generalize wr.alloc (.cells #[.int .i64 ck,.slice ya cds.length yc,.slice ba cb.length bc,.string ckey,.string cfr,.int .i64 cmost,.bool call] 36) = wl at *
    generalize hX2 : (fun k => False \/ (wr.heap.size <= k /\ k < wl.heap.size)) = X2 at *
    clear hX2
    generalize wr.heap.size = lb at *
    have HB:=hid HR.out.a.bel
    by_cases k0 : ck = 0
    · subst k0
      have hdo:=Gc K HR.out HNX.out.2 (HOK.out.rc.below HB.out) (EO HOK.out.rc) (HOK.out.read.below HB.out) (EO HOK.out.read) (by have:=HNX.out.1; unfold limN; omega) (by omega)
      go_wp2_with fail
      refine hdo.mono ?_
      rintro e w5 ⟨rfl,-,s5,h5,-,en5,ef5⟩
      have H5:=hid h5
      have HE5:=hid (And.intro en5 ef5)
      clear hdo h5 en5 ef5
      by_cases hz : doC s.map cds cb = 0
      · rw [hz]
        rw [KS hz] at H5
        clear hz
        have hct:=DJ H5.out
        have HGo : Hid (∃ s,Cas E St w.heap.size w (fun _ => False) w5 c d p s (n + 1) /\ s.n <= 2 * (i + 1) + 1 /\ s.box.fuel < 0):=⟨s5,H5.out.forget K (fun _ g => g.elim),by have:=HE5.out.1; have:=HNX.out.1; omega,HE5.out.2⟩
        go_wp2_with fail
        refine hct.mono ?_
        rintro e w6 ⟨rfl,rfl⟩
        go_wp2
        go_roundw
        case rel => exact ⟨i + 1,(n + 1),by omega,by go_num,by omega,by go_num,HGo⟩
        case measure => exact hmes
      · have hz2 : ((doC s.map cds cb : Int) == 0) = false:=by rw [beq_eq_false_iff_ne]; omega
        rw [GO hz] at H5
        clear hz
        have hct:=DJ H5.out
        have HGo : Hid (∃ s,Cas E St w.heap.size w (fun _ => False) w5 c d p s n /\ s.n <= 2 * (i + 1) + 1 /\ s.box.fuel < 0):=⟨s5,H5.out.forget K (fun _ g => g.elim),by have:=HE5.out.1; have:=HNX.out.1; omega,HE5.out.2⟩
        go_wp2_with fail
        refine hct.mono ?_
        rintro e w6 ⟨rfl,rfl⟩
        go_wp2
        go_roundw
        case rel => exact ⟨i + 1,n,by omega,by go_num,by omega,by go_num,HGo⟩
        case measure => exact hmes
    have k0' : (ck == 0) = false:=by simpa using k0
    by_cases k1 : ck = 1
    · subst k1
      have hsc:=IV K HR.out ckey cfr cmost HOK.out.most HOK.out.key HOK.out.frm
      go_wp2_with fail
      refine hsc.mono ?_
      rintro e w5 ⟨r,rfl,-,-,h5⟩
      have H5:=hid h5
      clear hsc h5
      have hct:=DJ H5.out
      have HGo : Hid (∃ s,Cas E St w.heap.size w (fun _ => False) w5 c d p s n /\ s.n <= 2 * (i + 1) + 1 /\ s.box.fuel < 0):=⟨s,H5.out.forget K (fun _ g => g.elim),by have:=HNX.out.1; omega,HNX.out.2⟩
      go_wp2_with fail
      refine hct.mono ?_
      rintro e w6 ⟨rfl,rfl⟩
      go_wp2
      go_roundw
      case rel => exact ⟨i + 1,n,by omega,by go_num,by omega,by go_num,HGo⟩
      case measure => exact hmes
    have k1' : (ck == 1) = false:=by simpa using k1
    by_cases k2 : ck = 2
    · subst k2
      have hsc:=Abw K HR.out ckey
      go_wp2_with fail
      refine hsc.mono ?_
      rintro e w5 ⟨rfl,-,h5⟩
      have H5:=hid h5
      clear hsc h5
      have hct:=DJ H5.out
      have HGo : Hid (∃ s,Cas E St w.heap.size w (fun _ => False) w5 c d p s n /\ s.n <= 2 * (i + 1) + 1 /\ s.box.fuel < 0):=⟨s,H5.out.forget K (fun _ g => g.elim),by have:=HNX.out.1; omega,HNX.out.2⟩
      go_wp2_with fail
      refine hct.mono ?_
      rintro e w6 ⟨rfl,rfl⟩
      go_wp2
      go_roundw
      case rel => exact ⟨i + 1,n,by omega,by go_num,by omega,by go_num,HGo⟩
      case measure => exact hmes
    have k2' : (ck == 2) = false:=by simpa using k2
    by_cases k3 : ck = 3
    · subst k3
      have hsc:=PP K HR.out HNX.out.2 call (by have:=HNX.out.1; unfold limN; omega)
      go_wp2_with fail
      refine hsc.mono ?_
      rintro e w5 ⟨rfl,-,s5,h5,-,en5,ef5⟩
      have H5:=hid h5
      have HE5:=hid (And.intro en5 ef5)
      clear hsc h5 en5 ef5
      have hct:=DJ H5.out
      have HGo : Hid (∃ s,Cas E St w.heap.size w (fun _ => False) w5 c d p s n /\ s.n <= 2 * (i + 1) + 1 /\ s.box.fuel < 0):=⟨s5,H5.out.forget K (fun _ g => g.elim),by have:=HE5.out.1; have:=HNX.out.1; omega,HE5.out.2⟩
      go_wp2_with fail
      refine hct.mono ?_
      rintro e w6 ⟨rfl,rfl⟩
      go_wp2
      go_roundw
      case rel => exact ⟨i + 1,n,by omega,by go_num,by omega,by go_num,HGo⟩
      case measure => exact hmes
    · have k3' : (ck == 3) = false:=by simpa using k3
      have hct:=DJ HR.out
      have HGo : Hid (∃ s,Cas E St w.heap.size w (fun _ => False) wl c d p s n /\ s.n <= 2 * (i + 1) + 1 /\ s.box.fuel < 0):=⟨s,HR.out.forget K (fun _ g => g.elim),by have:=HNX.out.1; omega,HNX.out.2⟩
      go_wp2_with fail
      refine hct.mono ?_
      rintro e w6 ⟨rfl,rfl⟩
      go_wp2
      go_roundw
      case rel => exact ⟨i + 1,n,by omega,by go_num,by omega,by go_num,HGo⟩
      case measure => exact hmes
  · obtain rfl : i = cs.length:=by omega
    obtain ⟨s,hr,-⟩:=HI.out
    have HB:=hid hr.a.bel
    clear hr
    go_wp2
    go_ret
    exact ⟨rfl,HB.out⟩
end
end Go.Proofs.YtnafjlhohbhcoaaGreatDoor
