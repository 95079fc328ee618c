/- Parts of the proof. -/
import Derived.Test.YtnafjlhohbhcoaaGreatDoorQ11
import Derived.Deep.Cut
namespace Go.Proofs.YtnafjlhohbhcoaaGreatDoor
open Go.Lib (hid)
set_option linter.unusedVariables false
open Go.RowKit
set_option maxHeartbeats 1000000 in
set_option maxRecDepth 100000 in
theorem Qx {w : World} {v : Value} {m : List Aa} (h : w.ownsRow 0 57 3 v m.length (AA m)) (n : Int) (x : Aa) :
 Calls Tryz.prog 26 #[.agg #[v,.int .i64 n],.agg #[.string x.key,.string x.val,.bool x.gone]] w fun e w' => e = .returned (.bool (D9 m x)) /\ Below w.heap.size w w':=by
 obtain ⟨va,vc,rfl⟩:=An h
 have hb1 : Below w.heap.size w (w.alloc (.cells #[.slice va m.length vc,.int .i64 n] 34)):=(Below.refl _ w).alloc (Nat.le_refl _) _
 have hx0:=heap_alloc_new w (.cells #[.slice va m.length vc,.int .i64 n] 34)
 have hb2 : Below (w.alloc (.cells #[.slice va m.length vc,.int .i64 n] 34)).heap.size (w.alloc (.cells #[.slice va m.length vc,.int .i64 n] 34)) ((w.alloc (.cells #[.slice va m.length vc,.int .i64 n] 34)).alloc (.cells #[.string x.key,.string x.val,.bool x.gone] 57)):=(Below.refl _ _).alloc (Nat.le_refl _) _
 have hpx : AF ((w.alloc (.cells #[.slice va m.length vc,.int .i64 n] 34)).alloc (.cells #[.string x.key,.string x.val,.bool x.gone] 57)) (w.heap.size + 1) x:=by
  have:=AF.new (w.alloc (.cells #[.slice va m.length vc,.int .i64 n] 34)) x
  rwa [World.size_alloc] at this
 have s0 : ((w.alloc (.cells #[.slice va m.length vc,.int .i64 n] 34)).alloc (.cells #[.string x.key,.string x.val,.bool x.gone] 57)).cell? ⟨w.heap.size,0,none⟩ = some (.slice va m.length vc):=(Ab ((hb2.block _ (Ad hx0)).trans hx0) 0).trans rfl
 have HG:=hid (Jt (Ah (Ah h hb1) hb2) x.key)
 obtain ⟨xk,xv,xg⟩:=x
 obtain ⟨y0,y1,y2⟩ : _ /\ _ /\ _:=⟨hpx.c0,hpx.c1,hpx.c2⟩
 simp only at y0 y1 y2 s0
 have HPX:=hid hpx
 have HB:=hid (hb1.trans (hb2.mono hb1.size))
 clear h hb1 hb2 hpx hx0
 go_enter Tryz.func26,Tryz.ntmps26
 go_wp2_with fail
 refine HG.out.mono ?_
 rintro e w2 ⟨rfl,b2⟩
 have P2 : AF w2 (w.heap.size + 1) ⟨xk,xv,xg⟩:=(b2.block _ (Ad HPX.out)).trans HPX.out
 have z1:=P2.c1
 have z2:=P2.c2
 have HB2:=hid (HB.out.trans (b2.mono HB.out.size))
 simp only at z1 z2
 have HE : Hid (D9 m ⟨xk,xv,xg⟩ = if xg then !(CE xk m).2 else (CE xk m).2 && decide ((CE xk m).1 = xv)):=rfl
 clear b2 P2 HPX HB HG y0 y1 y2 s0
 generalize CE xk m = V at *
 obtain ⟨vv,vt⟩:=V
 simp only
 cases xg with
 | true =>
   go_wp2
   go_ret
   exact ⟨by rw [HE.out]; rfl,HB2.out⟩
 | false =>
   cases vt with
   | false =>
     go_wp2
     go_ret
     exact ⟨by rw [HE.out]; rfl,HB2.out⟩
   | true =>
     have hk:=JC vv xv
     go_wp2
     go_ret
     exact ⟨by rw [HE.out]; simp,HB2.out⟩
structure KK (w : World) (va : Option Addr) (vc : Nat) (m : List Aa) (n : Int) (w' : World) : Prop where
 b : Below w.heap.size w w'
 s : w'.heap[w.heap.size]? = some (.cells #[.slice va m.length vc,.int .i64 n] 34 (0,0))
 r : w'.heap[w.heap.size + 1]? = some (.cells #[.slice none 0 0,.int .i64 0] 34 (0,0))
section
variable {w w' w'' : World} {va : Option Addr} {vc : Nat} {m : List Aa} {n : Int}
theorem KK.new (w : World) (va : Option Addr) (vc : Nat) (m : List Aa) (n : Int) : KK w va vc m n ((w.alloc (.cells #[.slice va m.length vc,.int .i64 n] 34)).alloc (.cells #[.slice none 0 0,.int .i64 0] 34)):=by
 have h1:=heap_alloc_new w (.cells #[.slice va m.length vc,.int .i64 n] 34)
 have b2 : Below (w.alloc (.cells #[.slice va m.length vc,.int .i64 n] 34)).heap.size (w.alloc (.cells #[.slice va m.length vc,.int .i64 n] 34)) ((w.alloc (.cells #[.slice va m.length vc,.int .i64 n] 34)).alloc (.cells #[.slice none 0 0,.int .i64 0] 34)):=(Below.refl _ _).alloc (Nat.le_refl _) _
 have h2:=heap_alloc_new (w.alloc (.cells #[.slice va m.length vc,.int .i64 n] 34)) (.cells #[.slice none 0 0,.int .i64 0] 34)
 rw [World.size_alloc] at h2
 exact ⟨((Below.refl _ w).alloc (Nat.le_refl _) _).alloc (by simp) _,(b2.block _ (Ad h1)).trans h1,h2⟩
theorem KK.next (h : KK w va vc m n w') (t : Below w'.heap.size w' w'') : KK w va vc m n w'':=
 ⟨h.b.trans (t.mono h.b.size),(t.block _ (Ad h.s)).trans h.s,(t.block _ (Ad h.r)).trans h.r⟩
theorem KK.cs (h : KK w va vc m n w') : w'.cell? ⟨w.heap.size,0,none⟩ = some (.slice va m.length vc) /\ w'.cell? ⟨w.heap.size,1,none⟩ = some (.int .i64 n) /\ w'.cell? ⟨w.heap.size + 1,0,none⟩ = some (.slice none 0 0) /\ w'.cell? ⟨w.heap.size + 1,1,none⟩ = some (.int .i64 0) /\ w'.frozen? ⟨w.heap.size + 1,0,none⟩ = false /\ w'.frozen? ⟨w.heap.size + 1,1,none⟩ = false:=
 ⟨(Ab h.s 0).trans rfl,(Ab h.s 1).trans rfl,(Ab h.r 0).trans rfl,(Ab h.r 1).trans rfl,Ag h.r 0,Ag h.r 1⟩
theorem KK.ends (h : KK w va vc m n w') {v x y : Value} {M : List Aa} (hr : w'.ownsRow 0 57 3 v M.length (AA M)) : ((w'.setCell ⟨w.heap.size + 1,0,none⟩ x).setCell ⟨w.heap.size + 1,1,none⟩ y).ownsRow 0 57 3 v M.length (AA M) /\ Below w.heap.size w ((w'.setCell ⟨w.heap.size + 1,0,none⟩ x).setCell ⟨w.heap.size + 1,1,none⟩ y):=by
 have t : Ac (fun k => k = w.heap.size + 1) w' ((w'.setCell ⟨w.heap.size + 1,0,none⟩ x).setCell ⟨w.heap.size + 1,1,none⟩ y):=((Ac.refl (fun k => k = w.heap.size + 1) w').setCell (p:=⟨w.heap.size + 1,0,none⟩) (.inl rfl) _).setCell (p:=⟨w.heap.size + 1,1,none⟩) (.inl rfl) _
 refine ⟨t.row hr (fun k hk e => ?_),(h.b.setCell (p:=⟨w.heap.size + 1,0,none⟩) (Nat.le_succ _) _).setCell (p:=⟨w.heap.size + 1,1,none⟩) (Nat.le_succ _) _⟩
 subst e
 rcases hr.2 with ⟨hv,_⟩ | ⟨g,cap,cur,hv,_,hg,_⟩
 · rw [hv] at hk; simp [Value.ownBlock] at hk
 · rw [hv] at hk
   simp [Value.ownBlock] at hk
   subst hk
   rw [h.r] at hg
   injection hg with hg
   injection hg with _ hg _
   exact absurd hg (by decide)
end
set_option maxHeartbeats 4000000 in
set_option maxRecDepth 100000 in
theorem Hq {w : World} {v : Value} {m : List Aa} (h : w.ownsRow 0 57 3 v m.length (AA m)) (n : Nat) (hn : n <= 1048576) {a1 a2 : Option Addr} {c1 c2 : Nat} {cs l : List Aa} (hc : Aj w (.slice a1 cs.length c1) cs) (hl : Aj w (.slice a2 l.length c2) l) (hN : m.length <= 3518437208000) :
 Calls Tryz.prog 12 #[.agg #[v,.int .i64 (n : Int)],.slice a1 cs.length c1,.slice a2 l.length c2] w fun e w' => ∃ r,e = .returned (.tuple #[.agg #[r,.int .i64 (Dh m cs l n : Nat)],.int .i64 (doC m cs l : Nat)]) /\ w'.ownsRow 0 57 3 r (Dw m cs l).length (AA (Dw m cs l)) /\ Below w.heap.size w w' /\ ∀ k,r.ownBlock = some k -> v.ownBlock = some k \/ w.heap.size <= k:=by
 obtain ⟨va,vc,rfl⟩:=An h
 have hx1 : cs.length <= 9223372036854775807:=by have:=hc.1; unfold maxLen at this; omega
 have hx2 : l.length <= 9223372036854775807:=by have:=hl.1; unfold maxLen at this; omega
 have HI:=hid (KK.new w va vc m (n : Int))
 have H:=hid h
 have HC:=hid hc
 have HL:=hid hl
 clear h hc hl
 obtain ⟨W1,hW1⟩ : ∃ W1,(w.alloc (.cells #[.slice va m.length vc,.int .i64 (n : Int)] 34)).alloc (.cells #[.slice none 0 0,.int .i64 0] 34) = W1:=⟨_,rfl⟩
 rw [hW1] at HI
 have HNO : Hid (∀ w',KK w va vc m (n : Int) w' -> doC m cs l ≠ 0 -> ∀ x y,((w'.setCell ⟨w.heap.size + 1,0,none⟩ x).setCell ⟨w.heap.size + 1,1,none⟩ y).ownsRow 0 57 3 (.slice va m.length vc) (Dw m cs l).length (AA (Dw m cs l)) /\ Below w.heap.size w ((w'.setCell ⟨w.heap.size + 1,0,none⟩ x).setCell ⟨w.heap.size + 1,1,none⟩ y)):=fun w' h h0 x y => by
  rw [Jp h0]
  exact h.ends (Ah H.out h.b)
 obtain ⟨s0,s1,r0,r1,f0,f1⟩:=HI.out.cs
 by_cases h64 : 64 < cs.length
 · have HD:=hid (KV (m:=m) (l:=l) h64)
   have hg : (64 : Int) < cs.length:=by omega
   go_enter Tryz.func12,Tryz.ntmps12
   go_wp2
   (try simp only [Exit.inBlock,Exit.then])
   refine bodyPost_ret (v:=.tuple #[.agg #[.slice va m.length vc,.int .i64 (n : Int)],.int .i64 2]) ?_ rfl ⟨.slice va m.length vc,by rw [GO (by rw [HD.out]; decide),HD.out]; rfl,?_⟩
   · rw [results_cell_tmp rfl]
     go_simp
   · obtain ⟨k1,k2⟩:=HNO.out _ HI.out (by rw [HD.out]; decide) _ _
     exact ⟨k1,k2,fun k hk => .inl hk⟩
 have hg : ¬ (64 : Int) < cs.length:=by omega
 have HCK:=hid (Te (HL.out.below HI.out.b))
 have HH64:=hid h64
 clear h64
 by_cases hz : A5 l = 0
 · have HZ:=hid hz
   have HDC:=hid (Hj (m:=m) HH64.out hz)
   rw [hz] at HCK
   clear hz
   go_enter Tryz.func12,Tryz.ntmps12
   go_wp2_with fail
   refine HCK.out.mono ?_
   rintro e w2 ⟨rfl,b2⟩
   have HI2:=hid (HI.out.next b2)
   clear b2 HCK s0 s1 r0 r1 f0 f1 HI hW1
   go_wp2
   go_loopw [9] (fun iv wr => ∃ i : Nat,i <= cs.length /\ iv = .int .i64 (i : Int) /\ Hid ((cs.take i).all (D9 m) = true /\ KK w va vc m (n : Int) wr)) (fun iv _ => cs.length - (intOf iv).toNat)
   case atStart => exact ⟨0,Nat.zero_le _,rfl,rfl,HI2.out⟩
   case round =>
    obtain ⟨i,hil,rfl,HJ⟩:=hrel
    clear HI2
    obtain ⟨s0,s1,r0,r1,f0,f1⟩:=HJ.out.2.cs
    by_cases hlt : i < cs.length
    · have hmes : cs.length - (intOf (.int .i64 ((i : Int) + 1))).toNat < cs.length - (intOf (.int .i64 (i : Int))).toNat:=by simp [intOf]; omega
      obtain ⟨b0,o0,rfl,q0,q1,q2⟩:=HC.out.in HJ.out.2.b hlt
      have HNX:=hid (Sx hlt HJ.out.1)
      have HST:=hid (Ku (m:=m) hlt)
      have hho:=Qx (Ah H.out (HJ.out.2.b.trans ((Db wr).mono HJ.out.2.b.size))) (n : Int) cs[i]
      generalize cs[i] = x at *
      obtain ⟨xk,xv,xg⟩:=x
      simp only at q0 q1 q2 hho
      have HHO:=hid hho
      clear hho
      have HQ : Hid (∀ w',Below wr.drew.heap.size wr.drew w' -> w'.cell? ⟨b0,o0 + i * 3,none⟩ = some (.string xk) /\ w'.cell? ⟨b0,o0 + i * 3 + 1,none⟩ = some (.string xv) /\ w'.cell? ⟨b0,o0 + i * 3 + 2,none⟩ = some (.bool xg)):=fun w' t => by
       have hb0 : b0 < wr.heap.size:=World.block_lt_of_cell? wr ⟨b0,_,none⟩ q0
       have e:=fun j => t.cell (p:=⟨b0,j,none⟩) hb0
       exact ⟨(e _).trans q0,(e _).trans q1,(e _).trans q2⟩
      have HD:=hid (HJ.out.2.next (Db wr))
      go_upto_region 9 with (fail)
      go_region_held3 (fun w' => w'.cell? ⟨w.heap.size,0,none⟩ = some (.slice va m.length vc) /\ w'.cell? ⟨w.heap.size,1,none⟩ = some (.int .i64 (n : Int)) /\ w'.cell? ⟨b0,o0 + i * 3,none⟩ = some (.string xk) /\ w'.cell? ⟨b0,o0 + i * 3 + 1,none⟩ = some (.string xv) /\ w'.cell? ⟨b0,o0 + i * 3 + 2,none⟩ = some (.bool xg)) (first | exact ⟨s0,s1,q0,q1,q2⟩ | exact ⟨s0a,s1a,q0a,q1a,q2a⟩)
       (first | (go_at_call 26; go_loud (refine HHO.out.mono ?_); rintro e w5 ⟨rfl,b5⟩; have HD5:=hid (HD.out.next b5); obtain ⟨s0a,s1a,-⟩:=HD5.out.cs; obtain ⟨q0a,q1a,q2a⟩:=HQ.out _ b5; clear b5))
      clear s0 s1 r0 r1 f0 f1 q0 q1 q2 s0a s1a q0a q1a q2a HHO HD HQ
      cases hh : D9 m ⟨xk,xv,xg⟩ with
      | true =>
        have HN:=hid (HNX.out hh)
        clear HNX HST hh
        go_wp2
        go_roundw
        case rel => exact ⟨i + 1,by omega,by go_num,HN.out,HD5.out⟩
        case measure => exact hmes
      | false =>
        have HE:=hid (HDC.out.trans (HST.out hh))
        clear HNX HST hh
        obtain ⟨s0,s1,r0,r1,f0,f1⟩:=HD5.out.cs
        go_wp2
        (try simp only [Exit.inBlock,Exit.then])
        refine bodyPost_ret (v:=.tuple #[.agg #[.slice va m.length vc,.int .i64 (n : Int)],.int .i64 100]) ?_ rfl ⟨.slice va m.length vc,by rw [GO (by rw [HE.out]; decide),HE.out]; rfl,?_⟩
        · rw [results_cell_tmp rfl]
          go_simp
        · obtain ⟨k1,k2⟩:=HNO.out _ HD5.out (by rw [HE.out]; decide) _ _
          exact ⟨k1,k2,fun k hk => .inl hk⟩
    · obtain rfl : i = cs.length:=by omega
      rw [List.take_length] at HJ
      have HE:=hid (HDC.out.trans (Oi HJ.out.1))
      have hl64 : l.length <= 64:=(Ma HZ.out).2.1
      have HW : Hid (∀ w',KK w va vc m (n : Int) w' -> Calls Tryz.prog 27 #[.agg #[.slice va m.length vc],.slice a2 l.length c2] w' fun e w'' => ∃ r,e = .returned (.agg #[r]) /\ w''.ownsRow 0 57 3 r (Dw m cs l).length (AA (Dw m cs l)) /\ KK w va vc m (n : Int) w'' /\ ∀ k,r.ownBlock = some k -> (Value.slice va m.length vc).ownBlock = some k \/ w.heap.size <= k):=fun w' h => by
       rw [KF HE.out]
       refine (Sf (Ah H.out h.b) (HL.out.below h.b) (by omega)).mono ?_
       rintro e w'' ⟨r,rfl,hr,b,hk⟩
       exact ⟨r,rfl,hr,h.next b,fun k hk' => (hk k hk').imp_right fun g => Nat.le_trans h.b.size g⟩
      have HD:=hid (HJ.out.2.next (Db wr))
      have hwn : IntKind.i64.wrap ((n : Int) + 1) = (n : Int) + 1:=IntWalk.i64_in _ (by omega)
      go_upto_region 11 with (fail)
      go_region_with (go_at_call 27; refine (HW.out _ HD.out).mono ?_; rintro e w5 ⟨r,rfl,hr,hd5,hk⟩; obtain ⟨ra,rc,rfl⟩:=An hr; obtain ⟨s0a,s1a,r0a,r1a,f0a,f1a⟩:=hd5.cs; have HR5:=hid hr; have HD5:=hid hd5; have HK5:=hid hk; clear hr hd5 hk)
      all_goals
       go_wp2
       (try simp only [Exit.inBlock,Exit.then])
       refine bodyPost_ret (v:=.tuple #[.agg #[.slice ra (Dw m cs l).length rc,.int .i64 ((n : Int) + 1)],.int .i64 0]) ?_ rfl ⟨.slice ra (Dw m cs l).length rc,by rw [KS HE.out,HE.out]; rfl,?_⟩
       · rw [results_cell_tmp rfl]
         go_simp
       · obtain ⟨k1,k2⟩:=HD5.out.ends (x:=.slice ra (Dw m cs l).length rc) (y:=.int .i64 ((n : Int) + 1)) HR5.out
         exact ⟨k1,k2,HK5.out⟩
 · have HD:=hid (J2 (m:=m) HH64.out hz)
   have hzi : ((A5 l : Int) != 0) = true:=by simpa using hz
   have HZ:=hid hz
   generalize A5 l = q at *
   clear hz
   go_enter Tryz.func12,Tryz.ntmps12
   go_wp2_with fail
   refine HCK.out.mono ?_
   rintro e w2 ⟨rfl,b2⟩
   have HI2:=hid (HI.out.next b2)
   clear b2 HCK s0 s1 r0 r1 f0 f1 HI hW1
   obtain ⟨s0,s1,r0,r1,f0,f1⟩:=HI2.out.cs
   go_wp2
   (try simp only [Exit.inBlock,Exit.then])
   refine bodyPost_ret (v:=.tuple #[.agg #[.slice va m.length vc,.int .i64 (n : Int)],.int .i64 (q : Int)]) ?_ rfl ⟨.slice va m.length vc,by rw [GO (by rw [HD.out]; exact HZ.out),HD.out],?_⟩
   · rw [results_cell_tmp rfl]
     go_simp
   · obtain ⟨k1,k2⟩:=HNO.out _ HI2.out (by rw [HD.out]; exact HZ.out) _ _
     exact ⟨k1,k2,fun k hk => .inl hk⟩
end Go.Proofs.YtnafjlhohbhcoaaGreatDoor
