/- Parts of the proof. -/
import Derived.Test.YtnafjlhohbhcoaaGreatDoorQ40
import Derived.Test.YtnafjlhohbhcoaaGreatDoorQ28
namespace Go.Proofs.YtnafjlhohbhcoaaGreatDoor
open Go.Lib (hid)
set_option linter.unusedVariables false
section
open Go.RowKit
section
variable {E : Nat -> World -> Prop} {St : World -> Nat -> Nat -> Cv -> (Nat -> Prop) -> Prop} {Op : Bx -> List Aa -> Nat -> Prop} (K : Is E St Op) {B : Nat} {w0 w w' : World} {X Y : Nat -> Prop} {c d b n k : Nat} {s s' : Cv} {S : Bx} {m : List Aa}
include K
set_option maxHeartbeats 1000000 in
set_option maxRecDepth 100000 in
theorem Aao (h : Cas E St B w0 X w c d b s k) (all : Bool) (hn : s.n + 1 <= limN) :
 Calls Tryz.prog 19 #[.pointer (some ⟨c,0,none⟩),.bool all] w fun e w' => Ac (Ox B X) w w' /\
  ((e = .returned (.int .i64 0) /\ ∃ s',Cas E St B w0 X w' c d b s' k /\ s'.map = s.map /\ s'.n <= s.n + 2 /\ (s.box.fuel < 0 -> s'.box.fuel < 0)) \/
   (0 <= s.box.fuel /\ e = .returned (.int .i64 30) /\ ∃ n',n' <= s.n + 2 /\ Jb E Op B w0 (fun i => X i \/ i = c) w' b [s.map] n')):=by
 have HP:=hid (KW h.c0)
 have HF:=hid (SU K h.a (by omega))
 have H:=hid h
 have HN:=hid hn
 clear h hn
 go_enter Tryz.func19,Tryz.ntmps19
 go_wp2_with fail
 refine HP.out.mono ?_
 rintro e w1 ⟨rfl,rfl⟩
 go_wp2_with fail
 refine HF.out.mono ?_
 rintro e w2 ⟨t2,⟨rfl,s2,a2,em,en,ef⟩ | ⟨h0,rfl,wa⟩⟩
 · have H2:=hid (H.out.turn t2 a2)
   have T2:=hid t2.ox
   have HE:=hid (And.intro em (And.intro en ef))
   clear t2 a2 em en ef HF HP
   cases all with
   | false =>
     go_wp2
     go_ret
     exact ⟨T2.out,.inl ⟨rfl,s2,H2.out,HE.out.1,by have:=HE.out.2.1; omega,HE.out.2.2⟩⟩
   | true =>
     have HP:=hid (KW H2.out.c0)
     have HF:=hid (OE K H2.out.a (by have:=HE.out.2.1; have:=HN.out; omega))
     go_wp2_with fail
     refine HP.out.mono ?_
     rintro e w3 ⟨rfl,rfl⟩
     go_wp2_with fail
     refine HF.out.mono ?_
     rintro e w3 ⟨t3,⟨rfl,s3,a3,em,en,ef⟩ | ⟨h0,rfl,wa⟩⟩
     · have H3:=hid (H2.out.turn t3 a3)
       have T3:=hid (T2.out.trans t3.ox (fun i hi => .inl hi))
       have HE3:=hid (And.intro em (And.intro en ef))
       clear t3 a3 em en ef HF HP
       go_wp2
       go_ret
       exact ⟨T3.out,.inl ⟨rfl,s3,H3.out,HE3.out.1.trans HE.out.1,by have:=HE.out.2.1; have:=HE3.out.2.1; omega,fun g => HE3.out.2.2 (HE.out.2.2 g)⟩⟩
     · have HW:=hid wa
       have T3:=hid (T2.out.trans t3.ox (fun i hi => .inl hi))
       clear t3 wa HF HP
       go_wp2
       go_ret
       refine ⟨T3.out,.inr ⟨?_,rfl,_,?_,by rw [<- HE.out.1]; exact HW.out⟩⟩
       · by_cases h1 : s.box.fuel < 0
         · have:=HE.out.2.2 h1; omega
         · omega
       · have:=HE.out.2.1; omega
 · have HW:=hid wa
   have T2:=hid t2.ox
   clear t2 wa HF HP
   go_wp2
   go_ret
   exact ⟨T2.out,.inr ⟨h0,rfl,_,by omega,HW.out⟩⟩
set_option maxHeartbeats 1000000 in
set_option maxRecDepth 100000 in
theorem AbH (h : Is9 E Op B w0 X w b S m n) (hn : n <= limN) :
 Calls Tryz.prog 11 #[.pointer (some ⟨b,0,none⟩)] w fun e w' => Ac (Ox B X) w w' /\
  ((∃ c d s,e = .returned (.tuple #[.pointer (some ⟨c,0,none⟩),.int .i64 0]) /\ w.heap.size <= c /\ Cas E St B w0 X w' c d b s 0 /\ s.map = m /\ s.n = n + 1 /\ (S.fuel < 0 -> s.box.fuel < 0)) \/
   (0 <= S.fuel /\ e = .returned (.tuple #[.pointer none,.int .i64 30]) /\ Jb E Op B w0 X w' b [m] (n + 1))):=by
 have HO:=hid (Xm K h hn)
 have HX:=hid h.x
 have HS:=hid (K.e_size h.e)
 clear h
 go_enter Tryz.func11,Tryz.ntmps11
 go_wp2_with fail
 refine HO.out.mono ?_
 rintro e w2 ⟨t2,⟨d,s2,rfl,a2,em,en,ef⟩ | ⟨h0,⟨p,rfl⟩,wa⟩⟩
 · have A2:=hid a2
   have T2:=hid t2
   clear t2 a2 HO
   go_wp2
   go_ret2
   have b3 : Below w2.heap.size w2 (w2.alloc (.cells #[.pointer (some ⟨d,0,none⟩),.int .i64 0] 73)):=(Below.refl _ w2).alloc (Nat.le_refl _) _
   have hs:=K.e_size A2.out.e
   have hx:=T2.out.size
   refine ⟨T2.out.alloc _,.inl ⟨w2.heap.size,d,s2,rfl,hx,⟨(A2.out.laid K b3).iff fun i => ?_,heap_alloc_new _ _,fun g => ?_,hs⟩,em,en,ef⟩⟩
   · constructor
     · rintro (g | g)
       · exact .inl g
       · exact .inr (by simp at g; omega)
     · rintro (g | g)
       · exact .inl g
       · exact .inr (by subst g; simp)
   · have:=HX.out _ g; omega
 · have HW:=hid wa
   have T2:=hid t2
   clear t2 wa HO
   go_wp2
   go_ret2
   exact ⟨T2.out,.inr ⟨h0,rfl,HW.out⟩⟩
theorem DM (h : Is9 E Op B w0 X w b S m n) (hf : S.fuel < 0) (hn : n <= limN) :
 Calls Tryz.prog 11 #[.pointer (some ⟨b,0,none⟩)] w fun e w' => ∃ c d s,e = .returned (.tuple #[.pointer (some ⟨c,0,none⟩),.int .i64 0]) /\ Ac (Ox B X) w w' /\ Cas E St B w0 X w' c d b s 0 /\ s.map = m /\ s.n = n + 1 /\ s.box.fuel < 0:=by
 refine (AbH K h hn).mono ?_
 rintro e w2 ⟨t2,⟨c,d,s2,rfl,-,a2,em,en,ef⟩ | ⟨h0,-⟩⟩
 · exact ⟨c,d,s2,rfl,t2,a2,em,en,ef hf⟩
 · omega
theorem Gc (h : Cas E St B w0 X w c d b s k) (hf : s.box.fuel < 0) {a1 a2 : Option Addr} {c1 c2 : Nat} {cs l : List Aa} (hc : Aj w (.slice a1 cs.length c1) cs) (hoc : J8 (Ox B X) a1 cs) (hr : Aj w (.slice a2 l.length c2) l) (ho : J8 (Ox B X) a2 l) (hn : s.n <= limN) (hk : k <= 1048576) :
 Calls Tryz.prog 13 #[.pointer (some ⟨c,0,none⟩),.slice a1 cs.length c1,.slice a2 l.length c2] w fun e w' => e = .returned (.int .i64 (doC s.map cs l : Nat)) /\ Ac (Ox B X) w w' /\
  ∃ s',Cas E St B w0 X w' c d b s' (Dh s.map cs l k) /\ s'.map = Dw s.map cs l /\ s'.n <= s.n + 1 /\ s'.box.fuel < 0:=by
 refine (Abm K h hc hoc hr ho hn hk).mono ?_
 rintro e w2 ⟨t2,⟨h0,rfl,a2⟩ | ⟨h0,rfl,s2,a2,em,en,ef⟩ | ⟨-,h0,-⟩⟩
 · rw [Jp h0,GO h0]
   exact ⟨rfl,t2,s,a2,rfl,by omega,hf⟩
 · rw [KF h0,KS h0,h0]
   exact ⟨rfl,t2,s2,a2,em,by omega,ef hf⟩
 · omega
theorem PP (h : Cas E St B w0 X w c d b s k) (hf : s.box.fuel < 0) (all : Bool) (hn : s.n + 1 <= limN) :
 Calls Tryz.prog 19 #[.pointer (some ⟨c,0,none⟩),.bool all] w fun e w' => e = .returned (.int .i64 0) /\ Ac (Ox B X) w w' /\ ∃ s',Cas E St B w0 X w' c d b s' k /\ s'.map = s.map /\ s'.n <= s.n + 2 /\ s'.box.fuel < 0:=by
 refine (Aao K h all hn).mono ?_
 rintro e w2 ⟨t2,⟨rfl,s2,a2,em,en,ef⟩ | ⟨h0,-⟩⟩
 · exact ⟨rfl,t2,s2,a2,em,en,ef hf⟩
 · omega
end
end
section
open Go.RowKit
def cA10 : Aa:=⟨⟨#[97]⟩,⟨#[]⟩,true⟩
theorem wA10 : AP [] [pA9] = [pA9]:=rfl
theorem dA10 : doC [] [cA10] [pA9] = 0:=by decide
theorem dB10 : doC [pA9] [cA10] [pA9] = 100:=by
 rw [Hj (by decide) (by decide)]
 refine Ku (i:=0) (by decide) ?_
 show D9 [pA9] cA10 = false
 unfold D9
 rw [show CE cA10.key [pA9] = (pA9.val,true) from AbA (m:=[pA9]) (List.pairwise_singleton _ _) (i:=0) (by decide)]
 rfl
theorem Qb {G : Nat -> Prop} {a : Option Addr} : J8 G a []:=fun _ _ _ h => absurd rfl h
section
variable {E : Nat -> World -> Prop} {St : World -> Nat -> Nat -> Cv -> (Nat -> Prop) -> Prop} {Op : Bx -> List Aa -> Nat -> Prop} (K : Is E St Op) {B : Nat} {w0 w w' : World} {X Y : Nat -> Prop} {c d b n k : Nat} {s s' : Cv} {S : Bx} {m : List Aa}
include K
theorem Gr (hE : E B w) (hb : Below B w0 w) {G : Nat -> Prop} {p : Nat} (hbx : AH w' p Bx.new G) (hG : ∀ k,G k -> w.heap.size <= k) (b2 : Below w.heap.size w w') : Is9 E Op B w0 (fun _ => False) w' p Bx.new [] 0:=
 ⟨K.e_below hE b2,hbx.mono fun k hk => ⟨Nat.le_trans (K.e_size hE) (hG k hk),fun h => h⟩,rfl,K.empty (S:=Bx.new) (fun x hx => by cases hx) rfl (by decide) List.Pairwise.nil,fun k hk => hk.elim,hb.trans (b2.mono (K.e_size hE))⟩
set_option maxHeartbeats 4000000 in
set_option maxRecDepth 100000 in
theorem E9 (hE : E B w) :
 Calls Tryz.prog 9 #[] w fun e w' => e = .returned (.bool true) /\ Below B w w':=by
 go_enter Tryz.func9,Tryz.ntmps9
 go_wp2_with fail
 refine (GN w).mono ?_
 rintro e w1 ⟨p,rfl,hp,hbx,b1⟩
 have hop:=DM K (Gr K hE (Below.refl _ _) hbx (fun k hk => hk.1) b1) (by decide) (by decide)
 clear hbx b1 hE
 go_wp2_with fail
 refine hop.mono ?_
 rintro e w2 ⟨c,d,s,rfl,t2,h2,em,en,ef⟩
 have b3 : Below w2.heap.size w2 (w2.alloc (.cells #[.string ⟨#[97]⟩,.string ⟨#[]⟩,.bool true] 57)):=(Below.refl _ w2).alloc (Nat.le_refl _) _
 have b4 : Below (w2.alloc (.cells #[.string ⟨#[97]⟩,.string ⟨#[]⟩,.bool true] 57)).heap.size (w2.alloc (.cells #[.string ⟨#[97]⟩,.string ⟨#[]⟩,.bool true] 57)) ((w2.alloc (.cells #[.string ⟨#[97]⟩,.string ⟨#[]⟩,.bool true] 57)).alloc (.cells #[.string ⟨#[97]⟩,.string ⟨#[49]⟩,.bool false] 57)):=(Below.refl _ _).alloc (Nat.le_refl _) _
 have hx3:=heap_alloc_new w2 (.cells #[.string ⟨#[97]⟩,.string ⟨#[]⟩,.bool true] 57)
 have hx4:=heap_alloc_new (w2.alloc (.cells #[.string ⟨#[97]⟩,.string ⟨#[]⟩,.bool true] 57)) (.cells #[.string ⟨#[97]⟩,.string ⟨#[49]⟩,.bool false] 57)
 rw [World.size_alloc] at hx4
 have hz4 : ((w2.alloc (.cells #[.string ⟨#[97]⟩,.string ⟨#[]⟩,.bool true] 57)).alloc (.cells #[.string ⟨#[97]⟩,.string ⟨#[49]⟩,.bool false] 57)).heap.size = w2.heap.size + 2:=by simp
 have H4:=hid (h2.laid K (b3.trans (b4.mono b3.size)))
 have RC:=hid (L0 w2 cA10 ((b4.block _ (Ad hx3)).trans hx3))
 have RP:=hid (L0 w2 pA9 hx4)
 have HX : Hid (∀ k,(k = w2.heap.size \/ k = w2.heap.size + 1) -> (w2.heap.size <= k /\ k < ((w2.alloc (.cells #[.string ⟨#[97]⟩,.string ⟨#[]⟩,.bool true] 57)).alloc (.cells #[.string ⟨#[97]⟩,.string ⟨#[49]⟩,.bool false] 57)).heap.size)):=fun k hk => by rw [hz4]; omega
 have EF:=hid ef
 have EM:=hid em
 have EN:=hid en
 clear hop b3 b4 hx3 hx4 hz4 h2 t2 ef em en
 go_wp2_with fail
 generalize ((w2.alloc (.cells #[.string ⟨#[97]⟩,.string ⟨#[]⟩,.bool true] 57)).alloc (.cells #[.string ⟨#[97]⟩,.string ⟨#[49]⟩,.bool false] 57)) = w4 at *
 generalize w2.heap.size = b0 at *
 have hd:=Gc K H4.out EF.out (cs:=[cA10]) (l:=[pA9]) RC.out (fun g o e _ hk => hk.2 (.inr (HX.out g (by injection e with e; injection e with e; exact .inl e.symm)))) RP.out (fun g o e _ hk => hk.2 (.inr (HX.out g (by injection e with e; injection e with e; exact .inr e.symm)))) (by have:=EN.out; rw [this]; decide) (by decide)
 rw [EM.out,dA10,KF dA10,KS dA10,wA10] at hd
 refine hd.mono ?_
 rintro e w5 ⟨rfl,t5,s5,h5,em5,en5,ef5⟩
 have hd:=Gc K h5 ef5 (cs:=[cA10]) (l:=[pA9]) (RC.out.turn t5 (fun g o e _ hk => hk.2 (.inr (HX.out g (by injection e with e; injection e with e; exact .inl e.symm))))) (fun g o e _ hk => hk.2 (.inr (HX.out g (by injection e with e; injection e with e; exact .inl e.symm)))) (RP.out.turn t5 (fun g o e _ hk => hk.2 (.inr (HX.out g (by injection e with e; injection e with e; exact .inr e.symm))))) (fun g o e _ hk => hk.2 (.inr (HX.out g (by injection e with e; injection e with e; exact .inr e.symm)))) (by have:=EN.out; unfold limN; omega) (by decide)
 rw [em5,dB10,Jp (by rw [dB10]; decide),GO (by rw [dB10]; decide)] at hd
 clear t5 h5 H4 RC RP
 go_wp2_with fail
 refine hd.mono ?_
 rintro e w6 ⟨rfl,t6,s6,h6,em6,en6,ef6⟩
 have H6:=hid h6
 have hc:=DJ h6
 clear hd t6 h6
 go_wp2_with fail
 refine hc.mono ?_
 rintro e w7 ⟨rfl,rfl⟩
 go_wp2
 go_ret
 exact ⟨rfl,H6.out.a.bel⟩
end
end
section
open Go.RowKit
theorem Uj {m : List Aa} {pr fr : ByteArray} {most : Int} {i : Nat} (h : i < m.length) :
 (LC pr fr m[i] = true -> ((BI (m.take i) pr fr most).length : Int) < most -> BI (m.take (i + 1)) pr fr most = BI (m.take i) pr fr most ++ [m[i]]) /\
 (LC pr fr m[i] = false \/ ¬ ((BI (m.take i) pr fr most).length : Int) < most -> BI (m.take (i + 1)) pr fr most = BI (m.take i) pr fr most):=by
 unfold BI
 rw [List.take_succ_eq_append_getElem h,List.filter_append]
 generalize (m.take i).filter (LC pr fr) = q
 refine ⟨fun h1 h2 => ?_,fun h1 => ?_⟩
 · rw [List.length_take] at h2
   rw [List.filter_cons_of_pos h1,List.filter_nil,List.take_of_length_le (by rw [List.length_append]; simp; omega),List.take_of_length_le (by omega)]
 · rcases h1 with h1 | h1
   · rw [List.filter_cons_of_neg (by simp [h1]),List.filter_nil,List.append_nil]
   · rw [List.length_take] at h1
     rw [List.take_append_of_le_length (by omega)]
theorem P8 (m : List Aa) (pr fr : ByteArray) (most : Int) : (BI m pr fr most).length <= m.length:=by
 unfold BI
 rw [List.length_take]
 have:=List.length_filter_le (LC pr fr) m
 omega
set_option maxHeartbeats 4000000 in
set_option maxRecDepth 100000 in
theorem SP {w : World} {v : Value} {m : List Aa} (h : w.ownsRow 0 57 3 v m.length (AA m)) (n : Int) (hN : m.length <= 3518437208780) (pr fr : ByteArray) (most : Int) (hm : (Lit.int .i64 most).wf = true) :
 Calls Tryz.prog 16 #[.agg #[v,.int .i64 n],.string pr,.string fr,.int .i64 most] w fun e w' => ∃ r,e = .returned r /\ w'.ownsRow w.heap.size 57 3 r (BI m pr fr most).length (AA (BI m pr fr most)) /\ Below w.heap.size w w':=by
 have hmb:=bounds_i64 hm
 obtain ⟨i0,hi,hz0,hz1,hz2⟩:=info_parts infoPair
 obtain ⟨va,vc,rfl⟩:=An h
 have hmx : m.length <= 9223372036854775807:=by omega
 have hb : Below w.heap.size w (w.alloc (.cells #[.slice va m.length vc,.int .i64 n] 34)):=(Below.refl _ w).alloc (Nat.le_refl _) _
 have hc0 : (w.alloc (.cells #[.slice va m.length vc,.int .i64 n] 34)).cell? ⟨w.heap.size,0,none⟩ = some (.slice va m.length vc):=(Ab (heap_alloc_new w _) 0).trans rfl
 have hbx : (w.alloc (.cells #[.slice va m.length vc,.int .i64 n] 34)).heap[w.heap.size]? = some (.cells #[.slice va m.length vc,.int .i64 n] 34 (0,0)):=heap_alloc_new _ _
 have H:=hid (Aj.own (Ah h hb))
 have HB:=hid hb
 have HBX:=hid hbx
 clear h hb hm hbx
 go_enter Tryz.func16,Tryz.ntmps16
 go_wp2
 generalize w.alloc (.cells #[.slice va m.length vc,.int .i64 n] 34) = W1 at *
 clear hc0
 have hlen0:=P8
 go_loopw [9,10] (fun v iv wr => ∃ i : Nat,i <= m.length /\ iv = .int .i64 (i : Int) /\ wr.ownsRow W1.heap.size 57 3 v (BI (m.take i) pr fr most).length (AA (BI (m.take i) pr fr most)) /\ Hid (Below W1.heap.size W1 wr)) (fun _ iv _ => m.length - (intOf iv).toNat)
 case atStart => exact ⟨0,Nat.zero_le _,rfl,by rw [show BI (m.take 0) pr fr most = [] by simp [BI]]; exact World.ownsRow_nil _ _ _ _,Below.refl _ _⟩
 case round =>
  obtain ⟨i,hil,rfl,hown,HI⟩:=hrel
  obtain ⟨sa,sc,rfl⟩:=An hown
  have hsl:=P8 (m.take i) pr fr most
  rw [List.length_take] at hsl
  have hbw:=(HI.out.block w.heap.size (Ad HBX.out)).trans HBX.out
  have c0 : wr.cell? ⟨w.heap.size,0,none⟩ = some (.slice va m.length vc):=by rw [Ab hbw]; rfl
  by_cases hlt : i < m.length
  · obtain ⟨b,o,rfl,q0,q1,q2⟩:=H.out.in HI.out hlt
    have hmes : m.length - (intOf (.int .i64 ((i : Int) + 1))).toNat < m.length - (intOf (.int .i64 (i : Int))).toNat:=by simp [intOf]; omega
    have hscan:=Uj (pr:=pr) (fr:=fr) (most:=most) hlt
    generalize m[i] = X at *
    obtain ⟨xk,xv,xg⟩:=X
    simp only at q0 q1 q2
    have HSX:=hid hscan
    have hbl : Below wr.heap.size wr (wr.alloc (.cells #[.string xk,.string xv,.bool xg] 57)):=(Below.refl _ wr).alloc (Nat.le_refl _) _
    obtain ⟨y0,y1,y2⟩ : _ /\ _ /\ _:=⟨(AF.new wr ⟨xk,xv,xg⟩).c0,(AF.new wr ⟨xk,xv,xg⟩).c1,(AF.new wr ⟨xk,xv,xg⟩).c2⟩
    simp only at y0 y1 y2
    have HB2:=hid (A4 HI.out (Nat.le_refl _) hbl)
    have hown2:=Ah hown hbl
    have HCN : Hid (∀ j u,[Value.string xk,.string xv,.bool xg][j]? = some u -> ((wr.alloc (.cells #[.string xk,.string xv,.bool xg] 57)).alloc (.cells #[.string xk,.string xv,.bool xg] 57)).cell? ((⟨wr.heap.size + 1,0,none⟩ : Addr).add j) = some u):=fun j u h => by
     have:=Ev (wr.alloc (.cells #[.string xk,.string xv,.bool xg] 57)) ⟨xk,xv,xg⟩ j u h
     rwa [World.size_alloc] at this
    have HHP:=hid (Sh.strings_HasPrefix xk pr (wr.alloc (.cells #[.string xk,.string xv,.bool xg] 57)))
    clear hbl hown hscan
    have HBG : Hid (LC pr fr ⟨xk,xv,xg⟩ = (Lib.hasPrefix xk.data.toList pr.data.toList && !AO xk fr)):=rfl
    generalize Lib.hasPrefix xk.data.toList pr.data.toList = hp at *
    cases hp with
    | false =>
      have HNX : Hid (BI (m.take (i + 1)) pr fr most = BI (m.take i) pr fr most):=HSX.out.2 (.inl (by rw [HBG.out]; rfl))
      go_wp2_with fail
      refine HHP.out.mono ?_
      rintro e w3 ⟨rfl,rfl⟩
      go_wp2
      go_roundw
      case rel => exact ⟨i + 1,by omega,by go_num,by rw [HNX.out]; exact hown2,HB2.out⟩
      case measure => exact hmes
    | true =>
      cases hb1 : AO xk fr with
      | true =>
        have hb3 : Op.bytesLess xk.toList fr.toList = true:=hb1
        have HNX : Hid (BI (m.take (i + 1)) pr fr most = BI (m.take i) pr fr most):=HSX.out.2 (.inl (by rw [HBG.out,hb1]; rfl))
        clear hb1
        go_wp2_with fail
        refine HHP.out.mono ?_
        rintro e w3 ⟨rfl,rfl⟩
        go_wp2
        go_roundw
        case rel => exact ⟨i + 1,by omega,by go_num,by rw [HNX.out]; exact hown2,HB2.out⟩
        case measure => exact hmes
      | false =>
        have hb3 : Op.bytesLess xk.toList fr.toList = false:=hb1
        have HIN:=hid (show LC pr fr ⟨xk,xv,xg⟩ = true by rw [HBG.out,hb1]; rfl)
        clear hb1
        by_cases hmo : ((BI (m.take i) pr fr most).length : Int) < most
        · have HNX : Hid (BI (m.take (i + 1)) pr fr most = BI (m.take i) pr fr most ++ [⟨xk,xv,xg⟩]):=HSX.out.1 HIN.out hmo
          go_wp2_with fail
          refine HHP.out.mono ?_
          rintro e w3 ⟨rfl,rfl⟩
          go_wp2_with (at_builtin; refine wpList_append_own _ rfl (.tmp 42) (.tmp 44) 30 rfl W1.heap.size 57 i0 _ 3 40 Tryz.underlying30 hi hz0 hz1 hz2 rfl (by decide) _ _ _ rfl (hown2.alloc _) ⟨wr.heap.size + 1,0,none⟩ 1 1 [.string xk,.string xv,.bool xg] rfl rfl (HCN.out) (DL ⟨xk,xv,xg⟩) ?a3_1 ?a4_1 ?a5_1 ?_)
          case a3_1 => unfold maxLen; omega
          case a4_1 => omega
          case a5_1 => first | omega | (have:=HI.out.size; simp; omega)
          intro v' w4 hown' hgrow _
          have hrow' : w4.ownsRow W1.heap.size 57 3 v' (BI (m.take (i + 1)) pr fr most).length (AA (BI (m.take (i + 1)) pr fr most)):=by
           rw [HNX.out,DH,List.length_append]
           exact hown'
          have HB4:=hid ((HB2.out.alloc HB2.out.size _).grown hgrow (by have:=HI.out.size; simp; omega) (fun j hj => (hown2.lt j hj).1))
          clear hown' hgrow hi hown2
          go_wp2
          go_roundw
          case rel => exact ⟨i + 1,by omega,by go_num,hrow',HB4.out⟩
          case measure => exact hmes
        · have HNX : Hid (BI (m.take (i + 1)) pr fr most = BI (m.take i) pr fr most):=HSX.out.2 (.inr hmo)
          go_wp2_with fail
          refine HHP.out.mono ?_
          rintro e w3 ⟨rfl,rfl⟩
          go_wp2
          go_roundw
          case rel => exact ⟨i + 1,by omega,by go_num,by rw [HNX.out]; exact hown2,HB2.out⟩
          case measure => exact hmes
  · obtain rfl : i = m.length:=by omega
    rw [List.take_length] at *
    go_wp2
    go_ret
    exact ⟨.slice sa (BI m pr fr most).length sc,rfl,Au hown HB.out.size,HB.out.trans (HI.out.mono HB.out.size)⟩
end
section
open Go.RowKit
def isC (M : List Aa) (k : ByteArray) : Aa:=⟨k,(CE k M).1,!(CE k M).2⟩
def CZ (M : List Aa) (ks : List ByteArray) : List Aa:=ks.map (isC M)
theorem XK (M : List Aa) (k : ByteArray) : D9 M (isC M k) = true:=by
 unfold D9 isC
 cases h : (CE k M).2 <;> simp []
theorem Vz (M : List Aa) (ks : List ByteArray) : (CZ M ks).all (D9 M) = true:=by
 simp [CZ,XK]
theorem Hv (M : List Aa) (ks : List ByteArray) : (CZ M ks).length = ks.length:=by simp [CZ]
theorem WF {M : List Aa} {ks : List ByteArray} {i : Nat} (h : i < ks.length) : CZ M (ks.take (i + 1)) = CZ M (ks.take i) ++ [isC M (ks.getD i ByteArray.empty)]:=by
 have e : ks.getD i ByteArray.empty = ks[i]:=by simp [List.getD,h]
 rw [e]
 unfold CZ
 rw [List.take_succ_eq_append_getElem h,List.map_append]
 rfl
set_option maxHeartbeats 2000000 in
set_option maxRecDepth 100000 in
theorem Pr {w : World} {v : Value} {M : List Aa} (h : w.ownsRow 0 57 3 v M.length (AA M)) (n : Int) {a : Option Addr} {cp : Nat} {ks : List ByteArray} (hk : GY w a ks.length (fun i => .string (ks.getD i ByteArray.empty))) (hl : ks.length <= 60) :
 Calls Tryz.prog 22 #[.agg #[v,.int .i64 n],.slice a ks.length cp] w fun e w' => ∃ r,e = .returned r /\ w'.ownsRow w.heap.size 57 3 r (CZ M ks).length (AA (CZ M ks)) /\ Below w.heap.size w w':=by
 obtain ⟨i0,hi,hz0,hz1,hz2⟩:=info_parts infoPair
 obtain ⟨va,vc,rfl⟩:=An h
 have hb : Below w.heap.size w (w.alloc (.cells #[.slice va M.length vc,.int .i64 n] 34)):=(Below.refl _ w).alloc (Nat.le_refl _) _
 have hbx:=heap_alloc_new w (.cells #[.slice va M.length vc,.int .i64 n] 34)
 have H:=hid (Ah h hb)
 have HK:=hid hk
 have HB:=hid hb
 have HBX:=hid hbx
 clear h hb hk hbx
 go_enter Tryz.func22,Tryz.ntmps22
 go_wp2
 generalize w.alloc (.cells #[.slice va M.length vc,.int .i64 n] 34) = W1 at *
 go_loopw [5,12] (fun v iv wr => ∃ i : Nat,i <= ks.length /\ iv = .int .i64 (i : Int) /\ wr.ownsRow W1.heap.size 57 3 v (CZ M (ks.take i)).length (AA (CZ M (ks.take i))) /\ Hid (Below W1.heap.size W1 wr)) (fun _ iv _ => ks.length - (intOf iv).toNat)
 case atStart => exact ⟨0,Nat.zero_le _,rfl,World.ownsRow_nil _ _ _ _,Below.refl _ _⟩
 case round =>
  obtain ⟨i,hil,rfl,hown,HI⟩:=hrel
  obtain ⟨sa,sc,rfl⟩:=An hown
  have hlen : (CZ M (ks.take i)).length <= 60:=by rw [Hv,List.length_take]; omega
  by_cases hlt : i < ks.length
  · have hmes : ks.length - (intOf (.int .i64 ((i : Int) + 1))).toNat < ks.length - (intOf (.int .i64 (i : Int))).toNat:=by simp [intOf]; omega
    have hbw:=(HI.out.block w.heap.size (Ad HBX.out)).trans HBX.out
    have s0 : wr.cell? ⟨w.heap.size,0,none⟩ = some (.slice va M.length vc):=(Ab hbw 0).trans rfl
    obtain ⟨b,o,rfl,q0⟩:=HK.out.in (HB.out.trans (HI.out.mono HB.out.size)) hlt
    have HNX:=hid (WF (M:=M) hlt)
    generalize ks.getD i ByteArray.empty = k at *
    have HG:=hid (Jt (Ah H.out HI.out) k)
    have HEQ : Hid (isC M k = ⟨k,(CE k M).1,!(CE k M).2⟩):=rfl
    have HOW:=hid hown
    clear hown
    generalize CE k M = V at *
    obtain ⟨vv,vt⟩:=V
    go_wp2_with fail
    refine HG.out.mono ?_
    rintro e w3 ⟨rfl,b3⟩
    have HB3:=hid (A4 HI.out (Nat.le_refl _) b3)
    have hown3:=Ah HOW.out b3
    have hsz3:=HI.out.size
    have HSZ:=b3.size
    clear b3 HG s0 hbw HOW
    simp only
    go_wp2_with (at_builtin; refine wpList_append_own _ rfl (.tmp 23) (.tmp 29) 30 rfl W1.heap.size 57 i0 _ 3 40 Tryz.underlying30 hi hz0 hz1 hz2 rfl (by decide) _ _ _ rfl (hown3.alloc _) ⟨w3.heap.size,0,none⟩ 1 1 [.string k,.string vv,.bool (!vt)] rfl rfl (Ev w3 ⟨k,vv,!vt⟩) (DL ⟨k,vv,!vt⟩) ?a3_1 ?a4_1 ?a5_1 ?_)
    case a3_1 => unfold maxLen; omega
    case a4_1 => omega
    case a5_1 => first | omega | (simp; omega)
    intro v' w4 hown' hgrow _
    have hrow' : w4.ownsRow W1.heap.size 57 3 v' (CZ M (ks.take (i + 1))).length (AA (CZ M (ks.take (i + 1)))):=by
     rw [HNX.out,HEQ.out,DH,List.length_append]
     exact hown'
    have HB4:=hid ((HB3.out.alloc HB3.out.size _).grown hgrow (by simp; omega) (fun j hj => (hown3.lt j hj).1))
    clear hown' hgrow hi hown3
    go_wp2
    go_roundw
    case rel => exact ⟨i + 1,by omega,by go_num,hrow',HB4.out⟩
    case measure => exact hmes
  · obtain rfl : i = ks.length:=by omega
    rw [List.take_length] at *
    go_wp2
    go_ret
    exact ⟨.slice sa (CZ M ks).length sc,rfl,Au hown HB.out.size,HB.out.trans (HI.out.mono HB.out.size)⟩
end
section
open Go.RowKit
theorem ref_ne : (34 : TypeId) ≠ 57:=by decide
theorem Qz {w : World} {v : Value} {M : List Aa} {mb : Nat} {c : Array Value} (h : w.ownsRow 0 57 3 v M.length (AA M)) (hm : w.heap[mb]? = some (.cells c 34 (0,0))) : ∀ k,v.ownBlock = some k -> k ≠ mb:=fun k hk e => by
 subst e
 rcases h.2 with ⟨hv,_⟩ | ⟨g,cap,cur,hv,_,hg,_⟩
 · rw [hv] at hk; simp [Value.ownBlock] at hk
 · rw [hv] at hk
   injection hk with hk
   have hk : g = k:=hk
   subst hk
   rw [hm] at hg
   injection hg with hg
   injection hg with _ hg
   exact ref_ne hg
section
variable {B mb nb n n2 : Nat} {X Y : Nat -> Prop} {w w' : World} {M M2 : List Aa}
theorem A7.new (hB : B <= w.heap.size) : A7 B (fun k => X k \/ (w.heap.size <= k /\ k < (w.alloc (.cells #[.slice none 0 0,.int .i64 0] 34)).heap.size)) (w.alloc (.cells #[.slice none 0 0,.int .i64 0] 34)) w.heap.size [] 0:=
 ⟨⟨none,0,heap_alloc_new _ _,World.ownsRow_nil _ _ _ _,fun k hk => by simp [Value.ownBlock] at hk⟩,.inr ⟨Nat.le_refl _,by simp⟩,hB⟩
theorem A7.cs (h : A7 B X w mb M n) : ∃ va vc,w.cell? ⟨mb,0,none⟩ = some (.slice va M.length vc) /\ w.cell? ⟨mb,1,none⟩ = some (.int .i64 (n : Int)) /\ w.frozen? ⟨mb,0,none⟩ = false /\ w.frozen? ⟨mb,1,none⟩ = false /\ w.ownsRow 0 57 3 (.slice va M.length vc) M.length (AA M) /\ ∀ k,(Value.slice va M.length vc).ownBlock = some k -> X k:=by
 obtain ⟨va,vc,h1,h2,h3⟩:=h.m
 exact ⟨va,vc,(Ab h1 0).trans rfl,(Ab h1 1).trans rfl,Ag h1 0,Ag h1 1,h2,h3⟩
theorem NR {v2 : Option Addr} {c2 : Nat} (hB : B <= w.heap.size) (t : Below w.heap.size w w') (hr : w'.ownsRow 0 57 3 (.slice v2 M2.length c2) M2.length (AA M2)) (hv : ∀ k,(Value.slice v2 M2.length c2).ownBlock = some k -> X k \/ w.heap.size <= k) :
 A7 B (fun k => X k \/ (w.heap.size <= k /\ k < (w'.alloc (.cells #[.slice v2 M2.length c2,.int .i64 (n2 : Int)] 34)).heap.size)) (w'.alloc (.cells #[.slice v2 M2.length c2,.int .i64 (n2 : Int)] 34)) w'.heap.size M2 n2:=by
 have b2 : Below w'.heap.size w' (w'.alloc (.cells #[.slice v2 M2.length c2,.int .i64 (n2 : Int)] 34)):=(Below.refl _ _).alloc (Nat.le_refl _) _
 have hs:=t.size
 refine ⟨⟨v2,c2,heap_alloc_new _ _,Ah hr b2,fun k hk => ?_⟩,.inr ⟨hs,by simp⟩,Nat.le_trans hB hs⟩
 rcases hv k hk with g | g
 · exact .inl g
 · exact .inr ⟨g,by have:=(hr.lt k hk).2; simp; omega⟩
theorem A7.put (h : A7 B X w mb M n) {v2 : Option Addr} {c2 : Nat} (hr : w.ownsRow 0 57 3 (.slice v2 M2.length c2) M2.length (AA M2)) (hv : ∀ k,(Value.slice v2 M2.length c2).ownBlock = some k -> X k) :
 A7 B X ((w.setCell ⟨mb,0,none⟩ (.slice v2 M2.length c2)).setCell ⟨mb,1,none⟩ (.int .i64 (n2 : Int))) mb M2 n2 /\ Ac (fun k => k = mb) w ((w.setCell ⟨mb,0,none⟩ (.slice v2 M2.length c2)).setCell ⟨mb,1,none⟩ (.int .i64 (n2 : Int))):=by
 obtain ⟨va,vc,h1,h2,h3⟩:=h.m
 have t : Ac (fun k => k = mb) w ((w.setCell ⟨mb,0,none⟩ (.slice v2 M2.length c2)).setCell ⟨mb,1,none⟩ (.int .i64 (n2 : Int))):=((Ac.refl (fun k => k = mb) w).setCell (p:=⟨mb,0,none⟩) (.inl rfl) _).setCell (p:=⟨mb,1,none⟩) (.inl rfl) _
 exact ⟨⟨⟨v2,c2,(block_set (block_set h1 0 _) 1 _).trans rfl,t.row hr (fun k hk e => Qz hr h1 k hk e),hv⟩,h.xm,h.lo⟩,t⟩
theorem A7.zero (h : A7 B X w mb M n) : A7 B X (w.setCell ⟨mb,1,none⟩ (.int .i64 0)) mb M 0 /\ Ac (fun k => k = mb) w (w.setCell ⟨mb,1,none⟩ (.int .i64 0)):=by
 obtain ⟨va,vc,h1,h2,h3⟩:=h.m
 have t : Ac (fun k => k = mb) w (w.setCell ⟨mb,1,none⟩ (.int .i64 0)):=(Ac.refl (fun k => k = mb) w).setCell (p:=⟨mb,1,none⟩) (.inl rfl) _
 exact ⟨⟨⟨va,vc,(block_set h1 1 _).trans rfl,t.row h2 (fun k hk e => Qz h2 h1 k hk e),h3⟩,h.xm,h.lo⟩,t⟩
theorem A7.beside (h : A7 B X w nb M n) (g : A7 B X w mb M2 n2) (hne : nb ≠ mb) (t : Ac (fun k => k = mb) w w') : A7 B X w' nb M n:=by
 obtain ⟨va,vc,h1,h2,h3⟩:=h.m
 obtain ⟨vb,vd,g1,-⟩:=g.m
 exact ⟨⟨va,vc,(t.block _ (Ad h1) hne).trans h1,t.row h2 (fun k hk e => Qz h2 g1 k hk e),h3⟩,h.xm,h.lo⟩
end
section
variable {E : Nat -> World -> Prop} {St : World -> Nat -> Nat -> Cv -> (Nat -> Prop) -> Prop} {Op : Bx -> List Aa -> Nat -> Prop} (K : Is E St Op) {B : Nat} {w0 w w' : World} {X Y : Nat -> Prop} {c d b n k mb : Nat} {s s' : Cv}
include K
theorem Cas.onRef (h : Cas E St B w0 X w c d b s k) (hx : X mb) (hl : B <= mb) (t : Ac (fun k => k = mb) w w') (hs : w'.heap.size = w.heap.size) : Cas E St B w0 X w' c d b s k:=
 (h.own K t (fun k hk => by subst hk; exact ⟨hx,hl⟩)).forget K fun i hi => .inl hi
end
end
section
open Go.RowKit
def KR (pre : ByteArray) (x : Aa) : Bool:=Lib.hasPrefix x.key.data.toList pre.data.toList
theorem P3 {m : List Aa} (h : m.length <= 1000) (pre : ByteArray) : BI m pre ⟨#[]⟩ 1000 = m.filter (KR pre):=by
 unfold BI
 rw [show LC pre ⟨#[]⟩ = KR pre from funext fun x => by unfold LC KR; rw [QA]; simp]
 exact List.take_of_length_le (Nat.le_trans (List.length_filter_le _ _) h)
theorem Lq {m : List Aa} (h : m.length <= 1000) : BI m ⟨#[]⟩ ⟨#[]⟩ 1000 = m:=by
 rw [P3 h]
 exact List.filter_eq_self.2 fun x _ => by simp [KR,Lib.hasPrefix]
theorem M6 {m : List Aa} (h : m.length <= 1048576) : BI m ⟨#[]⟩ ⟨#[]⟩ 1048576 = m:=by
 unfold BI
 rw [List.filter_eq_self.2 (fun x _ => by unfold LC; rw [QA]; simp [Lib.hasPrefix]),show (1048576 : Int).toNat = 1048576 from rfl,List.take_of_length_le h]
theorem Fz (l : List Aa) : IS l l = true:=by simp [IS]
theorem GY.below {W w : World} {a : Option Addr} {len : Nat} {V : Nat -> Value} (h : GY W a len V) (t : Below W.heap.size W w) : GY w a len V:=
 ⟨h.max,h.row.imp_right fun ⟨b,o,e,hb,hc⟩ => ⟨b,o,e,Nat.lt_of_lt_of_le hb t.size,fun i hi => (t.cell (p:=⟨b,o + i,none⟩) hb).trans (hc i hi)⟩⟩
end
end Go.Proofs.YtnafjlhohbhcoaaGreatDoor
