/- Parts of the proof. -/
import Derived.Test.YtnafjlhohbhcoaaGreatDoorQ41
import Derived.JoinedCond
namespace Go.Proofs.YtnafjlhohbhcoaaGreatDoor
open Go.Lib (hid)
set_option linter.unusedVariables false
section
open Go.RowKit
def Nf (x : Aa) : Aa:=if x.gone then ⟨x.key,x.val,false⟩ else ⟨x.key,⟨#[]⟩,true⟩
theorem ZG (M : List Aa) (k : ByteArray) : D9 M (Nf (isC M k)) = false:=by
 unfold Nf isC D9
 cases h : (CE k M).2 <;> simp [h]
theorem AaS {M : List Aa} {ks : List ByteArray} {i : Nat} (h : i < (CZ M ks).length) (l : List Aa) : doC M ((CZ M ks).set i (Nf (CZ M ks)[i])) l ≠ 0:=fun h0 => by
 have h1:=(Yy h0).2.2
 have h2 : Nf (CZ M ks)[i] ∈ (CZ M ks).set i (Nf (CZ M ks)[i]):=List.mem_iff_getElem.2 ⟨i,by simpa using h,by simp⟩
 have h3:=List.all_eq_true.1 h1 _ h2
 have h4 : (CZ M ks)[i] = isC M (ks[i]'(by rw [Hv] at h; exact h)):=by simp [CZ]
 rw [h4,ZG] at h3
 cases h3
theorem Abx (z : Int) {n : Nat} (h : 0 < n) (h2 : n <= 60) : ∃ N : Nat,N < n /\ (wrap64 (z.tmod n + n)).tmod n = (N : Int):=by
 have hn : (0 : Int) < (n : Int):=by omega
 have h1 : -(n : Int) < z.tmod n /\ z.tmod n < n:=⟨Int.lt_tmod_of_pos z hn,Int.tmod_lt_of_pos z hn⟩
 generalize z.tmod n = a at *
 have h3 : wrap64 (a + n) = a + n:=by unfold wrap64; omega
 rw [h3]
 have h4 : 0 <= (a + n).tmod n:=Int.tmod_nonneg n (by omega)
 have h5:=Int.tmod_lt_of_pos (a + n) hn
 exact ⟨((a + n).tmod n).toNat,by omega,by omega⟩
def Nl (w : World) (g : Nat) (l : List Aa) : Prop:=∃ cur T,w.heap[g]? = some (.cells cur T (0,0)) /\ l.length * 3 <= cur.size /\ ∀ j (h : j < l.length),cur[j * 3]? = some (.string l[j].key) /\ cur[j * 3 + 1]? = some (.string l[j].val) /\ cur[j * 3 + 2]? = some (.bool l[j].gone)
section
variable {w : World} {g : Nat} {l : List Aa}
theorem Nl.own {base : Nat} {v : Value} (h : w.ownsRow base 57 3 v l.length (AA l)) (h0 : 0 < l.length) : ∃ g c,v = .slice (some ⟨g,0,none⟩) l.length c /\ Nl w g l:=by
 have hr:=h
 rcases h.2 with ⟨_,h1⟩ | ⟨g,cap,cur,rfl,_,hg,hle,hcm,hsz,_⟩
 · omega
 · refine ⟨g,cap,rfl,cur,_,hg,by rw [hsz]; omega,fun j hj => ?_⟩
   obtain ⟨g',cap',hv,_,_,q0,q1,q2⟩:=Hm hr hj
   injection hv with hv
   injection hv with hv
   injection hv with hv
   subst hv
   rw [Ab hg] at q0 q1 q2
   exact ⟨q0,q1,q2⟩
theorem Nl.at (h : Nl w g l) {j : Nat} (hj : j < l.length) : w.cell? ⟨g,j * 3,none⟩ = some (.string l[j].key) /\ w.cell? ⟨g,j * 3 + 1,none⟩ = some (.string l[j].val) /\ w.cell? ⟨g,j * 3 + 2,none⟩ = some (.bool l[j].gone) /\ w.frozen? ⟨g,j * 3 + 1,none⟩ = false /\ w.frozen? ⟨g,j * 3 + 2,none⟩ = false:=by
 obtain ⟨cur,T,hg,_,hc⟩:=h
 rw [Ab hg,Ab hg,Ab hg]
 exact ⟨(hc j hj).1,(hc j hj).2.1,(hc j hj).2.2,Ag hg _,Ag hg _⟩
theorem Nl.put (h : Nl w g l) {i : Nat} (hi : i < l.length) (x : Aa) (hk : x.key = l[i].key) {k : Nat} {u : Value} (hu : (k = 1 /\ u = .string x.val /\ x.gone = l[i].gone) \/ (k = 2 /\ u = .bool x.gone /\ x.val = l[i].val)) : Nl (w.setCell ⟨g,i * 3 + k,none⟩ u) g (l.set i x):=by
 obtain ⟨cur,T,hg,hsz,hc⟩:=h
 refine ⟨_,T,block_set hg _ _,by simpa using hsz,fun j hj => ?_⟩
 rw [List.length_set] at hj
 have h9:=hc j hj
 have hki : k < 3:=by rcases hu with ⟨e,-⟩ | ⟨e,-⟩ <;> omega
 have hlt : i * 3 + k < cur.size:=by omega
 by_cases e : j = i
 · subst e
   rw [List.getElem_set_self]
   simp only [Array.getElem?_setIfInBounds]
   rcases hu with ⟨rfl,rfl,e2⟩ | ⟨rfl,rfl,e2⟩
   · refine ⟨?_,?_,?_⟩
     · rw [if_neg (by omega),hk]; exact h9.1
     · rw [if_pos rfl,if_pos (by omega)]
     · rw [if_neg (by omega),e2]; exact h9.2.2
   · refine ⟨?_,?_,?_⟩
     · rw [if_neg (by omega),hk]; exact h9.1
     · rw [if_neg (by omega),e2]; exact h9.2.1
     · rw [if_pos rfl,if_pos (by omega)]
 · rw [List.getElem_set_ne (fun h => e h.symm)]
   simp only [Array.getElem?_setIfInBounds]
   rw [if_neg (by omega),if_neg (by omega),if_neg (by omega)]
   exact h9
theorem Nl.read (h : Nl w g l) (hm : l.length <= 60) (c : Nat) : Aj w (.slice (some ⟨g,0,none⟩) l.length c) l:=by
 refine ⟨by unfold maxLen; omega,_,_,rfl,.inr ⟨g,0,rfl,fun i hi => ?_⟩⟩
 obtain ⟨q0,q1,q2,-⟩:=h.at hi
 rw [Nat.zero_add]
 exact ⟨q0,q1,q2⟩
end
end
section
open Go.RowKit Go.Maps Go.WideMaps Go.Shelf
attribute [local go_sem] Oper.semAt_some
section
variable {E : Nat -> World -> Prop} {St : World -> Nat -> Nat -> Cv -> (Nat -> Prop) -> Prop} {Op : Bx -> List Aa -> Nat -> Prop} (K : Is E St Op)
include K
set_option maxHeartbeats 16000000 in
set_option maxRecDepth 100000 in
theorem NT {w : World} (hE : E w.heap.size w) (a0 a1 a2 : Option Addr) (c0 c1 c2 : Nat) (l b : List Aa) (ks : List ByteArray) (z : Int) (hl : Aj w (.slice a0 l.length c0) l) (hK : GY w a1 ks.length (fun i => .string (ks.getD i ByteArray.empty))) (hb : Aj w (.slice a2 b.length c2) b) (hz : (Lit.int .i64 z).wf = true) :
 Calls Tryz.prog 5 #[.agg #[.slice a0 l.length c0,.slice a1 ks.length c1,.slice a2 b.length c2,.int .i64 z]] w fun e w' => e = .returned (.bool true) /\ Below w.heap.size w w':=by
 have hkx:=hK.max
 have hzb:=bounds_i64 hz
 have HL:=hid hl
 have HK:=hid hK
 have HBT:=hid hb
 have hw0 : Below w.heap.size w (w.alloc (.cells #[.slice a0 l.length c0,.slice a1 ks.length c1,.slice a2 b.length c2,.int .i64 z] 60)):=(Below.refl _ w).alloc (Nat.le_refl _) _
 have hx0:=heap_alloc_new w (.cells #[.slice a0 l.length c0,.slice a1 ks.length c1,.slice a2 b.length c2,.int .i64 z] 60)
 have x0:=(Ab hx0 0).trans rfl
 have x1:=(Ab hx0 1).trans rfl
 have x2:=(Ab hx0 2).trans rfl
 have x3:=(Ab hx0 3).trans rfl
 simp only [List.getElem?_toArray,List.getElem?_cons_zero,List.getElem?_cons_succ] at x0 x1 x2 x3
 have hwa:=hw0.drew
 clear hl hK hb hz hx0 hw0
 go_enter Tryz.func5,Tryz.ntmps5
 go_upto_region 1 with (fail)
 go_region
 generalize (w.alloc (.cells #[.slice a0 l.length c0,.slice a1 ks.length c1,.slice a2 b.length c2,.int .i64 z] 60)).drew = wa at *
 have HWA : Hid (Below w.heap.size w wa):=hwa
 have haw:=E9 K (K.e_below hE HWA.out)
 clear hwa x0 x1 x2 x3
 go_wp2_with fail
 refine haw.mono ?_
 rintro e w1 ⟨rfl,b1⟩
 have B1:=HWA.out.trans b1
 have E1 : E w.heap.size w1:=K.e_turn (K.e_below hE HWA.out) (G:=fun k => w.heap.size <= k) ⟨b1.os,b1.tape,b1.output,b1.size,fun k hk hn => b1.block k (by omega)⟩ (fun k hk => hk)
 clear haw b1
 go_wp2_with fail
 refine (GN w1).mono ?_
 rintro e w2 ⟨p,rfl,hp0,hbx,b2⟩
 have hop:=DM K (Gr K E1 B1 hbx (fun k hk => hk.1) b2) (by decide) (by decide)
 clear hbx b2 hp0
 go_wp2_with fail
 refine hop.mono ?_
 rintro e w3 ⟨c,d,s0,rfl,-,h3,em,en,ef⟩
 by_cases h60 : 60 < ks.length
 · have h60I : (60 : Int) < (ks.length : Int):=by omega
   have HB:=hid h3.a.bel
   clear hop h3 E1 B1 hE h60
   go_wp2
   go_ret
   exact ⟨rfl,HB.out⟩
 have h60I : ¬ (60 : Int) < (ks.length : Int):=by omega
 have b4 : Below w3.heap.size w3 (w3.alloc (.cells #[.slice none 0 0,.int .i64 0] 34)):=(Below.refl _ w3).alloc (Nat.le_refl _) _
 have HM:=hid (A7.new (X:=fun _ => False) (h3.size K))
 have h4:=h3.laid K b4
 have hdo:=Gc K h4 ef (cs:=[]) (Ht _) Qb (HL.out.below h4.a.bel) (EO HL.out) (by unfold limN; omega) (by decide)
 have EM:=hid em
 clear hop h3 h4 E1 B1 hE b4
 go_wp2_with fail
 generalize w3.alloc (.cells #[.slice none 0 0,.int .i64 0] 34) = w4 at *
 generalize (fun k => False \/ (w3.heap.size <= k /\ k < w4.heap.size)) = X at *
 generalize w3.heap.size = mb at *
 refine hdo.mono ?_
 rintro e w5 ⟨rfl,t5,s5,h5,em5,en5,ef5⟩
 have HU5:=hid h5
 have HM5:=hid (HM.out.ox t5)
 have HE5:=hid (And.intro em5 (And.intro en5 ef5))
 clear hdo t5 h5 em5 en5 ef5 HM ef em
 rw [EM.out] at HU5 HE5
 rw [EM.out]
 clear EM
 have hn5 : s5.n <= 2:=by have:=HE5.out.2.1; omega
 go_upto_if 47 with (fail)
 go_cut [] from 46 (fun wx => Hid (∃ X n k,Cas E St w.heap.size w X wx c d p s5 k /\ A7 w.heap.size X wx mb s5.map n /\ k <= 1 /\ n <= 1))
 case first =>
  by_cases hz : doC [] [] l = 0
  · obtain ⟨va,vc,m0,m1,mf0,mf1,hrow,-⟩:=HM5.out.cs
    have hrd:=Hq hrow 0 (by decide) (Ht _) (HL.out.below HU5.out.a.bel) (by decide)
    rw [hz]
    have HXR:=hid (HM5.out.m)
    clear hrow
    go_wp2_with fail
    refine hrd.mono ?_
    rintro e w6 ⟨r,rfl,hr6,b6,hv6⟩
    obtain ⟨ra,rc,rfl⟩:=An hr6
    have HM6:=hid ((HM5.out.below b6).more (Y:=fun k => X k \/ (w5.heap.size <= k /\ k < w6.heap.size)) (fun _ h => .inl h))
    have HU6:=hid (HU5.out.laid K b6)
    have hx6 : ∀ k,(Value.slice ra (Dw [] [] l).length rc).ownBlock = some k -> X k \/ (w5.heap.size <= k /\ k < w6.heap.size):=fun k hk => by
     rcases hv6 k hk with g | g
     · obtain ⟨_,_,h1,h2,h3⟩:=HM5.out.m
       have e:=(Ab h1 0).symm.trans m0
       simp at e
       obtain ⟨rfl,rfl⟩:=e
       exact .inl (h3 k g)
     · exact .inr ⟨g,(hr6.lt k hk).2⟩
    obtain ⟨v8,c8,n0,n1,nf0,nf1,-,-⟩:=HM6.out.cs
    have HPUT:=hid (HM6.out.put (n2:=Dh [] [] l 0) hr6 hx6)
    clear hrd hr6 b6 hv6 hx6 m0 m1 mf0 mf1 HXR
    go_wp2_with fail
    have h8:=HPUT.out
    have hs8 : ((w6.setCell ⟨mb,0,none⟩ (.slice ra (Dw [] [] l).length rc)).setCell ⟨mb,1,none⟩ (.int .i64 (Dh [] [] l 0 : Nat))).heap.size = w6.heap.size:=by simp
    have hc8 : Dh [] [] l 0 <= 1:=by unfold Dh; split <;> omega
    go_meet
    exact ⟨_,_,_,HU6.out.onRef K HM6.out.xm HM6.out.lo h8.2 hs8,by rw [HE5.out.1]; exact h8.1,hc8,hc8⟩
  · have hz2 : ((doC [] [] l : Int) == 0) = false:=by rw [beq_eq_false_iff_ne]; omega
    have HG : Hid (∃ X n k,Cas E St w.heap.size w X w5 c d p s5 k /\ A7 w.heap.size X w5 mb s5.map n /\ k <= 1 /\ n <= 1):=⟨X,0,_,HU5.out,by rw [HE5.out.1,Jp hz]; exact HM5.out,by rw [GO hz]; decide,Nat.zero_le _⟩
    generalize doC [] [] l = q at *
    go_wp2_with fail
    go_meet
    exact HG
 case rest =>
  have HI:=hcut
  clear hcut HU5 HM5
  obtain ⟨X,n,k,hu,hm,hk1,hn1⟩:=HI.out
  have HF:=hid HE5.out.2.2
  have HMR:=hid hm
  have HU:=hid hu
  have HB:=hid hu.a.bel
  have HML : Hid (s5.map.length <= 128):=by have:=(K.good hu.a.st).2.2.1; show s5.map.length <= 128; omega
  obtain ⟨va,vc,m0,m1,-,-,hrow,-⟩:=hm.cs
  have hnw:=Pr hrow (n : Int) (HK.out.below HB.out) (cp:=c1) (by omega)
  clear HI hu hm HE5 hrow
  go_wp2_with fail
  refine hnw.mono ?_
  rintro e w6 ⟨r,rfl,hr6,b6⟩
  obtain ⟨ra,rc,rfl⟩:=An hr6
  have HU6:=hid (HU.out.laid K b6)
  have HM6:=hid ((HMR.out.below b6).more (Y:=fun k => X k \/ (wc.heap.size <= k /\ k < w6.heap.size)) (fun _ h => .inl h))
  have HX6 : Hid (∀ k,(Value.slice ra (CZ s5.map ks).length rc).ownBlock = some k -> (fun k => X k \/ (wc.heap.size <= k /\ k < w6.heap.size)) k):=fun k hk => .inr (hr6.lt k hk)
  have HRW:=hid (Au hr6 (Nat.zero_le _))
  have hnl : (CZ s5.map ks).length <= 60:=by rw [Hv]; omega
  have HBAD : Hid (∀ i (h : i < (CZ s5.map ks).length),doC s5.map ((CZ s5.map ks).set i (Nf (CZ s5.map ks)[i])) b ≠ 0):=fun i h => AaS h b
  clear hnw hr6 b6 HU HMR HB m0 m1
  generalize CZ s5.map ks = W at *
  generalize (fun k => X k \/ (wc.heap.size <= k /\ k < w6.heap.size)) = X6 at *
  clear X
  go_upto_if 59 with (fail)
  go_cut [] from 57 (fun wx => Hid (∃ X k,Cas E St w.heap.size w X wx c d p s5 k /\ A7 w.heap.size X wx mb s5.map n /\ Aj wx (.slice ra W.length rc) W /\ J8 (Ox w.heap.size X) ra W /\ k <= 1))
  case first =>
   have HOW : Hid (J8 (Ox w.heap.size X6) ra W):=fun g o e hl hk => by
    subst e
    exact hk.2 (HX6.out g rfl)
   by_cases h0 : 0 < W.length
   · have h0I : (0 : Int) < (W.length : Int):=by omega
     obtain ⟨i,hi,he⟩:=Abx z h0 hnl
     have HBI:=hid (HBAD.out i hi)
     obtain ⟨i0,hi0,hz0,hz1,hz2⟩:=info_parts infoPair
     have hnil : w6.ownsRow 0 57 3 (.slice none 0 0) 0 []:=World.ownsRow_nil _ _ _ _
     have hsrc:=V4 HRW.out (KC W)
     go_wp2_with (at_builtin; refine Bp _ rfl _ (.tmp 70) rfl Tryz.underlying30 hi0 hz0 hz1 hz2 rfl (by decide) rfl hnil rfl hsrc ?b1 ?b2 ?_)
     case b1 => omega
     case b2 => unfold maxLen; omega
     intro v7 w7 o7 g7 l7
     try simp only [Nat.zero_add,List.nil_append] at o7
     obtain ⟨gb,cb,rfl,hrb⟩:=Nl.own o7 h0
     have t7 : Ac NoF w6 w7:=(Ac.refl NoF w6).grown g7 (fun k hk => by simp [Value.ownBlock] at hk)
     have b7 : Below w6.heap.size w6 w7:=⟨t7.os,t7.tape,t7.output,t7.size,fun k hk => t7.block k hk (fun h => h)⟩
     have hge : w6.heap.size <= gb:=by
      rcases l7 gb rfl with h | h
      · simp [Value.ownBlock] at h
      · exact h
     have HU7:=hid (HU6.out.laid K b7)
     have HXG : Hid (X6 gb \/ (w6.heap.size <= gb /\ gb < w7.heap.size)):=.inr ⟨hge,(o7.lt gb rfl).2⟩
     have HGB : Hid (w.heap.size <= gb):=Nat.le_trans (HU6.out.size K) hge
     have HNG : Hid (∀ k,X6 k -> k ≠ gb):=fun k hk e => by have:=HU6.out.a.x k (.inl hk); omega
     have HM7:=hid (HM6.out.below b7)
     have HR7:=hid (Ah HRW.out b7)
     have HRB:=hid hrb
     obtain ⟨q0,q1,q2,f1,f2⟩:=hrb.at hi
     have HPUT : Hid (∀ w',Ac (fun k => k = gb) w7 w' -> w'.heap.size = w7.heap.size -> Cas E St w.heap.size w (fun k => X6 k \/ (w6.heap.size <= k /\ k < w7.heap.size)) w' c d p s5 k /\ A7 w.heap.size X6 w' mb s5.map n /\ w'.ownsRow 0 57 3 (.slice ra W.length rc) W.length (AA W)):=fun w' t hs =>
      ⟨HU7.out.onRef K HXG.out HGB.out t hs,HM7.out.turn t (fun k hk e => HNG.out k hk e),t.row HR7.out (fun k hk e => HNG.out k (HX6.out k hk) e)⟩
     have HOFF : Hid (J8 (Ox w.heap.size (fun k => X6 k \/ (w6.heap.size <= k /\ k < w7.heap.size))) (some ⟨gb,0,none⟩) (W.set i (Nf W[i]))):=fun g o e _ hk => by
      injection e with e
      injection e with e
      subst e
      exact hk.2 HXG.out
     have HFIN : Hid (∀ w9,(Cas E St w.heap.size w (fun k => X6 k \/ (w6.heap.size <= k /\ k < w7.heap.size)) w9 c d p s5 k /\ A7 w.heap.size X6 w9 mb s5.map n /\ w9.ownsRow 0 57 3 (.slice ra W.length rc) W.length (AA W)) -> Nl w9 gb (W.set i (Nf W[i])) ->
         Calls Tryz.prog 13 #[.pointer (some ⟨c,0,none⟩),.slice (some ⟨gb,0,none⟩) W.length cb,.slice a2 b.length c2] w9 fun e w' => ∃ q : Nat,q ≠ 0 /\ e = .returned (.int .i64 (q : Int)) /\ ∃ X,Cas E St w.heap.size w X w' c d p s5 k /\ A7 w.heap.size X w' mb s5.map n /\ Aj w' (.slice ra W.length rc) W /\ J8 (Ox w.heap.size X) ra W):=fun w9 h9 r9 => by
      have hdo:=Abm K h9.1 (cs:=W.set i (Nf W[i])) (c1:=cb) (r9.read (by rw [List.length_set]; omega) cb) HOFF.out (HBT.out.below h9.1.a.bel) (EO HBT.out) (by unfold limN; omega) (by omega)
      rw [List.length_set] at hdo
      refine hdo.mono ?_
      rintro e w10 ⟨t10,⟨h1,rfl,h10⟩ | ⟨h1,-⟩ | ⟨h1,-⟩⟩
      · exact ⟨_,h1,rfl,_,h10,(h9.2.1.more (fun _ h => .inl h)).ox t10,Aj.own (t10.row h9.2.2 (fun k hk g => g.2 (.inl (HX6.out k hk)))),fun g o e hl hk => by subst e; exact hk.2 (.inl (HX6.out g rfl))⟩
      · exact absurd h1 HBI.out
      · exact absurd h1 HBI.out
     clear hrb o7 g7 l7 t7 b7 hge hsrc hnil hi0 HU6 HM6 HRW HBAD
     generalize (fun k => X6 k \/ (w6.heap.size <= k /\ k < w7.heap.size)) = X7 at *
     have HTAIL : Hid (∀ w10 X,Cas E St w.heap.size w X w10 c d p s5 k -> Calls Tryz.prog 14 #[.pointer (some ⟨c,0,none⟩),.string ⟨#[]⟩,.string ⟨#[]⟩,.int .i64 1000] w10 fun e w' => ∃ r,e = .returned (.tuple #[r,.int .i64 0]) /\ w'.ownsRow w10.heap.size 57 3 r s5.map.length (AA s5.map) /\ Ac (Ox w.heap.size X) w10 w' /\ Cas E St w.heap.size w (fun k => X k \/ r.ownBlock = some k) w' c d p s5 k):=fun w10 X h10 => by
      have hsc:=IV K h10 ⟨#[]⟩ ⟨#[]⟩ 1000 (by decide) (by decide) (by decide)
      rwa [Lq (by have:=HML.out; omega)] at hsc
     generalize hxx : W[i] = x at *
     obtain ⟨xk,xv,xg⟩:=x
     simp only at q0 q1 q2
     cases xg with
     | true =>
       have hb : Nf ⟨xk,xv,true⟩ = ⟨xk,xv,false⟩:=rfl
       have t8 : Ac (fun k => k = gb) w7 (w7.setCell ⟨gb,i * 3 + 2,none⟩ (.bool false)):=(Ac.refl (fun k => k = gb) w7).setCell (p:=⟨gb,i * 3 + 2,none⟩) (.inl rfl) _
       have hdo:=HFIN.out _ (HPUT.out _ t8 (by simp)) (by rw [hb]; exact HRB.out.put hi ⟨xk,xv,false⟩ (by rw [hxx]) (.inr ⟨rfl,rfl,by rw [hxx]⟩))
       clear t8 hb HPUT HFIN HRB hxx
       go_wp2_with fail
       refine hdo.mono ?_
       rintro e w10 ⟨q,hq,rfl,X,h10,m10,r10,o10⟩
       have hsc:=HTAIL.out w10 X h10
       have M10:=hid m10
       have R10':=hid r10
       have O10':=hid o10
       clear hdo h10 m10 r10 o10
       have hqI : ((q : Int) == 0) = false:=by rw [beq_eq_false_iff_ne]; omega
       go_wp2_with fail
       refine hsc.mono ?_
       rintro e w11 ⟨r,rfl,hr11,t11,h11⟩
       obtain ⟨rb,rd,rfl⟩:=An hr11
       have M11:=hid (M10.out.ox t11)
       obtain ⟨va,vc,m0,m1,-,-,hrow,-⟩:=M11.out.cs
       have hsm:=Fo (Aj.own hr11) (Aj.own hrow)
       rw [Fz] at hsm
       have HGo : Hid (∀ n8,∃ X k,Cas E St w.heap.size w X (w11.drewN n8) c d p s5 k /\ A7 w.heap.size X (w11.drewN n8) mb s5.map n /\ Aj (w11.drewN n8) (.slice ra W.length rc) W /\ J8 (Ox w.heap.size X) ra W /\ k <= 1):=fun n8 => by
        have b8 : Below w11.heap.size w11 (w11.drewN n8):=below_drewN (Below.refl _ _) n8
        exact ⟨_,k,h11.below K b8,(M11.out.more (fun _ h => .inl h)).below b8,(R10'.out.turn t11 O10'.out).below b8,fun g o e hl hk => O10'.out g o e hl ⟨hk.1,fun hx => hk.2 (.inl hx)⟩,hk1⟩
       clear hsc hr11 t11 h11 hrow HTAIL
       go_wp2_with fail
       refine hsm.mono ?_
       rintro e w12 ⟨rfl,n8,rfl⟩
       clear hsm
       go_wp2_with fail
       go_meet
       exact HGo.out n8
     | false =>
       have hb : Nf ⟨xk,xv,false⟩ = ⟨xk,⟨#[]⟩,true⟩:=rfl
       have t8 : Ac (fun k => k = gb) w7 ((w7.setCell ⟨gb,i * 3 + 2,none⟩ (.bool true)).setCell ⟨gb,i * 3 + 1,none⟩ (.string ⟨#[]⟩)):=((Ac.refl (fun k => k = gb) w7).setCell (p:=⟨gb,i * 3 + 2,none⟩) (.inl rfl) _).setCell (p:=⟨gb,i * 3 + 1,none⟩) (.inl rfl) _
       have hrb8:=HRB.out.put hi ⟨xk,xv,true⟩ (by rw [hxx]) (k:=2) (u:=.bool true) (.inr ⟨rfl,rfl,by rw [hxx]⟩)
       have hrb9:=hrb8.put (by rw [List.length_set]; exact hi) ⟨xk,⟨#[]⟩,true⟩ (by rw [List.getElem_set_self]) (k:=1) (u:=.string ⟨#[]⟩) (.inl ⟨rfl,rfl,by rw [List.getElem_set_self]⟩)
       rw [List.set_set] at hrb9
       have hdo:=HFIN.out _ (HPUT.out _ t8 (by simp)) (by rw [hb]; exact hrb9)
       clear t8 hb HPUT HFIN HRB hxx hrb8 hrb9
       go_wp2_with fail
       refine hdo.mono ?_
       rintro e w10 ⟨q,hq,rfl,X,h10,m10,r10,o10⟩
       have hsc:=HTAIL.out w10 X h10
       have M10:=hid m10
       have R10':=hid r10
       have O10':=hid o10
       clear hdo h10 m10 r10 o10
       have hqI : ((q : Int) == 0) = false:=by rw [beq_eq_false_iff_ne]; omega
       go_wp2_with fail
       refine hsc.mono ?_
       rintro e w11 ⟨r,rfl,hr11,t11,h11⟩
       obtain ⟨rb,rd,rfl⟩:=An hr11
       have M11:=hid (M10.out.ox t11)
       obtain ⟨va,vc,m0,m1,-,-,hrow,-⟩:=M11.out.cs
       have hsm:=Fo (Aj.own hr11) (Aj.own hrow)
       rw [Fz] at hsm
       have HGo : Hid (∀ n8,∃ X k,Cas E St w.heap.size w X (w11.drewN n8) c d p s5 k /\ A7 w.heap.size X (w11.drewN n8) mb s5.map n /\ Aj (w11.drewN n8) (.slice ra W.length rc) W /\ J8 (Ox w.heap.size X) ra W /\ k <= 1):=fun n8 => by
        have b8 : Below w11.heap.size w11 (w11.drewN n8):=below_drewN (Below.refl _ _) n8
        exact ⟨_,k,h11.below K b8,(M11.out.more (fun _ h => .inl h)).below b8,(R10'.out.turn t11 O10'.out).below b8,fun g o e hl hk => O10'.out g o e hl ⟨hk.1,fun hx => hk.2 (.inl hx)⟩,hk1⟩
       clear hsc hr11 t11 h11 hrow HTAIL
       go_wp2_with fail
       refine hsm.mono ?_
       rintro e w12 ⟨rfl,n8,rfl⟩
       clear hsm
       go_wp2_with fail
       go_meet
       exact HGo.out n8
   · have h0I : ¬ (0 : Int) < (W.length : Int):=by omega
     have HGo : Hid (∃ X k,Cas E St w.heap.size w X w6 c d p s5 k /\ A7 w.heap.size X w6 mb s5.map n /\ Aj w6 (.slice ra W.length rc) W /\ J8 (Ox w.heap.size X) ra W /\ k <= 1):=⟨X6,k,HU6.out,HM6.out,Aj.own HRW.out,HOW.out,hk1⟩
     clear h0
     go_wp2_with fail
     go_meet
     exact HGo
  case rest =>
   obtain ⟨X,k,hu,hm,hw,ho,hk1⟩:=hcut.out
   obtain ⟨va,vc,m0,m1,-,-,hrow,hxr⟩:=hm.cs
   have hrd:=Hq hrow n (by omega) hw (HBT.out.below hu.a.bel) (by have:=HML.out; omega)
   have HU:=hid hu
   have HWR:=hid hw
   have HOF:=hid ho
   have HXR:=hid hxr
   clear hcut hu hm hw ho hrow hxr HBAD HX6 HRW HU6 HM6
   go_wp2_with fail
   refine hrd.mono ?_
   rintro e w7 ⟨r,rfl,hr7,b7,hv7⟩
   obtain ⟨rb,rd,rfl⟩:=An hr7
   have b8 : Below w7.heap.size w7 (w7.alloc (.cells #[.slice rb (Dw s5.map W b).length rd,.int .i64 (Dh s5.map W b n : Nat)] 34)):=(Below.refl _ w7).alloc (Nat.le_refl _) _
   have b78:=b7.trans (b8.mono b7.size)
   have HNB:=hid (NR (n2:=Dh s5.map W b n) (HU.out.size K) b7 hr7 (X:=X) (fun k hk => (hv7 k hk).imp_left (HXR.out k)))
   have HU8:=hid (HU.out.laid K b78)
   have hdo:=Gc K HU8.out HF.out (HWR.out.below b78) (fun g o e hl hk => HOF.out g o e hl ⟨hk.1,fun hx => hk.2 (.inl hx)⟩) (HBT.out.below HU8.out.a.bel) (EO HBT.out) (by unfold limN; omega) (by omega)
   clear hrd hr7 b7 hv7 b8 b78 m0 m1
   go_wp2_with fail
   refine hdo.mono ?_
   rintro e w9 ⟨rfl,t9,s9,h9,em9,en9,ef9⟩
   have HN9:=hid (HNB.out.ox t9)
   have hsc:=IV K h9 ⟨#[]⟩ ⟨#[]⟩ 1000 (by decide) (by decide) (by decide)
   rw [Lq (by have:=(K.good h9.a.st).2.2.1; omega),em9] at hsc
   clear hdo t9 h9 em9 en9 ef9
   go_wp2_with fail
   refine hsc.mono ?_
   rintro e w10 ⟨r,rfl,hr10,t10,h10⟩
   obtain ⟨rx,ry,rfl⟩:=An hr10
   obtain ⟨vx,vy,n0,n1,-,-,hrow,-⟩:=(HN9.out.ox t10).cs
   have hsm:=Fo (Aj.own hr10) (Aj.own hrow)
   rw [Fz] at hsm
   have HB:=hid h10.a.bel
   clear hsc hr10 t10 h10 hrow
   generalize doC s5.map W b = q at *
   go_wp2_with fail
   refine hsm.mono ?_
   rintro e w11 ⟨rfl,n8,rfl⟩
   have HB8:=hid (below_drewN HB.out n8)
   clear hsm
   go_wp2
   go_ret
   exact ⟨rfl,HB8.out⟩
end
end
end Go.Proofs.YtnafjlhohbhcoaaGreatDoor
