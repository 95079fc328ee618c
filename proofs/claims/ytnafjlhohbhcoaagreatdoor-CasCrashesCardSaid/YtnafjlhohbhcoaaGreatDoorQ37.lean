/- Parts of the proof. -/
import Derived.Test.YtnafjlhohbhcoaaGreatDoorQ08
import Derived.Test.YtnafjlhohbhcoaaGreatDoorQ34
import Derived.Deep.LoopGhost
import Derived.Deep.WholeRow
import Derived.Deep.CutBlock
import Derived.Deep.CutRange
import Derived.Deep.RegionWith
namespace Go.Proofs.YtnafjlhohbhcoaaGreatDoor
open Go.Lib (hid)
set_option linter.unusedVariables false
section
open Go.RowKit Go.Maps Go.WideMaps
theorem Mb (w : World) (n : Nat) : Below w.heap.size w (w.drewN n):=below_drewN (Below.refl _ w) n
theorem clone_any (s : ByteArray) (w : World) (h : s.size <= 281474976710656) :
 Calls Tryz.prog 70 #[.string s] w fun e w' => e = .returned (.string s) /\ Below w.heap.size w w':=by
 have hc:=Sh.stringslite_Clone s w h
 go_enter Tryz.func70,Tryz.ntmps70
 go_wp2_with fail
 refine hc.mono ?_
 rintro e w1 ⟨rfl,hb⟩
 go_wp2
 go_ret
 exact ⟨rfl,hb⟩
theorem MM (w : World) : Calls Tryz.prog 45 #[] w fun e w' => ∃ p,e = .returned (.pointer (some ⟨p,0,none⟩)) /\ CN w' p [] (fun k => w.heap.size <= k /\ k < w'.heap.size) /\ Below w.heap.size w w':=by
 go_enter Tryz.func45,Tryz.ntmps45
 go_wp2
 go_ret
 refine ⟨_,rfl,⟨[],⟨⟨_,heap_alloc_new _ _,rfl,fun j hj => ?_,rfl,rfl⟩,fun i h => absurd h (by simp),by simp,by simp,by simp⟩,rfl,by simp,List.Pairwise.nil⟩,(Below.refl _ w).alloc (Nat.le_refl _) _⟩
 have : FN (Lo [] 0 j) = .pointer none:=rfl
 rw [this]
 match j,hj with
 | 0,_ | 1,_ | 2,_ | 3,_ | 4,_ | 5,_ | 6,_ | 7,_ | 8,_ | 9,_ | 10,_ | 11,_ => rfl
theorem VS {w : World} {p : Nat} {l : List Aa} {F : Nat -> Prop} (h : CN w p l F) : Calls Tryz.prog 63 #[.pointer (some ⟨p,0,none⟩)] w fun e w' => e = .returned (.tuple #[.int .i64 (l.length : Nat),.int .i64 (At l : Nat)]) /\ Below w.heap.size w w':=by
 obtain ⟨N,hN⟩:=h
 obtain ⟨c1,c2⟩:=Al.counts hN.sk
 clear hN
 go_enter Tryz.func63,Tryz.ntmps63
 go_wp2
 go_quiet (fail)
 go_wp2
 go_ret2
 exact ⟨rfl,Mb _ _⟩
theorem Ab5 (y : Int) : ∃ i : Nat,i < 64 /\ IntKind.u64.wrap y / 288230376151711744 = (i : Int):=by
 rw [IntKind.wrap_u64]
 have h1 : 0 <= y % 18446744073709551616:=by omega
 have h2 : y % 18446744073709551616 < 18446744073709551616:=by omega
 refine ⟨(y % 18446744073709551616 / 288230376151711744).toNat,by omega,by omega⟩
theorem AbG {w : World} (hT : CP w) (x : Int) : Calls Tryz.prog 208 #[.int .u64 x] w fun e w' => ∃ k : Nat,k <= 64 /\ e = .returned (.int .i64 (k : Int)) /\ w' = w:=by
 by_cases hx : x = 0
 · subst hx
   go_enter Tryz.func208,Tryz.ntmps208
   go_wp2
   go_ret
   exact ⟨64,by decide,rfl,rfl⟩
 · have hx0 : (x == 0) = false:=by simpa using hx
   obtain ⟨i,hi,key⟩:=Ab5 (bits BinOp.and IntKind.u64 x (IntKind.u64.wrap (-x)) * 285870213051353865)
   obtain ⟨k,hk,hc⟩:=hT.cell hi
   have hk64 : k <= 64:=by omega
   have HK:=hid hk64
   clear hk64 hT
   go_enter Tryz.func208,Tryz.ntmps208
   go_wp2_with (simp only [key])
   go_ret
   exact ⟨k,HK.out,rfl,rfl⟩
theorem U8 {w : World} (hT : CP w) (n : Int) : Calls Tryz.prog 169 #[.int .i64 n] w fun e w' => ∃ k : Nat,1 <= k /\ k <= 12 /\ e = .returned (.int .i64 (k : Int)) /\ w' = w:=by
 have HT:=fun x => AbG hT x
 go_enter Tryz.func169,Tryz.ntmps169
 go_wp2_with fail
 refine (HT _).mono ?_
 rintro e w1 ⟨k,hk,rfl,rfl⟩
 go_wp2
 go_ret
 refine ⟨min (1 + k / 2) 12,by omega,by omega,?_,rfl⟩
 have : (min (1 + (k : Int) / 2) 12) = ((min (1 + k / 2) 12 : Nat) : Int):=by omega
 rw [this]
 rfl
def GU (x : Aa) : Bool:=!x.key.toList.isEmpty && (x.val.toList.isEmpty || !x.gone)
theorem Mx (x : Aa) (w : World) : Calls Tryz.prog 130 #[x.val'] w fun e w' => e = .returned (.bool (GU x)) /\ Below w.heap.size w w':=by
 obtain ⟨k,v,g⟩:=x
 show Calls Tryz.prog 130 #[.agg #[.string k,.string v,.bool g]] w _
 generalize hN : GU ⟨k,v,g⟩ = N
 unfold GU at hN
 simp only at hN
 have HN:=hid hN
 clear hN
 cases hk : k.toList.isEmpty <;> cases hv : v.toList.isEmpty <;> cases g
 all_goals
  have HX:=HN.out
  rw [hk,hv] at HX
  simp only [Bool.not_true,Bool.not_false,Bool.and_true,Bool.and_false,Bool.or_true,Bool.or_false] at HX
  subst HX
  go_enter Tryz.func130,Tryz.ntmps130
  go_wp2
  go_ret
  exact ⟨rfl,(Below.refl _ w).alloc (Nat.le_refl _) _⟩
end
section
open Go.RowKit Go.Maps Go.WideMaps
def nil12 : Array Value:=#[.pointer none,.pointer none,.pointer none,.pointer none,.pointer none,.pointer none,.pointer none,.pointer none,.pointer none,.pointer none,.pointer none,.pointer none]
def UB (B : Nat -> Nat) : Value:=.agg #[.pointer (some ⟨B 0,0,none⟩),.pointer (some ⟨B 1,0,none⟩),.pointer (some ⟨B 2,0,none⟩),.pointer (some ⟨B 3,0,none⟩),.pointer (some ⟨B 4,0,none⟩),.pointer (some ⟨B 5,0,none⟩),
 .pointer (some ⟨B 6,0,none⟩),.pointer (some ⟨B 7,0,none⟩),.pointer (some ⟨B 8,0,none⟩),.pointer (some ⟨B 9,0,none⟩),.pointer (some ⟨B 10,0,none⟩),.pointer (some ⟨B 11,0,none⟩)]
def BefC (B : Nat -> Nat) (m : Nat) (c : Array Value) : Prop:=c.size = 12 /\ ∀ j,m <= j -> j < 12 -> c[j]? = some (.pointer (some ⟨B j,0,none⟩))
def Aar (w : World) (b : Nat) (B : Nat -> Nat) : Prop:=∀ j,j < 12 -> w.cell? ⟨b,j,none⟩ = some (.pointer (some ⟨B j,0,none⟩))
def VE (w : World) (b : Nat) (B : Nat -> Nat) : World:=
 ((((((((((((w.setCell ⟨b,0,none⟩ (.pointer (some ⟨B 0,0,none⟩))).setCell ⟨b,1,none⟩ (.pointer (some ⟨B 1,0,none⟩))).setCell ⟨b,2,none⟩ (.pointer (some ⟨B 2,0,none⟩))).setCell ⟨b,3,none⟩ (.pointer (some ⟨B 3,0,none⟩))).setCell
   ⟨b,4,none⟩ (.pointer (some ⟨B 4,0,none⟩))).setCell ⟨b,5,none⟩ (.pointer (some ⟨B 5,0,none⟩))).setCell ⟨b,6,none⟩ (.pointer (some ⟨B 6,0,none⟩))).setCell ⟨b,7,none⟩ (.pointer (some ⟨B 7,0,none⟩))).setCell
   ⟨b,8,none⟩ (.pointer (some ⟨B 8,0,none⟩))).setCell ⟨b,9,none⟩ (.pointer (some ⟨B 9,0,none⟩))).setCell ⟨b,10,none⟩ (.pointer (some ⟨B 10,0,none⟩))).setCell ⟨b,11,none⟩ (.pointer (some ⟨B 11,0,none⟩)))
def Hi (B : Nat -> Nat) : Array Value:=#[.pointer (some ⟨B 0,0,none⟩),.pointer (some ⟨B 1,0,none⟩),.pointer (some ⟨B 2,0,none⟩),.pointer (some ⟨B 3,0,none⟩),.pointer (some ⟨B 4,0,none⟩),.pointer (some ⟨B 5,0,none⟩),
 .pointer (some ⟨B 6,0,none⟩),.pointer (some ⟨B 7,0,none⟩),.pointer (some ⟨B 8,0,none⟩),.pointer (some ⟨B 9,0,none⟩),.pointer (some ⟨B 10,0,none⟩),.pointer (some ⟨B 11,0,none⟩)]
theorem Em {w : World} {b k : Nat} {c : Array Value} {t : TypeId} (h : w.heap[b]? = some (.cells c t (0,0))) (hc : c.size = 12) (hk : k < 12) (B : Nat -> Nat) (hat : ∀ i,i < k -> c[i]? = some (.pointer (some ⟨B i,0,none⟩))) :
 ∃ c',(w.setCell ⟨b,k,none⟩ (.pointer (some ⟨B k,0,none⟩))).heap[b]? = some (.cells c' t (0,0)) /\ c'.size = 12 /\ ∀ i,i < k + 1 -> c'[i]? = some (.pointer (some ⟨B i,0,none⟩)):=by
 refine ⟨_,block_set h k _,by simp [hc],fun i hi => ?_⟩
 by_cases e : k = i
 · subst e
   rw [Array.getElem?_setIfInBounds_self_of_lt (by omega)]
 · rw [Array.getElem?_setIfInBounds_ne e]; exact hat i (by omega)
theorem ZX {c : Array Value} (hc : c.size = 12) {B : Nat -> Nat} (hat : ∀ i,i < 12 -> c[i]? = some (.pointer (some ⟨B i,0,none⟩))) : c = Hi B:=by
 apply Array.ext_getElem?
 intro i
 by_cases hi : i < 12
 · rw [hat i hi]
   match i,hi with
   | 0,_ | 1,_ | 2,_ | 3,_ | 4,_ | 5,_ | 6,_ | 7,_ | 8,_ | 9,_ | 10,_ | 11,_ => rfl
 · rw [Array.getElem?_eq_none (by omega),Array.getElem?_eq_none (by show 12 <= i; omega)]
theorem To {w : World} {b : Nat} {c : Array Value} {t : TypeId} (h : w.heap[b]? = some (.cells c t (0,0))) (hc : c.size = 12) (B : Nat -> Nat) : (VE w b B).heap[b]? = some (.cells (Hi B) t (0,0)):=by
 obtain ⟨c0,h0,s0,a0⟩:=Em h hc (by decide : 0 < 12) B (fun i hi => absurd hi (by omega))
 obtain ⟨c1,h1,s1,a1⟩:=Em h0 s0 (by decide : 1 < 12) B a0
 obtain ⟨c2,h2,s2,a2⟩:=Em h1 s1 (by decide : 2 < 12) B a1
 obtain ⟨c3,h3,s3,a3⟩:=Em h2 s2 (by decide : 3 < 12) B a2
 obtain ⟨c4,h4,s4,a4⟩:=Em h3 s3 (by decide : 4 < 12) B a3
 obtain ⟨c5,h5,s5,a5⟩:=Em h4 s4 (by decide : 5 < 12) B a4
 obtain ⟨c6,h6,s6,a6⟩:=Em h5 s5 (by decide : 6 < 12) B a5
 obtain ⟨c7,h7,s7,a7⟩:=Em h6 s6 (by decide : 7 < 12) B a6
 obtain ⟨c8,h8,s8,a8⟩:=Em h7 s7 (by decide : 8 < 12) B a7
 obtain ⟨c9,h9,s9,a9⟩:=Em h8 s8 (by decide : 9 < 12) B a8
 obtain ⟨c10,h10,s10,a10⟩:=Em h9 s9 (by decide : 10 < 12) B a9
 obtain ⟨c11,h11,s11,a11⟩:=Em h10 s10 (by decide : 11 < 12) B a10
 rw [<- ZX s11 a11]
 exact h11
theorem Sp {w : World} {b n : Nat} (hb : n <= b) (B : Nat -> Nat) : Below n w (VE w b B):=by
 unfold VE
 exact (((((((((((((Below.refl n w).setCell (p:=⟨b,0,none⟩) hb _).setCell (p:=⟨b,1,none⟩) hb _).setCell (p:=⟨b,2,none⟩) hb _).setCell (p:=⟨b,3,none⟩) hb _).setCell (p:=⟨b,4,none⟩) hb _).setCell (p:=⟨b,5,none⟩) hb _).setCell (p:=⟨b,6,none⟩) hb _).setCell
  (p:=⟨b,7,none⟩) hb _).setCell (p:=⟨b,8,none⟩) hb _).setCell (p:=⟨b,9,none⟩) hb _).setCell (p:=⟨b,10,none⟩) hb _).setCell (p:=⟨b,11,none⟩) hb _)
theorem info12 : (Tryz.prog.info? 130).map (·.size) = some 12:=by kernel_rfl
set_option maxHeartbeats 4000000 in
set_option maxRecDepth 100000 in
theorem Ot {w : World} {p : Nat} {l : List Aa} {F : Nat -> Prop} {N : List Aq} (h : Fq w p l F N) (k : ByteArray) (B : Nat -> Nat) (hB : ∀ j,j < 12 -> B j = Cc p N (Br j N (placeP k l))) :
 Calls Tryz.prog 131 #[.pointer (some ⟨p,0,none⟩),.string k] w fun e w' => e = .returned (UB B) /\ Below w.heap.size w w':=by
 have hle:=C8 k l
 rw [<- h.len] at hle
 have HH:=hid h
 have HB:=hid hB
 clear h hB
 generalize hpl : placeP k l = pl at *
 have HP:=hid hpl
 clear hpl
 go_enter Tryz.func131,Tryz.ntmps131
 go_wp2
 go_loopg [6,7] 12 (fun m nv iv wr => m <= 12 /\ iv = .int .i64 ((m : Int) - 1) /\ ∃ q c,nv = .pointer (some ⟨Cc p N q,0,none⟩) /\ q <= pl /\ onB N q m /\ BefC B m c /\ Below w.heap.size w wr /\
  wr.heap[w.heap.size + 1]? = some (.cells c 130 (0,0)) /\ ∃ c0,wr.heap[w.heap.size]? = some (.cells c0 130 (0,0)) /\ c0.size = 12)
 case atStart =>
  have s1:=heap_alloc_new w (.cells nil12 130)
  have s2:=heap_alloc_new (w.alloc (.cells nil12 130)) (.cells nil12 130)
  rw [World.size_alloc] at s2
  have s3:=(Below.heap_alloc (w.alloc (.cells nil12 130)) (.cells nil12 130) w.heap.size (by simp)).trans s1
  exact ⟨by omega,rfl,0,nil12,rfl,Nat.zero_le _,.inl rfl,⟨rfl,fun j a b => by omega⟩,((Below.refl _ w).alloc (Nat.le_refl _) _).alloc (by simp) _,s2,nil12,s3,rfl⟩
 case round =>
  obtain ⟨hm,rfl,q,c,rfl,hq,ho,hc,hb,hbc,c0,hb0,hc0⟩:=hrel
  cases gk with
  | zero =>
    have hT : Aar wr (w.heap.size + 1) B:=fun j hj => by rw [Ab hbc]; exact hc.2 j (by omega) hj
    have hF : ∀ i,wr.frozen? ⟨w.heap.size,i,none⟩ = false:=Ag hb0
    have hE : ∀ i,i < 12 -> ∃ v,wr.cell? ⟨w.heap.size,i,none⟩ = some v:=fun i hi => by rw [Ab hb0]; exact ⟨c0[i]'(by omega),by simp⟩
    obtain ⟨e0,f0⟩:=hE 0 (by omega)
    obtain ⟨e1,f1⟩:=hE 1 (by omega)
    obtain ⟨e2,f2⟩:=hE 2 (by omega)
    obtain ⟨e3,f3⟩:=hE 3 (by omega)
    obtain ⟨e4,f4⟩:=hE 4 (by omega)
    obtain ⟨e5,f5⟩:=hE 5 (by omega)
    obtain ⟨e6,f6⟩:=hE 6 (by omega)
    obtain ⟨e7,f7⟩:=hE 7 (by omega)
    obtain ⟨e8,f8⟩:=hE 8 (by omega)
    obtain ⟨e9,f9⟩:=hE 9 (by omega)
    obtain ⟨e10,f10⟩:=hE 10 (by omega)
    obtain ⟨e11,f11⟩:=hE 11 (by omega)
    have t0:=hT 0 (by omega)
    have t1:=hT 1 (by omega)
    have t2:=hT 2 (by omega)
    have t3:=hT 3 (by omega)
    have t4:=hT 4 (by omega)
    have t5:=hT 5 (by omega)
    have t6:=hT 6 (by omega)
    have t7:=hT 7 (by omega)
    have t8:=hT 8 (by omega)
    have t9:=hT 9 (by omega)
    have t10:=hT 10 (by omega)
    have t11:=hT 11 (by omega)
    have HBL:=hid hb
    have hfin:=hid (To (B:=B) hb0 hc0)
    have hlt : w.heap.size + 1 < wr.heap.size:=Ad hbc
    clear hT hE hc hb hbc hb0 ho
    generalize Cc p N q = bq at *
    go_wp2
    refine bodyPost_ret (v:=UB B) ?_ rfl ⟨rfl,HBL.out.trans (Sp (Nat.le_refl _) B)⟩
    have hld:=hfin.out
    unfold VE at hld
    exact results_cell_row rfl _ _ w.heap.size _ (Hi B) (0,0) _ rfl hld Tryz.underlying130 rfl info12
  | succ m =>
    have hm12 : m < 12:=by omega
    have HBL:=hid hb
    have HT:=hid (HH.out.below hb)
    have FIN : Hid (∀ q',q' <= pl -> onB N q' m -> (∀ i,q' <= i -> i < pl -> Es N i <= m) -> ∃ q c,(.pointer (some ⟨Cc p N q',0,none⟩) : Value) = .pointer (some ⟨Cc p N q,0,none⟩) /\ q <= pl /\ onB N q m /\ BefC B m c /\
        Below w.heap.size w (wr.setCell ⟨w.heap.size + 1,m,none⟩ (.pointer (some ⟨Cc p N q',0,none⟩))) /\ (wr.setCell ⟨w.heap.size + 1,m,none⟩ (.pointer (some ⟨Cc p N q',0,none⟩))).heap[w.heap.size + 1]? = some (.cells c 130 (0,0)) /\
        ∃ c0,(wr.setCell ⟨w.heap.size + 1,m,none⟩ (.pointer (some ⟨Cc p N q',0,none⟩))).heap[w.heap.size]? = some (.cells c0 130 (0,0)) /\ c0.size = 12):=fun q' h1 h2 h3 => by
     refine ⟨q',_,rfl,h1,h2,⟨by simp [hc.1],fun j a b => ?_⟩,hb.setCell (p:=⟨w.heap.size + 1,m,none⟩) (by simp) _,block_set hbc m _,c0,(Bn (by omega)).trans hb0,hc0⟩
     by_cases e : m = j
     · subst e
       rw [Array.getElem?_setIfInBounds_self_of_lt (by rw [hc.1]; exact hm12),HB.out m hm12,LF h1 h2 h3]
     · rw [Array.getElem?_setIfInBounds_ne e]; exact hc.2 j (by omega) b
    have hfz : wr.frozen? ⟨w.heap.size + 1,m,none⟩ = false:=Ag hbc m
    obtain ⟨ov,hov⟩ : ∃ ov,wr.cell? ⟨w.heap.size + 1,m,none⟩ = some ov:=by rw [Ab hbc]; exact ⟨c[m]'(by rw [hc.1]; exact hm12),by simp⟩
    have ho' : onB N q m:=by rcases ho with ho | ho; exact .inl ho; exact .inr (by omega)
    have HO:=hid ho'
    have hl0:=Al.link HT.out.sk (q:=q) (by omega) hm12
    rw [CG ho'] at hl0
    clear hc hbc hb0 hc0 hb ho ho'
    have HQ:=hid hl0
    clear hl0
    have hv : ∃ v,wr.cell? ⟨Cc p N q,3 + m,none⟩ = some v:=⟨_,HQ.out⟩
    have hxx : ∃ o,FN (nxL m (N.drop q)) = .pointer o:=⟨_,rfl⟩
    obtain ⟨o,ho⟩:=hxx
    have hq0:=HQ.out
    rw [ho] at hq0
    have HX:=hid ho
    clear ho hv
    generalize hbq : Cc p N q = bq at *
    have HBQ:=hid hbq
    clear hbq
    go_wp2
    clear hq0 HQ
    go_loopg [6,8] (pl - q) (fun g nv xv wx => wx = wr /\ ∃ q' o',q' + g = pl /\ nv = .pointer (some ⟨Cc p N q',0,none⟩) /\ xv = .pointer o' /\ Hid (FN (nxL m (N.drop q')) = .pointer o') /\ Hid (onB N q' m))
    case atStart => exact ⟨rfl,q,o,by omega,by rw [HBQ.out],rfl,HX,HO⟩
    case round =>
     obtain ⟨rfl,q',o',hg,rfl,rfl,hx,ho'⟩:=hrel
     rcases YE m N q' with ⟨e1,gap⟩ | ⟨i,hi,hqi,e1,him,gap⟩
     · obtain rfl : o' = none:=by have:=hx.out; rw [e1] at this; injection this with t; exact t.symm
       have HF:=hid (FIN.out q' (by omega) ho'.out (fun i a _ => gap i a))
       clear e1 gap
       go_wp2
       go_roundg m
       case measure => omega
       case rel => exact ⟨by omega,by go_num,HF.out⟩
     · obtain rfl : o' = some ⟨N[i].blk,0,none⟩:=by have:=hx.out; rw [e1] at this; injection this with t; exact t.symm
       have hk:=(Al.key HT.out.sk hi).1
       by_cases hb : Op.bytesLess N[i].pr.key.toList k.toList = true
       · have hil : i < pl:=by
           rcases Nat.lt_or_ge i pl with a | a
           · exact a
           · exfalso
             have h3:=Q4 HT.out.rising (k:=k) (i:=i) (by rw [<- HT.out.len]; exact hi) (by rw [HP.out]; exact a)
             rw [<- HT.out.at hi] at h3
             unfold AO at h3
             rw [hb] at h3; cases h3
         have hon : onB N (i + 1) m:=.inr (by rw [Nat.add_sub_cancel,KG hi]; exact him)
         have hl:=Al.link HT.out.sk (q:=i + 1) (by omega) hm12
         rw [CG hon,BN hi] at hl
         obtain ⟨o2,ho2⟩ : ∃ o2,FN (nxL m (N.drop (i + 1))) = .pointer o2:=⟨_,rfl⟩
         rw [ho2] at hl
         have HO2:=hid ho2
         have HON:=hid hon
         have HI:=hid (BN (p:=p) hi)
         clear e1 gap ho2 hon hx ho'
         generalize N[i].blk = bi at *
         go_wp2
         go_roundg (pl - (i + 1))
         case measure => omega
         case rel => exact ⟨rfl,i + 1,o2,by omega,by rw [HI.out],rfl,HO2,HON⟩
       · have hb2 : Op.bytesLess N[i].pr.key.toList k.toList = false:=by simpa using hb
         have hil : pl <= i:=by
          rcases Nat.lt_or_ge i pl with a | a
          · exfalso
            have h3:=Dq (k:=k) (l:=l) (j:=i) (by rw [<- HT.out.len]; exact hi) (by rw [HP.out]; exact a)
            rw [<- HT.out.at hi] at h3
            exact hb h3
          · exact a
         have HF:=hid (FIN.out q' (by omega) ho'.out (fun k' a b => gap k' a (by omega)))
         clear e1 gap hb
         go_wp2
         go_roundg m
         case measure => omega
         case rel => exact ⟨by omega,by go_num,HF.out⟩
end
section
open Go.RowKit Go.Maps Go.WideMaps
theorem Fq.next0 {w : World} {p : Nat} {l : List Aa} {F : Nat -> Prop} {N : List Aq} (h : Fq w p l F N) (q : Nat) : nxL 0 (N.drop q) = N[q]?.map Aq.blk:=by
 by_cases hq : q < N.length
 · rw [YP hq (h.hi _ (List.getElem_mem hq)),List.getElem?_eq_getElem hq]; rfl
 · rw [List.getElem?_eq_none (by omega),List.drop_of_length_le (by omega)]; rfl
theorem AaE (B : Nat -> Nat) (w : World) : (Instr.index 130 (.agg #[.pointer (some ⟨B 0,0,none⟩),.pointer (some ⟨B 1,0,none⟩),.pointer (some ⟨B 2,0,none⟩),.pointer (some ⟨B 3,0,none⟩),.pointer (some ⟨B 4,0,none⟩),.pointer (some ⟨B 5,0,none⟩),
 .pointer (some ⟨B 6,0,none⟩),.pointer (some ⟨B 7,0,none⟩),.pointer (some ⟨B 8,0,none⟩),.pointer (some ⟨B 9,0,none⟩),.pointer (some ⟨B 10,0,none⟩),.pointer (some ⟨B 11,0,none⟩)]) (.int .i64 0)).run Tryz.prog w = .ok (.pointer (some ⟨B 0,0,none⟩)) w:=by
 simp [Instr.index,asIntOf,run_underlying Tryz.underlying130,part,go_sem]
set_option maxHeartbeats 2000000 in
set_option maxRecDepth 100000 in
theorem Px {w : World} {p : Nat} {l : List Aa} {F : Nat -> Prop} {N : List Aq} (h : Fq w p l F N) (k : ByteArray) :
 Calls Tryz.prog 92 #[.pointer (some ⟨p,0,none⟩),.string k] w fun e w' => e = .returned (FN (N[placeP k l]?.map Aq.blk)) /\ Below w.heap.size w w':=by
 have hle:=C8 k l
 rw [<- h.len] at hle
 obtain ⟨B,hB⟩ : ∃ B : Nat -> Nat,∀ j,j < 12 -> B j = Cc p N (Br j N (placeP k l)):=⟨_,fun _ _ => rfl⟩
 have hb0:=hB 0 (by omega)
 rw [Ml (fun i hi => h.one (by omega))] at hb0
 have hl : Hid (∀ w',Below w.heap.size w w' -> w'.cell? ⟨B 0,3,none⟩ = some (FN (N[placeP k l]?.map Aq.blk))):=fun w' hw => by
  have:=Al.link (h.below hw).sk (q:=placeP k l) (j:=0) hle (by omega)
  have hon : onB N (placeP k l) 0:=by
   by_cases e : placeP k l = 0
   · exact .inl e
   · have:=h.one (i:=placeP k l - 1) (by omega)
     exact .inr (by omega)
  rw [CG hon,h.next0] at this
  rw [hb0]; exact this
 have hc:=Ot h k B hB
 unfold UB at hc
 obtain ⟨o,ho⟩ : ∃ o,FN (N[placeP k l]?.map Aq.blk) = .pointer o:=⟨_,rfl⟩
 rw [ho] at hl ⊢
 clear hB hb0 ho h hle
 go_enter Tryz.func92,Tryz.ntmps92
 go_wp2_with fail
 refine hc.mono ?_
 rintro e w1 ⟨rfl,b1⟩
 have h1:=hl.out w1 b1
 have B1:=hid b1
 clear hc b1
 have hix:=fun w => AaE B w
 go_wp2
 go_ret
 exact ⟨rfl,B1.out⟩
theorem Ol {w : World} {p : Nat} {l : List Aa} {F : Nat -> Prop} {N : List Aq} (h : Fq w p l F N) (k : ByteArray) :
 (N[placeP k l]? = none /\ Bd k l = false) \/ ∃ hi : placeP k l < N.length,Bd k l = decide (N[placeP k l].pr.key = k) /\ N[placeP k l].pr = l[placeP k l]'(by rw [<- h.len]; exact hi):=by
 by_cases hi : placeP k l < N.length
 · refine .inr ⟨hi,?_,h.at hi⟩
   rw [h.at hi]
   exact Fy _ rfl
 · have:=C8 k l
   rw [<- h.len] at this
   exact .inl ⟨List.getElem?_eq_none (by omega),Mh (by rw [<- h.len]; omega)⟩
set_option maxHeartbeats 2000000 in
set_option maxRecDepth 100000 in
theorem Zm {w : World} {p : Nat} {l : List Aa} {F : Nat -> Prop} (ht : CN w p l F) (k : ByteArray) :
 Calls Tryz.prog 61 #[.pointer (some ⟨p,0,none⟩),.string k] w fun e w' => e = .returned (.tuple #[((DS k l).getD zeroP).val',.bool (DS k l).isSome]) /\ Below w.heap.size w w':=by
 obtain ⟨N,h⟩:=ht
 have ha:=(Below.refl _ w).alloc (Nat.le_refl _) (.cells #[.string ⟨#[]⟩,.string ⟨#[]⟩,.bool false] 57)
 have hf:=Px (h.below ha) k
 have hs : (w.alloc (.cells #[.string ⟨#[]⟩,.string ⟨#[]⟩,.bool false] 57)).heap.size = w.heap.size + 1:=by simp
 have hn0:=heap_alloc_new w (.cells #[.string ⟨#[]⟩,.string ⟨#[]⟩,.bool false] 57)
 rcases Ol h k with ⟨e1,e2⟩ | ⟨hi,e2,e3⟩
 · have HG : Hid (DS k l = none):=by
     show _ = _
     unfold DS; rw [e2]; rfl
   rw [e1] at hf
   have hf' : Calls Tryz.prog 92 #[.pointer (some ⟨p,0,none⟩),.string k] (w.alloc (.cells #[.string ⟨#[]⟩,.string ⟨#[]⟩,.bool false] 57)) fun e w' => e = .returned (.pointer none) /\ Hid (Below (w.heap.size + 1) (w.alloc (.cells #[.string ⟨#[]⟩,.string ⟨#[]⟩,.bool false] 57)) w'):=hf.mono fun e w' hh => ⟨hh.1,by rw [<- hs]; exact hh.2⟩
   have HA:=hid ha
   have HN:=hid hn0
   rw [HG.out]
   clear hf h e1 e2 ha hn0
   go_enter Tryz.func61,Tryz.ntmps61
   go_wp2_with fail
   refine hf'.mono ?_
   rintro r w1 ⟨rfl,B1⟩
   have hn1:=(B1.out.block w.heap.size (by omega)).trans HN.out
   have k0 : w1.cell? ⟨w.heap.size,0,none⟩ = some (.string ⟨#[]⟩):=by rw [Ab hn1]; rfl
   have k1 : w1.cell? ⟨w.heap.size,1,none⟩ = some (.string ⟨#[]⟩):=by rw [Ab hn1]; rfl
   have k2 : w1.cell? ⟨w.heap.size,2,none⟩ = some (.bool false):=by rw [Ab hn1]; rfl
   have kf:=Ag hn1
   have kf0:=kf 0
   have kf1:=kf 1
   have kf2:=kf 2
   have BB:=hid (HA.out.trans (B1.out.mono (by omega)))
   clear hn1 hs
   go_wp2
   (try simp only [Exit.inBlock,Exit.then])
   refine bodyPost_ret (v:=.tuple #[zeroP.val',.bool false]) ?_ rfl ⟨rfl,?_⟩
   · rw [results_cell_tmp rfl]
     go_simp
     rfl
   · exact ((BB.out.setCell (Nat.le_refl _) _).setCell (Nat.le_refl _) _).setCell (Nat.le_refl _) _
 · rw [List.getElem?_eq_getElem hi] at hf
   have hx : Hid (∀ w',Below (w.heap.size + 1) (w.alloc (.cells #[.string ⟨#[]⟩,.string ⟨#[]⟩,.bool false] 57)) w' -> w'.cell? ⟨N[placeP k l].blk,0,none⟩ = some (.string N[placeP k l].pr.key) /\ w'.cell? ⟨N[placeP k l].blk,1,none⟩ = some (.string N[placeP k l].pr.val) /\ w'.cell? ⟨N[placeP k l].blk,2,none⟩ = some (.bool N[placeP k l].pr.gone)):=fun w' hw => Al.key ((h.below ha).below (by rw [hs]; exact hw)).sk hi
   have hlt : N[placeP k l].blk < w.heap.size:=Al.nlt h.sk (List.getElem_mem hi)
   have HG : Hid (DS k l = if N[placeP k l].pr.key = k then some N[placeP k l].pr else none):=by
    show _ = _
    unfold DS
    rw [e2,e3,List.getElem?_eq_getElem (by rw [<- h.len]; exact hi)]
    by_cases hk : (l[placeP k l]'(by rw [<- h.len]; exact hi)).key = k
    · rw [if_pos hk,if_pos (decide_eq_true hk)]
    · rw [if_neg hk,if_neg (by simpa using hk)]
   have hf' : Calls Tryz.prog 92 #[.pointer (some ⟨p,0,none⟩),.string k] (w.alloc (.cells #[.string ⟨#[]⟩,.string ⟨#[]⟩,.bool false] 57)) fun e w' => e = .returned (.pointer (some ⟨N[placeP k l].blk,0,none⟩)) /\ Hid (Below (w.heap.size + 1) (w.alloc (.cells #[.string ⟨#[]⟩,.string ⟨#[]⟩,.bool false] 57)) w'):=hf.mono fun e w' hh => ⟨hh.1,by rw [<- hs]; exact hh.2⟩
   have HA:=hid ha
   have HN:=hid hn0
   rw [HG.out]
   clear hf h e2 e3 ha hn0 HG
   generalize N[placeP k l] = x at *
   obtain ⟨bk,⟨xk,xv,xg⟩,xh⟩:=x
   simp only at *
   by_cases hk : xk = k
   · subst hk
     rw [if_pos rfl]
     have hkk : (xk.toList == xk.toList) = true:=by simp
     go_enter Tryz.func61,Tryz.ntmps61
     go_wp2_with fail
     refine hf'.mono ?_
     rintro r w1 ⟨rfl,B1⟩
     obtain ⟨x0,x1,x2⟩:=hx.out w1 B1.out
     have hn1:=(B1.out.block w.heap.size (by omega)).trans HN.out
     have k0 : w1.cell? ⟨w.heap.size,0,none⟩ = some (.string ⟨#[]⟩):=by rw [Ab hn1]; rfl
     have k1 : w1.cell? ⟨w.heap.size,1,none⟩ = some (.string ⟨#[]⟩):=by rw [Ab hn1]; rfl
     have k2 : w1.cell? ⟨w.heap.size,2,none⟩ = some (.bool false):=by rw [Ab hn1]; rfl
     have kf:=Ag hn1
     have kf0:=kf 0
     have kf1:=kf 1
     have kf2:=kf 2
     have BB:=hid (HA.out.trans (B1.out.mono (by omega)))
     clear hn1 hs
     go_wp2
     (try simp only [Exit.inBlock,Exit.then])
     refine bodyPost_ret (v:=.tuple #[.agg #[.string xk,.string xv,.bool xg],.bool true]) ?_ rfl ⟨rfl,?_⟩
     · rw [results_cell_tmp rfl]
       go_simp
     · exact ((BB.out.setCell (Nat.le_refl _) _).setCell (Nat.le_refl _) _).setCell (Nat.le_refl _) _
   · rw [if_neg hk]
     have hkk : (xk.toList == k.toList) = false:=by rw [JC]; simpa using hk
     go_enter Tryz.func61,Tryz.ntmps61
     go_wp2_with fail
     refine hf'.mono ?_
     rintro r w1 ⟨rfl,B1⟩
     obtain ⟨x0,x1,x2⟩:=hx.out w1 B1.out
     have hn1:=(B1.out.block w.heap.size (by omega)).trans HN.out
     have k0 : w1.cell? ⟨w.heap.size,0,none⟩ = some (.string ⟨#[]⟩):=by rw [Ab hn1]; rfl
     have k1 : w1.cell? ⟨w.heap.size,1,none⟩ = some (.string ⟨#[]⟩):=by rw [Ab hn1]; rfl
     have k2 : w1.cell? ⟨w.heap.size,2,none⟩ = some (.bool false):=by rw [Ab hn1]; rfl
     have kf:=Ag hn1
     have kf0:=kf 0
     have kf1:=kf 1
     have kf2:=kf 2
     have BB:=hid (HA.out.trans (B1.out.mono (by omega)))
     clear hn1 hs
     go_wp2
     (try simp only [Exit.inBlock,Exit.then])
     refine bodyPost_ret (v:=.tuple #[zeroP.val',.bool false]) ?_ rfl ⟨rfl,?_⟩
     · rw [results_cell_tmp rfl]
       go_simp
       rfl
     · exact ((BB.out.setCell (Nat.le_refl _) _).setCell (Nat.le_refl _) _).setCell (Nat.le_refl _) _
end
section
open Go.RowKit Go.Maps Go.WideMaps
theorem CP.not {w : World} (h : CP w) {p : Nat} {cs : Array Value} {t : TypeId} {f : Nat × Nat} (hp : w.heap[p]? = some (.cells cs t f)) (hs : cs.size ≠ 64) : p ≠ 2:=by
 rintro rfl
 unfold CP Lib.TabIs World.var? at h
 rw [tab64_named] at h
 simp only [Option.bind_some,hp] at h
 injection h with h
 apply hs
 rw [h]
 simp [tab64_len]
theorem CP.turn {F : Nat -> Prop} {w w' : World} (h : CP w) (t : Ac F w w') (hF : ¬ F 2) : CP w':=by
 unfold CP Lib.TabIs World.var? at *
 rw [tab64_named] at h ⊢
 simp only [Option.bind_some] at h ⊢
 have hlt : 2 < w.heap.size:=by
  rcases Nat.lt_or_ge 2 w.heap.size with h' | h'
  · exact h'
  · rw [Array.getElem?_eq_none h'] at h; simp at h
 rw [t.block _ hlt hF]
 exact h
section
variable {F G : Nat -> Prop} {w w' : World} {p q j pl : Nat} {N : List Aq} {c s : Int} {L L' : Nat -> Nat -> Option Nat} {x y : Aq}
theorem FX (hpl : pl <= N.length) (hq : q <= pl) (x : Aq) : Cc p (Ap N pl x) q = Cc p N q:=by
 cases q with
 | zero => rfl
 | succ i =>
   show ((Ap N pl x)[i]?.map Aq.blk).getD 0 = (N[i]?.map Aq.blk).getD 0
   rw [Cq hpl,if_pos (by omega)]
theorem Iw (hpl : pl <= N.length) (x : Aq) : Cc p (Ap N pl x) (pl + 1) = x.blk:=by
 show ((Ap N pl x)[pl]?.map Aq.blk).getD 0 = x.blk
 rw [Cq hpl,if_neg (by omega),if_pos rfl]; rfl
theorem Al.high (h : Al w p (Ap N pl x) c s F L) (hb : y.blk = x.blk) (hp : y.pr = x.pr) : Al w p (Ap N pl y) c s F L:=by
 have e : (Ap N pl y).map (fun z => (z.blk,z.pr)) = (Ap N pl x).map (fun z => (z.blk,z.pr)):=by
  unfold Ap
  simp [hb,hp]
 have hl : (Ap N pl y).length = (Ap N pl x).length:=by
  have:=congrArg List.length e
  simpa using this
 have hm : (Ap N pl y).map Aq.blk = (Ap N pl x).map Aq.blk:=by
  unfold Ap
  simp [hb]
 have hat : ∀ i (h1 : i < (Ap N pl y).length),(Ap N pl y)[i].blk = ((Ap N pl x)[i]'(by omega)).blk /\ (Ap N pl y)[i].pr = ((Ap N pl x)[i]'(by omega)).pr:=fun i h1 => by
  have:=congrArg (fun l => l[i]?) e
  simp only [List.getElem?_map,List.getElem?_eq_getElem h1,List.getElem?_eq_getElem (show i < (Ap N pl x).length by omega),Option.map_some,Option.some.injEq,Prod.mk.injEq] at this
  exact this
 refine ⟨h.head,fun i hi => ?_,h.fp,fun z hz => ?_,by rw [hm]; exact h.apart⟩
 · obtain ⟨a,b⟩:=hat i hi
   obtain ⟨cs,h1,h2,h3,h4,h5,h6⟩:=h.node i (by omega)
   exact ⟨cs,by rw [a]; exact h1,h2,by rw [b]; exact h3,by rw [b]; exact h4,by rw [b]; exact h5,h6⟩
 · obtain ⟨i,hi,rfl⟩:=List.mem_iff_getElem.1 hz
   rw [(hat i hi).1]
   exact h.fn _ (List.getElem_mem _)
theorem L7.up (hpl : pl <= N.length) (h : L7 w p (Ap N pl x) c s F) {lv : Nat} (hx : x.high = lv) (hlv : lv < 12) :
 L7 ((w.setCell ⟨x.blk,3 + lv,none⟩ (FN (nxL lv (N.drop pl)))).setCell ⟨Cc p N (Br lv N pl),3 + lv,none⟩ (FN (some x.blk))) p (Ap N pl { x with high:=lv + 1 }) c s F:=by
 have hq:=Gh lv N pl
 have hlen:=EE hpl x
 have h1:=Al.setLink h (q:=pl + 1) (j:=lv) (by omega) hlv (nxL lv (N.drop pl))
 rw [Iw hpl] at h1
 have h2:=Al.setLink h1 (q:=Br lv N pl) (j:=lv) (by omega) hlv (some x.blk)
 rw [FX hpl hq] at h2
 refine Al.congr (Al.high (y:={ x with high:=lv + 1 }) h2 rfl rfl) (fun q _ j _ => ?_)
 rw [AaF hpl (x:=x) (y:={ x with high:=lv + 1 }) rfl hx rfl q j]
end
theorem L7.ahead {w : World} {p pl : Nat} {N : List Aq} {c s : Int} {F : Nat -> Prop} {x : Aq} (hpl : pl <= N.length) (h : L7 w p (Ap N pl x) c s F) {lv : Nat} (hx : x.high = lv) (hlv : lv < 12) :
 w.cell? ⟨Cc p N (Br lv N pl),3 + lv,none⟩ = some (FN (nxL lv (N.drop pl))):=by
 have hq:=Gh lv N pl
 have h1:=Al.link h (q:=Br lv N pl) (by rw [EE hpl]; omega) hlv
 rw [FX hpl hq] at h1
 have ho : onB (Ap N pl x) (Br lv N pl) lv:=by rw [KM hpl,if_pos hq]; exact Jz lv N pl
 rw [CG ho,DP hpl (by omega) (pl - Br lv N pl) _ (by omega),Ve hq (Iv lv N pl)] at h1
 exact h1
def EW (k : ByteArray) : Array Value:=#[.string k,.string ⟨#[]⟩,.bool false,.pointer none,.pointer none,.pointer none,.pointer none,.pointer none,.pointer none,.pointer none,.pointer none,.pointer none,.pointer none,.pointer none,.pointer none]
theorem Q7 (k : ByteArray) : ∀ j,j < 12 -> (EW k)[3 + j]? = some (FN none)
 | 0,_ | 1,_ | 2,_ | 3,_ | 4,_ | 5,_ | 6,_ | 7,_ | 8,_ | 9,_ | 10,_ | 11,_ => rfl
set_option maxHeartbeats 4000000 in
set_option maxRecDepth 100000 in
theorem TH {w : World} {p : Nat} {l : List Aa} {F : Nat -> Prop} {N : List Aq} (h : Fq w p l F N) (hT : CP w) (k : ByteArray) (hk : k.size <= 64) (hl1 : l.length < 3518437208880) (hl2 : At l <= 36028797018963968) (B : Nat -> Nat) (hB : ∀ j,j < 12 -> B j = Cc p N (Br j N (placeP k l))) :
 Calls Tryz.prog 132 #[.pointer (some ⟨p,0,none⟩),UB B,.string k] w fun e w' => ∃ nb hg,e = .returned (.pointer (some ⟨nb,0,none⟩)) /\ 1 <= hg /\ w.heap.size <= nb /\
  L7 w' p (Ap N (placeP k l) ⟨nb,⟨k,⟨#[]⟩,false⟩,hg⟩) ((l.length : Nat) + 1) ((At l : Nat) + (k.size : Nat)) (KO F w w') /\ Ac F w w':=by
 have hle:=C8 k l
 rw [<- h.len] at hle
 generalize hpl : placeP k l = pl at *
 have HP:=hid hpl
 have HB:=hid hB
 clear hpl hB
 have hpo : w.heap[p]?.isSome:=by obtain ⟨cs,h1,_⟩:=Al.head h.sk; rw [h1]; rfl
 have hng : p ≠ 2:=by obtain ⟨cs,h1,h2,_⟩:=Al.head h.sk; exact hT.not h1 (by omega)
 have hp0 : p < w.heap.size:=Al.lt h.sk
 obtain ⟨c1,c2⟩:=Al.counts h.sk
 have f1 : ∀ i,w.frozen? ⟨p,i,none⟩ = false:=Al.free h.sk (q:=0) (Nat.zero_le _)
 have f15:=f1 15
 have f16:=f1 16
 obtain ⟨w2,hw2⟩ : ∃ w2,((w.setCell ⟨p,15,none⟩ (.int .i64 ((l.length : Int) + 1))).setCell ⟨p,16,none⟩ (.int .i64 ((At l : Int) + (k.size : Int)))).alloc (.cells (Hi B) 130) = w2:=⟨_,rfl⟩
 have ha:=(Below.refl _ ((w.setCell ⟨p,15,none⟩ (.int .i64 ((l.length : Int) + 1))).setCell ⟨p,16,none⟩ (.int .i64 ((At l : Int) + (k.size : Int))))).alloc (Nat.le_refl _) (.cells (Hi B) 130)
 have hs2:=(((Al.setCount h.sk ((l.length : Int) + 1)).setBytes ((At l : Int) + (k.size : Int))).below ha)
 have hbox:=heap_alloc_new ((w.setCell ⟨p,15,none⟩ (.int .i64 ((l.length : Int) + 1))).setCell ⟨p,16,none⟩ (.int .i64 ((At l : Int) + (k.size : Int)))) (.cells (Hi B) 130)
 have ht2 : Ac (fun i => p = i) w w2:=by
  rw [<- hw2]
  exact (((Ac.refl _ w).setCell (p:=⟨p,15,none⟩) (.inl rfl) _).setCell (p:=⟨p,16,none⟩) (.inl rfl) _).alloc _
 have hsz : ((w.setCell ⟨p,15,none⟩ (.int .i64 ((l.length : Int) + 1))).setCell ⟨p,16,none⟩ (.int .i64 ((At l : Int) + (k.size : Int)))).heap.size = w.heap.size:=by simp [World.setCell]
 rw [hsz] at hbox
 rw [hw2] at hs2 hbox
 have HS2:=hid hs2
 have HBOX:=hid hbox
 have HT2:=hid ht2
 clear hs2 hbox ha f1 ht2
 unfold UB
 unfold Hi at *
 go_enter Tryz.func132,Tryz.ntmps132
 go_upto_region 3 with (fail)
 clear c1 c2 f15 f16
 go_wp2_with fail
 refine (clone_any k _ (by omega)).mono ?_
 rintro e w3 ⟨rfl,b3⟩
 have g3:=b3.size
 have H3:=hid b3
 clear b3
 go_upto_region 4 with (fail)
 have hnew:=heap_alloc_new w3 (.cells (EW k) 132)
 have hb4:=(Below.refl _ w3).alloc (Nat.le_refl _) (.cells (EW k) 132)
 have hs4 : L7 (w3.alloc (.cells (EW k) 132)) p (Ap N pl ⟨w3.heap.size,⟨k,⟨#[]⟩,false⟩,0⟩) ((l.length : Int) + 1) ((At l : Int) + (k.size : Int)) (KO F w (w3.alloc (.cells (EW k) 132))):=by
  have g2:=HT2.out.size
  refine Al.congr (Al.addNode (HS2.out.below H3.out) hle (x:=⟨w3.heap.size,⟨k,⟨#[]⟩,false⟩,0⟩) (Nat.le_refl _) hnew hb4 (fun i hi => .inl hi) (.inr ⟨by show w.heap.size <= w3.heap.size; omega,by simp⟩) rfl rfl rfl rfl (Q7 k)) (fun q hq j hj => ?_)
  rw [Aai hle rfl]
 have ht4 : Ac (fun i => p = i) w (w3.alloc (.cells (EW k) 132)):=(HT2.out.trans (Ac.of_below (fun _ => False) H3.out) (fun i hi => hi.elim)).alloc _
 have hbox4 : (w3.alloc (.cells (EW k) 132)).heap[w.heap.size]? = some (.cells (Hi B) 130 (0,0)):=(hb4.block _ (by have:=Ad HBOX.out; omega)).trans ((H3.out.block _ (Ad HBOX.out)).trans HBOX.out)
 have hbb : w.heap.size < w3.heap.size:=by have:=Ad HBOX.out; omega
 clear hnew hb4 hw2 HS2 HT2 HBOX H3
 show Code.wp _ _ _ _ (w3.alloc (.cells (EW k) 132))
 generalize hnb : w3.heap.size = nb at *
 generalize w3.alloc (.cells (EW k) 132) = w4 at *
 clear hnb g3 w3 w2
 have HTT:=hT.turn ht4 hng
 obtain ⟨c3,c4⟩:=Al.counts hs4
 have HX4:=hid hs4
 have HU4:=hid ht4
 have HB4:=hid hbox4
 clear hs4 ht4 hbox4
 go_wp2_with fail
 refine (U8 HTT _).mono ?_
 rintro e w5 ⟨hg,g1,g2,rfl,rfl⟩
 clear c3 c4 HTT
 have HFp:=hid (Al.fp h.sk)
 have HFn:=hid (Al.fn h.sk)
 have HLT : Hid (∀ q,q <= N.length -> Cc p N q < w.heap.size):=fun q hq => by obtain ⟨cs,t,h1,_⟩:=Al.blk h.sk hq; exact Ad h1
 clear h hp0 hpo hng hT
 go_wp2
 go_loopw [35] (fun iv wr => ∃ m : Nat,m <= hg /\ iv = .int .i64 (m : Int) /\ Hid (L7 wr p (Ap N pl ⟨nb,⟨k,⟨#[]⟩,false⟩,m⟩) ((l.length : Int) + 1) ((At l : Int) + (k.size : Int)) (KO F w w5) /\ Ac F w wr /\ w5.heap.size <= wr.heap.size /\ wr.heap[w.heap.size]? = some (.cells (Hi B) 130 (0,0)))) (fun iv _ => hg - (intOf iv).toNat)
 case atStart => exact ⟨0,by omega,rfl,HX4.out,HU4.out.mono (fun i hi => .inl (hi ▸ HFp.out)),Nat.le_refl _,HB4.out⟩
 case round =>
  obtain ⟨m,hm,rfl,HR⟩:=hrel
  clear HX4 HU4 HB4
  by_cases hlt : m < hg
  · have hm12 : m < 12:=by omega
    have hbx : wr.cell? ⟨w.heap.size,m,none⟩ = some (.pointer (some ⟨B m,0,none⟩)):=by
     rw [Ab HR.out.2.2.2]
     match m,hm12 with
     | 0,_ | 1,_ | 2,_ | 3,_ | 4,_ | 5,_ | 6,_ | 7,_ | 8,_ | 9,_ | 10,_ | 11,_ => rfl
    have hlk:=L7.ahead hle HR.out.1 rfl hm12
    rw [<- HB.out m hm12] at hlk
    obtain ⟨o,ho⟩ : ∃ o,FN (nxL m (N.drop pl)) = .pointer o:=⟨_,rfl⟩
    rw [ho] at hlk
    have hq0:=Gh m N pl
    have hwl : (Ap N pl ⟨nb,⟨k,⟨#[]⟩,false⟩,m⟩).length = N.length + 1:=EE hle _
    have hf1:=Al.free HR.out.1 (q:=pl + 1) (by omega) (3 + m)
    have hc1:=Al.link HR.out.1 (q:=pl + 1) (j:=m) (by omega) hm12
    rw [Iw hle] at hf1 hc1
    have hf2:=Al.free HR.out.1 (q:=Br m N pl) (by omega) (3 + m)
    rw [FX hle hq0,<- HB.out m hm12] at hf2
    have hne : B m ≠ nb:=by
     intro e
     have:=Hc (Al.apart HR.out.1) (q:=Br m N pl) (r:=pl + 1) (by omega) (by omega) (by rw [FX hle hq0,Iw hle,<- HB.out m hm12]; exact e)
     omega
    have hne2 : nb ≠ B m:=fun e => hne e.symm
    have hFB : Hid (F (B m)):=by
     show F _
     rw [HB.out m hm12]
     exact Wo HFp.out HFn.out (by omega)
    have HUP:=hid (L7.up hle HR.out.1 (lv:=m) rfl hm12)
    rw [ho,<- HB.out m hm12] at HUP
    simp only at hf1 hc1
    clear ho hq0 hwl
    go_wp2
    go_region
    all_goals go_wp2
    refine ⟨⟨m + 1,by omega,rfl,?_⟩,by simp [intOf]; omega⟩
    obtain ⟨r1,r2,r3,r4⟩:=HR.out
    have hBl : B m < w.heap.size:=by rw [HB.out m hm12]; exact HLT.out _ (Nat.le_trans (Gh m N pl) hle)
    refine ⟨Al.kept HUP.out (fun _ _ => rfl),((r2.setCell (p:=⟨nb,3 + m,none⟩) (.inr (by show w.heap.size <= nb; omega)) _).setCell (p:=⟨B m,3 + m,none⟩) (.inl hFB.out) _).drew,by simpa [World.setCell] using r3,?_⟩
    show ((wr.setCell ⟨nb,3 + m,none⟩ (.pointer o)).setCell ⟨B m,3 + m,none⟩ (.pointer (some ⟨nb,0,none⟩))).heap[w.heap.size]? = _
    rw [Bn (by omega),Bn (by omega)]
    exact r4
  · obtain rfl : m = hg:=by omega
    go_wp2
    go_ret
    obtain ⟨r1,r2,r3,r4⟩:=HR.out
    exact ⟨nb,m,rfl,g1,by omega,Al.mono r1 (fun i hi => hi.imp id (fun hi => ⟨hi.1,by omega⟩)),r2⟩
end
section
open Go.RowKit Go.Maps Go.WideMaps
theorem KA {x : Aa} (h : GU x = false) : Aw x = 1:=by
 obtain ⟨k,v,g⟩:=x
 unfold GU at h
 simp only at h
 by_cases hk : k.toList = []
 · exact Od hk
 · have : k.toList.isEmpty = false:=by simpa using hk
   rw [this] at h
   cases g
   · simp at h
   · by_cases hv : v.toList = []
     · rw [hv] at h; simp at h
     · exact Mj hv
theorem Mn {x : Aa} (h : GU x = true) : Aw x = if 64 < x.key.size \/ 8192 < x.val.size then 2 else 0:=by
 obtain ⟨k,v,g⟩:=x
 unfold GU at h
 simp only [Bool.and_eq_true,Bool.not_eq_true',Bool.or_eq_true] at h
 obtain ⟨h1,h2⟩:=h
 have hk : ¬ k.toList = []:=by simpa using h1
 have hg : g = false \/ v.toList = []:=by rcases h2 with h2 | h2; exact .inr (by simpa using h2); exact .inl h2
 by_cases h3 : 64 < k.size \/ 8192 < v.size
 · rw [if_pos h3]; exact Jl hk hg (by omega)
 · rw [if_neg h3]; exact IG hk hg (by omega)
def Li (w wx : World) (p : Nat) (x : Aa) (l : List Aa) (F : Nat -> Prop) (nb : Nat) (v0 : ByteArray) (sn : Nat) : Prop:=
 ∃ (N : List Aq) (i : Nat) (hi : i < N.length),L7 wx p N ((C2 x l).length : Nat) (sn : Nat) (KO F w wx) /\ N[i].blk = nb /\ N[i].pr.key = x.key /\ N[i].pr.val = v0 /\ (N.set i { N[i] with pr:=x }).map Aq.pr = C2 x l /\
  sn + x.val.size = At (C2 x l) + v0.size /\ (∀ y ∈ N,1 <= y.high) /\ Ac F w wx /\ Ak (C2 x l)
theorem Wf {w wx : World} {p : Nat} {x : Aa} {l : List Aa} {F : Nat -> Prop} {N : List Aq} (h : Fq w p l F N) (hb : Below w.heap.size w wx) (hi : placeP x.key l < N.length) (he : N[placeP x.key l].pr.key = x.key) :
 Li w wx p x l F N[placeP x.key l].blk N[placeP x.key l].pr.val (At l):=by
 have hl : placeP x.key l < l.length:=by rw [<- h.len]; exact hi
 have hat:=h.at hi
 have ht : Bd x.key l = true:=by rw [Fy hl rfl,<- hat]; simpa using he
 have hp : C2 x l = l.set (placeP x.key l) x:=by
  unfold C2
  rw [ht,if_pos rfl,List.set_eq_take_append_cons_drop,if_pos hl]
 have hsz : At (C2 x l) + (l[placeP x.key l].key.size + l[placeP x.key l].val.size) = At l + (x.key.size + x.val.size):=by
  have e1:=CF (l.take (placeP x.key l)) (l.drop (placeP x.key l))
  rw [List.take_append_drop,List.drop_eq_getElem_cons hl,Cw] at e1
  unfold C2
  rw [ht,if_pos rfl,CF,Cw]
  omega
 have hlen : (C2 x l).length = l.length:=by rw [hp,List.length_set]
 refine ⟨N,_,hi,?_,rfl,he,rfl,?_,?_,h.hi,(Ac.of_below F hb),Da h.rising⟩
 · rw [hlen]
   exact Al.mono (Al.below h.sk hb) (fun i hi => .inl hi)
 · rw [List.map_set,h.prs,hp]
 · rw [hat] at he ⊢
   rw [he] at hsz
   omega
theorem AaC {w wx : World} {p nb hg : Nat} {x : Aa} {l : List Aa} {F : Nat -> Prop} {N : List Aq} (h : Fq w p l F N) (ht : Bd x.key l = false) (g1 : 1 <= hg)
 (hs : L7 wx p (Ap N (placeP x.key l) ⟨nb,⟨x.key,⟨#[]⟩,false⟩,hg⟩) ((l.length : Nat) + 1) ((At l : Nat) + (x.key.size : Nat)) (KO F w wx)) (t : Ac F w wx) :
 Li w wx p x l F nb ⟨#[]⟩ (At l + x.key.size):=by
 have hle:=C8 x.key l
 have hle' : placeP x.key l <= N.length:=by rw [h.len]; exact hle
 have hp : C2 x l = l.take (placeP x.key l) ++ x :: l.drop (placeP x.key l):=by
  unfold C2
  rw [ht]
  simp
 have hsz : At (C2 x l) = At l + (x.key.size + x.val.size):=by
  have e1:=CF (l.take (placeP x.key l)) (l.drop (placeP x.key l))
  rw [List.take_append_drop] at e1
  rw [hp,CF,Cw]
  omega
 have hlen : (C2 x l).length = l.length + 1:=by
  rw [hp,List.length_append,List.length_cons,List.length_take,List.length_drop]
  omega
 have hwl:=EE hle' ⟨nb,⟨x.key,⟨#[]⟩,false⟩,hg⟩
 have hat : (Ap N (placeP x.key l) ⟨nb,⟨x.key,⟨#[]⟩,false⟩,hg⟩)[placeP x.key l]? = some ⟨nb,⟨x.key,⟨#[]⟩,false⟩,hg⟩:=by rw [Cq hle',if_neg (by omega),if_pos rfl]
 obtain ⟨hi,hat⟩:=List.getElem?_eq_some_iff.1 hat
 refine ⟨_,_,hi,?_,by rw [hat],by rw [hat],by rw [hat],?_,?_,fun y hy => ?_,t,Da h.rising⟩
 · rw [hlen]
   exact hs
 · rw [hat,hp]
   have e : (Ap N (placeP x.key l) ⟨nb,⟨x.key,⟨#[]⟩,false⟩,hg⟩).set (placeP x.key l) ⟨nb,x,hg⟩ = Ap N (placeP x.key l) ⟨nb,x,hg⟩:=by
    unfold Ap
    have hl : (N.take (placeP x.key l)).length = placeP x.key l:=by simp; omega
    rw [List.set_append_right _ _ (by omega),hl]
    simp
   rw [e]
   unfold Ap
   rw [List.map_append,List.map_cons,List.map_take,List.map_drop,h.prs]
 · show _ = _ + 0
   omega
 · unfold Ap at hy
   rcases List.mem_append.1 hy with hy | hy
   · exact h.hi _ (List.mem_of_mem_take hy)
   · rcases List.mem_cons.1 hy with rfl | hy
     · exact g1
     · exact h.hi _ (List.mem_of_mem_drop hy)
theorem Al.setHead {w : World} {p i : Nat} {N : List Aq} {c s : Int} {F : Nat -> Prop} {L : Nat -> Nat -> Option Nat} (h : Al w p N c s F L) (hi : i < N.length) : w.frozen? ⟨N[i].blk,1,none⟩ = false /\ w.frozen? ⟨N[i].blk,2,none⟩ = false:=by
 have h1:=Al.free h (q:=i + 1) (by omega)
 rw [BN hi] at h1
 exact ⟨h1 1,h1 2⟩
theorem Li.done {w wx w1 : World} {p nb sn : Nat} {x : Aa} {l : List Aa} {F : Nat -> Prop} {v0 : ByteArray} (h : Li w wx p x l F nb v0 sn)
 (b : Below wx.heap.size ((wx.setCell ⟨p,16,none⟩ (.int .i64 ((sn : Int) + ((x.val.size : Int) - (v0.size : Int))))).drew) w1) (hF : F p) :
 CN ((w1.setCell ⟨nb,1,none⟩ (.string x.val)).setCell ⟨nb,2,none⟩ (.bool x.gone)) p (C2 x l) (KO F w ((w1.setCell ⟨nb,1,none⟩ (.string x.val)).setCell ⟨nb,2,none⟩ (.bool x.gone))) /\ Ac F w ((w1.setCell ⟨nb,1,none⟩ (.string x.val)).setCell ⟨nb,2,none⟩ (.bool x.gone)):=by
 obtain ⟨N,i,hi,hs,hb,hk,hv,hp,hz,hh,ht,hr⟩:=h
 have hsz : ((wx.setCell ⟨p,16,none⟩ (.int .i64 ((sn : Int) + ((x.val.size : Int) - (v0.size : Int))))).drew).heap.size = wx.heap.size:=by simp [World.setCell]
 have h1:=Al.kept (Al.setBytes hs ((sn : Int) + ((x.val.size : Int) - (v0.size : Int)))) (w':=(wx.setCell ⟨p,16,none⟩ (.int .i64 ((sn : Int) + ((x.val.size : Int) - (v0.size : Int))))).drew) (fun _ _ => rfl)
 have h2:=Al.below h1 (by rw [hsz]; exact b)
 have hgb:=Al.fn hs _ (List.getElem_mem hi)
 rw [hb] at hgb
 have h3:=Al.setPair h2 hi ⟨x.key,x.val,N[i].pr.gone⟩ 1 (.string x.val) (by omega) (by rw [if_neg (by omega),hk]) (by rw [if_pos rfl]) (by rw [if_neg (by omega)])
 have hi2 : i < (N.set i { N[i] with pr:=⟨x.key,x.val,N[i].pr.gone⟩ }).length:=by simpa using hi
 have h4:=Al.setPair h3 hi2 x 2 (.bool x.gone) (by omega) (by rw [if_neg (by omega)]; simp) (by rw [if_neg (by omega)]; simp) (by rw [if_pos rfl])
 simp only [List.getElem_set_self,List.set_set,hb] at h4
 have hmap : ∀ q j,Lo (N.set i ⟨nb,x,N[i].high⟩) q j = Lo N q j:=by
  have hhi : ∀ a,Es (N.set i ⟨nb,x,N[i].high⟩) a = Es N a:=fun a => by
   unfold Es
   by_cases e : i = a
   · subst e; simp [hi]
   · rw [List.getElem?_set_ne e]
  have hnx : ∀ j q,nxL j ((N.set i ⟨nb,x,N[i].high⟩).drop q) = nxL j (N.drop q):=fun j q => by
   have key : ∀ (A B : List Aq),A.map (fun z => (z.blk,z.high)) = B.map (fun z => (z.blk,z.high)) -> nxL j A = nxL j B:=by
    intro A
    induction A with
    | nil => intro B e; cases B with
      | nil => rfl
      | cons y r => simp at e
    | cons y r ih => intro B e; cases B with
      | nil => simp at e
      | cons z r2 =>
        simp only [List.map_cons,List.cons.injEq,Prod.mk.injEq] at e
        rw [CY,CY,e.1.1,e.1.2,ih _ e.2]
   apply key
   rw [List.map_drop,List.map_drop,List.map_set]
   congr 1
   apply List.ext_getElem?
   intro a
   by_cases e : i = a
   · subst e; simp [hi,hb]
   · rw [List.getElem?_set_ne e]
  intro q j
  unfold Lo onB
  simp only [hhi,hnx]
 have hszI : ((sn : Int) + ((x.val.size : Int) - (v0.size : Int))) = ((At (C2 x l) : Nat) : Int):=by omega
 have hg1 : w1.heap.size = ((w1.setCell ⟨nb,1,none⟩ (.string x.val)).setCell ⟨nb,2,none⟩ (.bool x.gone)).heap.size:=by simp [World.setCell]
 have hg2:=b.size
 rw [hsz] at hg2
 refine ⟨⟨N.set i ⟨nb,x,N[i].high⟩,?_,?_,fun y hy => ?_,hr⟩,?_⟩
 · have h5:=Al.congr h4 (L':=Lo (N.set i ⟨nb,x,N[i].high⟩)) (fun q _ j _ => (hmap q j).symm)
   rw [hszI] at h5
   exact Al.mono h5 (fun k hk => hk.imp id (fun hk => ⟨hk.1,by omega⟩))
 · have hp2 : (N.set i ⟨N[i].blk,x,N[i].high⟩).map Aq.pr = C2 x l:=hp
   rw [hb] at hp2; exact hp2
 · rcases List.mem_or_eq_of_mem_set hy with hy | rfl
   · exact hh _ hy
   · show 1 <= N[i].high
     exact hh N[i] (List.getElem_mem hi)
 · have hnb : F nb \/ w.heap.size <= nb:=hgb.imp id (fun h => h.1)
   have t1 : Ac F w ((wx.setCell ⟨p,16,none⟩ (.int .i64 ((sn : Int) + ((x.val.size : Int) - (v0.size : Int))))).drew):=(ht.setCell (p:=⟨p,16,none⟩) (.inl hF) _).drew
   exact ((t1.trans (Ac.of_below (fun _ => False) (by rw [hsz]; exact b)) (fun _ h => h.elim)).setCell (p:=⟨nb,1,none⟩) hnb _).setCell (p:=⟨nb,2,none⟩) hnb _
set_option maxHeartbeats 2000000 in
set_option maxRecDepth 100000 in
theorem put_bad {w : World} {p : Nat} (x : Aa) (hx : Aw x ≠ 0) :
 Calls Tryz.prog 86 #[.pointer (some ⟨p,0,none⟩),x.val'] w fun e w' => e = .returned (.int .i64 (Aw x : Nat)) /\ Below w.heap.size w w':=by
 obtain ⟨k,v,g⟩:=x
 have hv:=Mx ⟨k,v,g⟩ (w.alloc (.cells #[.string k,.string v,.bool g] 57))
 show Calls Tryz.prog 86 #[.pointer (some ⟨p,0,none⟩),.agg #[.string k,.string v,.bool g]] w _
 cases hb : GU ⟨k,v,g⟩ with
 | false =>
   have HN:=hid (KA hb)
   rw [HN.out]
   rw [hb] at hv
   clear hx hb
   unfold Aa.val' at hv
   go_enter Tryz.func86,Tryz.ntmps86
   go_wp2_with fail
   refine hv.mono ?_
   rintro e w1 ⟨rfl,b1⟩
   have B1:=hid (((Below.refl _ w).alloc (Nat.le_refl _) _).trans (b1.mono (by simp)))
   clear b1
   go_wp2
   go_ret
   exact ⟨rfl,B1.out⟩
 | true =>
   have hn:=Mn hb
   have hlong : 64 < k.size \/ 8192 < v.size:=by
    by_cases h : 64 < k.size \/ 8192 < v.size
    · exact h
    · rw [if_neg h] at hn; exact absurd hn hx
   rw [if_pos hlong] at hn
   have HN:=hid hn
   rw [HN.out]
   rw [hb] at hv
   clear hx hb hn
   unfold Aa.val' at hv
   have hn0:=heap_alloc_new w (.cells #[.string k,.string v,.bool g] 57)
   have HB : Hid (w.heap.size < (w.alloc (.cells #[.string k,.string v,.bool g] 57)).heap.size):=by show _ < _; simp
   have HNB:=hid hn0
   clear hn0
   go_enter Tryz.func86,Tryz.ntmps86
   go_wp2_with fail
   refine hv.mono ?_
   rintro e w1 ⟨rfl,b1⟩
   have hn1:=(b1.block w.heap.size HB.out).trans HNB.out
   have k0 : w1.cell? ⟨w.heap.size,0,none⟩ = some (.string k):=by rw [Ab hn1]; rfl
   have k1 : w1.cell? ⟨w.heap.size,1,none⟩ = some (.string v):=by rw [Ab hn1]; rfl
   have B1:=hid (((Below.refl _ w).alloc (Nat.le_refl _) _).trans (b1.mono (by simp)))
   clear b1 hn1
   by_cases hk : 64 < (k.size : Int)
   · go_wp2
     all_goals first
      | (exfalso; omega)
      | (go_ret; exact ⟨rfl,B1.out⟩)
   · have hv2 : 8192 < (v.size : Int):=by omega
     go_wp2
     all_goals first
      | (exfalso; omega)
      | (go_ret; exact ⟨rfl,B1.out⟩)
set_option maxHeartbeats 4000000 in
set_option maxRecDepth 100000 in
theorem Zi {w : World} {p : Nat} {l : List Aa} {F : Nat -> Prop} (hFl : ∀ i,F i -> i < w.heap.size) (hQ : CP w) (x : Aa) (hx : Aw x = 0) (ht : CN w p l F) (hl1 : l.length < 3518437208880) (hl2 : At l <= 36028797018963968) :
 Calls Tryz.prog 86 #[.pointer (some ⟨p,0,none⟩),x.val'] w fun e w' => e = .returned (.int .i64 0) /\ CN w' p (C2 x l) (KO F w w') /\ Ac F w w':=by
 obtain ⟨N,h⟩:=ht
 obtain ⟨k,v,g⟩:=x
 have hvalid : GU ⟨k,v,g⟩ = true:=by
  cases hb : GU ⟨k,v,g⟩ with
  | true => rfl
  | false => rw [KA hb] at hx; cases hx
 have hshort : k.size <= 64 /\ v.size <= 8192:=by
  have:=Mn hvalid
  rw [hx] at this
  by_cases hh : 64 < k.size \/ 8192 < v.size
  · rw [if_pos hh] at this; cases this
  · simp only [not_or] at hh; omega
 obtain ⟨hk64,hv64⟩:=hshort
 have hv:=Mx ⟨k,v,g⟩ (w.alloc (.cells #[.string k,.string v,.bool g] 57))
 rw [hvalid] at hv
 unfold Aa.val' at hv
 clear hvalid hx
 have hn0:=heap_alloc_new w (.cells #[.string k,.string v,.bool g] 57)
 have HB : Hid (w.heap.size < (w.alloc (.cells #[.string k,.string v,.bool g] 57)).heap.size):=by show _ < _; simp
 have HNB:=hid hn0
 clear hn0
 show Calls Tryz.prog 86 #[.pointer (some ⟨p,0,none⟩),.agg #[.string k,.string v,.bool g]] w _
 obtain ⟨B,hB⟩ : ∃ B : Nat -> Nat,∀ j,j < 12 -> B j = Cc p N (Br j N (placeP k l)):=⟨_,fun _ _ => rfl⟩
 go_enter Tryz.func86,Tryz.ntmps86
 go_wp2_with fail
 refine hv.mono ?_
 rintro e w1 ⟨rfl,b1⟩
 have hn1:=(b1.block w.heap.size HB.out).trans HNB.out
 have k0 : w1.cell? ⟨w.heap.size,0,none⟩ = some (.string k):=by rw [Ab hn1]; rfl
 have k1 : w1.cell? ⟨w.heap.size,1,none⟩ = some (.string v):=by rw [Ab hn1]; rfl
 have hb1:=((Below.refl _ w).alloc (Nat.le_refl _) (.cells #[.string k,.string v,.bool g] 57)).trans (b1.mono (by simp))
 have B1:=hid hb1
 have HN1:=hid hn1
 have hbf:=Ot (h.below hb1) k B hB
 unfold UB at hbf
 have HBB:=hid hB
 clear b1 hn1 hv hb1 HB HNB hB
 go_upto_region 5 with (fail)
 go_wp2_with fail
 refine hbf.mono ?_
 rintro e w2 ⟨rfl,b2⟩
 have B2:=hid (B1.out.trans (b2.mono B1.out.size))
 have HN2:=hid ((b2.block w.heap.size (Ad HN1.out)).trans HN1.out)
 clear b2 k0 k1 hbf HN1 B1
 go_upto_region 6 with (fail)
 have ha3:=(Below.refl _ w2).alloc (Nat.le_refl _) (.cells (Hi B) 130)
 have hn3:=heap_alloc_new w2 (.cells (Hi B) 130)
 have B3:=hid (B2.out.trans (ha3.mono B2.out.size))
 have HP3:=hid ((ha3.block w.heap.size (Ad HN2.out)).trans HN2.out)
 have HB3:=hid hn3
 show Code.wp _ _ _ _ (w2.alloc (.cells (Hi B) 130))
 clear ha3 hn3 HN2 B2
 have g2:=B3.out.size
 generalize hb5 : w2.heap.size = b5 at *
 generalize w2.alloc (.cells (Hi B) 130) = w3 at *
 clear hb5 w2
 have H3:=hid (h.below B3.out)
 have hle:=C8 k l
 rw [<- h.len] at hle
 have HL0 : Hid (w3.cell? ⟨B 0,3,none⟩ = some (FN (N[placeP k l]?.map Aq.blk))):=by
  have h1:=Al.link H3.out.sk (q:=placeP k l) (j:=0) hle (by omega)
  have hon : onB N (placeP k l) 0:=by
   by_cases e : placeP k l = 0
   · exact .inl e
   · have:=h.one (i:=placeP k l - 1) (by omega)
     exact .inr (by omega)
  rw [CG hon,h.next0] at h1
  have hb0:=HBB.out 0 (by omega)
  rw [Ml (fun i hi => h.one (by omega))] at hb0
  rw [hb0]
  exact h1
 have HBX : Hid (w3.cell? ⟨b5,0,none⟩ = some (.pointer (some ⟨B 0,0,none⟩))):=by
  show _ = _
  rw [Ab HB3.out]; rfl
 have K0 : Hid (w3.cell? ⟨w.heap.size,0,none⟩ = some (.string k)):=by show _ = _; rw [Ab HP3.out]; rfl
 have hpk:=Ol h k
 obtain ⟨o,ho⟩ : ∃ o,FN (N[placeP k l]?.map Aq.blk) = .pointer o:=⟨_,rfl⟩
 have HO:=hid ho
 rw [ho] at HL0
 clear ho
 have c0:=HL0.out
 have c5:=HBX.out
 go_upto_region 7 with (fail)
 clear c0 c5
 go_cut [45] from 34 to 45 (fun bv wx => bv = .bool (!Bd k l) /\ ∃ n,wx = w3.drewN n)
 case first =>
  have k0:=K0.out
  rcases hpk with ⟨e1,e2⟩ | ⟨hi,e2,e3⟩
  · obtain rfl : o = none:=by have:=HO.out; rw [e1] at this; injection this with t; exact t.symm
    have HE:=hid e2
    clear e1 e2
    go_quiet (fail)
    go_wp2_with fail
    go_meet
    exact ⟨by rw [HE.out]; rfl,_,rfl⟩
  · obtain rfl : o = some ⟨N[placeP k l].blk,0,none⟩:=by have:=HO.out; rw [List.getElem?_eq_getElem hi] at this; injection this with t; exact t.symm
    have x0:=(Al.key H3.out.sk hi).1
    have HE:=hid e2
    clear e2 e3
    generalize N[placeP k l] = y at *
    obtain ⟨yb,⟨yk,yv,yg⟩,yh⟩:=y
    simp only at *
    by_cases hk : yk = k
    · subst hk
      have hkk : (yk.toList == yk.toList) = true:=by simp
      go_quiet (fail)
      go_wp2_with fail
      go_meet
      exact ⟨by rw [HE.out]; simp,_,rfl⟩
    · have hkk : (yk.toList == k.toList) = false:=by rw [JC]; simpa using hk
      go_quiet (fail)
      go_wp2_with fail
      go_meet
      exact ⟨by rw [HE.out,decide_eq_false hk]; rfl,_,rfl⟩
 case rest =>
  obtain ⟨rfl,nq,rfl⟩:=hcut
  have bq:=Mb w3 nq
  have B4:=hid (B3.out.trans (bq.mono B3.out.size))
  have HP4:=hid ((bq.block w.heap.size (Ad HP3.out)).trans HP3.out)
  have HB4:=hid ((bq.block b5 (Ad HB3.out)).trans HB3.out)
  have H4:=hid (H3.out.below bq)
  have K4 : Hid ((w3.drewN nq).cell? ⟨w.heap.size,0,none⟩ = some (.string k)):=by show _ = _; rw [Ab HP4.out]; rfl
  clear bq K0 HL0 HBX HB3 HP3 H3 B3 g2
  generalize w3.drewN nq = w4 at *
  clear nq w3
  have hF0 : w.heap.size <= w4.heap.size:=B4.out.size
  generalize hth : Bd k l = th at *
  have HTH:=hid hth
  clear hth
  go_upto_if 45 with (fail)
  go_cut [6] from 46 to 50 (fun nv wx => ∃ nb v0 sn,nv = .pointer (some ⟨nb,0,none⟩) /\ Hid (Li w wx p ⟨k,v,g⟩ l F nb v0 sn /\ sn <= 72057594037927936 /\ wx.heap[w.heap.size]? = some (.cells #[.string k,.string v,.bool g] 57 (0,0))))
  case first =>
   cases th with
   | true =>
     obtain ⟨hi,e2,e3⟩ : ∃ hi : placeP k l < N.length,true = decide (N[placeP k l].pr.key = k) /\ N[placeP k l].pr = l[placeP k l]'(by rw [<- h.len]; exact hi):=by
      rcases hpk with ⟨_,e2⟩ | h2
      · cases e2
      · exact h2
     obtain rfl : o = some ⟨N[placeP k l].blk,0,none⟩:=by have:=HO.out; rw [List.getElem?_eq_getElem hi] at this; injection this with t; exact t.symm
     have HM:=hid (Wf h (x:=⟨k,v,g⟩) B4.out hi (by simpa using e2.symm))
     clear e2 e3
     go_wp2_with fail
     go_meet
     exact ⟨_,_,_,rfl,HM.out,by omega,HP4.out⟩
   | false =>
     have hin:=TH H4.out (hQ.below B4.out) k hk64 hl1 hl2 B HBB.out
     unfold UB at hin
     have c4:=K4.out
     have hall : Aar w4 b5 B:=fun j hj => by
      rw [Ab HB4.out]
      match j,hj with
      | 0,_ | 1,_ | 2,_ | 3,_ | 4,_ | 5,_ | 6,_ | 7,_ | 8,_ | 9,_ | 10,_ | 11,_ => rfl
     have t0:=hall 0 (by omega)
     have t1:=hall 1 (by omega)
     have t2:=hall 2 (by omega)
     have t3:=hall 3 (by omega)
     have t4:=hall 4 (by omega)
     have t5:=hall 5 (by omega)
     have t6:=hall 6 (by omega)
     have t7:=hall 7 (by omega)
     have t8:=hall 8 (by omega)
     have t9:=hall 9 (by omega)
     have t10:=hall 10 (by omega)
     have t11:=hall 11 (by omega)
     clear hall hpk
     go_wp2_with fail
     refine hin.mono ?_
     rintro e w5 ⟨nb,hg,rfl,g1,g3,s5,u5⟩
     have s5':=Al.mono s5 (G:=KO F w w5) (fun i hi => by
      rcases hi with hi | hi
      · exact .inl hi
      · exact .inr ⟨Nat.le_trans hF0 hi.1,hi.2⟩)
     have u5' : Ac F w w5:=((Ac.of_below F B4.out).trans u5 (fun i hi => .inl hi))
     have hnF : ¬ F w.heap.size:=fun hf => Nat.lt_irrefl _ (hFl _ hf)
     have HP5:=hid (u5.keeps HP4.out hnF)
     have HM:=hid (AaC (x:=⟨k,v,g⟩) h HTH.out g1 s5' u5')
     clear t0 t1 t2 t3 t4 t5 t6 t7 t8 t9 t10 t11 c4 s5 s5' u5 u5' hin
     go_wp2_with fail
     go_meet
     exact ⟨_,_,_,rfl,HM.out,by show _ + k.size <= _; omega,HP5.out⟩
  case rest =>
   obtain ⟨nb,v0,sn,rfl,HM⟩:=hcut
   have hpb : p ≠ w.heap.size:=Nat.ne_of_lt (Al.lt h.sk)
   have HFp:=hid (Al.fp h.sk)
   clear hpk H4 HB4 HP4 B4 hF0 K4 HO HBB HTH hQ h hle
   obtain ⟨hmid,hsn,hpx⟩:=HM.out
   have HMID:=hid hmid
   obtain ⟨N',i,hi,hs,hb,hk,hv,hp,hz,hh,hT,hr⟩:=hmid
   have x1:=(Al.key hs hi).2.1
   rw [hb,hv] at x1
   have c16:=(Al.counts hs).2
   have f16 : wc.frozen? ⟨p,16,none⟩ = false:=Al.free hs (q:=0) (Nat.zero_le _) 16
   have k1 : wc.cell? ⟨w.heap.size,1,none⟩ = some (.string v):=by rw [Ab hpx]; rfl
   have hv0 : v0.size <= sn + v.size:=by simp only at hz; omega
   have HS:=hid hs
   have HB':=hid hb
   have hne2 : nb ≠ w.heap.size:=by
    intro e
    have h2:=(Al.node hs i hi)
    obtain ⟨cs,h3,h4,_⟩:=h2
    rw [hb,e,hpx] at h3
    injection h3 with h3
    injection h3 with h3
    rw [<- h3] at h4
    cases h4
   have HPX:=hid hpx
   clear hs hb hk hv hp hz hh hT hr hpx HM
   go_upto_region 9 with (fail)
   go_region
   go_wp2_with fail
   have HDONE:=hid (fun w1 b => Li.done HMID.out (w1:=w1) b HFp.out)
   refine (clone_any v _ (by omega)).mono ?_
   rintro e w1 ⟨rfl,b1⟩
   have hW : ((wc.setCell ⟨p,16,none⟩ (.int .i64 ((sn : Int) + ((v.size : Int) - (v0.size : Int))))).drew).heap.size = wc.heap.size:=by simp [World.setCell]
   have b1' : Below wc.heap.size ((wc.setCell ⟨p,16,none⟩ (.int .i64 ((sn : Int) + ((v.size : Int) - (v0.size : Int))))).drew) w1:=by rw [<- hW]; exact b1
   have HD:=hid (HDONE.out w1 b1')
   have hs1:=Al.below (Al.kept (Al.setBytes HS.out ((sn : Int) + ((v.size : Int) - (v0.size : Int)))) (w':=(wc.setCell ⟨p,16,none⟩ (.int .i64 ((sn : Int) + ((v.size : Int) - (v0.size : Int))))).drew) (fun _ _ => rfl)) b1
   obtain ⟨y0,y1,y2⟩:=Al.key hs1 hi
   obtain ⟨z1,z2⟩:=Al.setHead hs1 hi
   rw [HB'.out] at y1 y2 z1 z2
   have hpx1 : w1.heap[w.heap.size]? = some (.cells #[.string k,.string v,.bool g] 57 (0,0)):=by
    rw [b1.block w.heap.size (by rw [hW]; exact Ad HPX.out)]
    show (wc.setCell ⟨p,16,none⟩ _).heap[w.heap.size]? = _
    rw [Bn hpb.symm]
    exact HPX.out
   have q2 : w1.cell? ⟨w.heap.size,2,none⟩ = some (.bool g):=by rw [Ab hpx1]; rfl
   clear hs1 hpx1 b1 b1' hW y0 HDONE x1 c16 f16 k1
   go_wp2
   go_ret
   exact ⟨rfl,HD.out⟩
theorem Yv {w : World} {p : Nat} {l : List Aa} {F : Nat -> Prop} (hQ : CP w) (x : Aa) (hx : Aw x = 0) (ht : CN w p l F) (hl1 : l.length < 3518437208880) (hl2 : At l <= 36028797018963968) :
 Calls Tryz.prog 86 #[.pointer (some ⟨p,0,none⟩),x.val'] w fun e w' => e = .returned (.int .i64 0) /\ CN w' p (C2 x l) (KO F w w') /\ Ac F w w':=by
 obtain ⟨N,h⟩:=ht
 have h' : Fq w p l (fun i => F i /\ i < w.heap.size) N:=⟨⟨Al.head h.sk,Al.node h.sk,⟨Al.fp h.sk,Al.lt h.sk⟩,fun y hy => ⟨Al.fn h.sk y hy,Al.nlt h.sk hy⟩,Al.apart h.sk⟩,h.prs,h.hi,h.rising⟩
 refine (Zi (F:=fun i => F i /\ i < w.heap.size) (fun i hi => hi.2) hQ x hx ⟨N,h'⟩ hl1 hl2).mono fun e w' ⟨h1,h2,h3⟩ => ⟨h1,h2.mono (fun i hi => hi.imp (fun a => a.1) id),h3.mono (fun i hi => .inl hi.1)⟩
end
section
open Go.RowKit Go.Shelf Go.Maps Go.WideMaps
attribute [local go_sem] Oper.semAt_some
def AaX (N : List Aq) (v : Value) : Nat:=match v with
 | .pointer (some a) => N.length - N.findIdx (fun x => x.blk == a.block)
 | _ => 0
theorem VR {N : List Aq} {p : Nat} (h : (p :: N.map Aq.blk).Nodup) {i : Nat} (hi : i < N.length) : AaX N (.pointer (some ⟨N[i].blk,0,none⟩)) = N.length - i:=by
 show N.length - N.findIdx (fun x => x.blk == N[i].blk) = _
 congr 1
 rw [List.findIdx_eq hi]
 refine ⟨by simp,fun j hj => ?_⟩
 have : N[j].blk ≠ N[i].blk:=fun e => by
  have:=Hc (p:=p) h (q:=j + 1) (r:=i + 1) (by omega) (by omega) (by rw [BN (show j < N.length by omega),BN hi,e])
  omega
 simpa using this
def I4 (N : List Aq) (pl j : Nat) : List Aa:=((N.drop pl).take (j - pl)).map Aq.pr
theorem Vy {N : List Aq} {pl j : Nat} (h1 : pl <= j) (h2 : j < N.length) : I4 N pl (j + 1) = I4 N pl j ++ [N[j].pr]:=by
 unfold I4
 have h3 : j - pl < (N.drop pl).length:=by rw [List.length_drop]; omega
 rw [show j + 1 - pl = j - pl + 1 by omega,List.take_succ_eq_append_getElem h3,List.map_append]
 simp [show pl + (j - pl) = j by omega]
end
section
open Go.RowKit Go.Shelf Go.Maps Go.WideMaps
attribute [local go_sem] Oper.semAt_some
theorem Abr {C : Nat -> Prop} {W W' : World} (h : ∀ k,C k -> k < W.heap.size) (hs : W.heap.size <= W'.heap.size) : ∀ k,Ba C W W' k -> k < W'.heap.size:=by
 rintro k (h1 | h1)
 · exact Nat.lt_of_lt_of_le (h k h1) hs
 · exact h1.2
set_option maxRecDepth 100000 in
set_option maxHeartbeats 4000000 in
theorem ZH (y tb kb p : Nat) (k : ByteArray) (l : List Aa) (F G : Nat -> Prop) (N : List Aq) (hFG : ∀ i,F i -> G i) (hGt : G tb) (hGk : G kb) (J Jx : List Aa -> (Nat -> Prop) -> World -> Prop) (C : Nat -> Prop) (W : World) (hC : ∀ k,C k -> k < W.heap.size)
 (hJ : Ax J)
 (hY : ∀ pre x C1 W1,J pre C1 W1 -> (∀ k,C1 k -> k < W1.heap.size) -> W.heap.size <= W1.heap.size -> pre ++ [x] <+: AG k l -> ∀ m,YieldAt Fence.wide m Tryz.prog y #[Aa.val' x] W1 fun e W' => Ac C1 W1 W' /\ ((e = .returned (.bool true) /\ J (pre ++ [x]) (Ba C1 W1 W') W' /\ A8 G W1 W') \/ (e = .returned (.bool false) /\ Jx (pre ++ [x]) (Ba C1 W1 W') W')))
 (hT : Fq W p l F N) (ht : W.cell? ⟨tb,0,none⟩ = some (.pointer (some ⟨p,0,none⟩))) (hk : W.cell? ⟨kb,0,none⟩ = some (.string k)) (h0 : J [] C W) :
 Calls Tryz.prog 136 #[.func (.yield y) #[] #[],.pointer (some ⟨tb,0,none⟩),.pointer (some ⟨kb,0,none⟩)] W fun e W' => (∃ v,e = .returned v) /\ ∃ C',(∀ k,C' k -> k < W'.heap.size) /\ (J (AG k l) C' W' \/ ∃ pre,pre <+: AG k l /\ Jx pre C' W'):=by
 have hfi:=Px hT k
 have hfrom : Hid (AG k l = (N.drop (placeP k l)).map Aq.pr):=by
  show _ = _
  unfold AG
  rw [List.map_drop,hT.prs]
 have hle:=C8 k l
 rw [<- hT.len] at hle
 generalize placeP k l = pl at *
 obtain ⟨o,ho⟩ : ∃ o,FN (N[pl]?.map Aq.blk) = .pointer o:=⟨_,rfl⟩
 rw [ho] at hfi
 have HO:=hid ho
 have HT:=hid hT
 have HC0:=hid hC
 clear ho hT hC
 refine (callsIn_wide (n:=5)).1 ?_
 refine callsIn_of_wp Tryz.func136 rfl trivial ?_ rfl
 simp only [Tryz.ntmps136,List.size_toArray,List.length_cons,List.length_nil,Nat.reduceAdd,Nat.reduceSub,Array.replicate_succ,Array.replicate_zero,List.push_toArray,List.append_toArray,List.nil_append,List.cons_append]
 gi_wp2_with (refine ⟨trivial,?_⟩; gi_at_call 92; refine (callsIn_wide.2 hfi).mono ?_; rintro e w1 ⟨rfl,b1⟩)
 have hJ1 : Hid (∃ C,J [] C w1 /\ (∀ k,C k -> k < w1.heap.size)):=⟨C,hJ.later h0 (AX.of_below b1 HC0.out),fun k hk => Nat.lt_of_lt_of_le (HC0.out k hk) b1.size⟩
 have HT1:=hid (HT.out.below b1)
 have hap:=hid (Al.apart HT.out.sk)
 have HS1 : Hid (W.heap.size <= w1.heap.size):=b1.size
 clear b1 HT h0 ht hk hfi HC0
 gi_loopw [4] (fun pv wr => ∃ j o',pl <= j /\ j <= N.length /\ pv = .pointer o' /\ Hid (FN (N[j]?.map Aq.blk) = .pointer o') /\ Hid (Fq wr p l F N) /\ Hid (∃ C,J (I4 N pl j) C wr /\ (∀ k,C k -> k < wr.heap.size)) /\ Hid (W.heap.size <= wr.heap.size)) (fun pv _ => AaX N pv)
 case atStart => exact ⟨pl,o,Nat.le_refl _,hle,rfl,HO,HT1,by
  have e : I4 N pl pl = []:=by unfold I4; rw [Nat.sub_self]; rfl
  rw [e]; exact hJ1,HS1⟩
 case round =>
  obtain ⟨j,o',h1,h2,rfl,ho',hT,hj,HS⟩:=hrel
  clear HT1 HO hJ1 HS1
  by_cases hlt : j < N.length
  · obtain rfl : o' = some ⟨N[j].blk,0,none⟩:=by have:=ho'.out; rw [List.getElem?_eq_getElem hlt] at this; injection this with t; exact t.symm
    obtain ⟨x0,x1,x2⟩:=Al.key hT.out.sk hlt
    have HCN:=hid (Vy h1 hlt)
    have HPX : Hid (I4 N pl (j + 1) <+: AG k l):=by
     show _ <+: _
     rw [hfrom.out]
     unfold I4
     exact (List.take_prefix _ _).map _
    obtain ⟨C1,hj1,hc1⟩:=hj.out
    have hyy:=hY (I4 N pl j) N[j].pr C1 wr hj1 hc1 HS.out (by rw [<- HCN.out]; exact HPX.out) (5 - 1)
    have HRM:=hid (VR hap.out hlt)
    have hnx : Hid (∀ w' : World,(∀ i,F i -> w'.heap[i]? = wr.heap[i]?) -> w'.cell? ⟨N[j].blk,3,none⟩ = some (FN (N[j + 1]?.map Aq.blk))):=fun w' hw => by
     have:=Al.link (Al.kept hT.out.sk hw) (q:=j + 1) (j:=0) (by omega) (by omega)
     rw [BN hlt,CG (.inr (by rw [Nat.add_sub_cancel]; have:=hT.out.one hlt; omega)),hT.out.next0] at this
     exact this
    have HC1:=hid hc1
    clear ho' hc1 hj1 hj
    rw [<- HCN.out] at hyy
    generalize hxb : N[j].blk = xb at *
    generalize N[j].pr = x at *
    obtain ⟨xk,xv,xg⟩:=x
    unfold Aa.val' at hyy
    simp only at x0 x1 x2 hyy
    obtain ⟨fn,tmps,assign,body,hy,hR⟩:=hyy
    obtain ⟨o2,ho2⟩ : ∃ o2,FN (N[j + 1]?.map Aq.blk) = .pointer o2:=⟨_,rfl⟩
    rw [ho2] at hnx
    have HO2:=hid ho2
    clear ho2
    gi_wp2
    refine hR.mono ?_
    rintro e W3 ⟨hT3,(⟨rfl,hJ3,hk3⟩ | ⟨rfl,hJx3⟩)⟩
    · have q3:=hnx.out W3 (fun i hi => hk3 i (hFG i hi))
      have HT3 : Hid (Fq W3 p l F N):=⟨Al.kept hT.out.sk (fun i hi => hk3 i (hFG i hi)),hT.out.prs,hT.out.hi,hT.out.rising⟩
      have HM : Hid (AaX N (.pointer o2) < AaX N (.pointer (some ⟨xb,0,none⟩))):=by
       show _ < _
       rw [HRM.out]
       by_cases hj1 : j + 1 < N.length
       · obtain rfl : o2 = some ⟨N[j + 1].blk,0,none⟩:=by have:=HO2.out; rw [List.getElem?_eq_getElem hj1] at this; injection this with t; exact t.symm
         rw [VR hap.out hj1]
         omega
       · obtain rfl : o2 = none:=by have:=HO2.out; rw [List.getElem?_eq_none (by omega)] at this; injection this with t; exact t.symm
         show 0 < _
         omega
      have HJ3 : Hid (∃ C,J (I4 N pl (j + 1)) C W3 /\ (∀ k,C k -> k < W3.heap.size)):=⟨_,hJ3,Abr HC1.out hT3.size⟩
      have HS3 : Hid (W.heap.size <= W3.heap.size):=Nat.le_trans HS.out hT3.size
      clear hJ3 hk3 hT3
      gi_wp2
      exact ⟨⟨j + 1,o2,by omega,by omega,rfl,HO2,HT3,HJ3,HS3⟩,HM.out⟩
    · have HE : Hid (∃ C',(∀ k,C' k -> k < W3.heap.size) /\ (J (AG k l) C' W3 \/ ∃ pre,pre <+: AG k l /\ Jx pre C' W3)):=⟨_,Abr HC1.out hT3.size,.inr ⟨_,HPX.out,hJx3⟩⟩
      clear hJx3 hT3
      gi_wp2
      refine bodyPost_ret (results_none rfl _ _ _) rfl ?_
      exact ⟨⟨_,rfl⟩,HE.out⟩
  · obtain rfl : j = N.length:=by omega
    obtain rfl : o' = none:=by have:=ho'.out; rw [List.getElem?_eq_none (Nat.le_refl _)] at this; injection this with t; exact t.symm
    have HCF : Hid (I4 N pl N.length = AG k l):=by
     show _ = _
     unfold I4
     rw [hfrom.out,List.take_of_length_le (by simp)]
    gi_wp2
    go_end0
    obtain ⟨C1,hj1,hc1⟩:=hj.out
    exact ⟨⟨_,rfl⟩,C1,hc1,.inl (by rw [<- HCF.out]; exact hj1)⟩
set_option maxRecDepth 100000 in
set_option maxHeartbeats 2000000 in
theorem NW {w : World} {p : Nat} {l : List Aa} {F : Nat -> Prop} (hT : CN w p l F) (k : ByteArray) (hk : k.size <= 281474976710656) :
 Calls Tryz.prog 90 #[.pointer (some ⟨p,0,none⟩),.string k] w fun e w' => ∃ g lb G,e = .returned (.func (.func g) #[] lb) /\ (∀ args w,(callFunc g args).run Tryz.prog w = .ok (.enter g args) w) /\
  (∀ w'',A8 G w' w'' -> w'.heap.size <= w''.heap.size -> FO g lb G (AG k l) w'') /\ (∀ j,G j -> j < w'.heap.size) /\ Below w.heap.size w w' /\ (∀ j,G j -> F j \/ w.heap.size <= j):=by
 obtain ⟨N,hT⟩:=hT
 have HT : Hid (Fq w p l (fun i => F i /\ i < w.heap.size) N):=⟨⟨Al.head hT.sk,Al.node hT.sk,⟨Al.fp hT.sk,Al.lt hT.sk⟩,fun y hy => ⟨Al.fn hT.sk y hy,Al.nlt hT.sk hy⟩,Al.apart hT.sk⟩,hT.prs,hT.hi,hT.rising⟩
 clear hT
 obtain ⟨W0,hW0⟩ : ∃ W0,(w.alloc (.cells #[.pointer (some ⟨p,0,none⟩)] 95)).alloc (.cells #[.string k] 9) = W0:=⟨_,rfl⟩
 have hb0 : Below w.heap.size w W0:=by rw [<- hW0]; exact ((Below.refl _ w).alloc (Nat.le_refl _) _).alloc (by simp) _
 have hsz : W0.heap.size = w.heap.size + 2:=by rw [<- hW0]; simp
 have ht0 : W0.heap[w.heap.size]? = some (.cells #[.pointer (some ⟨p,0,none⟩)] 95 (0,0)):=by
  rw [<- hW0,Below.heap_alloc _ _ _ (by simp)]; exact heap_alloc_new _ _
 have hk0 : W0.heap[w.heap.size + 1]? = some (.cells #[.string k] 9 (0,0)):=by
  have:=heap_alloc_new (w.alloc (.cells #[.pointer (some ⟨p,0,none⟩)] 95)) (.cells #[.string k] 9)
  rw [World.size_alloc,hW0] at this
  exact this
 have HB0:=hid hb0
 have HSZ:=hid hsz
 have HT0:=hid ht0
 have HK0:=hid hk0
 have z2 : W0.cell? ⟨w.heap.size + 1,0,none⟩ = some (.string k):=by rw [Ab hk0]; rfl
 clear hb0 hsz ht0 hk0
 have hmf : ∀ (fn : Fn) (first cap : Array Value) (w : World),(Instr.makeFunc fn first cap).run Tryz.prog w = .ok (.func fn first cap) w:=fun _ _ _ _ => rfl
 go_enter Tryz.func90,Tryz.ntmps90
 go_wp2_with fail
 refine (clone_any k _ hk).mono ?_
 rintro e w1 ⟨rfl,b1⟩
 have hs:=HSZ.out
 have ht1:=(b1.block w.heap.size (by omega)).trans HT0.out
 have hk1:=(b1.block (w.heap.size + 1) (by omega)).trans HK0.out
 have B1:=hid (HB0.out.trans (b1.mono (by omega)))
 have z0 : w1.cell? ⟨w.heap.size + 1,0,none⟩ = some (.string k):=by rw [Ab hk1]; rfl
 have z1 : w1.frozen? ⟨w.heap.size + 1,0,none⟩ = false:=Ag hk1 0
 have HG1 : Hid (w.heap.size + 2 <= w1.heap.size):=by show _ <= _; have:=b1.size; omega
 have HT1:=hid ht1
 have HK1:=hid hk1
 clear b1 ht1 hk1 hs hW0
 go_wp2
 go_ret
 have hbe : Below w.heap.size w (w1.setCell ⟨w.heap.size + 1,0,none⟩ (.string k)):=B1.out.setCell (p:=⟨w.heap.size + 1,0,none⟩) (by simp) _
 have hse : (w1.setCell ⟨w.heap.size + 1,0,none⟩ (.string k)).heap.size = w1.heap.size:=by simp [World.setCell]
 have hte : (w1.setCell ⟨w.heap.size + 1,0,none⟩ (.string k)).heap[w.heap.size]? = some (.cells #[.pointer (some ⟨p,0,none⟩)] 95 (0,0)):=(Bn (by omega)).trans HT1.out
 have hke:=block_set HK1.out 0 (.string k)
 have hg1:=HG1.out
 obtain ⟨wE,hwE⟩ : ∃ wE,w1.setCell ⟨w.heap.size + 1,0,none⟩ (.string k) = wE:=⟨_,rfl⟩
 rw [hwE] at hbe hse hte hke
 obtain ⟨G,hGd⟩ : ∃ G : Nat -> Prop,(fun i => (F i /\ i < w.heap.size) \/ i = w.heap.size \/ i = w.heap.size + 1) = G:=⟨_,rfl⟩
 have hG1 : ∀ i,G i ↔ (F i /\ i < w.heap.size) \/ i = w.heap.size \/ i = w.heap.size + 1:=fun i => by rw [<- hGd]
 have key : ∀ w'',A8 G wE w'' -> wE.heap.size <= w''.heap.size -> FO 136 #[.pointer (some ⟨w.heap.size,0,none⟩),.pointer (some ⟨w.heap.size + 1,0,none⟩)] G (AG k l) w'':=by
  intro w'' hw hs2 y J Jx C hJ hJx hC hY h0
  have hTT : Fq w'' p l (fun i => F i /\ i < w.heap.size) N:=by
   have h1:=HT.out.below hbe
   exact ⟨Al.kept h1.sk (fun i hi => hw i ((hG1 i).2 (.inl hi))),h1.prs,h1.hi,h1.rising⟩
  have ht2:=(hw w.heap.size ((hG1 _).2 (.inr (.inl rfl)))).trans hte
  have hk2:=(hw (w.heap.size + 1) ((hG1 _).2 (.inr (.inr rfl)))).trans hke
  exact ZH y w.heap.size (w.heap.size + 1) p k l _ G N (fun i hi => (hG1 i).2 (.inl hi)) ((hG1 _).2 (.inr (.inl rfl))) ((hG1 _).2 (.inr (.inr rfl))) J Jx C w'' hC hJ hY hTT (by rw [Ab ht2]; rfl) (by rw [Ab hk2]; rfl) h0
 refine ⟨136,_,G,rfl,enters_of Tryz.func136 (by kernel_rfl) rfl,by rw [hwE]; exact key,fun j hj => ?_,by rw [hwE]; exact hbe,fun j hj => ?_⟩
 · rw [hwE,hse]
   rcases (hG1 j).1 hj with hj | hj | hj
   · have:=hj.2; omega
   · omega
   · omega
 · rcases (hG1 j).1 hj with hj | hj | hj
   · exact .inl hj.1
   · exact .inr (by omega)
   · exact .inr (by omega)
end
end Go.Proofs.YtnafjlhohbhcoaaGreatDoor
