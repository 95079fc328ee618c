/- Parts of the proof. -/
import Derived.Handy
import Derived.Test.YtnafjlhohbhcoaaGreatDoorQ14
import Derived.Test.YtnafjlhohbhcoaaGreatDoorQ45
namespace Go.Proofs.YtnafjlhohbhcoaaGreatDoor
open Go.Lib (hid)
set_option linter.unusedVariables false
section
open Go.RowKit Go.Maps Go.WideMaps Go.Shelf
attribute [local go_sem] Oper.semAt_some
set_option maxRecDepth 100000 in
set_option maxHeartbeats 4000000 in
theorem Aa6 (y tb kb B g0 c p : Nat) (k : ByteArray) {l : List Aa} {G' : Nat -> Prop} (hGG : ∀ j,j < B -> G' j) (J Jx : List Aa -> (Nat -> Prop) -> World -> Prop) (C : Nat -> Prop) (W : World) (hC : ∀ k,C k -> k < W.heap.size)
 (hJ : Ax J) (hJx : Ax Jx)
 (hY : ∀ pre x C1 W1,J pre C1 W1 -> (∀ k,C1 k -> k < W1.heap.size) -> W.heap.size <= W1.heap.size -> pre ++ [x] <+: AG k l -> ∀ m,YieldAt Fence.wide m Tryz.prog y #[x.val'] W1 fun e W' => Ac C1 W1 W' /\
   ((e = .returned (.bool true) /\ J (pre ++ [x]) (Ba C1 W1 W') W' /\ A8 G' W1 W') \/ (e = .returned (.bool false) /\ Jx (pre ++ [x]) (Ba C1 W1 W') W')))
 (htb : W.cell? ⟨tb,0,none⟩ = some (.slice (some ⟨g0,0,none⟩) 1 c)) (hkb : W.cell? ⟨kb,0,none⟩ = some (.string k)) (hpb : W.cell? ⟨g0,0,none⟩ = some (.pointer (some ⟨p,0,none⟩))) (hT : Ib W p l B) (hB : B <= W.heap.size) (h0 : J [] C W) :
 Calls Tryz.prog 137 #[.func (.yield y) #[] #[],.pointer (some ⟨tb,0,none⟩),.pointer (some ⟨kb,0,none⟩)] W fun e W' => (∃ v,e = .returned v) /\ ∃ C',(∀ k,C' k -> k < W'.heap.size) /\ (J (AG k l) C' W' \/ ∃ pre,pre <+: AG k l /\ Jx pre C' W'):=by
 obtain ⟨W0,hW0⟩ : ∃ W0,W.alloc (.cells #[.func (.yield y) #[] #[]] 75) = W0:=⟨_,rfl⟩
 have hb0 : Below W.heap.size W W0:=by rw [<- hW0]; exact (Below.refl _ W).alloc (Nat.le_refl _) _
 have hs0 : W.heap.size + 1 <= W0.heap.size:=by rw [<- hW0]; simp
 have hy0 : W0.heap[W.heap.size]? = some (.cells #[.func (.yield y) #[] #[]] 75 (0,0)):=by rw [<- hW0]; exact heap_alloc_new _ _
 have ht0 : W0.cell? ⟨tb,0,none⟩ = some (.slice (some ⟨g0,0,none⟩) 1 c):=(hb0.cell (World.block_lt_of_cell? W ⟨tb,0,none⟩ htb)).trans htb
 have hk0 : W0.cell? ⟨kb,0,none⟩ = some (.string k):=(hb0.cell (World.block_lt_of_cell? W ⟨kb,0,none⟩ hkb)).trans hkb
 have hp0 : W0.cell? ⟨g0,0,none⟩ = some (.pointer (some ⟨p,0,none⟩)):=(hb0.cell (World.block_lt_of_cell? W ⟨g0,0,none⟩ hpb)).trans hpb
 have HFR:=hid (Vt k (hT.below (hb0.mono hB)) (Nat.le_trans hB hb0.size))
 have HJ:=hid hJ
 have HJX:=hid hJx
 have HY:=hid hY
 have HC:=hid hC
 have HGG:=hid hGG
 have H0:=hid h0
 have HB0:=hid hb0
 have HY0:=hid hy0
 clear htb hkb hpb hT h0 hb0 hy0 hJ hJx hY hC hGG
 refine (callsIn_wide (n:=6)).1 ?_
 refine callsIn_of_wp_marks Tryz.func137 rfl trivial ?_ rfl
 simp only [Tryz.ntmps137,List.size_toArray,List.length_cons,List.length_nil,Nat.reduceAdd,Nat.reduceSub,Array.replicate_succ,Array.replicate_zero,List.push_toArray,List.append_toArray,List.nil_append,List.cons_append]
 refine wpIn_wide.2 ?_
 go_wp2_with fail
 refine wp_loop_rounds 2 ?_
 rw [rounds_succ]
 go_wp2_with fail
 refine HFR.out.mono ?_
 rintro e W1 ⟨g,lb,G,rfl,eg,hgi,hG,b1,hGB⟩
 have hy1:=(b1.block _ (Ad HY0.out)).trans HY0.out
 have hs1:=b1.size
 have HJ1 : Hid (Ct J (fun k => W.heap.size <= k /\ k < W1.heap.size) [] (fun k => k < W1.heap.size) W1):=⟨C,HJ.out.later H0.out (AX.of_below (HB0.out.trans (b1.mono HB0.out.size)) HC.out),fun k hk => by have:=HC.out k hk; omega,fun k hk => by have:=HC.out k hk; omega,fun k hk => ⟨fun h => by have:=HC.out k h; omega,hk.2⟩⟩
 have HGI : Hid (∀ j,G j -> G' j \/ (W.heap.size <= j /\ j < W1.heap.size)):=fun j hj => by
  rcases hGB j hj with h | h
  · exact .inl (HGG.out j h)
  · exact .inr ⟨by omega,hG j hj⟩
 have HY1:=hid hy1
 clear hy1 hGB b1 HFR HB0 HY0 ht0 hk0 hp0
 go_wp2_with fail
 refine Im 5 16 6 rfl eg hgi hG rfl
  (fun pre Ci W' => Ct J (fun k => W.heap.size <= k /\ k < W1.heap.size) pre Ci W' /\ RU W.heap.size (.cells #[.func (.yield y) #[] #[]] 75 (0,0)) Ci W' /\ W1.heap.size <= W'.heap.size)
  (fun c pre Ci W' => c = .ret /\ Ct Jx (fun k => W.heap.size <= k /\ k < W1.heap.size) pre Ci W')
  (Ax.and (DG HJ.out _ id) (Ax.and (KH _ _) (fun s C C' A B h t _ => Nat.le_trans h t.size)))
  (fun c => Ax.and (DW _) (DG HJX.out _ id))
  (fun k => k < W1.heap.size) (fun k hk => hk)
  ⟨HJ1.out,⟨HY1.out,by omega⟩,Nat.le_refl _⟩
  ?assign ?body ?ends
 case assign =>
  intro l x W K hK
  unfold Aa.val' at *
  gi_wp2
  exact hK _ _ (Nat.le_refl _) (AF.new W x) ((Below.refl _ W).alloc (Nat.le_refl _) _)
 case body =>
  rintro ll pre x Bx Ci W2 ⟨⟨C1,j1,j2,j3,j4⟩,⟨hyb,hCy⟩,hWW⟩ hCi hWs hp hCx hBx hbx
  have x0:=hbx.c0
  have x1:=hbx.c1
  have x2:=hbx.c2
  have hyc : W2.cell? ⟨W.heap.size,0,none⟩ = some (.func (.yield y) #[] #[]):=by rw [Ab hyb]; rfl
  unfold Aa.val'
  obtain ⟨fn,tmps,assign,body,hy,hRR⟩:=La (l:=ll) (m':=5 - 1) (HY.out pre x C1 W2 j1 j3 (by omega) hp 0)
  have HOY : Hid (∀ (J' : List Aa -> (Nat -> Prop) -> World -> Prop) (s : List Aa) (W' : World),Ac C1 W2 W' -> J' s (Ba C1 W2 W') W' -> Ct J' (fun k => W.heap.size <= k /\ k < W1.heap.size) s (Ba Ci W2 W') W'):=fun J' s W' hT hj => Ct.yielded (fun k hk => .inl (j2 k hk)) j3 j4 (Nat.le_refl _) hT hj
  have HTT : Hid (∀ W',Ac C1 W2 W' -> Ac Ci W2 W' /\ RU W.heap.size (.cells #[.func (.yield y) #[] #[]] 75 (0,0)) (Ba Ci W2 W') W' /\ W1.heap.size <= W'.heap.size):=fun W' hT => ⟨hT.mono (fun k hk => .inl (j2 k hk)),⟨(hT.block _ (j4 _ ⟨Nat.le_refl _,by omega⟩).2 (j4 _ ⟨Nat.le_refl _,by omega⟩).1).trans hyb,.inl hCy⟩,Nat.le_trans hWW hT.size⟩
  have HKG : Hid (∀ W',Ac C1 W2 W' -> A8 G' W2 W' -> A8 G W2 W'):=fun W' hT hk j hj => by
   rcases HGI.out j hj with h | h
   · exact hk j h
   · exact hT.block j (j4 j h).2 (j4 j h).1
  clear j1 j2 j3 j4 hp HY
  obtain ⟨xk,xv,xg⟩:=x
  unfold Aa.val' at hy
  simp only at x0 x1 x2 hy
  gi_wp2
  refine hRR.mono ?_
  rintro e W3 ⟨hT,(⟨rfl,hJ3,hk3⟩ | ⟨rfl,hJx3⟩)⟩
  · have HO:=hid (HOY.out J _ W3 hT hJ3)
    have HT3:=hid (HTT.out W3 hT)
    have HK3 : Hid (A8 G W2 W3):=HKG.out W3 hT hk3
    clear hJ3 hk3 hT
    gi_wp2
    exact ⟨HT3.out.1,HK3.out,HO.out,HT3.out.2⟩
  · have HO:=hid (HOY.out Jx _ W3 hT hJx3)
    have HT3:=hid (HTT.out W3 hT)
    clear hJx3 hT
    gi_wp2
    exact ⟨HT3.out.1,rfl,HO.out⟩
 case ends =>
  refine ⟨?_,?_⟩
  · rintro D Ci W2 hD hnD hCi ⟨⟨C1,j1,j2,j3,j4⟩,-,-⟩ hK
    go_wp2
    rw [rounds_succ]
    go_wp2
    refine ⟨by simp,.inl ⟨_,_,rfl,run_takeDeferred hK,?_⟩⟩
    exact ⟨_,results_none rfl _ _ _,⟨_,rfl⟩,C1,fun k hk => by have:=j3 k hk; simpa using this,.inl (HJ.out.later j1 (AX.putObj _ _ (fun h => hnD (j2 _ h))))⟩
  · rintro D c pre Ci W2 hD hnD hCi hp ⟨rfl,C1,j1,j2,j3,j4⟩ hK
    go_wp2
    refine ⟨by simp,.inl ⟨_,_,rfl,run_takeDeferred hK,?_⟩⟩
    exact ⟨_,results_none rfl _ _ _,⟨_,rfl⟩,C1,fun k hk => by have:=j3 k hk; simpa using this,.inr ⟨_,hp,HJX.out.later j1 (AX.putObj _ _ (fun h => hnD (j2 _ h)))⟩⟩
end
section
open Go.RowKit Go.Maps Go.WideMaps Go.Shelf
theorem CQ.is {w : World} {rv : Value} {l : List Aa} {F : Nat -> Prop} {B : Nat} (h : CQ w rv l F) (hF : ∀ k,F k -> k < B) : ∃ g c p,rv = .slice (some ⟨g,0,none⟩) 1 c /\ g < B /\ w.cell? ⟨g,0,none⟩ = some (.pointer (some ⟨p,0,none⟩)) /\ Ib w p l B:=by
 obtain ⟨g,c,p,h1,h2,h3,g',c',k1,k2,k3,k4,k5,k6⟩:=h
 exact ⟨g,c,p,h1,hF _ h2,h3,g',c',k1,k2,hF _ k3,hF _ k4,k5,k6⟩
set_option maxRecDepth 100000 in
set_option maxHeartbeats 1000000 in
theorem Tp {w : World} {rv : Value} {l : List Aa} {F : Nat -> Prop} {B : Nat} (k : ByteArray) (h : CQ w rv l F) (hF : ∀ k,F k -> k < B) (hB : B <= w.heap.size) :
 Calls Tryz.prog 91 #[rv,.string k] w fun e w' => ∃ g lb G,e = .returned (.func (.func g) #[] lb) /\ Di w' (.func (.func g) #[] lb) (AG k l) G /\ Below w.heap.size w w' /\ ∀ j,G j -> j < B \/ w.heap.size <= j:=by
 obtain ⟨g0,c,p,rfl,hg0,hpb,hT⟩:=h.is hF
 obtain ⟨W0,hW0⟩ : ∃ W0,(w.alloc (.cells #[.slice (some ⟨g0,0,none⟩) 1 c] 115)).alloc (.cells #[.string k] 9) = W0:=⟨_,rfl⟩
 have hs0 : W0.heap.size = w.heap.size + 2:=by rw [<- hW0]; simp
 have hb1 : Below (w.alloc (.cells #[.slice (some ⟨g0,0,none⟩) 1 c] 115)).heap.size (w.alloc (.cells #[.slice (some ⟨g0,0,none⟩) 1 c] 115)) W0:=by rw [<- hW0]; exact (Below.refl _ _).alloc (Nat.le_refl _) _
 have hb0 : Below w.heap.size w W0:=((Below.refl _ w).alloc (Nat.le_refl _) _).trans (hb1.mono (by simp))
 have k0 : W0.heap[w.heap.size]? = some (.cells #[.slice (some ⟨g0,0,none⟩) 1 c] 115 (0,0)):=(hb1.block _ (by simp)).trans (heap_alloc_new _ _)
 have k1 : W0.heap[w.heap.size + 1]? = some (.cells #[.string k] 9 (0,0)):=by
  have:=heap_alloc_new (w.alloc (.cells #[.slice (some ⟨g0,0,none⟩) 1 c] 115)) (.cells #[.string k] 9)
  rw [hW0,World.size_alloc] at this
  exact this
 have hp0:=(hb0.block g0 (by omega))
 obtain ⟨G,hGd⟩ : ∃ G : Nat -> Prop,(fun i => i < B \/ i = w.heap.size \/ i = w.heap.size + 1) = G:=⟨_,rfl⟩
 have hG1 : ∀ i,G i ↔ i < B \/ i = w.heap.size \/ i = w.heap.size + 1:=fun i => by rw [<- hGd]
 have key : ∀ w'',A8 G W0 w'' -> W0.heap.size <= w''.heap.size -> FO 137 #[.pointer (some ⟨w.heap.size,0,none⟩),.pointer (some ⟨w.heap.size + 1,0,none⟩)] G (AG k l) w'':=by
  intro w'' hw hs2 y J Jx C hJ hJx hC hY h0
  have q0:=(hw w.heap.size ((hG1 _).2 (.inr (.inl rfl)))).trans k0
  have q1:=(hw (w.heap.size + 1) ((hG1 _).2 (.inr (.inr rfl)))).trans k1
  have kB : ∀ i,i < B -> w''.heap[i]? = w.heap[i]?:=fun i hi => (hw i ((hG1 _).2 (.inl hi))).trans (hb0.block i (by omega))
  have hT2 : Ib w'' p l B:=by
   obtain ⟨g',c',e1,e2,e3,e4,e5,e6⟩:=hT
   refine ⟨g',c',(kB _ e3).trans e1,?_,e3,e4,e5,e6⟩
   refine ⟨e2.1,?_⟩
   rcases e2.2 with z | ⟨gg,cap,cur,z1,z2,z3,z4⟩
   · exact .inl z
   · have hgg : gg = g':=by injection z1 with z1; injection z1 with z1; injection z1 with z1; exact z1.symm
     exact .inr ⟨gg,cap,cur,z1,z2,(kB _ (by rw [hgg]; exact e4)).trans z3,z4⟩
  exact Aa6 y w.heap.size (w.heap.size + 1) B g0 c p k (fun j hj => (hG1 j).2 (.inl hj)) J Jx C w'' hC hJ hJx hY (by rw [Ab q0]; rfl) (by rw [Ab q1]; rfl) ((World.cell?_of_block (w:=w) (a:=⟨g0,0,none⟩) (kB g0 hg0)).trans hpb) hT2 (by omega) h0
 have HKY:=hid key
 have HB0:=hid hb0
 have HS0:=hid hs0
 have HG1:=hid hG1
 clear key hb0 hb1 hs0 k0 k1 hp0 hpb hT hG1
 go_enter Tryz.func91,Tryz.ntmps91
 go_wp2
 go_ret
 exact ⟨_,_,G,rfl,.inr ⟨_,_,rfl,enters_of Tryz.func137 (by kernel_rfl) rfl,HKY.out,fun j hj => by
  rcases (HG1.out j).1 hj with h | h | h <;> (have:=HS0.out; omega)⟩,HB0.out,fun j hj => by
  rcases (HG1.out j).1 hj with h | h | h <;> omega⟩
set_option maxRecDepth 100000 in
set_option maxHeartbeats 1000000 in
theorem UG {w : World} {rv : Value} {l : List Aa} {F : Nat -> Prop} (k : ByteArray) (h : CQ w rv l F) (hF : ∀ k,F k -> k < w.heap.size) :
 Calls Tryz.prog 62 #[rv,.string k] w fun e w' => e = .returned (.tuple #[((DS k l).getD zeroP).val',.bool (DS k l).isSome]) /\ Below w.heap.size w w':=by
 obtain ⟨g0,c,p,rfl,hg0,hpb,hT⟩:=h.is hF
 have hb0:=(Below.refl _ w).alloc (Nat.le_refl _) (.cells #[.string ⟨#[]⟩,.string ⟨#[]⟩,.bool false] 57)
 have hnew:=heap_alloc_new w (.cells #[.string ⟨#[]⟩,.string ⟨#[]⟩,.bool false] 57)
 have hs0 : w.heap.size + 1 <= (w.alloc (.cells #[.string ⟨#[]⟩,.string ⟨#[]⟩,.bool false] 57)).heap.size:=by simp
 have hgt:=Aal k (hT.below hb0) (by omega)
 generalize DS k l = R at *
 have HGT:=hid hgt
 have hpb0:=(hb0.cell hg0).trans hpb
 have HB0:=hid hb0
 have HN:=hid hnew
 clear h hb0 hnew hpb hT hgt
 go_enter Tryz.func62,Tryz.ntmps62
 go_wp2_with fail
 generalize w.alloc (.cells #[.string ⟨#[]⟩,.string ⟨#[]⟩,.bool false] 57) = w0 at *
 refine wp_loop_rounds 2 ?_
 rw [rounds_succ]
 go_wp2_with fail
 refine HGT.out.mono ?_
 rintro e w1 ⟨rfl,b1⟩
 have hn1:=(b1.block _ (Ad HN.out)).trans HN.out
 have B1:=hid (HB0.out.trans (b1.mono HB0.out.size))
 have hs1:=B1.out.size
 clear b1 HGT HN HB0
 cases R with
 | some x =>
   obtain ⟨xk,xv,xg⟩:=x
   unfold Aa.val'
   simp only [Option.getD_some,Option.isSome_some]
   have hq:=(((Below.refl w1.heap.size w1).alloc (Nat.le_refl _) (.cells #[.string xk,.string xv,.bool xg] 57)).block _ (Ad hn1)).trans hn1
   have q0 : (w1.alloc (.cells #[.string xk,.string xv,.bool xg] 57)).cell? ⟨w.heap.size,0,none⟩ = some (.string ⟨#[]⟩):=by rw [Ab hq]; rfl
   have q1 : (w1.alloc (.cells #[.string xk,.string xv,.bool xg] 57)).cell? ⟨w.heap.size,1,none⟩ = some (.string ⟨#[]⟩):=by rw [Ab hq]; rfl
   have q2 : (w1.alloc (.cells #[.string xk,.string xv,.bool xg] 57)).cell? ⟨w.heap.size,2,none⟩ = some (.bool false):=by rw [Ab hq]; rfl
   have f0:=Ag hq 0
   have f1:=Ag hq 1
   have f2:=Ag hq 2
   have BE : Hid (∀ v0 v1 v2,Below w.heap.size w ((((w1.alloc (.cells #[.string xk,.string xv,.bool xg] 57)).setCell ⟨w.heap.size,0,none⟩ v0).setCell ⟨w.heap.size,1,none⟩ v1).setCell ⟨w.heap.size,2,none⟩ v2)):=fun v0 v1 v2 => (((B1.out.alloc hs1 _).setCell (p:=⟨w.heap.size,0,none⟩) (Nat.le_refl _) _).setCell (p:=⟨w.heap.size,1,none⟩) (Nat.le_refl _) _).setCell (p:=⟨w.heap.size,2,none⟩) (Nat.le_refl _) _
   clear hq
   go_wp2
   refine bodyPost_ret (v:=.tuple #[.agg #[.string xk,.string xv,.bool xg],.bool true]) ?_ rfl ⟨rfl,BE.out _ _ _⟩
   rw [results_cell_tmp rfl]
   go_simp
 | none =>
   unfold Aa.val' zeroP
   simp only [Option.getD_none,Option.isSome_none]
   have hq:=(((Below.refl w1.heap.size w1).alloc (Nat.le_refl _) (.cells #[.string ⟨#[]⟩,.string ⟨#[]⟩,.bool false] 57)).block _ (Ad hn1)).trans hn1
   have q0 : (w1.alloc (.cells #[.string ⟨#[]⟩,.string ⟨#[]⟩,.bool false] 57)).cell? ⟨w.heap.size,0,none⟩ = some (.string ⟨#[]⟩):=by rw [Ab hq]; rfl
   have q1 : (w1.alloc (.cells #[.string ⟨#[]⟩,.string ⟨#[]⟩,.bool false] 57)).cell? ⟨w.heap.size,1,none⟩ = some (.string ⟨#[]⟩):=by rw [Ab hq]; rfl
   have q2 : (w1.alloc (.cells #[.string ⟨#[]⟩,.string ⟨#[]⟩,.bool false] 57)).cell? ⟨w.heap.size,2,none⟩ = some (.bool false):=by rw [Ab hq]; rfl
   have f0:=Ag hq 0
   have f1:=Ag hq 1
   have f2:=Ag hq 2
   have BE : Hid (∀ v0 v1 v2,Below w.heap.size w ((((w1.alloc (.cells #[.string ⟨#[]⟩,.string ⟨#[]⟩,.bool false] 57)).setCell ⟨w.heap.size,0,none⟩ v0).setCell ⟨w.heap.size,1,none⟩ v1).setCell ⟨w.heap.size,2,none⟩ v2)):=fun v0 v1 v2 => (((B1.out.alloc hs1 _).setCell (p:=⟨w.heap.size,0,none⟩) (Nat.le_refl _) _).setCell (p:=⟨w.heap.size,1,none⟩) (Nat.le_refl _) _).setCell (p:=⟨w.heap.size,2,none⟩) (Nat.le_refl _) _
   clear hq
   go_wp2
   rw [rounds_succ]
   go_wp2
   refine bodyPost_ret (v:=.tuple #[.agg #[.string ⟨#[]⟩,.string ⟨#[]⟩,.bool false],.bool false]) ?_ rfl ⟨rfl,BE.out _ _ _⟩
   rw [results_cell_tmp rfl]
   go_simp
theorem SI (w : World) (base : Nat) (hb : base <= w.heap.size) (x : Value) (e : TypeId) : (w.alloc (.cells #[x] e)).ownsRow base e 1 (.slice (some ⟨w.heap.size,0,none⟩) 1 1) 1 [x]:=
 ⟨by simp,.inr ⟨w.heap.size,1,#[x],rfl,hb,heap_alloc_new w _,Nat.le_refl _,by decide,by simp,by simp⟩⟩
theorem QM {w : World} {g : Nat} {lb : Array Value} {l : List Aa} {G : Nat -> Prop} (h1 : ∀ args w,(callFunc g args).run Tryz.prog w = .ok (.enter g args) w) (h2 : ∀ w'',A8 G w w'' -> w.heap.size <= w''.heap.size -> FO g lb G l w'') (h3 : ∀ j,G j -> j < w.heap.size) : Di w (.func (.func g) #[] lb) l G:=.inr ⟨g,lb,rfl,h1,h2,h3⟩
set_option maxRecDepth 100000 in
set_option maxHeartbeats 2000000 in
theorem OX {w : World} {d b q mp c : Nat} {tv : Value} {st : AQ} {dn ap : Bool} {S : Bx} {F Fb Fm Fr : Nat -> Prop} (h : AU w d b q mp tv st dn c ap S F Fb Fm Fr) (k : ByteArray) (hk : k.size <= 281474976710656) (hfew : st.runs.length <= 3) :
 Calls Tryz.prog 59 #[.pointer (some ⟨d,0,none⟩),.string k] w fun e w' => ∃ v xs,e = .returned v /\ LP (fun _ => True) w' w.heap.size v xs ((st.mem :: st.runs).map (AG k)) /\ Below w.heap.size w w':=by
 have hsq:=NW h.mem k hk
 have c2:=h.head.c2
 have c3:=h.head.c3
 have hdl:=h.head.lt
 have HF : Hid (∀ j,Fm j \/ Fr j -> j < w.heap.size):=fun j hj => h.lt j (by rcases hj with hj | hj; exact h.fm j hj; exact h.fr j hj)
 have HRN:=hid h.runs
 have HSQ:=hid hsq
 obtain ⟨ta,tc,rfl,htc1,htc2,_⟩:=h.runs.read
 obtain ⟨i0,hi,hz0,hz1,hz2⟩:=info_parts infoSeq
 obtain ⟨R,hR⟩ : ∃ R,st.runs.length = R:=⟨_,rfl⟩
 rw [hR] at hfew c3 htc1
 have HRN2:=HRN
 clear h hsq
 go_enter Tryz.func59,Tryz.ntmps59
 go_wp2_with fail
 refine HSQ.out.mono ?_
 rintro e w1 ⟨g,lb,G,rfl,eg,hgi,hG,b1,hGF⟩
 have hsv:=QM eg hgi hG
 have hal:=(Below.refl w1.heap.size w1).alloc (Nat.le_refl _) (.cells #[.func (.func g) #[] lb] 107)
 have B1:=hid (b1.trans (hal.mono b1.size))
 have hs1:=b1.size
 have HO1 : Hid (LP (fun _ => True) (w1.alloc (.cells #[.func (.func g) #[] lb] 107)) w.heap.size (.slice (some ⟨w1.heap.size,0,none⟩) 1 1) [.func (.func g) #[] lb] ((st.mem :: st.runs.take 0).map (AG k))):=
  ⟨SI w1 w.heap.size b1.size _ _,fun i hi => by
    obtain rfl : i = 0:=by simp at hi; omega
    exact ⟨_,G,rfl,hsv.below hal,fun j hj => ⟨⟨fun e => by have:=hG j hj; simp [Value.ownBlock] at e; omega,Nat.lt_of_lt_of_le (hG j hj) hal.size⟩,trivial⟩⟩⟩
 have d3 : (w1.alloc (.cells #[.func (.func g) #[] lb] 107)).cell? ⟨d,3,none⟩ = some (.slice ta R tc):=(B1.out.cell hdl).trans c3
 clear hal b1 hsv hgi hG hGF eg HSQ
 go_wp2
 go_loopw [5,20] (fun sv iv wr => ∃ i xs,i <= R /\ iv = .int .i64 (i : Int) /\ wr.ownsRow w.heap.size 107 1 sv (i + 1) xs /\ Hid (LP (fun _ => True) wr w.heap.size sv xs ((st.mem :: st.runs.take i).map (AG k)) /\ Below w.heap.size w wr)) (fun _ iv _ => R - (intOf iv).toNat)
 case atStart => exact ⟨0,_,Nat.zero_le _,rfl,HO1.out.row,HO1.out,B1.out⟩
 case round =>
  clear HO1 B1 d3
  obtain ⟨i,xs,hil,rfl,hown,HI⟩:=hrel
  obtain ⟨sa,sc,rfl⟩:=An hown
  have hws:=HI.out.2.size
  by_cases hlt : i < R
  · obtain ⟨a',c',e1,_,_,hcell⟩:=(HRN.out.below HI.out.2).read
    rw [hR] at e1
    injection e1 with e1 _ e2
    subst e1
    subst e2
    obtain ⟨gg,rv,rfl,hFg,hcl,hrun⟩:=hcell i (by omega)
    have HFR:=hid (Tp k hrun (fun j hj => HF.out j (.inr hj)) hws)
    have HTK : Hid ((st.mem :: st.runs.take (i + 1)).map (AG k) = (st.mem :: st.runs.take i).map (AG k) ++ [AG k st.runs[i]]):=by
     show _ = _
     rw [List.take_succ_eq_append_getElem (by omega : i < st.runs.length),<- List.cons_append,List.map_append]
     rfl
    have htl : ((st.mem :: st.runs.take i).map (AG k)).length = i + 1:=by simp; omega
    have hmes : R - (intOf (.int .i64 ((i : Int) + 1))).toNat < R - (intOf (.int .i64 (i : Int))).toNat:=by simp [intOf]; omega
    clear hcell hrun
    go_wp2_with fail
    refine HFR.out.mono ?_
    rintro e w2 ⟨g2,lb2,G2,rfl,hsv2,b2,hG2⟩
    have hown1:=Ah hown b2
    have HB2:=hid (HI.out.2.trans (b2.mono hws))
    have hws2:=HB2.out.size
    have hal:=(Below.refl w2.heap.size w2).alloc (Nat.le_refl _) (.cells #[.func (.func g2) #[] lb2] 107)
    have HOS:=hid ((HI.out.1.below b2).below hal)
    have HSV:=hid (hsv2.below hal)
    have hGlt : Hid (∀ j,G2 j -> (Value.slice sa (i + 1) sc).ownBlock ≠ some j /\ j < w2.heap.size):=fun j hj => by
     have hgl : j < w2.heap.size:=by
      rcases hsv2 with ⟨h,_⟩ | ⟨_,_,_,_,_,h⟩
      · cases h
      · exact h j hj
     refine ⟨fun e => ?_,hgl⟩
     have hl:=hown.lt j e
     rcases hG2 j hj with h | h <;> omega
    clear hsv2 hG2 b2 hal hown HFR
    go_wp2_with (at_builtin; go_loud (refine Bp _ rfl (.tmp 24) (.tmp 28) rfl Tryz.underlying110 hi hz0 hz1 hz2 rfl (by decide) rfl (Au (base':=0) (hown1.alloc _) (Nat.zero_le _)) rfl (K8 (sz:=1) w2 #[.func (.func g2) #[] lb2] 107 rfl HSV.out.one) ?b3 ?b4 ?_))
    case b3 => omega
    case b4 => unfold maxLen; omega
    intro v' w4 hown0 hgrow hwh
    have hown':=JW (base':=w.heap.size) hown0 (fun k hk => by rcases hwh k hk with h | h; exact (hown1.lt k h).1; (first | omega | (have h':=h; simp at h'; omega)))
    have HB4:=hid ((HB2.out.alloc hws2 _).grown hgrow (by simp; omega) (fun j hj => (hown1.lt j hj).1))
    have HNL:=hid (HOS.out.add HSV.out (fun j hj => ⟨⟨(hGlt.out j hj).1,by have:=(hGlt.out j hj).2; simp; omega⟩,trivial⟩) hgrow (fun k hk => by rcases hwh k hk with h | h; exact .inl h; (exact .inr (by simpa using h))) (by rw [htl]; exact hown'))
    have hown2:=hown'
    clear hgrow hown' hwh hown1 hown0
    go_wp2
    go_roundw
    case rel => exact ⟨i + 1,_,by omega,by go_num,hown2,by rw [HTK.out]; exact HNL.out,HB4.out⟩
    case measure => exact hmes
  · obtain rfl : i = R:=by omega
    have hta : st.runs.take i = st.runs:=by rw [<- hR,List.take_length]
    rw [hta] at HI
    go_wp2
    go_ret
    exact ⟨_,_,rfl,HI.out.1,HI.out.2⟩
end
section
open Go.RowKit Go.Maps Go.WideMaps Go.Shelf
def Nt (w : World) (v : Value) (l : List Aa) (B : Nat) : Prop:=∃ a c,v = .slice a l.length c /\ l.length <= c /\ Aj w (.slice a l.length c) l
theorem NZ {w : World} {G : Nat -> Prop} {l : List Aa} {g : Nat} {lb : Array Value} (h : Di w (.func (.func g) #[] lb) l G) (hN : l.length <= 3518437208780) :
 Calls Tryz.prog 135 #[.func (.func g) #[] lb] w fun e W' => ∃ v,e = .returned v /\ W'.ownsRow w.heap.size 57 3 v l.length (AA l) /\ Below w.heap.size w W':=by
 obtain ⟨h1,h2,h3⟩:=h.func
 refine (Tl g lb h1 G l w h3 (by omega) h2).mono ?_
 rintro e W' ⟨v,rfl,hrow,hb⟩
 exact ⟨v,rfl,hrow,hb⟩
set_option maxRecDepth 100000 in
set_option maxHeartbeats 1000000 in
theorem KT {w : World} {a : Option Addr} {c : Nat} {ls : List (List Aa)} {G : Nat -> Prop} (h : Ed w (.slice a ls.length c) ls G) (hg : Cd ls) (hs : Bk ls + ls.length <= 1000000000000) :
 Calls Tryz.prog 95 #[.slice a ls.length c] w fun e w' => ∃ v,e = .returned v /\ Nt w' v (AT ls) w.heap.size /\ Below w.heap.size w w':=by
 have HA:=hid (mergeK.all h hg (by omega))
 have hlen:=allP_len ls
 have hlv:=Jn (BY ls)
 clear h hg
 go_enter Tryz.func95,Tryz.ntmps95
 go_wp2_with fail
 refine HA.out.mono ?_
 rintro e w1 ⟨g,lb,G1,rfl,s1,b1,_⟩
 have HL:=hid (mergeK.live s1 (by omega))
 have HS:=hid s1
 have B1:=hid b1
 clear s1 b1 HA
 go_wp2_with fail
 refine HL.out.mono ?_
 rintro e w2 ⟨g2,lb2,G2,rfl,s2,b2,_⟩
 have HC:=hid (NZ s2 (by omega))
 have HS2:=hid (HS.out.below b2)
 have B2:=hid (B1.out.trans (b2.mono B1.out.size))
 clear s2 b2 HL HS
 go_wp2_with fail
 refine HC.out.mono ?_
 rintro e w3 ⟨v,rfl,hrow,b3⟩
 have HS3:=hid (HS2.out.below b3)
 have B3:=hid (B2.out.trans (b3.mono B2.out.size))
 obtain ⟨va,vc,rfl⟩:=An hrow
 have hcap:=(Jg hrow).1
 have HRD:=hid (Aj.own hrow)
 clear hrow b3 HC HS2
 by_cases hne : By (BY ls) = []
 · have HE : Hid (AT ls = CU (BY ls) ⟨#[]⟩ 1):=by rw [YM]; exact if_pos hne
   have hl0 : (By (BY ls)).length = 0:=by rw [hne]; rfl
   have HSM:=hid (Lk ⟨#[]⟩ 1 HS3.out (by omega) (by decide))
   rw [hl0]
   go_wp2_with fail
   refine HSM.out.mono ?_
   rintro e w4 ⟨r,rfl,⟨h1,h2,_⟩,h3⟩
   have HR4:=hid h1
   have HR5:=hid h2
   have B4:=hid (B3.out.trans (h3.mono B3.out.size))
   clear h1 h2 h3
   go_wp2
   go_ret
   refine ⟨_,rfl,?_,B4.out⟩
   obtain ⟨hm,a',c',rfl,h4⟩:=HR4.out
   rw [HE.out]
   exact ⟨a',c',rfl,HR5.out _ _ _ rfl,hm,a',c',rfl,h4⟩
 · have HE : Hid (AT ls = By (BY ls)):=if_neg hne
   have hpos:=List.length_pos_iff.2 hne
   generalize By (BY ls) = L at *
   have hz : ¬ L.length = 0:=by omega
   go_wp2
   go_ret
   exact ⟨_,rfl,by rw [HE.out]; exact ⟨_,_,rfl,hcap,HRD.out⟩,B3.out⟩
end
section
open Go.RowKit Go.Maps Go.WideMaps Go.Shelf
theorem Tc {w : World} {b o n c : Nat} {l : List Aa} {ls : List (List Aa)} {G : Nat -> Prop} (h : Ed w (.slice (some ⟨b,o,none⟩) (n + 1) c) (l :: ls) G) (hn : ls.length = n) : Ed w (.slice (some ⟨b,o + 1,none⟩) n (c - 1)) ls G:=by
 obtain ⟨h1,h2,a',c',hv,h3,h4⟩:=h
 injection hv with e1 e2 e3
 subst e1 e3
 rw [List.length_cons] at h2 h3 e2
 refine ⟨h1,by omega,some ⟨b,o + 1,none⟩,c - 1,by rw [hn],⟨by omega,by omega⟩,?_⟩
 rcases h4 with h4 | ⟨b',o',e,hG,h4⟩
 · cases h4
 · injection e with e
   injection e with e1 e2
   subst e1 e2
   refine .inr ⟨b,o + 1,rfl,hG,fun i hi => ?_⟩
   obtain ⟨u,Gi,q1,q2,q3⟩:=h4 (i + 1) (by rw [List.length_cons]; omega)
   exact ⟨u,Gi,by rw [show o + 1 + i = o + (i + 1) by omega]; exact q1,q2,q3⟩
theorem OH (b o n c : Nat) (hn : 0 < n) (hc : n + 1 <= c) (wx : World) : (Instr.slice 110 (.slice (some ⟨b,o,none⟩) (n + 1) c) (some (.int .i64 1)) none none).run Tryz.prog wx = .ok (.slice (some ⟨b,o + 1,none⟩) n (c - 1)) wx:=by
 have:=RJ b o (n + 1) c 1 (Nat.le_refl _) (by omega) hc wx
 rwa [Nat.add_sub_cancel] at this
theorem Zf (l : List (List Aa)) : l.map (AG ⟨#[]⟩) = l:=by
 induction l with
 | nil => rfl
 | cons x r ih => rw [List.map_cons,ih,IH]
theorem NN {w : World} {d b q mp c : Nat} {tv : Value} {st : AQ} {dn ap : Bool} {S : Bx} {F Fb Fm Fr : Nat -> Prop} (h : AU w d b q mp tv st dn c ap S F Fb Fm Fr) (hfew : st.runs.length <= 3) :
 Calls Tryz.prog 59 #[.pointer (some ⟨d,0,none⟩),.string ⟨#[]⟩] w fun e w' => ∃ g cc G,e = .returned (.slice (some ⟨g,0,none⟩) (st.runs.length + 1) cc) /\ st.runs.length + 1 <= cc /\ Ed w' (.slice (some ⟨g,0,none⟩) (st.runs.length + 1) cc) (st.mem :: st.runs) G /\ Below w.heap.size w w':=by
 refine (OX h ⟨#[]⟩ (Nat.zero_le _) hfew).mono ?_
 rintro e w' ⟨v,xs,rfl,ho,hb⟩
 rw [Zf] at ho
 have hr:=ho.row
 obtain ⟨G,hs⟩:=ho.seqs
 obtain ⟨g,cc,rfl⟩:=ownsRow_succ hr
 exact ⟨g,cc,G,rfl,(Jg hr).1,hs,hb⟩
set_option maxRecDepth 100000 in
set_option maxHeartbeats 2000000 in
theorem J9 {w : World} {d b q mp c : Nat} {tv : Value} {st : AQ} {dn ap : Bool} {S : Bx} {F Fb Fm Fr : Nat -> Prop} (h : AU w d b q mp tv st dn c ap S F Fb Fm Fr) (hsh : AV st) (hsum : Bk (st.mem :: st.runs) <= 999999999990) :
 Calls Tryz.prog 65 #[.pointer (some ⟨d,0,none⟩)] w fun e w' => ∃ v,e = .returned v /\ Nt w' v (AB st.runs) w.heap.size /\ Below w.heap.size w w':=by
 have hfew:=hsh.few
 have HFR:=hid (NN h hfew)
 have hgr:=hid hsh.goodR
 have c3:=h.head.c3
 obtain ⟨ta,tc,rfl,_,_,_⟩:=h.runs.read
 have hs2 : Bk st.runs <= 999999999990:=by unfold Bk at *; simp only [List.map_cons,List.sum_cons] at hsum; omega
 have HRU : Hid (∃ R,R = st.runs):=⟨_,rfl⟩
 unfold AB
 generalize st.runs = rs at *
 obtain ⟨R,hR⟩ : ∃ R,rs.length = R:=⟨_,rfl⟩
 rw [hR] at hfew c3 HFR ⊢
 clear h hsh hsum
 by_cases h2 : R < 2
 · have h3 : ¬ 2 <= R:=by omega
   rw [if_pos h2]
   go_enter Tryz.func65,Tryz.ntmps65
   go_wp2
   go_ret
   exact ⟨_,rfl,⟨none,0,rfl,Nat.le_refl _,Nat.zero_le _,_,_,rfl,.inl rfl⟩,Below.refl _ _⟩
 · rw [if_neg h2]
   go_enter Tryz.func65,Tryz.ntmps65
   go_wp2_with fail
   refine HFR.out.mono ?_
   rintro e w1 ⟨g,cc,G,rfl,hcc,hs1,b1⟩
   have hsl:=OH g 0 R cc (by omega) hcc
   have hst:=Tc hs1 hR
   rw [<- hR] at hst
   have HCB:=hid (KT hst hgr.out (by omega))
   rw [hR] at HCB
   have B1:=hid b1
   clear hst hs1 b1 HFR
   go_wp2_with fail
   refine HCB.out.mono ?_
   rintro e w2 ⟨v,rfl,hv,b2⟩
   have HV:=hid hv
   have B2:=hid (B1.out.trans (b2.mono B1.out.size))
   clear hv b2 HCB
   go_wp2
   go_ret
   obtain ⟨a',c',e1,e2,e3⟩:=HV.out
   exact ⟨_,rfl,⟨a',c',e1,e2,e3⟩,B2.out⟩
set_option maxRecDepth 100000 in
set_option maxHeartbeats 2000000 in
theorem Me {w : World} {d b q mp c : Nat} {tv : Value} {st : AQ} {dn ap : Bool} {S : Bx} {F Fb Fm Fr : Nat -> Prop} (h : AU w d b q mp tv st dn c ap S F Fb Fm Fr) (hsh : AV st) (hsum : Bk (st.mem :: st.runs) <= 999999999990) :
 Calls Tryz.prog 94 #[.pointer (some ⟨d,0,none⟩)] w fun e w' => ∃ v tv',e = .returned (.tuple #[v,tv']) /\ Nt w' v (AJ st.mem st.runs).1 w.heap.size /\ Dr w' tv' (AJ st.mem st.runs).2 Fr /\ Below w.heap.size w w':=by
 have hfew:=hsh.few
 have HFR:=hid (NN h hfew)
 have hgr:=hid hsh.good
 have c2:=h.head.c2
 have c3:=h.head.c3
 have hdl:=h.head.lt
 have HRN:=hid h.runs
 have HSQ:=hid (NW (h.below (Ay w)).mem ⟨#[]⟩ (Nat.zero_le _))
 have HHD:=hid h.head
 obtain ⟨ta,tc,rfl,_,_,_⟩:=h.runs.read
 obtain ⟨R,hR⟩ : ∃ R,st.runs.length = R:=⟨_,rfl⟩
 have hml : st.mem.length <= 999999999990:=by unfold Bk at *; simp only [List.map_cons,List.sum_cons] at hsum; omega
 have hls : (st.mem :: st.runs).length = R + 1:=by rw [List.length_cons,hR]
 unfold AJ
 rw [hR] at hfew c3 HFR ⊢
 by_cases hA : R = 0 \/ R + 1 = 4
 · rw [if_pos hA]
   have HCB : Hid (∀ (w1 : World) g cc G,Ed w1 (.slice (some ⟨g,0,none⟩) (R + 1) cc) (st.mem :: st.runs) G -> Calls Tryz.prog 95 #[.slice (some ⟨g,0,none⟩) (R + 1) cc] w1 fun e w' => ∃ v,e = .returned v /\ Nt w' v (AT (st.mem :: st.runs)) w1.heap.size /\ Below w1.heap.size w1 w'):=fun w1 g cc G hs => by
    rw [<- hls] at hs ⊢
    exact KT hs hgr.out (by omega)
   clear h hsh hsum HSQ hR hls
   rcases hA with rfl | hA
   · go_enter Tryz.func94,Tryz.ntmps94
     go_wp2_with fail
     refine HFR.out.mono ?_
     rintro e w1 ⟨g,cc,G,rfl,hcc,hs1,b1⟩
     have HC:=hid (HCB.out _ _ _ _ hs1)
     have B1:=hid b1
     clear hs1 b1 HFR
     go_wp2_with fail
     refine HC.out.mono ?_
     rintro e w2 ⟨v,rfl,hv,b2⟩
     have HV:=hid hv
     have B2:=hid (B1.out.trans (b2.mono B1.out.size))
     clear hv b2 HCB
     go_wp2
     go_ret2
     obtain ⟨a',c',e1,e2,e3⟩:=HV.out
     exact ⟨_,_,rfl,⟨a',c',e1,e2,e3⟩,Dr.nil _ _,B2.out⟩
   · obtain rfl : R = 3:=by omega
     go_enter Tryz.func94,Tryz.ntmps94
     go_wp2_with fail
     refine HFR.out.mono ?_
     rintro e w1 ⟨g,cc,G,rfl,hcc,hs1,b1⟩
     have HC:=hid (HCB.out _ _ _ _ hs1)
     have B1:=hid b1
     clear hs1 b1 HFR
     go_wp2_with fail
     refine HC.out.mono ?_
     rintro e w2 ⟨v,rfl,hv,b2⟩
     have HV:=hid hv
     have B2:=hid (B1.out.trans (b2.mono B1.out.size))
     clear hv b2 HCB
     go_wp2
     go_ret2
     obtain ⟨a',c',e1,e2,e3⟩:=HV.out
     exact ⟨_,_,rfl,⟨a',c',e1,e2,e3⟩,Dr.nil _ _,B2.out⟩
 · rw [if_neg hA]
   have hw1 : IntKind.i64.wrap ((R : Int) + 1) = (R : Int) + 1:=by rw [IntKind.wrap_i64]; omega
   have n1 : ((R : Int) == 0) = false:=beq_false_of_ne (by omega)
   have n2 : ((R : Int) + 1 == 4) = false:=beq_false_of_ne (by omega)
   have n3 : ¬ R = 0:=by omega
   have HE:=hid (fun (w' : World) (t : Below w.heap.size w w') => HRN.out.below t)
   have HDD : Hid (∀ w',Below w.heap.size w w' -> w'.cell? ⟨d,2,none⟩ = some (.pointer (some ⟨mp,0,none⟩)) /\ w'.cell? ⟨d,3,none⟩ = some (.slice ta R tc)):=fun w' t => ⟨(t.cell hdl).trans c2,(t.cell hdl).trans c3⟩
   have d2 : w.drew.cell? ⟨d,2,none⟩ = some (.pointer (some ⟨mp,0,none⟩)):=c2
   have d3 : w.drew.cell? ⟨d,3,none⟩ = some (.slice ta R tc):=c3
   clear h hsh hsum HFR hls hgr hA HHD
   go_enter Tryz.func94,Tryz.ntmps94
   go_upto_region 4 with (fail)
   have HBD:=hid (Ay w)
   go_region_held3 (fun w' => w'.cell? ⟨d,2,none⟩ = some (.pointer (some ⟨mp,0,none⟩)) /\ w'.cell? ⟨d,3,none⟩ = some (.slice ta R tc)) (first | exact HDD.out _ BC.out | exact HDD.out _ BA.out | exact HDD.out _ HBD.out)
    (first
      | (go_at_call 90; refine HSQ.out.mono ?_; rintro e wA ⟨g,lb,G,rfl,eg,hgi,hG,bA,_⟩; have SA:=hid (QM eg hgi hG); have BA:=hid (HBD.out.trans (bA.mono HBD.out.size)); clear eg hgi hG bA)
      | (go_at_call 135; refine (NZ SA.out (by rw [IH]; omega)).mono ?_; rintro e wC ⟨v,rfl,hrow,bC⟩; have RC:=hid hrow; have BC:=hid (BA.out.trans (bC.mono BA.out.size)); clear hrow bC))
   all_goals go_wp2
   all_goals go_ret2
   all_goals (
    have hr:=RC.out
    rw [IH] at hr
    obtain ⟨va,vc,rfl⟩:=An hr
    exact ⟨_,_,rfl,⟨va,vc,rfl,(Jg hr).1,Aj.own hr⟩,by have h9:=HE.out _ BC.out; rw [hR] at h9; exact h9,BC.out⟩)
end
section
open Go.RowKit Go.Maps Go.WideMaps Go.Shelf
section
variable {w w2 w' : World} {d b q mp c : Nat} {tv : Value} {st : AQ} {dn ap : Bool} {S : Bx} {F Fb Fm Fr : Nat -> Prop}
theorem AU.early (hs : w.heap.size <= w2.heap.size) (hlt : ∀ k,F k -> k < w.heap.size) (h : AU w' d b q mp tv st dn c ap S (AN F w2 w') Fb Fm Fr) (t : Ac F w2 w') : AU w' d b q mp tv st dn c ap S (AN F w w') Fb Fm Fr:=
 h.mono (fun k hk => by
  rcases hk with hk | hk
  · exact .inl hk
  · exact .inr ⟨Nat.le_trans hs hk.1,hk.2⟩) (fun k hk => by
  rcases hk with hk | hk
  · exact Nat.lt_of_lt_of_le (hlt k hk) (Nat.le_trans hs t.size)
  · exact hk.2)
end
theorem Vv (n : Nat) (l : List Aa) (v : Value) : Qf ⟨n,none,l⟩ v = .agg #[.int .i64 (n : Int),.bool false,.int .i64 0,.int .i64 0,v]:=rfl
theorem XU (n a k : Nat) (l : List Aa) (v : Value) : Qf ⟨n,some (a,k),l⟩ v = .agg #[.int .i64 (n : Int),.bool true,.int .i64 (a : Int),.int .i64 (k : Int),v]:=rfl
set_option maxRecDepth 100000 in
set_option maxHeartbeats 2000000 in
theorem QK {B : Nat} {w : World} {d b q mp c : Nat} {tv : Value} {st : AQ} {dn ap : Bool} {S : Bx} {F Fb Fm Fr : Nat -> Prop} (E : EY B w) (hB : ∀ k,F k -> B <= k) (h : AU w d b q mp tv st dn c ap S F Fb Fm Fr) {a : Option Addr} {cc : Nat} {l : List Aa} (hR : Aj w (.slice a l.length cc) l) (hok : ER ⟨st.last + 1,none,l⟩) (hd : S.down = false) (hc : c <= limC) (hz : weigh S.files <= 70368744177664) (hlo : st.logged <= 1000000000000) :
 Calls Tryz.prog 53 #[.pointer (some ⟨d,0,none⟩),.slice a l.length cc] w fun e w' => ∃ i ap' S' Fb',e = .returned (.int .i64 i) /\ Iz S (Af LOG c) (Ai (A9.bytes ⟨st.last + 1,none,l⟩)) i S' /\ (i = 0 \/ i = 30) /\ (i = 0 -> ap' = true) /\ AU w' d b q mp tv { st with last:=st.last + 1,logged:=st.logged + (A9.bytes ⟨st.last + 1,none,l⟩).length } dn c ap' S' (AN F w w') Fb' Fm Fr /\ Ac F w w':=by
 have hll : st.last + 1 <= 1000000:=hok.num
 have htx:=Pp (r:=⟨st.last + 1,none,l⟩) hR hok
 have hlen:=A9.len hok
 have c5:=h.head.c5
 have hdl:=h.head.lt
 rw [Vv] at htx
 have hw5 : IntKind.i64.wrap ((st.last : Int) + 1) = (st.last : Int) + 1:=by rw [IntKind.wrap_i64]; omega
 rw [show ((st.last + 1 : Nat) : Int) = (st.last : Int) + 1 by omega] at htx
 obtain ⟨BS,hBS⟩ : ∃ BS,A9.bytes ⟨st.last + 1,none,l⟩ = BS:=⟨_,rfl⟩
 rw [hBS] at htx hlen ⊢
 obtain ⟨X,hX⟩ : ∃ X : ByteArray,(⟨BS.toArray⟩ : ByteArray) = X:=⟨_,rfl⟩
 have hXd : X.data.toList = BS:=by rw [<- hX]
 have HXS : Hid (X.size = BS.length):=by show _ = _; rw [<- hX,A0]
 have hXz : X.size <= 1048576:=by have:=HXS.out; omega
 rw [hX] at htx
 have HTX:=hid htx
 have HH:=hid h
 have HE:=hid E
 have HB:=hid hB
 clear hR hok htx hX hBS h E hB
 go_enter Tryz.func53,Tryz.ntmps53
 go_wp2_with fail
 refine HTX.out.mono ?_
 rintro e w1 ⟨rfl,b1⟩
 have h1:=HH.out.below b1
 have e1:=HE.out.below b1
 have c6:=h1.head.c6
 have f6:=h1.head.free 6
 have hw6 : IntKind.i64.wrap ((st.logged : Int) + (X.size : Int)) = (st.logged : Int) + (X.size : Int):=by rw [IntKind.wrap_i64]; omega
 obtain ⟨h2,t2⟩:=h1.setD (i:=6) (v:=.int .i64 ((st.logged + X.size : Nat) : Int)) (st':={ st with logged:=st.logged + X.size }) (h1.head.setLogged (st.logged + X.size)) rfl rfl
 rw [show ((st.logged + X.size : Nat) : Int) = (st.logged : Int) + (X.size : Int) by omega] at h2 t2
 have hln:=Mo (e1.turn t2 HB.out) HB.out h2 X (by omega) hd hc hz (by show st.last <= _; omega)
 have HLN:=hid hln
 have T2:=hid ((Ac.of_below F b1).trans t2 (fun i hi => .inl hi))
 have S2:=hid (Nat.le_trans b1.size t2.size)
 clear h1 e1 h2 t2 hln b1 HTX HE HB
 go_wp2_with fail
 refine HLN.out.mono ?_
 rintro e w3 ⟨i,ap',S',Fb',rfl,k1,k2,k3,k4,k5⟩
 have K1:=hid k1
 have K2:=hid k2
 have K3:=hid k3
 have K4:=hid (k4.early S2.out HH.out.lt k5)
 have K5:=hid (T2.out.trans k5 (fun i hi => .inl hi))
 clear k1 k2 k3 k4 k5 HLN
 go_wp2
 go_ret
 refine ⟨i,ap',S',Fb',rfl,?_,K2.out,K3.out,?_,K5.out⟩
 · rw [<- hXd]; exact K1.out
 · rw [<- HXS.out]; exact K4.out
set_option maxRecDepth 100000 in
set_option maxHeartbeats 2000000 in
theorem QY {B : Nat} {w : World} {d b q mp c : Nat} {tv : Value} {st : AQ} {dn ap : Bool} {S : Bx} {F Fb Fm Fr : Nat -> Prop} (E : EY B w) (hB : ∀ k,F k -> B <= k) (h : AU w d b q mp tv st dn c ap S F Fb Fm Fr) (hok : ER ⟨st.last + 1,some (st.newest,st.runs.length),st.mem⟩) (hd : S.down = false) (hc : c <= limC) (hz : weigh S.files <= 70368744177664) :
 Calls Tryz.prog 121 #[.pointer (some ⟨d,0,none⟩)] w fun e w' => ∃ i ap' S' Fb',e = .returned (.int .i64 i) /\ Iz S (Af LOG c) (Ai (A9.bytes ⟨st.last + 1,some (st.newest,st.runs.length),st.mem⟩)) i S' /\ (i = 0 \/ i = 30) /\ (i = 0 -> ap' = true) /\ AU w' d b q mp tv { st with last:=st.last + 1,logged:=0 } dn c ap' S' (AN F w w') Fb' Fm Fr /\ Ac F w w':=by
 have hll : st.last + 1 <= 1000000:=hok.num
 have hlen:=A9.len hok
 have hfew : st.mem.length <= 4096:=hok.few
 have hr3 : st.runs.length <= 3 /\ st.runs.length <= st.newest /\ st.newest <= 1000000:=by
  have:=hok.base _ _ rfl
  exact ⟨this.2.1,this.2.2,this.1⟩
 have HTX : Hid (∀ (w1 : World) (a : Option Addr) (cc : Nat),Aj w1 (.slice a st.mem.length cc) st.mem -> Calls Tryz.prog 84 #[.agg #[.int .i64 ((st.last : Int) + 1),.bool true,.int .i64 (st.newest : Int),.int .i64 (st.runs.length : Int),.slice a st.mem.length cc]] w1 fun e w' => e = .returned (.string ⟨(A9.bytes ⟨st.last + 1,some (st.newest,st.runs.length),st.mem⟩).toArray⟩) /\ Below w1.heap.size w1 w'):=fun w1 a cc hR => by
  have htx:=Pp (r:=⟨st.last + 1,some (st.newest,st.runs.length),st.mem⟩) hR hok
  rw [XU,show ((st.last + 1 : Nat) : Int) = (st.last : Int) + 1 by omega] at htx
  exact htx
 have hsq:=NW h.mem ⟨#[]⟩ (Nat.zero_le _)
 have HSQ:=hid hsq
 have c2:=h.head.c2
 have hw5 : IntKind.i64.wrap ((st.last : Int) + 1) = (st.last : Int) + 1:=by rw [IntKind.wrap_i64]; omega
 obtain ⟨ta,tc,rfl,_,_,_⟩:=h.runs.read
 have HH:=hid h
 have HE:=hid E
 have HB:=hid hB
 obtain ⟨BS,hBS⟩ : ∃ BS,A9.bytes ⟨st.last + 1,some (st.newest,st.runs.length),st.mem⟩ = BS:=⟨_,rfl⟩
 rw [hBS] at HTX hlen ⊢
 obtain ⟨X,hX⟩ : ∃ X : ByteArray,(⟨BS.toArray⟩ : ByteArray) = X:=⟨_,rfl⟩
 have hXd : X.data.toList = BS:=by rw [<- hX]
 have HXS : Hid (X.size = BS.length):=by show _ = _; rw [<- hX,A0]
 have hXz : X.size <= 1048576:=by have:=HXS.out; omega
 rw [hX] at HTX
 clear hok hBS hX hsq h E hB
 go_enter Tryz.func121,Tryz.ntmps121
 go_wp2_with fail
 refine HSQ.out.mono ?_
 rintro e wA ⟨g,lb,G,rfl,eg,hgi,hG,bA,_⟩
 have HC:=hid (NZ (QM eg hgi hG) (by rw [IH]; omega))
 have BA:=hid bA
 clear eg hgi hG bA HSQ
 go_wp2_with fail
 refine HC.out.mono ?_
 rintro e w1 ⟨v,rfl,hrow,bC⟩
 have BC:=hid (BA.out.trans (bC.mono BA.out.size))
 rw [IH] at hrow
 obtain ⟨va,vc,rfl⟩:=An hrow
 have hrd:=(Aj.own hrow).below (Ay w1)
 have HT1:=hid (HTX.out w1.drew va vc hrd)
 have h1:=HH.out.below BC.out
 have HDD : Hid (∀ w',Below w1.heap.size w1 w' -> w'.cell? ⟨d,4,none⟩ = some (.int .i64 (st.newest : Int)) /\ w'.cell? ⟨d,5,none⟩ = some (.int .i64 (st.last : Int)) /\ w'.cell? ⟨d,3,none⟩ = some (.slice ta st.runs.length tc)):=fun w' t => ⟨(h1.below t).head.c4,(h1.below t).head.c5,(h1.below t).head.c3⟩
 have HBD:=hid (Ay w1)
 have H1:=hid h1
 clear hrow bC BA hrd h1 HTX HC
 go_upto_region 2 with (fail)
 go_region_held3 (fun w' => w'.cell? ⟨d,4,none⟩ = some (.int .i64 (st.newest : Int)) /\ w'.cell? ⟨d,5,none⟩ = some (.int .i64 (st.last : Int)) /\ w'.cell? ⟨d,3,none⟩ = some (.slice ta st.runs.length tc)) (first | exact HDD.out _ BT.out | exact HDD.out _ HBD.out)
  (first
    | (go_at_call 84; refine HT1.out.mono ?_; rintro e wT ⟨rfl,bT⟩; have BT:=hid (HBD.out.trans (bT.mono HBD.out.size)); clear bT))
 all_goals (
  have h2:=H1.out.below BT.out
  have e2:=HE.out.below (BC.out.trans (BT.out.mono BC.out.size))
  have f6:=h2.head.free 6
  have c6:=h2.head.c6
  obtain ⟨h3,t3⟩:=h2.setD (i:=6) (v:=.int .i64 ((0 : Nat) : Int)) (st':={ st with logged:=0 }) (h2.head.setLogged 0) rfl rfl
  rw [show ((0 : Nat) : Int) = (0 : Int) by rfl] at h3 t3
  have hln:=Mo (e2.turn t3 HB.out) HB.out h3 X (by omega) hd hc hz (by show st.last <= _; omega)
  have HLN:=hid hln
  have T2:=hid ((Ac.of_below F (BC.out.trans (BT.out.mono BC.out.size))).trans t3 (fun i hi => .inl hi))
  have S2:=hid (Nat.le_trans (BC.out.trans (BT.out.mono BC.out.size)).size t3.size)
  clear h2 e2 h3 t3 hln HE HB
  go_wp2_with fail
  refine HLN.out.mono ?_
  rintro e w3 ⟨i,ap',S',Fb',rfl,k1,k2,k3,k4,k5⟩
  have K1:=hid k1
  have K2:=hid k2
  have K3:=hid k3
  have K4:=hid (k4.early S2.out HH.out.lt k5)
  have K5:=hid (T2.out.trans k5 (fun i hi => .inl hi))
  clear k1 k2 k3 k4 k5 HLN
  go_wp2
  go_ret
  exact ⟨i,ap',S',Fb',rfl,by rw [<- hXd]; exact K1.out,K2.out,K3.out,K4.out,K5.out⟩)
end
section
open Go.RowKit Go.Maps Go.WideMaps Go.Shelf
def ZS (l : List (Key × Ae)) : Prop:=∀ x ∈ zF l,x.1.length <= 18
theorem ZS.of {l : List (Key × Ae)} (h : ZS l) {x : Key × Ae} (hx : x ∈ l) (hz : zK x.1 = true) : x.1.length <= 18:=h x (List.mem_filter.2 ⟨hx,hz⟩)
theorem ZS.sub {l l' : List (Key × Ae)} (h : ZS l) (e : ∀ x ∈ zF l',x ∈ zF l) : ZS l':=fun x hx => h x (e x hx)
theorem ZS.eq {l l' : List (Key × Ae)} (h : ZS l) (e : zF l' = zF l) : ZS l':=by unfold ZS at *; rw [e]; exact h
section
variable {w w' : World} {d b q mp c : Nat} {tv : Value} {st : AQ} {dn ap : Bool} {S : Bx} {F Fb Fm Fr : Nat -> Prop}
theorem AU.onBox0 (h : AU w d b q mp tv st dn c ap S F Fb Fm Fr) {S' : Bx} (hb : AH w' b S' Fb) (t : Ac Fb w w') : AU w' d b q mp tv st dn c ap S' F Fb Fm Fr /\ Ac F w w':=
 ⟨{ h with
    head:=t.keeps h.head h.db
    log:=t.keeps h.log h.qb
    box:=hb
    mem:=h.mem.kept t (fun k hk e => h.bm k e hk)
    runs:=h.runs.kept t (fun k hk e => h.br k e hk)
    lt:=fun k hk => Nat.lt_of_lt_of_le (h.lt k hk) t.size },t.mono fun k hk => .inl (h.fb k hk)⟩
theorem AU.onLog0 (h : AU w d b q mp tv st dn c ap S F Fb Fm Fr) {c' : Nat} {ap' : Bool} {S' : Bx} (hl : AW w' q b JX c' ap' S' Fb) (t : Ac (Na Fb q) w w') : AU w' d b q mp tv st dn c' ap' S' F Fb Fm Fr /\ Ac F w w':=
 ⟨{ h with
    head:=t.keeps h.head (fun e => by rcases e with e | e; exact h.db e; exact h.dq e)
    log:=hl.head
    box:=hl.box
    mem:=h.mem.kept t (fun k hk e => by rcases e with e | e; exact h.bm k e hk; exact h.qm (e ▸ hk))
    runs:=h.runs.kept t (fun k hk e => by rcases e with e | e; exact h.br k e hk; exact h.qr (e ▸ hk))
    lt:=fun k hk => Nat.lt_of_lt_of_le (h.lt k hk) t.size
    c1:=hl.cur1,c8:=hl.cur8 },t.mono fun k hk => by rcases hk with hk | hk; exact .inl (h.fb k hk); exact .inl (hk ▸ h.fq)⟩
end
theorem Rv {l : List (Key × Ae)} {A : List Bo} (h : Fc l A) {x : Key × Ae} (hx : x ∈ l) (hs : AE LOG x.1 ≠ 0) : ∃ a ∈ A,x = GG a:=by
 have hm : x ∈ Bu LOG l:=He.2 ⟨hx,hs⟩
 rw [h.segs] at hm
 obtain ⟨a,ha,e⟩:=List.mem_map.1 hm
 exact ⟨a,ha,e.symm⟩
theorem VH {k : Key} (hz : zK k = true) (hl : k.length <= 18) : SJ ⟨k.toArray⟩:=by
 refine ⟨by rw [A0]; exact hl,?_⟩
 cases k with
 | nil => cases hz
 | cons c r =>
   have : c = 122:=of_decide_eq_true hz
   subst this
   exact ⟨122,r,rfl,by decide,by decide⟩
theorem Pw (n : Nat) : SJ ⟨(Af LOG n).toArray⟩:=by
 refine ⟨by rw [A0,Jd]; decide,108,111 :: 103 :: decN 8 n,rfl,by decide,by decide⟩
theorem Dc.some {l : List (Key × Ae)} {newest : Nat} {runs : List (List Aa)} {P Q : Nat -> List UInt8 -> Prop} (h : Dc l newest runs P) (hp : ∀ x ∈ l,∀ n,x.1 = Ar n -> P n x.2.bytes -> (n <= newest /\ newest < n + runs.length) \/ Q n x.2.bytes) : Dc l newest runs Q:=
 ⟨h.tabs,fun x hx => by
   rcases h.left x hx with h1 | h1 | ⟨n,h1,h2,h3,h4⟩
   · exact .inl h1
   · exact .inr (.inl h1)
   · refine .inr (.inr ⟨n,h1,h2,h3,?_⟩)
     rcases h4 with h4 | h4
     · exact .inl h4
     · exact hp x hx n h3 h4⟩
theorem AZ.some {l : List (Key × Ae)} {st : AQ} {A : List Bo} {P Q : Nat -> List UInt8 -> Prop} (h : AZ l st A P) (hp : ∀ x ∈ l,∀ n,x.1 = Ar n -> P n x.2.bytes -> (n <= st.newest /\ st.newest < n + st.runs.length) \/ Q n x.2.bytes) : AZ l st A Q:=⟨h.rising,h.firm,h.segs,h.chain,h.play,h.tabs.some hp⟩
structure Fg (N : List Key) (S : Bx) (st : AQ) (A : List Bo) (P : Nat -> List UInt8 -> Prop) (i : Nat) (S' : Bx) : Prop where
 down : S'.down = false
 fuel : BR S S'
 z : zF S'.files = zF S.files
 weigh : weigh S'.files <= Go.Proofs.YtnafjlhohbhcoaaGreatDoor.weigh S.files
 disk : AZ S'.files st A (fun k b => P k b /\ ∀ j (h : j < N.length),j < i -> N[j] ≠ Ar k)
 sub : ∀ x ∈ S'.files,x.1 ∈ N
 rest : ∀ j (h : j < N.length),i <= j -> ∃ f,Am N[j] S'.files = some f
theorem Fg.start {S : Bx} {st : AQ} {A : List Bo} {P : Nat -> List UInt8 -> Prop} (hd : S.down = false) (h : AZ S.files st A P) : Fg (S.files.map (·.1)) S st A P 0 S where
 down:=hd
 fuel:=BR.refl S
 z:=rfl
 weigh:=Nat.le_refl _
 disk:=h.mono fun n b hp => ⟨hp,fun j _ hj => by omega⟩
 sub:=fun x hx => List.mem_map.2 ⟨x,hx,rfl⟩
 rest:=fun j hj _ => by
  rw [List.length_map] at hj
  refine ⟨S.files[j].2,?_⟩
  rw [List.getElem_map]
  exact KY h.rising (List.getElem_mem hj)
theorem Fg.skip {N : List Key} {S : Bx} {st : AQ} {A : List Bo} {P : Nat -> List UInt8 -> Prop} {i : Nat} {S' : Bx} (h : Fg N S st A P i S') (hi : i < N.length) (hk : ∀ k,N[i] = Ar k -> (k <= st.newest /\ st.newest < k + st.runs.length)) : Fg N S st A P (i + 1) S':=
 { h with
   disk:=h.disk.some fun x hx n hn hp => by
    by_cases e : N[i] = Ar n
    · exact .inl (hk n e)
    · refine .inr ⟨hp.1,fun j hj hlt => ?_⟩
      rcases Nat.lt_or_ge j i with h1 | h1
      · exact hp.2 j hj h1
      · have : j = i:=by omega
        subst this
        exact e
   rest:=fun j hj hle => h.rest j hj (by omega) }
theorem Fg.drop {N : List Key} (hN : N.Nodup) {S : Bx} {st : AQ} (hs : AV st) {A : List Bo} {P : Nat -> List UInt8 -> Prop} {i : Nat} {S' : Bx} (h : Fg N S st A P i S') (hi : i < N.length) {n : Nat} (h1 : 1 <= n) (e : N[i] = Ar n) (hno : ¬ (n <= st.newest /\ st.newest < n + st.runs.length)) :
 (S'.fuel = 0 /\ S'.delete N[i] = (S'.fall,30)) \/ ∃ S2,S'.delete N[i] = (S2,0) /\ Fg N S st A P (i + 1) S2:=by
 obtain ⟨f,hf⟩:=h.rest i hi (Nat.le_refl _)
 cases Oa (S:=S') (n:=N[i]) (f:=f) h.down hf with
 | no h0 e2 => exact .inl ⟨h0,e2⟩
 | yes S2 e2 hf2 hd2 hr2 =>
   refine .inr ⟨S2,e2,?_⟩
   rw [e] at hf2
   exact { down:=hd2
           fuel:=h.fuel.trans hr2
           z:=by rw [hf2,VU (N6 n)]; exact h.z
           weigh:=by rw [hf2]; exact Nat.le_trans (OA _ _) h.weigh
           disk:=by
            rw [hf2]
            refine (Uo h.disk hs h1 hno).mono fun k b hk => ⟨hk.1.1,fun j hj hlt => ?_⟩
            rcases Nat.lt_or_ge j i with h3 | h3
            · exact hk.1.2 j hj h3
            · have : j = i:=by omega
              subst this
              rw [e]
              exact fun e3 => hk.2 (F8 e3).symm
           sub:=fun x hx => by rw [hf2] at hx; exact h.sub x (Hu hx).1
           rest:=fun j hj hle => by
            obtain ⟨g,hg⟩:=h.rest j hj (by omega)
            refine ⟨g,?_⟩
            rw [hf2,Kg,if_neg (fun e3 => ?_)]
            · exact hg
            · rw [<- e] at e3
              have:=(List.getElem_inj hN).1 e3
              omega }
theorem Fg.done {N : List Key} {S : Bx} {st : AQ} {A : List Bo} {P : Nat -> List UInt8 -> Prop} {S' : Bx} (h : Fg N S st A P N.length S') : AZ S'.files st A Eg:=
 h.disk.some fun x hx n hn hp => by
  obtain ⟨j,hj,e⟩:=List.mem_iff_getElem.1 (h.sub x hx)
  exact absurd (e.trans hn) (hp.2 j hj hj)
theorem Q1 {l : List (Key × Ae)} (h : AC l) : (l.map (·.1)).Nodup:=by
 unfold AC at h
 rw [List.nodup_iff_pairwise_ne,List.pairwise_map]
 exact h.imp fun {a b} hab e => by rw [e,FZ] at hab; cases hab
end
section
open Go.RowKit Go.Maps Go.WideMaps Go.Shelf
set_option maxRecDepth 100000 in
set_option maxHeartbeats 4000000 in
theorem PH {B : Nat} {w : World} {d b q mp c : Nat} {tv : Value} {st : AQ} {dn ap : Bool} {S : Bx} {F Fb Fm Fr : Nat -> Prop} (E : EY B w) (hB : ∀ k,F k -> B <= k) (h : AU w d b q mp tv st dn c ap S F Fb Fm Fr) (hd : S.down = false) {A : List Bo} {P : Nat -> List UInt8 -> Prop} (hD : AZ S.files st A P) (hS : AV st) (hz : ZS S.files) (hn : st.newest <= limC) (hw : weigh S.files <= 8796093022208) :
 Calls Tryz.prog 49 #[.pointer (some ⟨d,0,none⟩)] w fun e w' => Ac F w w' /\ ∃ S',AU w' d b q mp tv st dn c ap S' F Fb Fm Fr /\ zF S'.files = zF S.files /\ weigh S'.files <= weigh S.files /\
  ((e = .returned (.int .i64 0) /\ S'.down = false /\ BR S S' /\ AZ S'.files st A Eg) \/ (e = .returned (.int .i64 30) /\ 0 <= S.fuel /\ S'.down = true /\ AZ S'.files st A P)):=by
 have hle:=Fp S.files
 have hls:=Oq h.box (by omega)
 rw [hd] at hls
 simp only [Bool.false_eq_true,↓reduceIte] at hls
 have hmap : (S.files.map fun x => tx x.1) = (S.files.map (·.1)).map tx:=by rw [List.map_map]; rfl
 rw [hmap] at hls
 obtain ⟨N,hN⟩ : ∃ N,S.files.map (·.1) = N:=⟨_,rfl⟩
 have hNl : S.files.length = N.length:=by rw [<- hN,List.length_map]
 have hst:=Fg.start hd hD
 have hnd:=Q1 hD.rising
 rw [hN] at hls hst hnd
 rw [hNl] at hls
 have hNL : N.length <= 8796093022208:=by omega
 have HLS:=hid hls
 have HST:=hid hst
 have HND:=hid hnd
 have HS:=hid hS
 have HE:=hid E
 have HB:=hid hB
 have HH:=hid h
 have c0:=h.head.c0
 have HNAME : Hid (∀ i (hi : i < N.length),SJ ⟨(N[i]).toArray⟩ /\ (∀ k,N[i] ≠ Ar k) \/ ∃ n,1 <= n /\ n <= limC /\ N[i] = Ar n):=fun i hi => by
  subst hN
  rw [List.length_map] at hi
  rw [List.getElem_map]
  have hm:=List.getElem_mem hi
  rcases hD.tabs.left _ hm with h1 | h1 | ⟨n,h1,h2,h3,_⟩
  · exact .inl ⟨VH h1 (hz.of hm h1),fun k e => by rw [e,N6] at h1; cases h1⟩
  · obtain ⟨a,ha,e⟩:=Rv hD.segs hm h1
    have hs:=hD.segs.num a ha
    rw [e]
    exact .inl ⟨Pw a.1,fun k => Kq hs.1 hs.2⟩
  · exact .inr ⟨n,h1,h2,h3⟩
 have HN:=hid hN
 have hnw : st.newest <= 1000000:=hn
 clear hls hst hnd hS E hB h hD hz hmap hNl hN hn hle
 go_enter Tryz.func49,Tryz.ntmps49
 go_wp2_with fail
 refine HLS.out.mono ?_
 rintro e w1 ⟨v,rfl,hrow,b1⟩
 obtain ⟨ra,rc,rfl⟩:=An hrow
 have HROW:=hid hrow
 have HS0 : Hid (Ac F w w1 /\ ∃ S',AU w1 d b q mp tv st dn c ap S' F Fb Fm Fr /\ Fg N S st A P 0 S'):=⟨Ac.of_below F b1,S,HH.out.below b1,HST.out⟩
 have hw1:=b1.size
 clear hrow b1 HLS HST
 go_wp2
 go_loopw [22] (fun iv wr => ∃ i : Nat,i <= N.length /\ iv = .int .i64 (i : Int) /\ Hid (Ac F w1 wr /\ ∃ S',AU wr d b q mp tv st dn c ap S' F Fb Fm Fr /\ Fg N S st A P i S')) (fun iv _ => N.length - (intOf iv).toNat)
 case atStart => exact ⟨0,Nat.zero_le _,rfl,Ac.refl _ _,HS0.out.2⟩
 case round =>
  obtain ⟨i,hi,rfl,HI⟩:=hrel
  obtain ⟨ht,S',hdb,hsw⟩:=HI.out
  by_cases hlt : i < N.length
  · have hrw:=ht.row HROW.out (fun k hk hF => by have h1:=(HROW.out.lt k hk).1; have h2:=HH.out.lt k hF; omega)
    obtain ⟨g,cp,e1,hcl⟩:=IN hrw hlt
    injection e1 with e1 _ e2
    subst e1
    subst e2
    have hgd : N.getD i [] = N[i]:=by simp [List.getD,hlt]
    rw [hgd] at hcl
    unfold tx at hcl
    have hmes : N.length - (intOf (.int .i64 ((i : Int) + 1))).toNat < N.length - (intOf (.int .i64 (i : Int))).toNat:=by simp [intOf]; omega
    have e1:=HE.out.turn (HS0.out.1.trans ht (fun i hi => .inl hi)) HB.out
    have HT:=hid ht
    have HDB:=hid hdb
    have HSW:=hid hsw
    have HNM:=hid (HNAME.out i hlt)
    clear hrw HI ht hdb hsw
    rcases HNM.out with ⟨hnt,hne⟩ | ⟨n,hn1,hn2,hne⟩
    · have HTN:=hid (Gw e1 hnt)
      have HNE:=hid hne
      generalize hNM : (⟨(N[i]).toArray⟩ : ByteArray) = NM at *
      clear hnt hne e1
      go_wp2_with fail
      refine HTN.out.mono ?_
      rintro e w2 ⟨rfl,b2⟩
      have B2:=hid b2
      clear b2 HTN
      go_wp2
      go_roundw
      case rel => exact ⟨i + 1,by omega,by go_num,HT.out.trans (Ac.of_below F B2.out) (fun i hi => .inl hi),S',HDB.out.below B2.out,HSW.out.skip hlt (fun k e => absurd e (HNE.out k))⟩
      case measure => exact hmes
    · have HTN:=hid (I2 e1 hn1 hn2)
      have HNE:=hid hne
      have hn3 : n <= 1000000:=hn2
      rw [hne] at hcl
      have hNMz : (⟨(Ar n).toArray⟩ : ByteArray).size <= 12:=by rw [A0]; exact KJ hn2
      have HNMD : Hid ((⟨(Ar n).toArray⟩ : ByteArray).data.toList = Ar n):=rfl
      generalize (⟨(Ar n).toArray⟩ : ByteArray) = NM at *
      clear hne e1 hn2
      go_wp2_with fail
      refine HTN.out.mono ?_
      rintro e w2 ⟨rfl,b2⟩
      have HD2:=hid (HDB.out.below b2)
      have HT2:=hid (HT.out.trans (Ac.of_below F b2) (fun i hi => .inl hi))
      have HHT:=hid (Ih HD2.out n (by omega) (by omega))
      have hn0 : ((n : Int) == 0) = false:=beq_false_of_ne (by omega)
      have hn00 : ¬ n = 0:=by omega
      clear b2 HTN
      by_cases hin : n <= st.newest /\ st.newest < n + st.runs.length
      · have hdc : decide (n <= st.newest /\ st.newest < n + st.runs.length) = true:=decide_eq_true hin
        rw [hdc] at HHT
        clear hdc
        go_wp2_with fail
        refine HHT.out.mono ?_
        rintro e w3 ⟨rfl,b3⟩
        have B3:=hid b3
        have HIN:=hid hin
        clear b3 HHT hin
        go_wp2
        go_roundw
        case rel => exact ⟨i + 1,by omega,by go_num,HT2.out.trans (Ac.of_below F B3.out) (fun i hi => .inl hi),S',HD2.out.below B3.out,HSW.out.skip hlt (fun k e => by rw [HNE.out] at e; have:=F8 e; subst this; exact HIN.out)⟩
        case measure => exact hmes
      · have hdc : decide (n <= st.newest /\ st.newest < n + st.runs.length) = false:=decide_eq_false hin
        rw [hdc] at HHT
        have HNI:=hid hin
        clear hdc hin
        go_wp2_with fail
        refine HHT.out.mono ?_
        rintro e w3 ⟨rfl,b3⟩
        have hd3:=HD2.out.below b3
        have c03:=hd3.head.c0
        have hbd:=Kh hd3.box NM (by unfold maxLen; omega)
        have hdrop:=HSW.out.drop HND.out HS.out hlt hn1 HNE.out HNI.out
        rw [HNE.out] at hdrop
        rw [HNMD.out] at hbd
        have HD3:=hid hd3
        have HT3:=hid (HT2.out.trans (Ac.of_below F b3) (fun i hi => .inl hi))
        clear b3 HHT hd3
        rcases hdrop with ⟨h0,hdl⟩ | ⟨S2,hdl,hs2⟩
        · rw [hdl] at hbd
          have HBD:=hid hbd
          have HFB:=hid (BR.back HSW.out.fuel h0)
          clear hbd hdl h0
          go_wp2_with fail
          refine HBD.out.mono ?_
          rintro e w4 ⟨rfl,b4,t4⟩
          have HD4:=hid (HD3.out.onBox0 b4 t4)
          clear b4 t4 HBD
          go_wp2
          go_ret
          exact ⟨HS0.out.1.trans (HT3.out.trans HD4.out.2 (fun i hi => .inl hi)) (fun i hi => .inl hi),S'.fall,HD4.out.1,HSW.out.z,HSW.out.weigh,.inr ⟨rfl,HFB.out,rfl,HSW.out.disk.mono fun k b hk => hk.1⟩⟩
        · rw [hdl] at hbd
          have HBD:=hid hbd
          have HS2:=hid hs2
          clear hbd hdl hs2
          go_wp2_with fail
          refine HBD.out.mono ?_
          rintro e w4 ⟨rfl,b4,t4⟩
          have HD4:=hid (HD3.out.onBox0 b4 t4)
          clear b4 t4 HBD
          go_wp2
          go_roundw
          case rel => exact ⟨i + 1,by omega,by go_num,HT3.out.trans HD4.out.2 (fun i hi => .inl hi),S2,HD4.out.1,HS2.out⟩
          case measure => exact hmes
  · obtain rfl : i = N.length:=by omega
    have HDB:=hid hdb
    have HSW:=hid hsw
    have HT:=hid ht
    clear hdb hsw ht HI
    go_wp2
    go_ret
    exact ⟨HS0.out.1.trans HT.out (fun i hi => .inl hi),S',HDB.out,HSW.out.z,HSW.out.weigh,.inl ⟨rfl,HSW.out.down,HSW.out.fuel,HSW.out.done⟩⟩
end
section
open Go.RowKit Go.Maps Go.WideMaps Go.Shelf
theorem S6 {B : Nat} {w : World} {d b q mp c : Nat} {tv : Value} {st st0 : AQ} {dn ap : Bool} {S : Bx} {F Fb Fm Fr : Nat -> Prop} (E : EY B w) (hB : ∀ k,F k -> B <= k) (h : AU w d b q mp tv st dn c ap S F Fb Fm Fr) (hd : S.down = false) {A : List Bo} {P : Nat -> List UInt8 -> Prop} (hD : AZ S.files st0 A P) (hc : DD A c ap) (hl : c <= limC) :
 Calls Tryz.prog 120 #[.pointer (some ⟨q,0,none⟩)] w fun e w' => Ac (Na Fb q) w w' /\ Ac F w w' /\ ((∃ S1,e = .returned (.tuple #[.int .i64 (c : Int),.int .i64 0]) /\ AU w' d b q mp tv st dn (c + 1) false S1 F Fb Fm Fr /\ S1.files = S.files /\ S1.down = false /\ BR S S1) \/
  (S.fuel = 0 /\ e = .returned (.tuple #[.int .i64 0,.int .i64 30]) /\ AU w' d b q mp tv st dn c ap S.fall F Fb Fm Fr)):=by
 have hli:=h.logIn E hB
 have hc9 : c < 99999999:=by unfold limC at hl; omega
 cases ap with
 | false =>
   refine (LA hli hc9).mono ?_
   rintro e w' ⟨rfl,h1,h2⟩
   obtain ⟨k1,k2⟩:=h.onLog0 h1 h2
   exact ⟨h2,k2,.inl ⟨S,rfl,k1,rfl,hd,BR.refl S⟩⟩
 | true =>
   have hf:=KX hD.rising hD.segs hc h.c1 hl
   simp only [↓reduceIte] at hf
   have hF:=(hD.firm _ (CB hf)).firm (ND _)
   have hke : JX.data.toList = LOG:=JX.key
   cases Nj (S:=S) (n:=Af LOG c) hd hf with
   | no h0 e0 =>
     have hr:=OI hli hc9 (by rw [hke,e0]; show (30 : Int) ≠ 0; decide)
     rw [hke,e0] at hr
     refine hr.mono ?_
     rintro e w' ⟨rfl,h1,h2⟩
     have h3 : Ac (Na Fb q) w w':=h2.mono fun k hk => .inl (.inl hk)
     obtain ⟨k1,k2⟩:=h.onLog0 h1 h3
     exact ⟨h3,k2,.inr ⟨h0,rfl,k1⟩⟩
   | yes S1 e0 hf1 hd1 hr1 =>
     have hr:=Vr hli hc9 (by rw [hke,e0])
     rw [hke,e0] at hr
     refine hr.mono ?_
     rintro e w' ⟨rfl,h1,h2⟩
     obtain ⟨k1,k2⟩:=h.onLog0 h1 h2
     exact ⟨h2,k2,.inl ⟨S1,rfl,k1,by rw [hf1,Xr hf hF],hd1,hr1⟩⟩
structure FM (w : World) (d q mp : Nat) (tv : Value) (mem : List Aa) (runs : List (List Aa)) (F Fb Fm Fr : Nat -> Prop) : Prop where
 mem : CN w mp mem Fm
 runs : Dr w tv runs Fr
 fm : ∀ k,Fm k -> F k
 fr : ∀ k,Fr k -> F k
 dm : ¬ Fm d
 dr : ¬ Fr d
 qm : ¬ Fm q
 qr : ¬ Fr q
 bm : ∀ k,Fb k -> ¬ Fm k
 br : ∀ k,Fb k -> ¬ Fr k
 mr : ∀ k,Fm k -> ¬ Fr k
section
variable {w w' : World} {d b q mp c : Nat} {tv : Value} {st : AQ} {dn ap : Bool} {S : Bx} {F Fb Fm Fr : Nat -> Prop}
theorem AU.parts (h : AU w d b q mp tv st dn c ap S F Fb Fm Fr) : FM w d q mp tv st.mem st.runs F Fb Fm Fr:=⟨h.mem,h.runs,h.fm,h.fr,h.dm,h.dr,h.qm,h.qr,h.bm,h.br,h.mr⟩
theorem FM.kept {mem : List Aa} {runs : List (List Aa)} (h : FM w d q mp tv mem runs F Fb Fm Fr) {G : Nat -> Prop} (t : Ac G w w') (hm : ∀ k,Fm k -> ¬ G k) (hr : ∀ k,Fr k -> ¬ G k) : FM w' d q mp tv mem runs F Fb Fm Fr:=
 { h with mem:=h.mem.kept t hm,runs:=h.runs.kept t hr }
theorem FM.log {mem : List Aa} {runs : List (List Aa)} (h : FM w d q mp tv mem runs F Fb Fm Fr) (t : Ac (Na Fb q) w w') : FM w' d q mp tv mem runs F Fb Fm Fr:=
 h.kept t (fun k hk e => by rcases e with e | e; exact h.bm k e hk; exact h.qm (e ▸ hk)) (fun k hk e => by rcases e with e | e; exact h.br k e hk; exact h.qr (e ▸ hk))
theorem AU.swap {mp' n' : Nat} {tv' : Value} {mem' : List Aa} {runs' : List (List Aa)} {Fm' Fr' : Nat -> Prop} (h : AU w d b q mp tv st dn c ap S F Fb Fm Fr) (p : FM w d q mp' tv' mem' runs' F Fb Fm' Fr') :
 AU (((w.setCell ⟨d,4,none⟩ (.int .i64 (n' : Int))).setCell ⟨d,3,none⟩ tv').setCell ⟨d,2,none⟩ (.pointer (some ⟨mp',0,none⟩))) d b q mp' tv' ⟨n',runs',mem',st.last,st.logged⟩ dn c ap S F Fb Fm' Fr' /\
  Ac F w (((w.setCell ⟨d,4,none⟩ (.int .i64 (n' : Int))).setCell ⟨d,3,none⟩ tv').setCell ⟨d,2,none⟩ (.pointer (some ⟨mp',0,none⟩))):=by
 have t : Ac (fun k => k = d) w (((w.setCell ⟨d,4,none⟩ (.int .i64 (n' : Int))).setCell ⟨d,3,none⟩ tv').setCell ⟨d,2,none⟩ (.pointer (some ⟨mp',0,none⟩))):=
  (((Ac.refl (fun k => k = d) w).setCell (p:=⟨d,4,none⟩) (.inl rfl) _).setCell (p:=⟨d,3,none⟩) (.inl rfl) _).setCell (p:=⟨d,2,none⟩) (.inl rfl) _
 have hh:=((h.head.setNewest n').setTabs tv').setMem mp'
 refine ⟨{ head:=hh
           log:=t.keeps h.log (fun e => h.dq e.symm)
           box:=h.box.kept t (fun k hk e => by have e : k = d:=e; subst e; exact h.db hk)
           mem:=p.mem.kept t (fun k hk e => by have e : k = d:=e; subst e; exact p.dm hk)
           runs:=p.runs.kept t (fun k hk e => by have e : k = d:=e; subst e; exact p.dr hk)
           fd:=h.fd,fq:=h.fq,fb:=h.fb,fm:=p.fm,fr:=p.fr,dq:=h.dq,db:=h.db,dm:=p.dm,dr:=p.dr,qb:=h.qb,qm:=p.qm,qr:=p.qr,bm:=p.bm,br:=p.br,mr:=p.mr
           lt:=fun k hk => Nat.lt_of_lt_of_le (h.lt k hk) t.size
           c1:=h.c1,c8:=h.c8 },t.mono fun k hk => .inl (by have hk : k = d:=hk; subst hk; exact h.fd)⟩
end
def EZ (w w' : World) (d b : Nat) (F : Nat -> Prop) (S : Bx) (ms : List (List Aa)) (n : Nat) : Prop:=
 0 <= S.fuel /\ ∃ q mp tv st dn c ap S' Fb Fm Fr,AU w' d b q mp tv st dn c ap S' (AN F w w') Fb Fm Fr /\ S'.down = true /\ weigh S'.files <= wB n /\ Cn S'.files (zF S.files) ms n
def Ek (w w' : World) (d b : Nat) (F : Nat -> Prop) (S : Bx) (st : AQ) (dn : Bool) (c : Nat) (W : Nat) : Prop:=
 ∃ q mp tv ap S' A Fb Fm Fr,AU w' d b q mp tv st dn c ap S' (AN F w w') Fb Fm Fr /\ AZ S'.files st A Eg /\ DD A c ap /\ S'.down = false /\ BR S S' /\ zF S'.files = zF S.files /\ weigh S'.files <= W
theorem AU.grow {w w' : World} {d b q mp c : Nat} {tv : Value} {st : AQ} {dn ap : Bool} {S : Bx} {F Fb Fm Fr : Nat -> Prop} (h : AU w' d b q mp tv st dn c ap S F Fb Fm Fr) : AU w' d b q mp tv st dn c ap S (AN F w w') Fb Fm Fr:=
 h.mono (fun k hk => .inl hk) (fun k hk => by rcases hk with hk | hk; exact h.lt k hk; exact hk.2)
end
section
open Go.RowKit Go.Maps Go.WideMaps Go.Shelf
theorem Po {n : Nat} (h : n <= 1001) : wB n <= 2199023255552:=by unfold wB; omega
theorem AU.more {w w3 w' : World} {d b q mp c : Nat} {tv : Value} {st : AQ} {dn ap : Bool} {S : Bx} {F Fb Fm Fr : Nat -> Prop} (h : AU w' d b q mp tv st dn c ap S (AN F w w3) Fb Fm Fr) (hs : w3.heap.size <= w'.heap.size) : AU w' d b q mp tv st dn c ap S (AN F w w') Fb Fm Fr:=
 h.mono (fun k hk => by
  rcases hk with hk | hk
  · exact .inl hk
  · exact .inr ⟨hk.1,Nat.lt_of_lt_of_le hk.2 hs⟩) (fun k hk => by
  rcases hk with hk | hk
  · exact h.lt k (.inl hk)
  · exact hk.2)
theorem XM (c : Nat) (rs : List A9) : DD [((c,rs,[]) : Bo)] c true:=by
 unfold DD
 simp only [↓reduceIte]
 exact ⟨[],rs,rfl,by simp⟩
set_option maxRecDepth 100000 in
set_option maxHeartbeats 4000000 in
theorem Oc {B : Nat} {w : World} {d b q mp c : Nat} {tv : Value} {st : AQ} {dn ap : Bool} {S : Bx} {F Fb Fm Fr : Nat -> Prop} (E : EY B w) (hB : ∀ k,F k -> B <= k) (h : AU w d b q mp tv st dn c ap S F Fb Fm Fr) (hd : S.down = false) {A : List Bo} {P Q : Nat -> List UInt8 -> Prop} (hD : AZ S.files st A P) (hc : DD A c ap) (hP : ∀ k b,P k b -> IL st k b) (hS : AV st)
 {n' mp' : Nat} {tv' : Value} {mem' : List Aa} {runs' : List (List Aa)} {Fm' Fr' : Nat -> Prop} (p : FM w d q mp' tv' mem' runs' F Fb Fm' Fr') (hT : Dc S.files n' runs' Q) (hQ : ∀ k b,Q k b -> IL ⟨n',runs',mem',st.last + 1,0⟩ k b) (hS2 : AV ⟨n',runs',mem',st.last + 1,0⟩) (hm : AQ.map ⟨n',runs',mem',st.last + 1,0⟩ = st.map)
 {N : Nat} (hf : Gs st N) (hf2 : Gs ⟨n',runs',mem',st.last + 1,0⟩ N) (hok : ER ⟨st.last + 1,some (n',runs'.length),mem'⟩) (hz : ZS S.files) (hcN : c <= 2 * N) (hN : N <= 1001) (hw : weigh S.files + 1048700 <= wB N) :
 Calls Tryz.prog 83 #[.pointer (some ⟨d,0,none⟩),.int .i64 (n' : Int),tv',.pointer (some ⟨mp',0,none⟩)] w fun e w' => Ac F w w' /\ ((e = .returned (.int .i64 0) /\ Ek w w' d b F S ⟨n',runs',mem',st.last + 1,0⟩ dn (c + 1) (weigh S.files + 1048700)) \/ (e = .returned (.int .i64 30) /\ EZ w w' d b F S [st.map] N)):=by
 obtain ⟨ta,tc,rfl,_,_,_⟩:=p.runs.read
 have hwb:=Po hN
 have hcl : c <= limC:=by unfold limC; omega
 have hcl2 : c + 1 <= limC:=by unfold limC; omega
 have hrot:=S6 E hB h hd hD hc hcl
 have c1:=h.head.c1
 have hcu:=hc.new
 have HOP0 : Hid (∀ l,l = S.files -> OpF l st.map N):=fun l e => by subst e; exact OpF.of hD hP hS hf rfl hc.le (by omega)
 obtain ⟨r,hr⟩ : ∃ r : A9,(⟨st.last + 1,some (n',runs'.length),mem'⟩ : A9) = r:=⟨_,rfl⟩
 obtain ⟨st2,hst2⟩ : ∃ s : AQ,(⟨n',runs',mem',st.last + 1,0⟩ : AQ) = s:=⟨_,rfl⟩
 have hfl : (Ai r.bytes).length <= 1048590:=by
  have h1 : r.bytes.length <= 1048576:=by rw [<- hr]; exact A9.len hok
  have h2:=Fu (l:=r.bytes) h1
  omega
 have HOP1 : Hid (∀ l A',AZ l st A' P -> (∀ a ∈ A',a.1 <= c + 1) -> OpF l st.map N):=fun l A' k1 k3 => OpF.of k1 hP hS hf rfl k3 (by omega)
 have HDB : Hid (∀ m,m <= (Ai r.bytes).length -> ∃ A',(∀ x ∈ A',x.1 <= c + 1) /\ ((m < (Ai r.bytes).length /\ AZ (Cg (Af LOG (c + 1)) ((Ai r.bytes).take m) S.files) st A' P) \/ (m = (Ai r.bytes).length /\ DD A' (c + 1) true /\ (∃ B,Bg A' = B ++ [r]) /\ AZ (Cg (Af LOG (c + 1)) ((Ai r.bytes).take m) S.files) st2 A' Q))):=fun m hm => by
  subst hst2
  subst hr
  exact Wy hD hcu (by omega) hcl2 hok rfl rfl rfl rfl rfl hS2 (fun d => hT.seg (by omega) hcl2 d) hm
 have hno : Am (Af LOG (c + 1)) S.files = none:=by
  have:=KX hD.rising hD.segs hcu (by omega) hcl2
  simpa using this
 have hbase : r.base ≠ none:=by rw [<- hr]; simp
 have HOP2 : Hid (∀ l A' P',AZ l st2 A' P' -> (∀ k b,P' k b -> Q k b) -> (∀ a ∈ A',a.1 <= c + 1) -> OpF l st.map N):=fun l A' P' k1 k2 k3 => by
  subst hst2
  exact OpF.of k1 (fun k b hk => hQ k b (k2 k b hk)) hS2 hf2 hm.symm k3 (by omega)
 have hS2' : AV st2:=hst2 ▸ hS2
 have hnl : st2.newest <= limC:=by have:=hok.base _ _ rfl; rw [<- hst2]; exact this.1
 have HRIS:=hid hD.rising
 have HFIRM:=hid hD.firm
 have HP:=hid p
 have HH:=hid h
 have HE:=hid E
 have HB:=hid hB
 have HOK:=hid hok
 have HROT:=hid hrot
 have HZ:=hid hz
 have HS2:=hid hS2'
 have HLAST : Hid (∀ (l : List (Key × Ae)) A',l = Cg (Af LOG (c + 1)) (Ai r.bytes) S.files -> AZ l st2 A' Q -> DD A' (c + 1) true -> (∃ B,Bg A' = B ++ [r]) -> ∃ B rs,A' = B ++ [(c + 1,rs ++ [r],[])] /\ ∀ x ∈ B,x.1 < c + 1):=fun l A' e k1 k2 ⟨X,k3⟩ => by
  subst e
  exact WX hD.rising k1.segs hno k2 (by omega) hcl2 k3
 clear h E hB hok hrot p hD hc hcu hP hS hT hQ hS2 hm hf hf2 hz hS2' hno
 go_enter Tryz.func83,Tryz.ntmps83
 go_wp2_with fail
 refine HROT.out.mono ?_
 rintro e w1 ⟨tq1,t1,⟨S1,rfl,h1,hf1,hd1,hr1⟩ | ⟨h0,rfl,h1⟩⟩
 case inr =>
  have H1:=hid h1
  have T1:=hid t1
  clear h1 t1 tq1 HROT
  go_wp2
  go_ret
  exact ⟨T1.out,.inr ⟨rfl,by omega,_,_,_,_,_,_,_,_,_,_,_,H1.out.grow,rfl,by show weigh S.files <= _; omega,Cn.firm (HOP0.out _ rfl) (by simp) rfl⟩⟩
 have hp1:=HP.out.log tq1
 have g4:=h1.head.c4
 have g3:=h1.head.c3
 have g2:=h1.head.c2
 have y4:=h1.head.free 4
 have y3:=h1.head.free 3
 have y2:=h1.head.free 2
 have hsw:=h1.swap (n':=n') hp1
 have HSW:=hid hsw
 have T1:=hid t1
 have e1:=HE.out.turn t1 HB.out
 have H1:=hid h1
 have HF1:=hid hf1
 have HR1:=hid hr1
 have hlb:=QY (e1.turn hsw.2 HB.out) HB.out hsw.1 HOK.out hd1 hcl2 (by rw [hf1]; omega)
 simp only at hlb
 rw [hr] at hlb
 have HLB:=hid hlb
 clear hp1 hsw h1 t1 tq1 e1 hlb hf1 hr1 HROT
 go_wp2_with fail
 generalize (((w1.setCell ⟨d,4,none⟩ (.int .i64 (n' : Int))).setCell ⟨d,3,none⟩ (.slice ta runs'.length tc)).setCell ⟨d,2,none⟩ (.pointer (some ⟨mp',0,none⟩))) = w2 at *
 refine HLB.out.mono ?_
 rintro e w3 ⟨i,ap',S',Fb',rfl,k1,k2,k3,k4,k5⟩
 rw [hst2] at k4
 have T2:=hid (T1.out.trans HSW.out.2 (fun i hi => .inl hi))
 have K4:=hid (k4.early T2.out.size HH.out.lt k5)
 have T3:=hid (T2.out.trans k5 (fun i hi => .inl hi))
 have hfb : ∀ k,Fb' k -> k < w3.heap.size:=fun k hk => k4.lt k (k4.fb k hk)
 have HFB:=hid hfb
 have hd3:=K4.out.head.c1
 clear k2 k4 k5 HLB hfb HSW H1 HP
 generalize hfr : Ai r.bytes = FR at *
 cases k1 with
 | none h0 =>
   have HFU : Hid (0 <= S.fuel):=HR1.out.back h0
   have HEQ:=HF1.out
   clear k3 h0
   go_wp2
   go_ret
   exact ⟨T3.out,.inr ⟨rfl,HFU.out,_,_,_,_,_,_,_,_,_,_,_,K4.out,rfl,by show weigh S1.files <= _; rw [HEQ]; omega,Cn.firm (HOP0.out _ HEQ) (by simp) (by show zF S1.files = _; rw [HEQ])⟩⟩
 | part S2 hf2 hd2 hr2 h0 =>
   have HFU : Hid (0 <= S.fuel):=(HR1.out.trans hr2).back h0
   have HEQ : Hid (S2.files = Eq (Af LOG (c + 1)) FR S.files):=by show _ = _; rw [hf2,HF1.out]
   clear k3 h0 hf2 hd2 hr2
   go_wp2
   go_ret
   refine ⟨T3.out,.inr ⟨rfl,HFU.out,_,_,_,_,_,_,_,_,_,_,_,K4.out,rfl,?_,?_⟩⟩
   · show weigh S2.files <= _
     have:=JV (Af LOG (c + 1)) FR S.files
     rw [HEQ.out]; omega
   · show Cn S2.files _ _ _
     rw [HEQ.out]
     refine Cn.part HRIS.out HFIRM.out (ND _) rfl fun i hi => ⟨st.map,by simp,?_⟩
     obtain ⟨A',q1,⟨q2,q3⟩ | ⟨q2,q3,q4,q5⟩⟩:=HDB.out i hi
     · exact HOP1.out _ A' q3 q1
     · exact HOP2.out _ A' Q q5 (fun k b h => h) q1
 | all S3 hf3 hd3' hr3 =>
   have ha:=k3 rfl
   subst ha
   obtain ⟨A',q1,⟨q2,q3⟩ | ⟨q2,q3,q4,q5⟩⟩:=HDB.out FR.length (Nat.le_refl _)
   · omega
   rw [List.take_length] at q5
   have HEQ : S'.files = Cg (Af LOG (c + 1)) FR S.files:=by rw [hf3,HF1.out]
   rw [<- HEQ] at q5
   obtain ⟨Bs,rs,rfl,hBs⟩:=HLAST.out _ A' HEQ q5 q3 q4
   have hw3 : weigh S'.files <= weigh S.files + 1048600:=by
    have:=JM (Af LOG (c + 1)) FR S.files
    rw [HEQ]; omega
   have hz3 : zF S'.files = zF S.files:=by rw [HEQ,MD (ND _)]
   have hnums:=q5.segs.nums
   have hdp:=Ty hbase (c : Int) (by omega) Bs S' hd3' hBs q5
   have hll:=Fp S'.files
   have e3:=HE.out.turn T3.out HB.out
   have hgb : ∀ k,AN F w w3 k -> B <= k:=fun k hk => by
    rcases hk with hk | hk
    · exact HB.out k hk
    · have:=HE.out.size; omega
   have hlg:=Yj (K4.out.logIn e3 hgb) HFB.out hd3' (by omega) (c : Int) (by omega)
   rw [JX.key,hnums] at hlg
   generalize BK LOG (c : Int) (List.map (fun x : Bo => x.1) (Bs ++ [((c + 1,rs ++ [r],[]) : Bo)])) S' = R at hlg hdp
   obtain ⟨S9,i9⟩:=R
   simp only at hlg
   have HLG:=hid hlg
   have HDP:=hid hdp
   have HF3 : Hid (BR S S'):=HR1.out.trans hr3
   have E3:=hid e3
   have GB:=hid hgb
   clear hlg hdp hnums q5 q3 q4 q1 hf3 hr3 e3 hgb HDB HLAST HOP1
   go_wp2_with fail
   refine HLG.out.mono ?_
   rintro e w4 ⟨rfl,l4,t4⟩
   have hk5:=K4.out.onLog0 l4 (t4.mono fun k hk => .inl (.inl hk))
   have K5:=hid hk5.1
   have T5:=hid hk5.2
   clear l4 t4 hk5 HLG
   cases HDP.out with
   | no S1' B' h0 hz4 hw4 hB' hD4 =>
     have HFU : Hid (0 <= S.fuel):=by
      show _ <= _
      rcases Int.lt_or_le S.fuel 0 with h | h
      · have:=HF3.out.1 h; omega
      · exact h
     have HOP4:=hid (HOP2.out S1'.files _ Q hD4 (fun k b h => h) (fun a ha => by
      rcases List.mem_append.1 ha with ha | ha
      · exact Nat.le_of_lt (hB' a ha)
      · rw [List.mem_singleton.1 ha]; exact Nat.le_refl _))
     clear h0 hB' hD4
     go_wp2
     go_ret
     exact ⟨C9 T3.out T5.out,.inr ⟨rfl,HFU.out,_,_,_,_,_,_,_,_,_,_,_,K5.out.more T5.out.size,rfl,by show weigh S1'.files <= _; omega,Cn.firm HOP4.out (by simp) (by show zF S1'.files = _; rw [hz4,hz3])⟩⟩
   | ok S9 hd4 hr4 hz4 hw4 hD4 =>
     have hs4:=PH (E3.out.turn T5.out GB.out) GB.out K5.out hd4 hD4 HS2.out (HZ.out.eq (by rw [hz4,hz3])) hnl (by omega)
     have HS4:=hid hs4
     have HF4 : Hid (BR S S9):=HF3.out.trans hr4
     clear hs4 hr4 hD4
     go_wp2_with fail
     refine HS4.out.mono ?_
     rintro e w5 ⟨t5,S5,k5,hz5,hw5,⟨rfl,hd5,hr5,hD5⟩ | ⟨rfl,hf5,hd5,hD5⟩⟩
     · have K6:=hid k5
       have T6:=hid (C9 T3.out (T5.out.trans t5 (fun i hi => .inl hi)))
       have Z6:=hid (t5.size)
       have D6:=hid hD5
       have HF6 : Hid (BR S S5):=HF4.out.trans hr5
       clear k5 t5 hD5 hr5 HS4
       go_wp2
       go_ret
       rw [hst2]
       exact ⟨T6.out,.inl ⟨rfl,q,mp',_,true,S5,_,_,_,_,K6.out.more (Nat.le_trans T5.out.size Z6.out),D6.out,XM _ _,hd5,HF6.out,by rw [hz5,hz4,hz3],by omega⟩⟩
     · have K6:=hid k5
       have T6:=hid (C9 T3.out (T5.out.trans t5 (fun i hi => .inl hi)))
       have Z6:=hid (t5.size)
       have HFU : Hid (0 <= S.fuel):=by
        show _ <= _
        rcases Int.lt_or_le S.fuel 0 with h | h
        · have:=HF4.out.1 h; omega
        · exact h
       have HOP4:=hid (HOP2.out S5.files _ Q hD5 (fun k b h => h) (fun a ha => by rw [List.mem_singleton.1 ha]; exact Nat.le_refl _))
       clear k5 t5 hD5 HS4 hf5
       go_wp2
       go_ret
       exact ⟨T6.out,.inr ⟨rfl,HFU.out,_,_,_,_,_,_,_,_,_,_,_,K6.out.more (Nat.le_trans T5.out.size Z6.out),hd5,by omega,Cn.firm HOP4.out (by simp) (by rw [hz5,hz4,hz3])⟩⟩
end
section
open Go.RowKit Go.Maps Go.WideMaps Go.Shelf
theorem infoRun : (Tryz.prog.info? 115).map (fun i => (i.zero,i.size,i.bytes)) = some (some (.slice none 0 0),1,24):=by kernel_rfl
theorem YB {w : World} {E : TypeId} {v : Value} {n : Nat} {xs : List Value} (h : w.ownsRow 0 E 1 v n xs) (h1 : ∀ u ∈ xs,u.oneCell' = true) : IC w v n 1 xs:=by
 refine ⟨h.1,h1,?_⟩
 rcases h.2 with ⟨rfl,h0⟩ | ⟨g,cap,cur,rfl,_,hg,hle,hcm,_,htake⟩
 · exact .inl ⟨rfl,h0⟩
 · refine .inr ⟨⟨g,0,none⟩,cap,rfl,fun j u hu => ?_⟩
   have hl:=h.1
   have hj : j < xs.length:=(List.getElem?_eq_some_iff.1 hu).1
   rw [Addr.add_lit,Nat.zero_add]
   exact (h.cellAt j (by omega)).trans hu
theorem QV {w : World} {v' rv : Value} {l : List Aa} {older : List (List Aa)} {vs : List Value} {F : Nat -> Prop} (ho : w.ownsRow 0 115 1 v' (1 + older.length) ([rv] ++ vs)) (hl : vs.length = older.length) (hb : ∀ k,v'.ownBlock = some k -> F k) (h0 : CQ w rv l F) (hi : ∀ i (h : i < older.length),CQ w (vs.getD i undef) older[i] F) : Dr w v' (l :: older) F:=by
 refine ⟨rv :: vs,?_,by simp [hl],hb,fun i h => ?_⟩
 · rw [List.length_cons,Nat.add_comm]; exact ho
 · cases i with
   | zero => exact h0
   | succ i =>
     rw [List.length_cons] at h
     exact hi i (by omega)
theorem YF {w : World} {vs : List Value} {runs : List (List Aa)} {F : Nat -> Prop} (hl : vs.length = runs.length) (h : ∀ i (h : i < runs.length),CQ w (vs.getD i undef) runs[i] F) : ∀ u ∈ vs,u.oneCell' = true:=by
 intro u hu
 obtain ⟨i,hi,rfl⟩:=List.mem_iff_getElem.1 hu
 obtain ⟨g,c,p,e,_⟩:=h i (by omega)
 simp only [List.getD,List.getElem?_eq_getElem hi,Option.getD_some] at e
 rw [e]; rfl
theorem Ek.early {w w7 w' : World} {d b : Nat} {F : Nat -> Prop} {S S2 : Bx} {st : AQ} {dn : Bool} {c W W' : Nat} (h : Ek w7 w' d b (AN F w w7) S2 st dn c W) (hs : w.heap.size <= w7.heap.size) (hs2 : w7.heap.size <= w'.heap.size) (hlt : ∀ k,F k -> k < w.heap.size) (hr : BR S S2) (hz : zF S2.files = zF S.files) (hW : W <= W') : Ek w w' d b F S st dn c W':=by
 obtain ⟨q,mp,tv,ap,S',A,Fb,Fm,Fr,h1,h2,h3,h4,h5,h6,h7⟩:=h
 exact ⟨q,mp,tv,ap,S',A,Fb,Fm,Fr,h1.mono (Jm hs hs2) (fun k hk => by
  rcases hk with hk | hk
  · exact Nat.lt_of_lt_of_le (hlt k hk) (Nat.le_trans hs hs2)
  · exact hk.2),h2,h3,h4,hr.trans h5,h6.trans hz,Nat.le_trans h7 hW⟩
theorem EZ.early {w w7 w' : World} {d b : Nat} {F : Nat -> Prop} {S S2 : Bx} {ms : List (List Aa)} {n : Nat} (h : EZ w7 w' d b (AN F w w7) S2 ms n) (hs : w.heap.size <= w7.heap.size) (hs2 : w7.heap.size <= w'.heap.size) (hlt : ∀ k,F k -> k < w.heap.size) (hr : BR S S2) (hz : zF S2.files = zF S.files) : EZ w w' d b F S ms n:=by
 obtain ⟨h0,q,mp,tv,st,dn,c,ap,S',Fb,Fm,Fr,h1,h2,h3,h4⟩:=h
 refine ⟨?_,q,mp,tv,st,dn,c,ap,S',Fb,Fm,Fr,h1.mono (Jm hs hs2) (fun k hk => by
  rcases hk with hk | hk
  · exact Nat.lt_of_lt_of_le (hlt k hk) (Nat.le_trans hs hs2)
  · exact hk.2),h2,h3,by rw [<- hz]; exact h4⟩
 rcases Int.lt_or_le S.fuel 0 with h | h
 · have:=hr.1 h; omega
 · exact h
theorem Rp {l : List (Key × Ae)} {st : AQ} {A : List Bo} (h : AZ l st A Eg) (hs : AV st) (hn : st.newest + 1 <= limC) (d : List UInt8) : Am (Ar (st.newest + 1)) l = none /\ AZ (Cg (Ar (st.newest + 1)) d l) st A (fun k b => k = st.newest + 1 /\ b = d /\ d ≠ []):=by
 obtain ⟨h1,h2,h3⟩:=h.tabs.addTab h.rising hs.newest hn d
 exact ⟨h1,GF h.rising,Lg h.firm,h.segs.same h3,h.chain,h.play,h2⟩
set_option maxRecDepth 100000 in
set_option maxHeartbeats 4000000 in
theorem KD {B : Nat} {w : World} {d b q mp c : Nat} {tv : Value} {st : AQ} {dn ap : Bool} {S : Bx} {F Fb Fm Fr : Nat -> Prop} (E : EY B w) (hB : ∀ k,F k -> B <= k) (h : AU w d b q mp tv st dn c ap S F Fb Fm Fr) (hd : S.down = false) {A : List Bo} (hD : AZ S.files st A Eg) (hc : DD A c ap) (hS : AV st)
 {mp' : Nat} {tv' : Value} {mem' : List Aa} {older : List (List Aa)} {Fm' : Nat -> Prop} (p : FM w d q mp' tv' mem' older F Fb Fm' Fr) {a : Option Addr} {cc : Nat} {l : List Aa} (hR : Aj w (.slice a l.length cc) l) (hcc : l.length <= cc) (hro : FP l) (hL : l = (AJ st.mem st.runs).1 \/ l = AB st.runs) (ho : older = st.runs \/ older = [])
 (hS2 : AV ⟨st.newest + 1,l :: older,mem',st.last + 1,0⟩) (hm : AQ.map ⟨st.newest + 1,l :: older,mem',st.last + 1,0⟩ = st.map)
 {N : Nat} (hf : Gs st N) (hf2 : Gs ⟨st.newest + 1,l :: older,mem',st.last + 1,0⟩ N) (hok : ER ⟨st.last + 1,some (st.newest + 1,(l :: older).length),mem'⟩) (hz : ZS S.files) (hcN : c <= 2 * N) (hN : N <= 1001) (hw : weigh S.files + 600000000 <= wB N) :
 Calls Tryz.prog 66 #[.pointer (some ⟨d,0,none⟩),.slice a l.length cc,tv',.pointer (some ⟨mp',0,none⟩)] w fun e w' => Ac F w w' /\ ((e = .returned (.int .i64 0) /\ Ek w w' d b F S ⟨st.newest + 1,l :: older,mem',st.last + 1,0⟩ dn (c + 1) (weigh S.files + 600000000)) \/ (e = .returned (.int .i64 30) /\ EZ w w' d b F S [st.map] N)):=by
 obtain ⟨ta,tc,rfl,_,_,_⟩:=p.runs.read
 have hwb:=Po hN
 have hnl : st.newest + 1 <= limC:=by have:=hok.base _ _ rfl; exact this.1
 have hn6 : st.newest + 1 <= 1000000:=hnl
 have c4:=h.head.c4
 have hw4 : IntKind.i64.wrap ((st.newest : Int) + 1) = (st.newest : Int) + 1:=by rw [IntKind.wrap_i64]; omega
 have hen : (((st.newest + 1 : Nat)) : Int) = (st.newest : Int) + 1:=by omega
 have hrt:=LX (st.newest + 1) hnl hR hcc hro
 rw [KN hro,hen] at hrt
 have hrl:=VP hro hnl
 have hrp:=V6 (st.newest + 1) l
 have hrr:=fun w => IF hro (st.newest + 1) hnl w
 rw [hen] at hrr
 obtain ⟨RL,hRL⟩ : ∃ RL,Gd (st.newest + 1) l = RL:=⟨_,rfl⟩
 rw [hRL] at hrt hrl hrp hrr
 obtain ⟨X,hX⟩ : ∃ X : ByteArray,(⟨RL.toArray⟩ : ByteArray) = X:=⟨_,rfl⟩
 have HXD : Hid (X.data.toList = RL):=by show _ = _; rw [<- hX]
 have hXs : X.size <= 580000100:=by rw [<- hX,A0]; exact hrl
 rw [hX] at hrt hrr
 have HRR:=hid hrr
 have hne : RL ≠ []:=fun e => by rw [e] at hrp; simp at hrp
 obtain ⟨K,hK⟩ : ∃ K,Ar (st.newest + 1) = K:=⟨_,rfl⟩
 have hKn : Cp K = true:=by rw [<- hK]; exact Abz hnl
 have hKl : K.length <= 12:=by rw [<- hK]; exact KJ hnl
 obtain ⟨NM,hNM⟩ : ∃ X : ByteArray,(⟨K.toArray⟩ : ByteArray) = X:=⟨_,rfl⟩
 have HNM : Hid (NM.data.toList = K):=by show _ = _; rw [<- hNM]
 have hNMz : NM.size <= 12:=by rw [<- hNM,A0]; exact hKl
 have htf : Hid (∀ w',Tab w' -> Calls Tryz.prog 76 #[.int .i64 ((st.newest : Int) + 1)] w' fun e w'' => e = .returned (.string NM) /\ Below w'.heap.size w' w''):=fun w' hT => by
  have:=GW hT hnl
  rw [hK,hNM,hen] at this
  exact this
 have HOP0 : Hid (OpF S.files st.map N):=OpF.of hD (fun k b h => h.elim) hS hf rfl hc.le (by omega)
 have HOPT : Hid (Cn (Eq K RL S.files) (zF S.files) [st.map] N):=by
  refine Cn.part hD.rising hD.firm (by rw [<- hK]; exact N6 _) rfl fun i hi => ⟨st.map,by simp,?_⟩
  have hdt:=(Rp hD hS hnl (RL.take i)).2
  rw [hK] at hdt
  refine OpF.of hdt (fun k b hk => ?_) hS hf rfl hc.le (by omega)
  obtain ⟨rfl,rfl,hne2⟩:=hk
  refine .inr ⟨rfl,hne2,?_⟩
  rw [<- hRL]
  rcases hL with e | e
  · left; rw [<- e,KN hro]; exact List.take_prefix _ _
  · right; rw [<- e,KN hro]; exact List.take_prefix _ _
 obtain ⟨hno,hdt⟩:=Rp hD hS hnl RL
 have hft:=JH hno hne
 rw [hK] at hno hdt hft
 have hTB : Dc (Cg K RL S.files) (st.newest + 1) (l :: older) (IL ⟨st.newest + 1,l :: older,mem',st.last + 1,0⟩):=by
  refine Dc.base hS hdt.rising ?_ ?_ ho mem' _ _
  · rw [hRL]; exact hdt.tabs
  · rw [hRL,hK]; exact hft
 have HD2:=hid (And.intro hdt hTB)
 have HP2 : Hid (∀ k b,(k = st.newest + 1 /\ b = RL /\ RL ≠ []) -> IL st k b):=fun k b hk => by
  obtain ⟨rfl,rfl,hne2⟩:=hk
  refine .inr ⟨rfl,hne2,?_⟩
  rw [<- hRL]
  rcases hL with e | e
  · left; rw [<- e,KN hro]; exact List.prefix_refl _
  · right; rw [<- e,KN hro]; exact List.prefix_refl _
 have hzk : zK K = false:=by rw [<- hK]; exact N6 _
 have happ:=OB (S:=S) (n:=K) (d:=RL) hd hKn
 have HRT:=hid hrt
 have HPP:=hid p
 have HH:=hid h
 have HE:=hid E
 have HB:=hid hB
 have HOK:=hid (And.intro hok (And.intro hS (And.intro hS2 (And.intro hm (And.intro hf (And.intro hf2 (And.intro hz hc)))))))
 obtain ⟨i0,hi0,hz0,hz1,hz2⟩:=info_parts infoRun
 have hsfew : older.length <= 3:=by have:=hS2.few; rw [List.length_cons] at this; omega
 clear hrt hR p h E hB hok hS hS2 hm hf hf2 hz hc hD hRL hX hK hNM hdt hTB hrr hft hno hro hen hL ho
 go_enter Tryz.func66,Tryz.ntmps66
 go_wp2_with fail
 refine HRT.out.mono ?_
 rintro e w1 ⟨rfl,b1⟩
 have B1:=hid b1
 have hrr1:=hid (HRR.out w1)
 clear b1 HRT
 go_wp2_with fail
 refine hrr1.out.mono ?_
 rintro e w2 ⟨rv,rfl,hra,b2⟩
 have B2:=hid (B1.out.trans (b2.mono B1.out.size))
 have RA:=hid (hra.mono (G:=fun k => w.heap.size <= k) fun k hk => Nat.le_trans B1.out.size hk)
 obtain ⟨g0,c0,rfl⟩:=Lj hra
 clear hra b2 hrr1
 have htf1:=hid (htf.out w2 (HE.out.below B2.out).tab)
 go_wp2_with fail
 refine htf1.out.mono ?_
 rintro e w3 ⟨rfl,b3⟩
 have B3:=hid (B2.out.trans (b3.mono B2.out.size))
 have RA3:=hid ((RA.out.kept (Ac.of_below (fun _ => False) b3) (fun _ _ h => h)).tight)
 have h3:=HH.out.below B3.out
 have cc0:=h3.head.c0
 have hba:=Kp h3.box NM X (by unfold maxLen; omega) (by omega)
 rw [HNM.out,HXD.out] at hba
 have H3:=hid h3
 clear b3 htf htf1 h3
 cases happ with
 | no h0 e0 =>
   rw [e0] at hba
   have HBA:=hid hba
   have HFU : Hid (0 <= S.fuel):=by show _ <= _; omega
   clear hba h0 e0
   go_wp2_with fail
   refine HBA.out.mono ?_
   rintro e w4 ⟨rfl,b4,t4⟩
   have H4:=hid (H3.out.onBox b4 t4)
   clear b4 t4 HBA
   go_wp2
   go_ret
   exact ⟨(Ac.of_below F B3.out).trans H4.out.2 (fun i hi => .inl hi),.inr ⟨rfl,HFU.out,_,_,_,_,_,_,_,_,_,_,_,H4.out.1.early B3.out.size HH.out.lt H4.out.2,rfl,by show weigh S.files <= _; omega,Cn.firm HOP0.out (by simp) rfl⟩⟩
 | yes S1 e0 hf1 hd1 hr1 =>
   rw [e0] at hba
   have HBA:=hid hba
   have HR1 : Hid (BR S S1):=hr1
   obtain ⟨f,hff,hfs⟩:=P1 (k:=K) (l:=S.files) hne
   have hsc:=Nj (S:=S1) (n:=K) (f:=f) hd1 (by rw [hf1]; exact hff)
   rw [hf1,hfs] at hsc
   have hw1 : weigh S1.files <= weigh S.files + 580000101:=by
    have:=JV K RL S.files
    rw [hf1]; omega
   have HF1 : Hid (S1.files = Eq K RL S.files):=hf1
   clear hba e0 hr1 hff hfs hf1
   go_wp2_with fail
   refine HBA.out.mono ?_
   rintro e w4 ⟨rfl,b4,t4⟩
   have hd4:=H3.out.onBox b4 t4
   have cc4:=hd4.1.head.c0
   have hbs:=Ro hd4.1.box NM (by unfold maxLen; omega)
   rw [HNM.out] at hbs
   have H4:=hid hd4.1
   have TF4:=hid hd4.2
   have TB4:=hid t4
   clear hd4 b4 t4 HBA
   cases hsc with
   | no h0 e0 =>
     rw [e0] at hbs
     have HBS:=hid hbs
     have HFU : Hid (0 <= S.fuel):=HR1.out.back h0
     clear hbs h0 e0
     go_wp2_with fail
     refine HBS.out.mono ?_
     rintro e w5 ⟨rfl,b5,t5⟩
     have H5:=hid (H4.out.onBox0 b5 t5)
     clear b5 t5 HBS
     go_wp2
     go_ret
     have hT : Ac F w3 w5:=C9 TF4.out H5.out.2
     exact ⟨(Ac.of_below F B3.out).trans hT (fun i hi => .inl hi),.inr ⟨rfl,HFU.out,_,_,_,_,_,_,_,_,_,_,_,(H5.out.1.more H5.out.2.size).early B3.out.size HH.out.lt hT,rfl,by show weigh S1.files <= _; omega,by show Cn S1.files _ _ _; rw [HF1.out]; exact HOPT.out⟩⟩
   | yes S2 e0 hf2' hd2 hr2 =>
     rw [e0] at hbs
     have HBS:=hid hbs
     have HR2 : Hid (BR S S2):=HR1.out.trans hr2
     have HF2 : Hid (S2.files = Cg K RL S.files):=hf2'
     have hw2 : weigh S2.files <= weigh S.files + 580000101:=by
      have:=JM K RL S.files
      rw [hf2']; omega
     clear hbs e0 hr2 hf2'
     go_wp2_with fail
     refine HBS.out.mono ?_
     rintro e w5 ⟨rfl,b5,t5⟩
     have H5:=hid (H4.out.onBox0 b5 t5)
     have TB5 : Hid (Ac Fb w3 w5):=C9 TB4.out t5
     have TW5 : Hid (Ac Fb w w5):=(Ac.of_below Fb B3.out).trans TB5.out (fun i hi => .inl hi)
     have hp5:=HPP.out.kept TW5.out (fun k hk e => HPP.out.bm k e hk) (fun k hk e => HPP.out.br k e hk)
     have hra5:=RA3.out.kept TB5.out (fun k hk e => by have:=HH.out.lt k (HH.out.fb k e); omega)
     have al:=(Below.refl w5.heap.size w5).alloc (Nat.le_refl _) (.cells #[.slice (some ⟨g0,0,none⟩) 1 c0] 115)
     have hp6:=hp5.kept (Ac.of_below (fun _ => False) al) (fun _ _ h => h) (fun _ _ h => h)
     obtain ⟨vs,hv1,hv2,hv3,hv4⟩:=hp6.runs
     have hsrc:=YB hv1 (YF hv2 hv4)
     have hone:=SI w5 0 (Nat.zero_le _) (.slice (some ⟨g0,0,none⟩) 1 c0) 115
     have P6:=hid hp6
     have RA6:=hid (hra5.kept (Ac.of_below (fun _ => False) al) (fun _ _ h => h))
     have H6:=hid (H5.out.1.below al)
     have HV:=hid (And.intro hv2 hv4)
     have AL:=hid al
     clear b5 t5 HBS hp5 hra5 al hp6 hv1 hv2 hv3 hv4
     go_wp2_with (at_builtin; go_loud (refine Bp _ rfl (.tmp 54) (.tmp 55) rfl Tryz.underlying97 hi0 hz0 hz1 hz2 rfl (by decide) rfl hone rfl hsrc ?a1 ?a2 ?_))
     case a1 => omega
     case a2 => unfold maxLen; omega
     intro v7 w7 o7 g7 l7
     have T7 : Ac (fun k => w5.heap.size <= k) (w5.alloc (.cells #[.slice (some ⟨g0,0,none⟩) 1 c0] 115)) w7:=(Ac.refl _ _).grown g7 (fun k e => .inl (by cases e; exact Nat.le_refl _))
     have s37:=B3.out.size
     have s34:=TB4.out.size
     have s35:=TB5.out.size
     have s57 : w5.heap.size + 1 <= w7.heap.size:=by have:=T7.size; simpa using this
     have s45 : w4.heap.size <= w5.heap.size:=H5.out.2.size
     have ltw : ∀ k,F k -> k < w.heap.size:=HH.out.lt
     have hvb : ∀ k,v7.ownBlock = some k -> w5.heap.size <= k /\ k < w7.heap.size:=fun k hk => by
      refine ⟨?_,(o7.lt k hk).2⟩
      rcases l7 k hk with e | e
      · cases e; exact Nat.le_refl _
      · have e2 : w5.heap.size + 1 <= k:=e
        omega
     have h7:=H6.out.kept T7 (fun k hk e => by have:=H5.out.1.lt k hk; omega)
     have hdq : d < w.heap.size /\ q < w.heap.size:=⟨HH.out.head.lt,ltw _ HH.out.fq⟩
     have TW7 : Ac F w w7:=((TW5.out.mono (fun k hk => .inl (HH.out.fb k hk))).trans (Ac.of_below F AL.out) (fun i hi => .inl hi)).trans T7 (fun i hi => .inr (by omega))
     have h7' : AU w7 d b q mp tv st dn c ap S2 (AN F w w7) (AN Fb w3 w4) Fm Fr:=h7.mono (fun k hk => by
      rcases hk with hk | hk
      · exact .inl hk
      · exact .inr ⟨by omega,by omega⟩) (fun k hk => by
      rcases hk with hk | hk
      · have:=ltw k hk; omega
      · exact hk.2)
     have hp7 : FM w7 d q mp' v7 mem' (l :: older) (AN F w w7) (AN Fb w3 w4) Fm' (fun k => Fr k \/ (w.heap.size <= k /\ k < w3.heap.size) \/ (w5.heap.size <= k /\ k < w7.heap.size)):=
      { mem:=P6.out.mem.kept T7 (fun k hk e => by have:=ltw k (HPP.out.fm k hk); omega)
        runs:=QV o7 HV.out.1 (fun k hk => .inr (.inr (hvb k hk))) ((RA6.out.kept T7 (fun k hk e => by have:=hk.2; omega)).mono (fun k hk => .inr (.inl hk))) (fun i hi => ((HV.out.2 i hi).kept T7 (fun k hk e => by have:=ltw k (HPP.out.fr k hk); omega)).mono (fun k hk => .inl hk))
        fm:=fun k hk => .inl (HPP.out.fm k hk)
        fr:=fun k hk => by
         rcases hk with hk | hk | hk
         · exact .inl (HPP.out.fr k hk)
         · exact .inr ⟨hk.1,by omega⟩
         · exact .inr ⟨by omega,hk.2⟩
        dm:=HPP.out.dm
        dr:=fun hk => by
         rcases hk with hk | hk | hk
         · exact HPP.out.dr hk
         · omega
         · omega
        qm:=HPP.out.qm
        qr:=fun hk => by
         rcases hk with hk | hk | hk
         · exact HPP.out.qr hk
         · omega
         · omega
        bm:=fun k hk hm => by
         rcases hk with hk | hk
         · exact HPP.out.bm k hk hm
         · have:=ltw k (HPP.out.fm k hm); omega
        br:=fun k hk hr => by
         rcases hk with hk | hk
         · have h1:=ltw k (HH.out.fb k hk)
           rcases hr with hr | hr | hr
           · exact HPP.out.br k hk hr
           · omega
           · omega
         · rcases hr with hr | hr | hr
           · have:=ltw k (HPP.out.fr k hr); omega
           · omega
           · omega
        mr:=fun k hm hr => by
         have h1:=ltw k (HPP.out.fm k hm)
         rcases hr with hr | hr | hr
         · exact HPP.out.mr k hm hr
         · omega
         · omega }
     obtain ⟨k1,k2,k3,k4,k5,k6,k7,k8⟩:=HOK.out
     have hz2 : zF S2.files = zF S.files:=by rw [HF2.out,MD hzk]
     have hrb:=Oc (n':=st.newest + 1) (E:=HE.out.turn TW7 HB.out) (fun k hk => by
      rcases hk with hk | hk
      · exact HB.out k hk
      · have:=HE.out.size; omega) h7' hd2 (P:=fun k b => k = st.newest + 1 /\ b = RL /\ RL ≠ []) (by rw [HF2.out]; exact HD2.out.1) k8 HP2.out k2 hp7 (by rw [HF2.out]; exact HD2.out.2) (fun k b h => h) k3 k4 k5 k6 k1 (k7.eq hz2) hcN hN (by omega)
     rw [show ((st.newest + 1 : Nat) : Int) = (st.newest : Int) + 1 by omega] at hrb
     have HRB:=hid hrb
     have HT7:=hid TW7
     clear hrb TW7 hp7 h7' h7 T7 o7 g7 l7 hsrc hone hvb k1 k2 k3 k4 k5 k6 k7 k8 hdq
     go_wp2_with fail
     refine HRB.out.mono ?_
     rintro e w8 ⟨t8,hres⟩
     have HRES:=hid hres
     have T8:=hid t8
     clear hres t8 HRB
     rcases HRES.out with ⟨rfl,hmd⟩ | ⟨rfl,hlo⟩
     · have HMD:=hid hmd
       clear hmd HRES
       go_wp2
       go_ret
       exact ⟨C9 HT7.out T8.out,.inl ⟨rfl,HMD.out.early HT7.out.size T8.out.size ltw HR2.out hz2 (by omega)⟩⟩
     · have HLO:=hid hlo
       clear hlo HRES
       go_wp2
       go_ret
       exact ⟨C9 HT7.out T8.out,.inr ⟨rfl,HLO.out.early HT7.out.size T8.out.size ltw HR2.out hz2⟩⟩
end
end Go.Proofs.YtnafjlhohbhcoaaGreatDoor
