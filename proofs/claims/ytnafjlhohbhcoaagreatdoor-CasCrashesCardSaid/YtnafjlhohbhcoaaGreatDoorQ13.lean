/- Parts of the proof. -/
import Derived.Test.YtnafjlhohbhcoaaGreatDoorQ09
import Derived.Test.YtnafjlhohbhcoaaGreatDoorQ12
namespace Go.Proofs.YtnafjlhohbhcoaaGreatDoor
open Go.Lib (hid)
set_option linter.unusedVariables false
section
open Go.RowKit Go.Shelf
def Di (w : World) (v : Value) (l : List Aa) (G : Nat -> Prop) : Prop:=
 (v = .nilFunc /\ l = []) \/ ∃ g lb,v = .func (.func g) #[] lb /\ (∀ args w,(callFunc g args).run Tryz.prog w = .ok (.enter g args) w) /\ (∀ w'',A8 G w w'' -> w.heap.size <= w''.heap.size -> FO g lb G l w'') /\ ∀ j,G j -> j < w.heap.size
theorem Di.keeps {w w' : World} {v : Value} {l : List Aa} {G : Nat -> Prop} (h : Di w v l G) (t : A8 G w w') (hs : w.heap.size <= w'.heap.size) : Di w' v l G:=by
 rcases h with h | ⟨g,lb,h1,h2,h3,h4⟩
 · exact .inl h
 · exact .inr ⟨g,lb,h1,h2,fun w'' hw hz => h3 w'' (t.trans hw) (Nat.le_trans hs hz),fun j hj => Nat.lt_of_lt_of_le (h4 j hj) hs⟩
theorem Di.one {w : World} {v : Value} {l : List Aa} {G : Nat -> Prop} (h : Di w v l G) : ∀ x ∈ [v],x.oneCell' = true:=by
 intro x hx
 simp at hx
 subst hx
 rcases h with ⟨rfl,_⟩ | ⟨g,lb,rfl,_⟩ <;> rfl
theorem infoSeq : (Tryz.prog.info? 107).map (fun i => (i.zero,i.size,i.bytes)) = some (some .nilFunc,1,8):=by kernel_rfl
structure LP (P : Nat -> Prop) (w : World) (base : Nat) (v : Value) (xs : List Value) (ls : List (List Aa)) : Prop where
 row : w.ownsRow base 107 1 v ls.length xs
 each : ∀ i (h : i < ls.length),∃ u G,xs[i]? = some u /\ Di w u ls[i] G /\ ∀ j,G j -> (v.ownBlock ≠ some j /\ j < w.heap.size) /\ P j
theorem LP.below {P : Nat -> Prop} {w w' : World} {base : Nat} {v : Value} {xs : List Value} {ls : List (List Aa)} (h : LP P w base v xs ls) (t : Below w.heap.size w w') : LP P w' base v xs ls:=
 ⟨Ah h.row t,fun i hi => by
   obtain ⟨u,G,h1,h2,h3⟩:=h.each i hi
   exact ⟨u,G,h1,h2.keeps (A8.of_below t (fun k hk => (h3 k hk).1.2)) t.size,fun j hj => ⟨⟨(h3 j hj).1.1,Nat.lt_of_lt_of_le (h3 j hj).1.2 t.size⟩,(h3 j hj).2⟩⟩⟩
theorem LP.add {P : Nat -> Prop} {w w' : World} {base : Nat} {v v' : Value} {xs : List Value} {ls : List (List Aa)} {u : Value} {l : List Aa} {G : Nat -> Prop} (h : LP P w base v xs ls) (hu : Di w u l G) (hG : ∀ j,G j -> (v.ownBlock ≠ some j /\ j < w.heap.size) /\ P j) (hg : w.grownBy w' v.ownBlock) (hv : ∀ k,v'.ownBlock = some k -> v.ownBlock = some k \/ w.heap.size <= k)
 (ho : w'.ownsRow base 107 1 v' (ls.length + 1) (xs ++ [u])) : LP P w' base v' (xs ++ [u]) (ls ++ [l]):=by
 have hxl : xs.length = ls.length:=by have:=h.row.1; omega
 have kp : ∀ {x : Value} {m : List Aa} {F : Nat -> Prop},Di w x m F -> (∀ j,F j -> (v.ownBlock ≠ some j /\ j < w.heap.size) /\ P j) -> Di w' x m F /\ ∀ j,F j -> (v'.ownBlock ≠ some j /\ j < w'.heap.size) /\ P j:=fun {x m F} h1 h2 => by
  refine ⟨h1.keeps (fun k hk => hg.block k (h2 k hk).1.2 (fun e => (h2 k hk).1.1 e.symm)) hg.size,fun j hj => ⟨⟨fun e => ?_,Nat.lt_of_lt_of_le (h2 j hj).1.2 hg.size⟩,(h2 j hj).2⟩⟩
  rcases hv j e with e2 | e2
  · exact (h2 j hj).1.1 e2
  · have:=(h2 j hj).1.2; omega
 refine ⟨by rw [List.length_append]; exact ho,fun i hi => ?_⟩
 by_cases hlt : i < ls.length
 · obtain ⟨x,F,h1,h2,h3⟩:=h.each i hlt
   obtain ⟨k1,k2⟩:=kp h2 h3
   exact ⟨x,F,by rw [List.getElem?_append_left (by omega)]; exact h1,by rw [List.getElem_append_left hlt]; exact k1,k2⟩
 · have : i = ls.length:=by rw [List.length_append] at hi; simp at hi; omega
   subst this
   obtain ⟨k1,k2⟩:=kp hu hG
   refine ⟨u,G,by rw [<- hxl]; simp,?_,k2⟩
   rw [List.getElem_append_right (Nat.le_refl _)]
   simp only [Nat.sub_self,List.getElem_cons_zero]
   exact k1
end
section
open Go.RowKit Go.Shelf
end
section
open Go.RowKit Go.Maps Go.WideMaps Go.Shelf
def Ed (w : World) (x : Value) (ls : List (List Aa)) (G : Nat -> Prop) : Prop:=
 (∀ j,G j -> j < w.heap.size) /\ ls.length <= 9223372036854775807 /\ ∃ a c,x = .slice a ls.length c /\ (ls.length <= c /\ c <= maxLen) /\ (ls = [] \/ ∃ b o,a = some ⟨b,o,none⟩ /\ G b /\ ∀ i (h : i < ls.length),∃ u Gi,w.cell? ⟨b,o + i,none⟩ = some u /\ Di w u ls[i] Gi /\ ∀ j,Gi j -> G j)
def JE (w : World) (G : Nat -> Prop) (l : List Aa) (e : Ending) (w' : World) : Prop:=
 ∃ g lb G',e = .returned (.func (.func g) #[] lb) /\ Di w' (.func (.func g) #[] lb) l G' /\ Below w.heap.size w w' /\ ∀ j,G' j -> G j \/ w.heap.size <= j
structure Ab9 : Prop where
 all : ∀ {w a c ls G},Ed w (.slice a ls.length c) ls G -> Cd ls -> Bk ls + ls.length <= 1099511627776 -> Calls Tryz.prog 58 #[.slice a ls.length c] w (JE w G (BY ls))
 live : ∀ {w v l G},Di w v l G -> l.length <= 3518437208780 -> Calls Tryz.prog 57 #[v] w (JE w G (By l))
 some : ∀ {w v l G} (to : ByteArray) (most : Int),Di w v l G -> l.length <= 3518437208780 -> (Lit.int .i64 most).wf = true -> Calls Tryz.prog 56 #[v,.string to,.int .i64 most] w fun e w' => ∃ r,e = .returned r /\ Aj w' r (CU l to most) /\ Below w.heap.size w w'
theorem Di.func {w : World} {g : Nat} {lb : Array Value} {l : List Aa} {G : Nat -> Prop} (h : Di w (.func (.func g) #[] lb) l G) :
 (∀ args w,(callFunc g args).run Tryz.prog w = .ok (.enter g args) w) /\ (∀ w'',A8 G w w'' -> w.heap.size <= w''.heap.size -> FO g lb G l w'') /\ ∀ j,G j -> j < w.heap.size:=by
 rcases h with ⟨h,_⟩ | ⟨g',lb',h,h1,h2,h3⟩
 · cases h
 · injection h with e1 e2 e3
   injection e1 with e1
   subst e1
   subst e3
   exact ⟨h1,h2,h3⟩
theorem Di.below {w w' : World} {v : Value} {l : List Aa} {G : Nat -> Prop} (h : Di w v l G) (t : Below w.heap.size w w') : Di w' v l G:=by
 rcases h with h | ⟨g,lb,h1,h2,h3,h4⟩
 · exact .inl h
 · exact Di.keeps (.inr ⟨g,lb,h1,h2,h3,h4⟩) (A8.of_below t h4) t.size
theorem Ed.below {w w' : World} {x : Value} {ls : List (List Aa)} {G : Nat -> Prop} (h : Ed w x ls G) (t : Below w.heap.size w w') : Ed w' x ls G:=by
 obtain ⟨h1,h2,a,c,rfl,h0,h3⟩:=h
 refine ⟨fun j hj => Nat.lt_of_lt_of_le (h1 j hj) t.size,h2,a,c,rfl,h0,?_⟩
 rcases h3 with h3 | ⟨b,o,rfl,hb,h3⟩
 · exact .inl h3
 · refine .inr ⟨b,o,rfl,hb,fun i hi => ?_⟩
   obtain ⟨u,Gi,q1,q2,q3⟩:=h3 i hi
   exact ⟨u,Gi,(t.cell (World.block_lt_of_cell? w ⟨b,o + i,none⟩ q1)).trans q1,q2.below t,q3⟩
theorem LP.seqsP {P : Nat -> Prop} {w : World} {base : Nat} {v : Value} {xs : List Value} {ls : List (List Aa)} (h : LP P w base v xs ls) (hP : ∀ k,base <= k -> P k) : Ed w v ls (fun j => P j /\ j < w.heap.size):=by
 have hr:=h.row
 rcases h.row.2 with ⟨rfl,h0⟩ | ⟨g,cap,cur,rfl,hbg,hg,hle,hcm,_⟩
 · have : ls = []:=List.eq_nil_of_length_eq_zero h0
   subst this
   exact ⟨fun _ h => h.2,by simp,_,_,rfl,by decide,.inl rfl⟩
 · refine ⟨fun _ h => h.2,by unfold maxLen at hcm; omega,some ⟨g,0,.none⟩,cap,rfl,⟨hle,hcm⟩,.inr ⟨g,0,rfl,⟨hP g hbg,Ad hg⟩,fun i hi => ?_⟩⟩
   obtain ⟨u,Gi,h1,h2,h3⟩:=h.each i hi
   rw [Nat.zero_add]
   exact ⟨u,Gi,(hr.cellAt i (by omega)).trans h1,h2,fun j hj => ⟨(h3 j hj).2,(h3 j hj).1.2⟩⟩
theorem LP.seqs {w : World} {base : Nat} {v : Value} {xs : List Value} {ls : List (List Aa)} (h : LP (fun _ => True) w base v xs ls) : ∃ G,Ed w v ls G:=⟨_,h.seqsP fun _ _ => trivial⟩
theorem Jg {w : World} {base : Nat} {e : TypeId} {sz n c : Nat} {a : Option Addr} {xs : List Value} (h : w.ownsRow base e sz (.slice a n c) n xs) : n <= c /\ c <= maxLen:=by
 rcases h.2 with ⟨hv,h0⟩ | ⟨g,cap,cur,hv,_,_,h1,h2,_⟩
 · injection hv with _ _ e; subst e; subst h0; exact ⟨Nat.le_refl _,by decide⟩
 · injection hv with _ _ e; subst e; exact ⟨h1,h2⟩
end
section
open Go.RowKit Go.Maps Go.WideMaps Go.Shelf
attribute [local go_sem] Oper.semAt_some
theorem ZA {l m m' : Nat} {P : Program} {y : Nat} {f : FuncId} {tmps : Array Value} {assign body : Code} {w : World} {R : Ending -> World -> Prop} (h : RoundIn Fence.wide m P y f tmps assign body w R) : RoundIn (Fence.wide.inRound l) m' P y f tmps assign body w R:=
 ⟨trivial,fun c cs _ => h.2 c cs (NG _)⟩
theorem La {l m m' : Nat} {P : Program} {y : Nat} {args : Array Value} {w : World} {R : Ending -> World -> Prop} (h : YieldAt Fence.wide m P y args w R) : YieldAt (Fence.wide.inRound l) m' P y args w R:=by
 obtain ⟨fn,tmps,assign,body,h1,h2⟩:=h
 exact ⟨fn,tmps,assign,body,h1,ZA h2⟩
def Ct (J : List Aa -> (Nat -> Prop) -> World -> Prop) (own : Nat -> Prop) (s : List Aa) (Ci : Nat -> Prop) (W : World) : Prop:=
 ∃ C,J s C W /\ (∀ k,C k -> Ci k) /\ (∀ k,C k -> k < W.heap.size) /\ ∀ k,own k -> ¬ C k /\ k < W.heap.size
theorem Ct.stays {J : List Aa -> (Nat -> Prop) -> World -> Prop} (hJ : Ax J) {own : Nat -> Prop} {s : List Aa} {Ci Ci' : Nat -> Prop} {W W' : World} (h : Ct J own s Ci W) (t : AX Ci W W') (hc : ∀ k,Ci k -> Ci' k) : Ct J own s Ci' W':=by
 obtain ⟨C,h1,h2,h3,h4⟩:=h
 exact ⟨C,hJ.later h1 (t.mono h2),fun k hk => hc k (h2 k hk),fun k hk => Nat.lt_of_lt_of_le (h3 k hk) t.size,fun k hk => ⟨(h4 k hk).1,Nat.lt_of_lt_of_le (h4 k hk).2 t.size⟩⟩
theorem DG {β : Type} {J : List Aa -> (Nat -> Prop) -> World -> Prop} (hJ : Ax J) (own : Nat -> Prop) (f : β -> List Aa) : Ax (fun s C W => Ct J own (f s) C W):=fun s C C' W W' h t hc => Ct.stays hJ h t hc
theorem Ct.yielded {J : List Aa -> (Nat -> Prop) -> World -> Prop} {own : Nat -> Prop} {s : List Aa} {C Ci : Nat -> Prop} {W W1 W' : World} (h1 : ∀ k,C k -> Ci k \/ W.heap.size <= k) (h2 : ∀ k,C k -> k < W1.heap.size) (h3 : ∀ k,own k -> ¬ C k /\ k < W1.heap.size) (hs : W.heap.size <= W1.heap.size) (hT : Ac C W1 W') (hj : J s (Ba C W1 W') W') : Ct J own s (Ba Ci W W') W':=by
 refine ⟨_,hj,?_,Qy h2 hT.size,fun k hk => ⟨?_,Nat.lt_of_lt_of_le (h3 k hk).2 hT.size⟩⟩
 · rintro k (hk | hk)
   · rcases h1 k hk with h | h
     · exact .inl h
     · exact .inr ⟨h,Nat.lt_of_lt_of_le (h2 k hk) hT.size⟩
   · exact .inr ⟨Nat.le_trans hs hk.1,hk.2⟩
 · rintro (hc | hc)
   · exact (h3 k hk).1 hc
   · have:=(h3 k hk).2; omega
def RU (b : Nat) (o : Obj) (C : Nat -> Prop) (W : World) : Prop:=W.heap[b]? = some o /\ C b
theorem KH {β : Type} (b : Nat) (o : Obj) : Ax (fun (_ : β) C W => RU b o C W):=fun s C C' W W' h t hc => ⟨(t.block _ h.2).trans h.1,hc _ h.2⟩
theorem Vx (l : List Aa) (x : Aa) : By (l ++ [x]) = if x.gone then By l else By l ++ [x]:=by
 unfold By
 rw [List.filter_append]
 cases hg : x.gone <;> simp [hg]
theorem Kx {a b : List Aa} (h : a <+: b) : By a <+: By b:=h.filter _
theorem Kz (d : Nat) {t : TypeId} {ts rs : Array TypeId} {va : Bool} (ht : Tryz.prog.underlying t = some (.func ts rs va)) (g : Nat) (lb : Array Value) (w : World) : (Op.equalIn (d + 1) t (.func (.func g) #[] lb) .nilFunc).run Tryz.prog w = .ok false w:=by
 simp [Op.equalIn,run_underlying ht]
theorem Lu {t : TypeId} {ts rs : Array TypeId} {va : Bool} (ht : Tryz.prog.underlying t = some (.func ts rs va)) (g : Nat) (lb : Array Value) (w : World) : (binOp .eql t (.func (.func g) #[] lb) .nilFunc).run Tryz.prog w = .ok (.bool false) w:=by
 have h2 : (Op.equal t (.func (.func g) #[] lb) .nilFunc).run Tryz.prog w = .ok false w:=Kz 9999 ht g lb w
 simp only [binOp]
 simp [h2]
theorem LH (d : Nat) {t : TypeId} {ts rs : Array TypeId} {va : Bool} (ht : Tryz.prog.underlying t = some (.func ts rs va)) (w : World) : (Op.equalIn (d + 1) t .nilFunc .nilFunc).run Tryz.prog w = .ok true w:=by
 simp [Op.equalIn,run_underlying ht]
theorem O9 {t : TypeId} {ts rs : Array TypeId} {va : Bool} (ht : Tryz.prog.underlying t = some (.func ts rs va)) (w : World) : (binOp .eql t .nilFunc .nilFunc).run Tryz.prog w = .ok (.bool true) w:=by
 have h2 : (Op.equal t .nilFunc .nilFunc).run Tryz.prog w = .ok true w:=LH 9999 ht w
 simp only [binOp]
 simp [h2]
set_option maxRecDepth 100000 in
set_option maxHeartbeats 4000000 in
theorem YO (y vb : Nat) {v : Value} {l : List Aa} {G G' : Nat -> Prop} (hGG : ∀ k,G k -> G' k) (J Jx : List Aa -> (Nat -> Prop) -> World -> Prop) (C : Nat -> Prop) (W : World) (hC : ∀ k,C k -> k < W.heap.size)
 (hJ : Ax J) (hJx : Ax Jx)
 (hY : ∀ pre x C1 W1,J pre C1 W1 -> (∀ k,C1 k -> k < W1.heap.size) -> W.heap.size <= W1.heap.size -> pre ++ [x] <+: By l -> ∀ m,YieldAt Fence.wide m Tryz.prog y #[x.val'] W1 fun e W' => Ac C1 W1 W' /\
   ((e = .returned (.bool true) /\ J (pre ++ [x]) (Ba C1 W1 W') W' /\ A8 G' W1 W') \/ (e = .returned (.bool false) /\ Jx (pre ++ [x]) (Ba C1 W1 W') W')))
 (hv : W.cell? ⟨vb,0,none⟩ = some v) (hS : Di W v l G) (h0 : J [] C W) :
 Calls Tryz.prog 87 #[.func (.yield y) #[] #[],.pointer (some ⟨vb,0,none⟩)] W fun e W' => (∃ v,e = .returned v) /\ ∃ C',(∀ k,C' k -> k < W'.heap.size) /\ (J (By l) C' W' \/ ∃ pre,pre <+: By l /\ Jx pre C' W'):=by
 obtain ⟨W0,hW0⟩ : ∃ W0,W.alloc (.cells #[.func (.yield y) #[] #[]] 75) = W0:=⟨_,rfl⟩
 have hb0 : Below W.heap.size W W0:=by rw [<- hW0]; exact (Below.refl _ W).alloc (Nat.le_refl _) _
 have hs0 : W0.heap.size = W.heap.size + 1:=by rw [<- hW0]; simp
 have hy0 : W0.heap[W.heap.size]? = some (.cells #[.func (.yield y) #[] #[]] 75 (0,0)):=by rw [<- hW0]; exact heap_alloc_new _ _
 have hv0 : W0.cell? ⟨vb,0,none⟩ = some v:=(hb0.cell (World.block_lt_of_cell? W ⟨vb,0,none⟩ hv)).trans hv
 have hS0:=hS.below hb0
 have hJ0 : Ct J (fun k => k = W.heap.size) [] (fun k => k < W0.heap.size) W0:=⟨C,hJ.later h0 (AX.of_below hb0 hC),fun k hk => by have:=hC k hk; omega,fun k hk => by have:=hC k hk; omega,fun k hk => ⟨fun h => by have:=hC k h; omega,by omega⟩⟩
 clear hv hS h0 hb0
 refine (callsIn_wide (n:=6)).1 ?_
 refine callsIn_of_wp_marks Tryz.func87 rfl trivial ?_ rfl
 simp only [Tryz.ntmps87,List.size_toArray,List.length_cons,List.length_nil,Nat.reduceAdd,Nat.reduceSub,Array.replicate_succ,Array.replicate_zero,List.push_toArray,List.append_toArray,List.nil_append,List.cons_append]
 refine wpIn_wide.2 ?_
 rcases hS0 with ⟨rfl,rfl⟩ | ⟨g,lb,rfl,eg,hgi,hG⟩
 · have HJ0:=hid hJ0
   have hnn : ∀ w,(binOp BinOp.eql 107 .nilFunc .nilFunc).run Tryz.prog w = .ok (.bool true) w:=O9 Tryz.underlying107
   clear hJ0
   obtain ⟨C1,j1,j2,j3,j4⟩:=HJ0.out
   go_wp2
   refine ⟨_,results_none rfl _ _ _,⟨_,rfl⟩,C1,j3,.inl j1⟩
 · have HJ0:=hid hJ0
   have HY:=hid hY
   clear hJ0 hY
   have hnf : ∀ w,(binOp BinOp.eql 107 (.func (.func g) #[] lb) .nilFunc).run Tryz.prog w = .ok (.bool false) w:=fun w => Lu Tryz.underlying107 g lb w
   go_wp2_with fail
   clear hnf hv0
   refine Im 5 7 3 rfl eg hgi hG rfl
    (fun pre Ci W' => Ct J (fun k => k = W.heap.size) (By pre) Ci W' /\ RU W.heap.size (.cells #[.func (.yield y) #[] #[]] 75 (0,0)) Ci W' /\ W.heap.size <= W'.heap.size)
    (fun c pre Ci W' => c = .ret /\ Ct Jx (fun k => k = W.heap.size) (By pre) Ci W')
    (Ax.and (DG hJ _ By) (Ax.and (KH _ _) (fun s C C' A B h t _ => Nat.le_trans h t.size)))
    (fun c => Ax.and (DW _) (DG hJx _ By))
    (fun k => k < W0.heap.size) (fun k hk => hk)
    ⟨HJ0.out,⟨hy0,by omega⟩,by omega⟩
    ?assign ?body ?ends
   case assign =>
    intro l x W K hK
    unfold Aa.val' at *
    gi_wp2
    exact hK _ _ (Nat.le_refl _) (AF.new W x) ((Below.refl _ W).alloc (Nat.le_refl _) _)
   case body =>
    rintro ll pre x Bx Ci W1 ⟨⟨C1,j1,j2,j3,j4⟩,⟨hyb,hCy⟩,hWW⟩ hCi hWs hp hCx hBx hbx
    have x0:=hbx.c0
    have x1:=hbx.c1
    have x2:=hbx.c2
    have hyc : W1.cell? ⟨W.heap.size,0,none⟩ = some (.func (.yield y) #[] #[]):=by rw [Ab hyb]; rfl
    have hln:=Vx pre x
    have hpl:=Kx hp
    rw [hln] at hpl
    unfold Aa.val'
    by_cases hg : x.gone = true
    · rw [if_pos hg] at hln
      have HLN:=hid hln
      rw [hg] at x2
      have HI : Hid (Ct J (fun k => k = W.heap.size) (By pre) (Ba Ci W1 W1) W1):=⟨C1,j1,fun k hk => .inl (j2 k hk),j3,j4⟩
      clear j1 j2 j3 j4 hpl hln HY
      gi_wp2
      refine ⟨fun _ h => (by cases h),?_⟩
      gi_wp2
      exact ⟨Ac.refl _ _,A8.refl _ _,by rw [HLN.out]; exact HI.out,⟨hyb,.inl hCy⟩,hWW⟩
    · have hg' : x.gone = false:=by simpa using hg
      rw [if_neg hg] at hpl hln
      have HLN:=hid hln
      rw [hg'] at x2
      obtain ⟨fn,tmps,assign,body,hy,hRR⟩:=La (l:=ll) (m':=5 - 1) (HY.out (By pre) x C1 W1 j1 j3 hWW hpl 0)
      have HOY : Hid (∀ (J' : List Aa -> (Nat -> Prop) -> World -> Prop) (s : List Aa) (W' : World),Ac C1 W1 W' -> J' s (Ba C1 W1 W') W' -> Ct J' (fun k => k = W.heap.size) s (Ba Ci W1 W') W'):=fun J' s W' hT hj => Ct.yielded (fun k hk => .inl (j2 k hk)) j3 j4 (Nat.le_refl _) hT hj
      have HTT : Hid (∀ W',Ac C1 W1 W' -> Ac Ci W1 W' /\ RU W.heap.size (.cells #[.func (.yield y) #[] #[]] 75 (0,0)) (Ba Ci W1 W') W' /\ W.heap.size <= W'.heap.size):=fun W' hT => ⟨hT.mono (fun k hk => .inl (j2 k hk)),⟨(hT.block _ (j4 _ rfl).2 (j4 _ rfl).1).trans hyb,.inl hCy⟩,Nat.le_trans hWW hT.size⟩
      clear j1 j2 j3 j4 hpl hln HY
      obtain ⟨xk,xv,xg⟩:=x
      unfold Aa.val' at hy
      simp only at x0 x1 x2 hg' hy
      subst hg'
      gi_wp2
      refine hRR.mono ?_
      rintro e W3 ⟨hT,(⟨rfl,hJ3,hk3⟩ | ⟨rfl,hJx3⟩)⟩
      · have HO:=hid (HOY.out J _ W3 hT hJ3)
        have HT3:=hid (HTT.out W3 hT)
        have HK3 : Hid (A8 G W1 W3):=fun k hk => hk3 k (hGG k hk)
        clear hJ3 hk3 hT
        gi_wp2
        exact ⟨HT3.out.1,HK3.out,by rw [HLN.out]; exact HO.out,HT3.out.2⟩
      · have HO:=hid (HOY.out Jx _ W3 hT hJx3)
        have HT3:=hid (HTT.out W3 hT)
        clear hJx3 hT
        gi_wp2
        exact ⟨HT3.out.1,rfl,by rw [HLN.out]; exact HO.out⟩
   case ends =>
    refine ⟨?_,?_⟩
    · rintro D Ci W2 hD hnD hCi ⟨⟨C1,j1,j2,j3,j4⟩,-,-⟩ hK
      go_wp2
      refine ⟨by simp,.inl ⟨_,_,rfl,run_takeDeferred hK,?_⟩⟩
      exact ⟨_,results_none rfl _ _ _,⟨_,rfl⟩,C1,fun k hk => by have:=j3 k hk; simpa using this,.inl (hJ.later j1 (AX.putObj _ _ (fun h => hnD (j2 _ h))))⟩
    · rintro D c pre Ci W2 hD hnD hCi hp ⟨rfl,C1,j1,j2,j3,j4⟩ hK
      go_wp2
      refine ⟨by simp,.inl ⟨_,_,rfl,run_takeDeferred hK,?_⟩⟩
      exact ⟨_,results_none rfl _ _ _,⟨_,rfl⟩,C1,fun k hk => by have:=j3 k hk; simpa using this,.inr ⟨_,Kx hp,hJx.later j1 (AX.putObj _ _ (fun h => hnD (j2 _ h)))⟩⟩
end
section
open Go.RowKit Go.Maps Go.WideMaps Go.Shelf
attribute [local go_sem] Oper.semAt_some
theorem Qh {l pre : List Aa} {x : Aa} (hr : Ak l) (hp : pre ++ [x] <+: l) (hne : pre ≠ []) : AO (IE pre) x.key = true:=by
 obtain ⟨r,hl⟩:=hp
 rcases List.eq_nil_or_concat pre with rfl | ⟨q,y,rfl⟩
 · exact absurd rfl hne
 · rw [List.concat_eq_append,Mg]
   have h:=hr
   rw [<- hl,List.concat_eq_append] at h
   unfold Ak at h
   have h2:=(List.pairwise_append.1 h).1
   exact (List.pairwise_append.1 h2).2.2 y (by simp) x (by simp)
theorem BH {w : World} {b i k : Nat} {v : Value} (e : k ≠ b) : (w.setCell ⟨b,i,none⟩ v).heap[k]? = w.heap[k]?:=Below.heap_setCell _ _ _ _ (fun e2 => e (by first | exact e2 | exact e2.symm))
def BF (b : Nat) (t : TypeId) (v : Value) (C : Nat -> Prop) (W : World) : Prop:=W.heap[b]? = some (.cells #[v] t (0,0)) /\ C b
theorem F3 {β : Type} (b : Nat) (t : TypeId) (f : β -> Value) : Ax (fun s C W => BF b t (f s) C W):=fun s C C' W W' h t hc => ⟨(t.block _ h.2).trans h.1,hc _ h.2⟩
theorem BF.cell {b : Nat} {t : TypeId} {v : Value} {C : Nat -> Prop} {W : World} (h : BF b t v C W) : W.cell? ⟨b,0,none⟩ = some v:=by rw [Ab h.1]; rfl
theorem BF.free {b : Nat} {t : TypeId} {v : Value} {C : Nat -> Prop} {W : World} (h : BF b t v C W) : W.frozen? ⟨b,0,none⟩ = false:=Ag h.1 0
theorem BF.turn {b : Nat} {t : TypeId} {v : Value} {C : Nat -> Prop} {C1 : Nat -> Prop} {W W' : World} (h : BF b t v C W) (ht : Ac C1 W W') (hb : ¬ C1 b) : BF b t v (Ba C W W') W':=⟨(ht.block _ (Ad h.1) hb).trans h.1,.inl h.2⟩
theorem BF.set {b : Nat} {t : TypeId} {v : Value} {C : Nat -> Prop} {W : World} (h : BF b t v C W) (v' : Value) : BF b t v' C (W.setCell ⟨b,0,none⟩ v'):=⟨block_set h.1 0 v',h.2⟩
theorem BF.other {b b' : Nat} {t : TypeId} {v : Value} {C : Nat -> Prop} {W : World} (h : BF b t v C W) (hne : b ≠ b') (u : Value) : BF b t v C (W.setCell ⟨b',0,none⟩ u):=⟨(BH hne).trans h.1,h.2⟩
theorem BF.mono {b : Nat} {t : TypeId} {v : Value} {C C' : Nat -> Prop} {W : World} (h : BF b t v C W) (hc : ∀ k,C k -> C' k) : BF b t v C' W:=⟨h.1,hc _ h.2⟩
theorem Ct.set {J : List Aa -> (Nat -> Prop) -> World -> Prop} (hJ : Ax J) {own : Nat -> Prop} {s : List Aa} {Ci : Nat -> Prop} {W : World} (h : Ct J own s Ci W) {b : Nat} (hb : own b) (v : Value) : Ct J own s Ci (W.setCell ⟨b,0,none⟩ v):=by
 obtain ⟨C,h1,h2,h3,h4⟩:=h
 have hs : (W.setCell ⟨b,0,none⟩ v).heap.size = W.heap.size:=by simp [World.setCell]
 exact ⟨C,hJ.later h1 ⟨rfl,rfl,rfl,by rw [hs]; exact Nat.le_refl _,fun k hk => BH (fun e => (h4 b hb).1 (e ▸ hk))⟩,h2,fun k hk => by rw [hs]; exact h3 k hk,fun k hk => ⟨(h4 k hk).1,by rw [hs]; exact (h4 k hk).2⟩⟩
theorem Jk (C : Nat -> Prop) (W W' : World) (p : Addr) (v : Value) : Ba C W (W'.setCell p v) = Ba C W W':=by
 funext k
 simp [Ba,World.setCell]
set_option maxRecDepth 100000 in
set_option maxHeartbeats 4000000 in
theorem AaK (y vb : Nat) {v : Value} {l : List Aa} {G G' : Nat -> Prop} (hr : Ak l) (hGG : ∀ k,G k -> G' k) (J Jx : List Aa -> (Nat -> Prop) -> World -> Prop) (C : Nat -> Prop) (W : World) (hC : ∀ k,C k -> k < W.heap.size)
 (hJ : Ax J) (hJx : Ax Jx)
 (hY : ∀ pre x C1 W1,J pre C1 W1 -> (∀ k,C1 k -> k < W1.heap.size) -> W.heap.size <= W1.heap.size -> pre ++ [x] <+: l -> ∀ m,YieldAt Fence.wide m Tryz.prog y #[x.val'] W1 fun e W' => Ac C1 W1 W' /\
   ((e = .returned (.bool true) /\ J (pre ++ [x]) (Ba C1 W1 W') W' /\ A8 G' W1 W') \/ (e = .returned (.bool false) /\ Jx (pre ++ [x]) (Ba C1 W1 W') W')))
 (hv : W.cell? ⟨vb,0,none⟩ = some v) (hS : Di W v l G) (h0 : J [] C W) :
 Calls Tryz.prog 133 #[.func (.yield y) #[] #[],.pointer (some ⟨vb,0,none⟩)] W fun e W' => (∃ v,e = .returned v) /\ ∃ C',(∀ k,C' k -> k < W'.heap.size) /\ (J l C' W' \/ ∃ pre,pre <+: l /\ Jx pre C' W'):=by
 obtain ⟨W0,hW0⟩ : ∃ W0,W.alloc (.cells #[.func (.yield y) #[] #[]] 75) = W0:=⟨_,rfl⟩
 have hb0 : Below W.heap.size W W0:=by rw [<- hW0]; exact (Below.refl _ W).alloc (Nat.le_refl _) _
 have hs0 : W0.heap.size = W.heap.size + 1:=by rw [<- hW0]; simp
 have hy0 : W0.heap[W.heap.size]? = some (.cells #[.func (.yield y) #[] #[]] 75 (0,0)):=by rw [<- hW0]; exact heap_alloc_new _ _
 have hv0 : W0.cell? ⟨vb,0,none⟩ = some v:=(hb0.cell (World.block_lt_of_cell? W ⟨vb,0,none⟩ hv)).trans hv
 have hS0:=hS.below hb0
 have HJ0 : Hid (Ct J (fun k => k = W.heap.size) [] (fun k => k < W0.heap.size) W0):=⟨C,hJ.later h0 (AX.of_below hb0 hC),fun k hk => by have:=hC k hk; omega,fun k hk => by have:=hC k hk; omega,fun k hk => ⟨fun h => by have:=hC k h; omega,by omega⟩⟩
 have HS0:=hid hs0
 have HY0:=hid hy0
 clear hv hS h0 hb0 hs0 hy0
 refine (callsIn_wide (n:=6)).1 ?_
 refine callsIn_of_wp_marks Tryz.func133 rfl trivial ?_ rfl
 simp only [Tryz.ntmps133,List.size_toArray,List.length_cons,List.length_nil,Nat.reduceAdd,Nat.reduceSub,Array.replicate_succ,Array.replicate_zero,List.push_toArray,List.append_toArray,List.nil_append,List.cons_append]
 refine wpIn_wide.2 ?_
 rcases hS0 with ⟨rfl,rfl⟩ | ⟨g,lb,rfl,eg,hgi,hG⟩
 · have hnn : ∀ w,(binOp BinOp.eql 107 .nilFunc .nilFunc).run Tryz.prog w = .ok (.bool true) w:=O9 Tryz.underlying107
   obtain ⟨C1,j1,j2,j3,j4⟩:=HJ0.out
   go_wp2
   exact ⟨_,results_none rfl _ _ _,⟨_,rfl⟩,C1,j3,.inl j1⟩
 · have HY:=hid hY
   have HR:=hid hr
   clear hY hr
   have hnf : ∀ w,(binOp BinOp.eql 107 (.func (.func g) #[] lb) .nilFunc).run Tryz.prog w = .ok (.bool false) w:=fun w => Lu Tryz.underlying107 g lb w
   obtain ⟨W1,hW1⟩ : ∃ W1,(W0.alloc (.cells #[.string ⟨#[]⟩] 9)).alloc (.cells #[.bool false] 4) = W1:=⟨_,rfl⟩
   have hb1 : Below W0.heap.size W0 W1:=by rw [<- hW1]; exact ((Below.refl _ W0).alloc (Nat.le_refl _) _).alloc (by simp) _
   have hs1 : W1.heap.size = W0.heap.size + 2:=by rw [<- hW1]; simp
   have hp1 : W1.heap[W0.heap.size]? = some (.cells #[.string ⟨#[]⟩] 9 (0,0)):=by
    rw [<- hW1,Below.heap_alloc _ _ _ (by simp)]; exact heap_alloc_new _ _
   have hg1 : W1.heap[W0.heap.size + 1]? = some (.cells #[.bool false] 4 (0,0)):=by
    have:=heap_alloc_new (W0.alloc (.cells #[.string ⟨#[]⟩] 9)) (.cells #[.bool false] 4)
    rwa [hW1,World.size_alloc] at this
   have hy1:=(hb1.block W.heap.size (by have:=HS0.out; omega)).trans HY0.out
   have hv1 : ((W0.alloc (.cells #[.string ⟨#[]⟩] 9)).alloc (.cells #[.bool false] 4)).cell? ⟨vb,0,none⟩ = some (.func (.func g) #[] lb):=by rw [hW1]; exact (hb1.cell (World.block_lt_of_cell? W0 ⟨vb,0,none⟩ hv0)).trans hv0
   have hgi1 : ∀ W',A8 G W1 W' -> W1.heap.size <= W'.heap.size -> FO g lb G l W':=fun W' hk hs => hgi W' ((A8.of_below hb1 hG).trans hk) (Nat.le_trans hb1.size hs)
   have hG1 : ∀ j,G j -> j < W1.heap.size:=fun j hj => by have:=hG j hj; omega
   have HG0:=hid hG
   have HJ1 : Hid (Ct J (fun k => k = W.heap.size \/ k = W0.heap.size \/ k = W0.heap.size + 1) [] (fun k => k < W1.heap.size) W1):=by
    obtain ⟨C1,j1,j2,j3,j4⟩:=HJ0.out
    have:=HS0.out
    exact ⟨C1,hJ.later j1 (AX.of_below hb1 j3),fun k hk => by have:=j3 k hk; omega,fun k hk => by have:=j3 k hk; omega,fun k hk => ⟨fun h => by
     rcases hk with rfl | rfl | rfl
     · exact (j4 _ rfl).1 h
     · have:=j3 _ h; omega
     · have:=j3 _ h; omega,by omega⟩⟩
   have HP1:=hid hp1
   have HG1:=hid hg1
   have HY1:=hid hy1
   have HS1:=hid hs1
   have HW1:=hid hW1
   clear hb1 hs1 hp1 hg1 hy1 hgi hG hW1 HJ0
   go_wp2_with fail
   rw [HW1.out]
   clear hv1 hnf hv0
   refine Ka 5 9 5 rfl eg hgi1 hG1 rfl
    (fun pre Ci W' => Ct J (fun k => k = W.heap.size \/ k = W0.heap.size \/ k = W0.heap.size + 1) pre Ci W' /\ BF W.heap.size 75 (.func (.yield y) #[] #[]) Ci W' /\ BF W0.heap.size 9 (.string (IE pre)) Ci W' /\ BF (W0.heap.size + 1) 4 (.bool (decide (pre ≠ []))) Ci W' /\ W.heap.size <= W'.heap.size)
    (fun c pre Ci W' => c = .ret /\ Ct Jx (fun k => k = W.heap.size \/ k = W0.heap.size \/ k = W0.heap.size + 1) pre Ci W')
    (Ax.and (DG hJ _ id) (Ax.and (F3 _ _ (fun _ => .func (.yield y) #[] #[])) (Ax.and (F3 _ _ (fun pre => .string (IE pre))) (Ax.and (F3 _ _ (fun pre => .bool (decide (pre ≠ [])))) (fun s C C' A B h t _ => Nat.le_trans h t.size)))))
    (fun c => Ax.and (DW _) (DG hJx _ id))
    (fun k => k < W1.heap.size) (fun k hk => hk)
    ⟨HJ1.out,⟨HY1.out,by have:=HS0.out; have:=HS1.out; omega⟩,⟨HP1.out,by have:=HS1.out; omega⟩,⟨HG1.out,by have:=HS1.out; omega⟩,by have:=HS0.out; have:=HS1.out; omega⟩
    ?assign ?body ?ends
   case assign =>
    intro l x W K hK
    unfold Aa.val' at *
    gi_wp2
    exact hK _ _ (Nat.le_refl _) (AF.new W x) ((Below.refl _ W).alloc (Nat.le_refl _) _)
   case body =>
    rintro ll pre x Bx Ci W2 ⟨⟨C1,j1,j2,j3,j4⟩,hyb,hpb,hgb,hWW⟩ hCi hWs hp hCx hBx hbx
    have x0:=hbx.c0
    have x1:=hbx.c1
    have x2:=hbx.c2
    have hyc:=hyb.cell
    have hpc:=hpb.cell
    have hgc:=hgb.cell
    obtain ⟨Cx,hcx⟩ : ∃ Cx : Nat -> Prop,(fun k => Ci k \/ k = Bx) = Cx:=⟨_,rfl⟩
    have hcx1 : ∀ k,Ci k -> Cx k:=fun k hk => by rw [<- hcx]; exact .inl hk
    rw [hcx]
    have HYY : Hid (∃ fn tmps assign body,(Instr.yield y #[x.val']).run Tryz.prog W2 = .ok (.round y fn tmps assign body) W2 /\ RoundIn (Fence.wide.inRound ll) (5 - 1) Tryz.prog y fn tmps assign body W2 fun e W' =>
        (e = .returned (.bool true) /\ AF W' Bx x /\ BF W0.heap.size 9 (.string (IE pre)) (Ba Cx W2 W') W' /\ BF (W0.heap.size + 1) 4 (.bool (decide (pre ≠ []))) (Ba Cx W2 W') W' /\
          ∀ W'',((W'.setCell ⟨W0.heap.size,0,none⟩ (.string x.key)).setCell ⟨W0.heap.size + 1,0,none⟩ (.bool true)) = W'' -> Ac Cx W2 W'' /\ A8 G W2 W'' /\ Ct J (fun k => k = W.heap.size \/ k = W0.heap.size \/ k = W0.heap.size + 1) (pre ++ [x]) (Ba Cx W2 W'') W'' /\ BF W.heap.size 75 (.func (.yield y) #[] #[]) (Ba Cx W2 W'') W'' /\ BF W0.heap.size 9 (.string (IE (pre ++ [x]))) (Ba Cx W2 W'') W'' /\ BF (W0.heap.size + 1) 4 (.bool (decide (pre ++ [x] ≠ []))) (Ba Cx W2 W'') W'' /\ W.heap.size <= W''.heap.size) \/
        (e = .returned (.bool false) /\ Ac Cx W2 W' /\ Ct Jx (fun k => k = W.heap.size \/ k = W0.heap.size \/ k = W0.heap.size + 1) (pre ++ [x]) (Ba Cx W2 W') W')):=by
     obtain ⟨fn,tmps,assign,body,hy,hRR⟩:=La (l:=ll) (m':=5 - 1) (HY.out pre x C1 W2 j1 j3 hWW hp 0)
     refine ⟨fn,tmps,assign,body,hy,hRR.mono ?_⟩
     have n0:=j4 W.heap.size (.inl rfl)
     have n1:=j4 W0.heap.size (.inr (.inl rfl))
     have n2:=j4 (W0.heap.size + 1) (.inr (.inr rfl))
     have hs0:=HS0.out
     rintro e W3 ⟨hT,(⟨rfl,hJ3,hk3⟩ | ⟨rfl,hJx3⟩)⟩
     · have hT2 : Ac Cx W2 W3:=hT.mono (fun k hk => .inl (hcx1 k (j2 k hk)))
       have q1:=((hyb.mono hcx1).turn hT n0.1)
       have q2:=((hpb.mono hcx1).turn hT n1.1)
       have q3:=((hgb.mono hcx1).turn hT n2.1)
       have q4 : Ct J (fun k => k = W.heap.size \/ k = W0.heap.size \/ k = W0.heap.size + 1) (pre ++ [x]) (Ba Cx W2 W3) W3:=Ct.yielded (fun k hk => .inl (hcx1 k (j2 k hk))) j3 j4 (Nat.le_refl _) hT hJ3
       refine .inl ⟨rfl,(hT.block Bx (Ad hbx) (fun h => hCx (j2 _ h))).trans hbx,q2,q3,?_⟩
       rintro _ rfl
       rw [Jk,Jk]
       refine ⟨(hT2.setCell (p:=⟨W0.heap.size,0,none⟩) (.inl (hcx1 _ hpb.2)) _).setCell (p:=⟨W0.heap.size + 1,0,none⟩) (.inl (hcx1 _ hgb.2)) _,fun k hk => ?_,(q4.set hJ (.inr (.inl rfl)) _).set hJ (.inr (.inr rfl)) _,(q1.other (by omega) _).other (by omega) _,?_,?_,?_⟩
       · have:=HG0.out k hk
         exact (BH (by omega)).trans ((BH (by omega)).trans (hk3 k (hGG k hk)))
       · rw [Mg]
         exact (q2.set _).other (by omega) _
       · rw [show decide (pre ++ [x] ≠ []) = true by simp]
         exact (q3.other (by omega) _).set _
       · have:=hT.size
         simp [World.setCell]
         omega
     · exact .inr ⟨rfl,hT.mono (fun k hk => .inl (hcx1 k (j2 k hk))),Ct.yielded (fun k hk => .inl (hcx1 k (j2 k hk))) j3 j4 (Nat.le_refl _) hT hJx3⟩
    have HBF:=hid (Qh HR.out hp)
    clear hyb hpb hgb hbx hcx1 hp hcx j1 j2 j3 j4
    unfold Aa.val'
    by_cases hne : pre = []
    · subst hne
      have hgc' : W2.cell? ⟨W0.heap.size + 1,0,none⟩ = some (.bool false):=hgc
      clear hgc HBF
      obtain ⟨fn,tmps,assign,body,hy,hRR⟩:=HYY.out
      obtain ⟨xk,xv,xg⟩:=x
      unfold Aa.val' at hy
      simp only at x0 x1 x2 hy
      clear HYY
      gi_wp2
      refine hRR.mono ?_
      rintro e W3 (⟨rfl,hpx3,hp3,hg3,hend⟩ | ⟨rfl,hend⟩)
      · have z0:=hpx3.c0
        have z1:=hpx3.c1
        have z2:=hpx3.c2
        have y1:=hp3.cell
        have y2:=hp3.free
        have y3 : W3.cell? ⟨W0.heap.size + 1,0,none⟩ = some (.bool false):=hg3.cell
        have y4:=hg3.free
        have HEND:=hid hend
        clear hpx3 hp3 hg3 hend
        simp only at z0 z1 z2
        gi_wp2
        exact HEND.out _ rfl
      · have HEND:=hid hend
        clear hend
        gi_wp2
        exact ⟨HEND.out.1,rfl,HEND.out.2⟩
    · have hgc' : W2.cell? ⟨W0.heap.size + 1,0,none⟩ = some (.bool true):=by rw [hgc]; simp [hne]
      have hlq : ∀ w,(binOp BinOp.leq 9 (.string x.key) (.string (IE pre))).run Tryz.prog w = .ok (.bool false) w:=fun w => by rw [V9,HBF.out hne]; rfl
      have HNE:=hid hne
      clear hgc HBF hne
      obtain ⟨fn,tmps,assign,body,hy,hRR⟩:=HYY.out
      obtain ⟨xk,xv,xg⟩:=x
      unfold Aa.val' at hy
      simp only at x0 x1 x2 hy hlq
      clear HYY
      gi_wp2
      refine hRR.mono ?_
      rintro e W3 (⟨rfl,hpx3,hp3,hg3,hend⟩ | ⟨rfl,hend⟩)
      · have z0:=hpx3.c0
        have z1:=hpx3.c1
        have z2:=hpx3.c2
        have y1:=hp3.cell
        have y2:=hp3.free
        have y3 : W3.cell? ⟨W0.heap.size + 1,0,none⟩ = some (.bool true):=by rw [hg3.cell]; simp [HNE.out]
        have y4:=hg3.free
        have HEND:=hid hend
        clear hpx3 hp3 hg3 hend
        simp only at z0 z1 z2
        gi_wp2
        exact HEND.out _ rfl
      · have HEND:=hid hend
        clear hend
        gi_wp2
        exact ⟨HEND.out.1,rfl,HEND.out.2⟩
   case ends =>
    refine ⟨?_,?_⟩
    · rintro D Ci W2 hD hnD hCi ⟨⟨C1,j1,j2,j3,j4⟩,-⟩ hK
      go_wp2
      refine ⟨by simp,.inl ⟨_,_,rfl,run_takeDeferred hK,?_⟩⟩
      exact ⟨_,results_none rfl _ _ _,⟨_,rfl⟩,C1,fun k hk => by have:=j3 k hk; simpa using this,.inl (hJ.later j1 (AX.putObj _ _ (fun h => hnD (j2 _ h))))⟩
    · rintro D c pre Ci W2 hD hnD hCi hp ⟨rfl,C1,j1,j2,j3,j4⟩ hK
      go_wp2
      refine ⟨by simp,.inl ⟨_,_,rfl,run_takeDeferred hK,?_⟩⟩
      exact ⟨_,results_none rfl _ _ _,⟨_,rfl⟩,C1,fun k hk => by have:=j3 k hk; simpa using this,.inr ⟨_,hp,hJx.later j1 (AX.putObj _ _ (fun h => hnD (j2 _ h)))⟩⟩
end
section
open Go.RowKit Go.Maps Go.WideMaps Go.Shelf
def En (ab rb : Nat) (ah : List Aa) (C : Nat -> Prop) (W : World) : Prop:=
 ∃ av c,BF ab 30 (.slice av ah.length c) C W /\ ah.length <= c /\ c <= maxLen /\ Aj W (.slice av ah.length c) ah /\ (ah ≠ [] -> ∃ o,av = some ⟨rb,o,none⟩) /\ C rb /\ rb < W.heap.size
theorem J5 {W W' : World} {a : Option Addr} {n c rb : Nat} {l : List Aa} (h : Aj W (.slice a n c) l) (hb : l ≠ [] -> ∃ o,a = some ⟨rb,o,none⟩) (hk : W'.heap[rb]? = W.heap[rb]?) : Aj W' (.slice a n c) l:=by
 by_cases hl : l = []
 · obtain ⟨hm,a',c',hv,_⟩:=h
   exact ⟨hm,a',c',hv,.inl hl⟩
 · obtain ⟨hm,a',c',hv,h1⟩:=h
   injection hv with e1 e2 e3
   subst e1 e2 e3
   rcases h1 with h1 | ⟨b,o,rfl,h1⟩
   · exact absurd h1 hl
   · obtain ⟨o',e⟩:=hb hl
     injection e with e
     injection e with e1 e2
     subst e1
     refine ⟨hm,_,_,rfl,.inr ⟨b,o,rfl,fun i hi => ?_⟩⟩
     obtain ⟨q0,q1,q2⟩:=h1 i hi
     exact ⟨(World.cell?_of_block (w:=W) (a:=⟨b,o + i * 3,none⟩) hk).trans q0,(World.cell?_of_block (w:=W) (a:=⟨b,o + i * 3 + 1,none⟩) hk).trans q1,(World.cell?_of_block (w:=W) (a:=⟨b,o + i * 3 + 2,none⟩) hk).trans q2⟩
theorem XF {W : World} {b o n c : Nat} {q : Aa} {l : List Aa} (h : Aj W (.slice (some ⟨b,o,none⟩) n c) (q :: l)) : Aj W (.slice (some ⟨b,o + 3,none⟩) l.length (c - 1)) l:=by
 obtain ⟨hm,a',c',hv,h1⟩:=h
 injection hv with e1 e2 e3
 rw [List.length_cons] at hm
 refine ⟨by omega,_,_,rfl,?_⟩
 rcases h1 with h1 | ⟨b',o',e,h1⟩
 · cases h1
 · rw [<- e1] at e
   injection e with e
   injection e with e4 e5
   subst e4 e5
   refine .inr ⟨b,o + 3,rfl,fun i hi => ?_⟩
   have h:=h1 (i + 1) (by simp; omega)
   rw [show o + (i + 1) * 3 = o + 3 + i * 3 by omega] at h
   exact h
def Gf (rb o c : Nat) : Option Addr:=if c = 1 then some ⟨rb,o,none⟩ else some ⟨rb,o + 3,none⟩
theorem TT {W : World} {b o n c : Nat} {q : Aa} {l : List Aa} (h : Aj W (.slice (some ⟨b,o,none⟩) n c) (q :: l)) (hc : l.length + 1 <= c) : Aj W (.slice (Gf b o c) l.length (c - 1)) l /\ ∃ o',Gf b o c = some ⟨b,o',none⟩:=by
 unfold Gf
 by_cases h1 : c = 1
 · rw [if_pos h1]
   obtain rfl : l = []:=List.eq_nil_of_length_eq_zero (by omega)
   exact ⟨⟨Nat.zero_le _,_,_,rfl,.inl rfl⟩,_,rfl⟩
 · rw [if_neg h1]
   exact ⟨XF h,_,rfl⟩
theorem En.stays {ab rb : Nat} {ah : List Aa} {C C' : Nat -> Prop} {W W' : World} (h : En ab rb ah C W) (t : AX C W W') (hc : ∀ k,C k -> C' k) : En ab rb ah C' W':=by
 obtain ⟨av,c,h1,h2,h3,h4,h5,h6,h7⟩:=h
 exact ⟨av,c,⟨(t.block _ h1.2).trans h1.1,hc _ h1.2⟩,h2,h3,J5 h4 h5 (t.block _ h6),h5,hc _ h6,Nat.lt_of_lt_of_le h7 t.size⟩
theorem OC {β : Type} (ab rb : Nat) (f : β -> List Aa) : Ax (fun s C W => En ab rb (f s) C W):=fun s C C' W W' h t hc => En.stays h t hc
theorem En.turn {ab rb : Nat} {ah : List Aa} {C C1 : Nat -> Prop} {W W' : World} (h : En ab rb ah C W) (t : Ac C1 W W') (ha : ¬ C1 ab) (hb : ¬ C1 rb) : En ab rb ah (Ba C W W') W':=by
 obtain ⟨av,c,h1,h2,h3,h4,h5,h6,h7⟩:=h
 exact ⟨av,c,h1.turn t ha,h2,h3,J5 h4 h5 (t.block _ h7 hb),h5,.inl h6,Nat.lt_of_lt_of_le h7 t.size⟩
structure E0 (J : List Aa -> (Nat -> Prop) -> World -> Prop) (own : Nat -> Prop) (y yb ab rb Bx : Nat) (G : Nat -> Prop) (Cx : Nat -> Prop) (W0 W2 : World) (p : Aa) (s ah : List Aa) (W : World) : Prop where
 out : Ct J own s (Ba Cx W2 W) W
 yb : BF yb 75 (.func (.yield y) #[] #[]) (Ba Cx W2 W) W
 ahead : En ab rb ah (Ba Cx W2 W) W
 turn : Ac Cx W2 W
 keeps : A8 G W2 W
 box : AF W Bx p
 size : W0.heap.size <= W.heap.size
structure Xd (own : Nat -> Prop) (yb ab rb Bx : Nat) : Prop where
 y : own yb
 a : own ab
 r : own rb
 x : own Bx
def Sd (y : Nat) (J Jx : List Aa -> (Nat -> Prop) -> World -> Prop) (G' : Nat -> Prop) (L : List Aa) (W0 : World) : Prop:=
 ∀ pre x C1 W1,J pre C1 W1 -> (∀ k,C1 k -> k < W1.heap.size) -> W0.heap.size <= W1.heap.size -> pre ++ [x] <+: L -> ∀ m,YieldAt Fence.wide m Tryz.prog y #[x.val'] W1 fun e W' => Ac C1 W1 W' /\
     ((e = .returned (.bool true) /\ J (pre ++ [x]) (Ba C1 W1 W') W' /\ A8 G' W1 W') \/ (e = .returned (.bool false) /\ Jx (pre ++ [x]) (Ba C1 W1 W') W'))
theorem JZ {C : Nat -> Prop} {A B D : World} (h1 : A.heap.size <= B.heap.size) (h2 : B.heap.size <= D.heap.size) : ∀ k,Ba (Ba C A B) B D k ↔ Ba C A D k:=fun k => by
 unfold Ba
 constructor
 · rintro ((h | h) | h)
   · exact .inl h
   · exact .inr ⟨h.1,by omega⟩
   · exact .inr ⟨by omega,h.2⟩
 · rintro (h | h)
   · exact .inl (.inl h)
   · by_cases hk : k < B.heap.size
     · exact .inl (.inr ⟨h.1,hk⟩)
     · exact .inr ⟨by omega,h.2⟩
theorem Ct.mono {J : List Aa -> (Nat -> Prop) -> World -> Prop} {own own' : Nat -> Prop} {s : List Aa} {Ci Ci' : Nat -> Prop} {W : World} (h : Ct J own s Ci W) (hc : ∀ k,Ci k -> Ci' k) (ho : ∀ k,own' k -> own k) : Ct J own' s Ci' W:=by
 obtain ⟨C,h1,h2,h3,h4⟩:=h
 exact ⟨C,h1,fun k hk => hc k (h2 k hk),h3,fun k hk => h4 k (ho k hk)⟩
theorem Py {y : Nat} {J Jx : List Aa -> (Nat -> Prop) -> World -> Prop} {G G' : Nat -> Prop} {L : List Aa} {W0 : World} (HY : Sd y J Jx G' L W0) (hGG : ∀ k,G k -> G' k) {own : Nat -> Prop} {yb ab rb Bx : Nat} {Cx : Nat -> Prop} {W2 W : World} {p : Aa} {s ah : List Aa} (hO : Xd own yb ab rb Bx)
 (h : E0 J own y yb ab rb Bx G Cx W0 W2 p s ah W) {q : Aa} (hp : s ++ [q] <+: L) (l : Nat) :
 ∃ fn tmps assign body,(Instr.yield y #[q.val']).run Tryz.prog W = .ok (.round y fn tmps assign body) W /\ RoundIn (Fence.wide.inRound l) (5 - 1) Tryz.prog y fn tmps assign body W fun e W' =>
  (e = .returned (.bool true) /\ E0 J own y yb ab rb Bx G Cx W0 W2 p (s ++ [q]) ah W') \/ (e = .returned (.bool false) /\ Ac Cx W2 W' /\ Ct Jx own (s ++ [q]) (Ba Cx W2 W') W'):=by
 obtain ⟨C1,j1,j2,j3,j4⟩:=h.out
 obtain ⟨fn,tmps,assign,body,hy,hRR⟩:=La (l:=l) (m':=5 - 1) (HY s q C1 W j1 j3 h.size hp 0)
 refine ⟨fn,tmps,assign,body,hy,hRR.mono ?_⟩
 have hs2:=h.turn.size
 rintro e W3 ⟨hT,(⟨rfl,hJ3,hk3⟩ | ⟨rfl,hJx3⟩)⟩
 · have hs3:=hT.size
   have hcc : ∀ k,Ba (Ba Cx W2 W) W W3 k -> Ba Cx W2 W3 k:=fun k => (JZ hs2 hs3 k).1
   refine .inl ⟨rfl,?_,?_,?_,?_,h.keeps.trans fun k hk => hk3 k (hGG k hk),(hT.block Bx (j4 _ hO.x).2 (j4 _ hO.x).1).trans h.box,Nat.le_trans h.size hs3⟩
   · exact (Ct.yielded (fun k hk => .inl (j2 k hk)) j3 j4 (Nat.le_refl _) hT hJ3).mono hcc (fun _ h => h)
   · exact (h.yb.turn hT (j4 _ hO.y).1).mono hcc
   · exact (h.ahead.turn hT (j4 _ hO.a).1 (j4 _ hO.r).1).stays (AX.refl _ _) hcc
   · exact h.turn.trans hT fun i hi => by
       rcases j2 i hi with h | h
       · exact .inl h
       · exact .inr h.1
 · have hs3:=hT.size
   have hcc : ∀ k,Ba (Ba Cx W2 W) W W3 k -> Ba Cx W2 W3 k:=fun k => (JZ hs2 hs3 k).1
   refine .inr ⟨rfl,?_,(Ct.yielded (fun k hk => .inl (j2 k hk)) j3 j4 (Nat.le_refl _) hT hJx3).mono hcc (fun _ h => h)⟩
   exact h.turn.trans hT fun i hi => by
    rcases j2 i hi with h | h
    · exact .inl h
    · exact .inr h.1
theorem E0.tail {J : List Aa -> (Nat -> Prop) -> World -> Prop} (hJ : Ax J) {own : Nat -> Prop} {y yb ab rb Bx : Nat} {G : Nat -> Prop} {Cx : Nat -> Prop} {W0 W2 W : World} {p q : Aa} {s ah : List Aa} (hO : Xd own yb ab rb Bx) (h : E0 J own y yb ab rb Bx G Cx W0 W2 p s (q :: ah) W) (hCa : Cx ab) (hG : ¬ G ab) (h1 : ab ≠ yb) (h2 : ab ≠ rb) (h3 : ab ≠ Bx) {o c : Nat} (hv : W.cell? ⟨ab,0,none⟩ = some (.slice (some ⟨rb,o,none⟩) (ah.length + 1) c)) :
 E0 J own y yb ab rb Bx G Cx W0 W2 p s ah (W.setCell ⟨ab,0,none⟩ (.slice (Gf rb o c) ah.length (c - 1))):=by
 obtain ⟨av,c',a1,a2,a3,a4,a5,a6,a7⟩:=h.ahead
 have e:=a1.cell
 rw [hv] at e
 injection e with e
 injection e with e1 e2 e3
 subst e1 e3
 refine ⟨?_,?_,?_,h.turn.setCell (p:=⟨ab,0,none⟩) (.inl hCa) _,h.keeps.trans fun k hk => BH (fun e => hG (e ▸ hk)),(BH (fun e => h3 e.symm)).trans h.box,by simpa [World.setCell] using h.size⟩
 · rw [Jk]; exact h.out.set hJ hO.a _
 · rw [Jk]; exact h.yb.other (fun e => h1 e.symm) _
 · rw [Jk]
   obtain ⟨t1,o',t2⟩:=TT a4 (by simpa using a2)
   refine ⟨_,_,a1.set _,by simp at a2; omega,by omega,J5 t1 (rb:=rb) (fun _ => ⟨_,t2⟩) (BH (fun e => h2 e.symm)),fun _ => ⟨_,t2⟩,a6,by simpa [World.setCell] using a7⟩
theorem En.cons {ab rb : Nat} {q : Aa} {r : List Aa} {C : Nat -> Prop} {W : World} (h : En ab rb (q :: r) C W) : ∃ o c,W.cell? ⟨ab,0,none⟩ = some (.slice (some ⟨rb,o,none⟩) (r.length + 1) c) /\ W.frozen? ⟨ab,0,none⟩ = false /\ r.length + 1 <= c /\ c <= maxLen /\
 W.cell? ⟨rb,o,none⟩ = some (.string q.key) /\ W.cell? ⟨rb,o + 1,none⟩ = some (.string q.val) /\ W.cell? ⟨rb,o + 2,none⟩ = some (.bool q.gone):=by
 obtain ⟨av,c,h1,h2,h3,h4,h5,h6,h7⟩:=h
 obtain ⟨o,rfl⟩:=h5 (by simp)
 obtain ⟨b,o',e,q0,q1,q2⟩:=h4.at (i:=0) (by simp)
 injection e with e
 injection e with e1 e2
 subst e1 e2
 simp only [Nat.zero_mul,Nat.add_zero,List.getElem_cons_zero] at q0 q1 q2
 exact ⟨o,c,h1.cell,h1.free,h2,h3,q0,q1,q2⟩
theorem En.none {ab rb : Nat} {C : Nat -> Prop} {W : World} (h : En ab rb [] C W) : ∃ av c,W.cell? ⟨ab,0,none⟩ = some (.slice av 0 c):=by
 obtain ⟨av,c,h1,_⟩:=h
 exact ⟨av,c,h1.cell⟩
theorem E0.drewN {J : List Aa -> (Nat -> Prop) -> World -> Prop} (hJ : Ax J) {own : Nat -> Prop} {y yb ab rb Bx : Nat} {G : Nat -> Prop} {Cx : Nat -> Prop} {W0 W2 W : World} {p : Aa} {s ah : List Aa} (h : E0 J own y yb ab rb Bx G Cx W0 W2 p s ah W) (k : Nat) : E0 J own y yb ab rb Bx G Cx W0 W2 p s ah (W.drewN k):=
 have t : AX (Ba Cx W2 W) W (W.drewN k):=⟨rfl,rfl,rfl,Nat.le_refl _,fun _ _ => rfl⟩
 ⟨h.out.stays hJ t fun _ h => h,⟨h.yb.1,h.yb.2⟩,h.ahead.stays t fun _ h => h,⟨h.turn.os,h.turn.tape,h.turn.output,h.turn.size,h.turn.block⟩,h.keeps,h.box,h.size⟩
theorem Kn {y : Nat} {J Jx : List Aa -> (Nat -> Prop) -> World -> Prop} (hJ : Ax J) {G G' : Nat -> Prop} {L : List Aa} {W0 : World} (HY : Sd y J Jx G' L W0) (hGG : ∀ k,G k -> G' k) {own : Nat -> Prop} {yb ab rb Bx : Nat} {Cx : Nat -> Prop} {W2 W : World} {p : Aa} {s ah : List Aa} (hO : Xd own yb ab rb Bx)
 (h : E0 J own y yb ab rb Bx G Cx W0 W2 p s ah W) (q : Aa) (hp : s ++ [q] <+: L) (l k : Nat) :
 YieldAt (Fence.wide.inRound l) (5 - 1) Tryz.prog y #[.agg #[.string q.key,.string q.val,.bool q.gone]] (W.drewN k) fun e W' => ∃ bb : Bool,e = .returned (.bool bb) /\ Hid ((bb = true -> E0 J own y yb ab rb Bx G Cx W0 W2 p (s ++ [q]) ah W') /\ (bb = false -> Ac Cx W2 W' /\ Ct Jx own (s ++ [q]) (Ba Cx W2 W') W')):=by
 obtain ⟨fn,tmps,assign,body,hy,hRR⟩:=Py HY hGG hO (h.drewN hJ k) hp l
 refine ⟨fn,tmps,assign,body,hy,hRR.mono ?_⟩
 rintro e W3 (⟨rfl,h1⟩ | ⟨rfl,h1⟩)
 · exact ⟨true,rfl,fun _ => h1,fun h => (by cases h)⟩
 · exact ⟨false,rfl,fun h => (by cases h),fun _ => h1⟩
theorem O6 {y : Nat} {J Jx : List Aa -> (Nat -> Prop) -> World -> Prop} {G G' : Nat -> Prop} {L : List Aa} {W0 : World} (HY : Sd y J Jx G' L W0) (hGG : ∀ k,G k -> G' k) {own : Nat -> Prop} {yb ab rb Bx : Nat} {Cx : Nat -> Prop} {W2 W : World} {p : Aa} {s ah : List Aa} (hO : Xd own yb ab rb Bx)
 (h : E0 J own y yb ab rb Bx G Cx W0 W2 p s ah W) (q : Aa) (hp : s ++ [q] <+: L) (l : Nat) :
 YieldAt (Fence.wide.inRound l) (5 - 1) Tryz.prog y #[.agg #[.string q.key,.string q.val,.bool q.gone]] W fun e W' => ∃ bb : Bool,e = .returned (.bool bb) /\ Hid ((bb = true -> E0 J own y yb ab rb Bx G Cx W0 W2 p (s ++ [q]) ah W') /\ (bb = false -> Ac Cx W2 W' /\ Ct Jx own (s ++ [q]) (Ba Cx W2 W') W')):=by
 obtain ⟨fn,tmps,assign,body,hy,hRR⟩:=Py HY hGG hO h hp l
 refine ⟨fn,tmps,assign,body,hy,hRR.mono ?_⟩
 rintro e W3 (⟨rfl,h1⟩ | ⟨rfl,h1⟩)
 · exact ⟨true,rfl,fun _ => h1,fun h => (by cases h)⟩
 · exact ⟨false,rfl,fun h => (by cases h),fun _ => h1⟩
theorem E0.boxed {J : List Aa -> (Nat -> Prop) -> World -> Prop} (hJ : Ax J) {own : Nat -> Prop} {y yb ab rb Bx : Nat} {G : Nat -> Prop} {Cx : Nat -> Prop} {W0 W2 W : World} {p : Aa} {s ah : List Aa} (hO : Xd own yb ab rb Bx) (h : E0 J own y yb ab rb Bx G Cx W0 W2 p s ah W) (hCx : Cx Bx) (hG : ¬ G Bx) (h1 : Bx ≠ yb) (h2 : Bx ≠ ab) (h3 : Bx ≠ rb) (q : Aa) :
 E0 J own y yb ab rb Bx G Cx W0 W2 q s ah (((W.setCell ⟨Bx,0,none⟩ (.string q.key)).setCell ⟨Bx,1,none⟩ (.string q.val)).setCell ⟨Bx,2,none⟩ (.bool q.gone)):=by
 have T : Ac (fun k => k = Bx) W (((W.setCell ⟨Bx,0,none⟩ (.string q.key)).setCell ⟨Bx,1,none⟩ (.string q.val)).setCell ⟨Bx,2,none⟩ (.bool q.gone)):=(((Ac.refl (fun k => k = Bx) W).setCell (p:=⟨Bx,0,none⟩) (.inl rfl) _).setCell (p:=⟨Bx,1,none⟩) (.inl rfl) _).setCell (p:=⟨Bx,2,none⟩) (.inl rfl) _
 have hb : AF (((W.setCell ⟨Bx,0,none⟩ (.string q.key)).setCell ⟨Bx,1,none⟩ (.string q.val)).setCell ⟨Bx,2,none⟩ (.bool q.gone)) Bx q:=block_set (block_set (block_set h.box 0 (.string q.key)) 1 (.string q.val)) 2 (.bool q.gone)
 have hkp : ∀ k,k ≠ Bx -> (((W.setCell ⟨Bx,0,none⟩ (.string q.key)).setCell ⟨Bx,1,none⟩ (.string q.val)).setCell ⟨Bx,2,none⟩ (.bool q.gone)).heap[k]? = W.heap[k]?:=fun k hk => (BH hk).trans ((BH hk).trans (BH hk))
 generalize ((W.setCell ⟨Bx,0,none⟩ (.string q.key)).setCell ⟨Bx,1,none⟩ (.string q.val)).setCell ⟨Bx,2,none⟩ (.bool q.gone) = W5 at *
 have hs2:=h.turn.size
 have hcc : ∀ k,Ba (Ba Cx W2 W) W W5 k -> Ba Cx W2 W5 k:=fun k => (JZ hs2 T.size k).1
 refine ⟨?_,(h.yb.turn T (fun e => h1 e.symm)).mono hcc,(h.ahead.turn T (fun e => h2 e.symm) (fun e => h3 e.symm)).stays (AX.refl _ _) hcc,h.turn.trans T fun i hi => .inl (hi ▸ hCx),h.keeps.trans fun k hk => hkp k fun e => hG (e ▸ hk),hb,Nat.le_trans h.size T.size⟩
 · obtain ⟨C1,j1,j2,j3,j4⟩:=h.out
   refine ⟨C1,hJ.later j1 (AX.of_turn T fun k hk => ⟨j3 k hk,fun e => (j4 Bx hO.x).1 (e ▸ hk)⟩),fun k hk => hcc k (.inl (j2 k hk)),fun k hk => Nat.lt_of_lt_of_le (j3 k hk) T.size,fun k hk => ⟨(j4 k hk).1,Nat.lt_of_lt_of_le (j4 k hk).2 T.size⟩⟩
theorem Cs {w : World} {b i k j : Nat} {v : Value} (e : k ≠ b) : (w.setCell ⟨b,i,none⟩ v).cell? ⟨k,j,none⟩ = w.cell? ⟨k,j,none⟩:=World.cell?_of_block (w:=w) (a:=⟨k,j,none⟩) (BH e)
theorem Ff {F : Fence} (hF : F.depth.isSome = false) {n : Nat} {P : Program} {o : Oper} {a : Act} {K : Act -> World -> Prop} {Q : Exit -> Act -> World -> Prop} {y : Nat} {args : Array Value} {W : World} {R : Ending -> World -> Prop} (h : YieldAt F (n - 1) P y args W R) (hK : ∀ e w',R e w' -> ∃ v,e = .returned v /\ K (a.put o.dst v) w') :
 o.uponIn F n P a K Q ((Instr.yield y args).run P W):=by
 obtain ⟨fn,tmps,assign,body,hy,hRR⟩:=h
 rw [hy]
 refine ⟨fun h => (by rw [hF] at h; cases h),hRR.mono ?_⟩
 rintro e w' hr
 obtain ⟨v,rfl,hk⟩:=hK e w' hr
 exact hk
structure M7 (J : List Aa -> (Nat -> Prop) -> World -> Prop) (own : Nat -> Prop) (y yb rb D : Nat) (av : Option Addr) (c : Nat) (W0 : World) (s ah : List Aa) (W : World) : Prop where
 out : Ct J own s (fun _ => True) W
 yb : W.heap[yb]? = some (.cells #[.func (.yield y) #[] #[]] 75 (0,0))
 read : Aj W (.slice av ah.length c) ah
 mark : W.heap[D]? = some (.deferred (some []))
 size : W0.heap.size <= W.heap.size
theorem M7.below {J : List Aa -> (Nat -> Prop) -> World -> Prop} (hJ : Ax J) {own : Nat -> Prop} {y yb rb D : Nat} {av : Option Addr} {c : Nat} {W0 : World} {s ah : List Aa} {W W' : World} (h : M7 J own y yb rb D av c W0 s ah W) (t : Below W.heap.size W W') : M7 J own y yb rb D av c W0 s ah W':=by
 obtain ⟨C,j1,j2,j3,j4⟩:=h.out
 exact ⟨⟨C,hJ.later j1 (AX.of_below t j3),j2,fun k hk => Nat.lt_of_lt_of_le (j3 k hk) t.size,fun k hk => ⟨(j4 k hk).1,Nat.lt_of_lt_of_le (j4 k hk).2 t.size⟩⟩,(t.block _ (Ad h.yb)).trans h.yb,h.read.below t,(t.block _ (Ad h.mark)).trans h.mark,Nat.le_trans h.size t.size⟩
theorem XW {y : Nat} {J Jx : List Aa -> (Nat -> Prop) -> World -> Prop} {G' : Nat -> Prop} {L : List Aa} {W0 : World} (HY : Sd y J Jx G' L W0) {own : Nat -> Prop} {yb rb D : Nat} {av : Option Addr} {c : Nat} {W : World} {s ah : List Aa} (hy : own yb) (hr : own rb) (hD : own D) (hav : ah ≠ [] -> ∃ o,av = some ⟨rb,o,none⟩)
 (h : M7 J own y yb rb D av c W0 s ah W) (q : Aa) (hp : s ++ [q] <+: L) (m : Nat) :
 YieldAt Fence.wide m Tryz.prog y #[.agg #[.string q.key,.string q.val,.bool q.gone]] W fun e W' => ∃ bb : Bool,e = .returned (.bool bb) /\ Hid ((bb = true -> M7 J own y yb rb D av c W0 (s ++ [q]) ah W') /\ (bb = false -> Ct Jx own (s ++ [q]) (fun _ => True) W' /\ W'.heap[D]? = some (.deferred (some [])))):=by
 obtain ⟨C1,j1,j2,j3,j4⟩:=h.out
 obtain ⟨fn,tmps,assign,body,hyy,hRR⟩:=HY s q C1 W j1 j3 h.size hp m
 refine ⟨fn,tmps,assign,body,hyy,hRR.mono ?_⟩
 rintro e W3 ⟨hT,(⟨rfl,hJ3,hk3⟩ | ⟨rfl,hJx3⟩)⟩
 · refine ⟨true,rfl,fun _ => ⟨(Ct.yielded (Ci:=fun _ => True) (fun k hk => .inl trivial) j3 j4 (Nat.le_refl _) hT hJ3).mono (fun _ _ => trivial) (fun _ h => h),(hT.block _ (j4 _ hy).2 (j4 _ hy).1).trans h.yb,J5 h.read hav (hT.block _ (j4 _ hr).2 (j4 _ hr).1),(hT.block _ (j4 _ hD).2 (j4 _ hD).1).trans h.mark,Nat.le_trans h.size hT.size⟩,fun h => (by cases h)⟩
 · exact ⟨false,rfl,fun h => (by cases h),fun _ => ⟨(Ct.yielded (Ci:=fun _ => True) (fun k hk => .inl trivial) j3 j4 (Nat.le_refl _) hT hJx3).mono (fun _ _ => trivial) (fun _ h => h),(hT.block _ (j4 _ hD).2 (j4 _ hD).1).trans h.mark⟩⟩
theorem MK {y : Nat} {J : List Aa -> (Nat -> Prop) -> World -> Prop} {own own0 : Nat -> Prop} {yb ab rb Bx : Nat} {G : Nat -> Prop} {Cx : Nat -> Prop} {W0 W2 W : World} {p : Aa} {s ah : List Aa} {m : List Aa × List Aa} (h : E0 J own y yb ab rb Bx G Cx W0 W2 p s ah W) (ho : ∀ k,own0 k -> own k) (hm : m = (s,ah)) :
 Ac Cx W2 W /\ A8 G W2 W /\ Ct J own0 m.1 (Ba Cx W2 W) W /\ BF yb 75 (.func (.yield y) #[] #[]) (Ba Cx W2 W) W /\ En ab rb m.2 (Ba Cx W2 W) W /\ W0.heap.size <= W.heap.size:=by
 subst hm
 exact ⟨h.turn,h.keeps,h.out.mono (fun _ h => h) ho,h.yb,h.ahead,h.size⟩
theorem NE {F : Fence} {n : Nat} {P : Program} {c : Code} {Q : Exit -> Act -> World -> Prop} {a : Act} {w : World} (S : World -> Prop) (h : ∃ A : Act,c.wpIn F n P (fun e a' w' => e = .normal /\ a' = A /\ S w') a w /\ ∀ w',S w' -> Q .normal A w') : c.wpIn F n P Q a w:=by
 obtain ⟨A,h1,h2⟩:=h
 exact wpIn_mono h1 (by rintro _ _ _ ⟨rfl,rfl,h⟩; exact h2 _ h)
end
section
open Go.RowKit Go.Maps Go.WideMaps Go.Shelf
attribute [local go_sem] Oper.semAt_some
def Tw (w : World) (b : Nat) : Nat:=match w.cell? ⟨b,0,none⟩ with | some (.slice _ n _) => n | _ => 0
theorem Rs {w : World} {b n c : Nat} {a : Option Addr} (h : w.cell? ⟨b,0,none⟩ = some (.slice a n c)) : Tw w b = n:=by unfold Tw; rw [h]
set_option maxRecDepth 100000 in
set_option maxHeartbeats 4000000 in
theorem Aag (y fb sb : Nat) {g1 g2 : Nat} {lb1 lb2 : Array Value} {a b : List Aa} {G1 G2 G' : Nat -> Prop} (hN : a.length <= 3518437208780) (hGG : ∀ k,G2 k -> G' k) (J Jx : List Aa -> (Nat -> Prop) -> World -> Prop) (C : Nat -> Prop) (W : World) (hC : ∀ k,C k -> k < W.heap.size)
 (hJ : Ax J) (hJx : Ax Jx) (hY : Sd y J Jx G' (Gx a b) W)
 (hv1 : W.cell? ⟨fb,0,none⟩ = some (.func (.func g1) #[] lb1)) (hS1 : Di W (.func (.func g1) #[] lb1) a G1) (hv2 : W.cell? ⟨sb,0,none⟩ = some (.func (.func g2) #[] lb2)) (hS2 : Di W (.func (.func g2) #[] lb2) b G2) (h0 : J [] C W) :
 Calls Tryz.prog 134 #[.func (.yield y) #[] #[],.pointer (some ⟨fb,0,none⟩),.pointer (some ⟨sb,0,none⟩)] W fun e W' => (∃ v,e = .returned v) /\ ∃ C',(∀ k,C' k -> k < W'.heap.size) /\ (J (Gx a b) C' W' \/ ∃ pre,pre <+: Gx a b /\ Jx pre C' W'):=by
 obtain ⟨W0,hW0⟩ : ∃ W0,W.alloc (.cells #[.func (.yield y) #[] #[]] 75) = W0:=⟨_,rfl⟩
 have hb0 : Below W.heap.size W W0:=by rw [<- hW0]; exact (Below.refl _ W).alloc (Nat.le_refl _) _
 have hs0 : W0.heap.size = W.heap.size + 1:=by rw [<- hW0]; simp
 have hy0 : W0.heap[W.heap.size]? = some (.cells #[.func (.yield y) #[] #[]] 75 (0,0)):=by rw [<- hW0]; exact heap_alloc_new _ _
 have hv10 : W0.cell? ⟨fb,0,none⟩ = some (.func (.func g1) #[] lb1):=(hb0.cell (World.block_lt_of_cell? W ⟨fb,0,none⟩ hv1)).trans hv1
 have hv20 : W0.cell? ⟨sb,0,none⟩ = some (.func (.func g2) #[] lb2):=(hb0.cell (World.block_lt_of_cell? W ⟨sb,0,none⟩ hv2)).trans hv2
 obtain ⟨eg1,hg1,hG1⟩:=(hS1.below hb0).func
 have hcol:=Tl g1 lb1 eg1 G1 a W0 hG1 (by omega) hg1
 have HJ0 : Hid (Ct J (fun k => k = W.heap.size) [] (fun k => k < W0.heap.size) W0):=⟨C,hJ.later h0 (AX.of_below hb0 hC),fun k hk => by have:=hC k hk; omega,fun k hk => by have:=hC k hk; omega,fun k hk => ⟨fun h => by have:=hC k h; omega,by omega⟩⟩
 have HS0:=hid hs0
 have HY0:=hid hy0
 have HS2:=hid (hS2.below hb0)
 have HY:=hid hY
 have HC:=hid hcol
 have HV2:=hid hv20
 clear hv1 hv2 hS1 hS2 h0 hb0 hs0 hy0 hY hg1 hG1 eg1 hcol hv20
 refine (callsIn_wide (n:=6)).1 ?_
 refine callsIn_of_wp_marks Tryz.func134 rfl trivial ?_ rfl
 simp only [Tryz.ntmps134,List.size_toArray,List.length_cons,List.length_nil,Nat.reduceAdd,Nat.reduceSub,Array.replicate_succ,Array.replicate_zero,List.push_toArray,List.append_toArray,List.nil_append,List.cons_append]
 gi_wp2_with fail
 refine ⟨trivial,(callsIn_wide.2 HC.out).mono ?_⟩
 rintro e w1 ⟨v,rfl,hrow,b1⟩
 obtain ⟨av,cv,rfl⟩:=An hrow
 have HV1:=hid ((b1.cell (World.block_lt_of_cell? W0 ⟨sb,0,none⟩ HV2.out)).trans HV2.out)
 have HB1:=hid b1
 have HRO:=hid hrow
 clear b1 hrow HC HV2 hv10
 have hv2' : ∀ o,(w1.alloc o).cell? ⟨sb,0,none⟩ = some (.func (.func g2) #[] lb2):=fun o => ((Below.refl _ w1).alloc (Nat.le_refl _) o).cell (World.block_lt_of_cell? w1 ⟨sb,0,none⟩ HV1.out) |>.trans HV1.out
 gi_wp2_with fail
 obtain ⟨rb,hrb1,hrb2,hrb3⟩ : ∃ rb,(a ≠ [] -> ∃ o,av = some ⟨rb,o,none⟩) /\ (rb = W.heap.size \/ W0.heap.size <= rb) /\ rb < w1.heap.size:=by
  have h1:=HB1.out.size
  have h0:=HS0.out
  by_cases h : a = []
  · exact ⟨W.heap.size,fun h2 => absurd h h2,.inl rfl,by omega⟩
  · rcases HRO.out.2 with ⟨_,h2⟩ | ⟨g,cap,cur,hv,hbg,hg,_⟩
    · exact absurd (List.eq_nil_of_length_eq_zero h2) h
    · injection hv with hv
      exact ⟨g,fun _ => ⟨0,hv⟩,.inr hbg,Ad hg⟩
 obtain ⟨WA,hWA⟩ : ∃ WA,w1.alloc (.cells #[.slice av a.length cv] 30) = WA:=⟨_,rfl⟩
 have hbA : Below w1.heap.size w1 WA:=by rw [<- hWA]; exact (Below.refl _ w1).alloc (Nat.le_refl _) _
 have hsA : WA.heap.size = w1.heap.size + 1:=by rw [<- hWA]; simp
 have haA : WA.heap[w1.heap.size]? = some (.cells #[.slice av a.length cv] 30 (0,0)):=by rw [<- hWA]; exact heap_alloc_new _ _
 have hB0A : Below W0.heap.size W0 WA:=HB1.out.trans (hbA.mono HB1.out.size)
 have HYA:=hid ((hB0A.block W.heap.size (by have:=HS0.out; omega)).trans HY0.out)
 have HRA:=hid ((Aj.own HRO.out).below hbA)
 obtain ⟨hcv1,hcv2⟩:=Jg HRO.out
 have HJA : Hid (Ct J (fun k => k = W.heap.size \/ k = w1.heap.size \/ k = rb) [] (fun k => k < WA.heap.size) WA):=by
  obtain ⟨C1,j1,j2,j3,j4⟩:=HJ0.out
  have h0:=HS0.out
  have h1:=HB1.out.size
  refine ⟨C1,hJ.later j1 (AX.of_below hB0A j3),fun k hk => by have:=j3 k hk; omega,fun k hk => by have:=j3 k hk; omega,fun k hk => ⟨fun h => ?_,by omega⟩⟩
  have h3:=j3 k h
  have h4:=fun e => (j4 k e).1 h
  rcases hk with hk | hk | hk
  · exact h4 hk
  · omega
  · rcases hrb2 with h5 | h5
    · exact h4 (hk.trans h5)
    · omega
 have hS2A:=(HS2.out.below hB0A)
 obtain ⟨eg2,hg2,hG2⟩:=hS2A.func
 have HG20 : Hid (∀ j,G2 j -> j < W0.heap.size):=HS2.out.func.2.2
 have HSA:=hid hsA
 have HAA:=hid haA
 have HB0:=hid hB0A
 rw [hWA]
 clear hbA hsA haA hB0A hv2' hWA HRO HJ0 HS2 HV1 hS2A
 refine wpIn_wide.2 ?_
 refine Ka 5 11 5 rfl eg2 hg2 hG2 rfl
  (fun pre Ci W' => Ct J (fun k => k = W.heap.size \/ k = w1.heap.size \/ k = rb) (CL a pre).1 Ci W' /\ BF W.heap.size 75 (.func (.yield y) #[] #[]) Ci W' /\ En w1.heap.size rb (CL a pre).2 Ci W' /\ W.heap.size <= W'.heap.size)
  (fun c pre Ci W' => c = .ret /\ ∃ s,s <+: Gx a b /\ Ct Jx (fun k => k = W.heap.size \/ k = w1.heap.size \/ k = rb) s Ci W')
  (Ax.and (DG hJ _ fun pre => (CL a pre).1) (Ax.and (F3 _ _ (fun _ => .func (.yield y) #[] #[])) (Ax.and (OC _ _ fun pre => (CL a pre).2) (fun s C C' A B h t _ => Nat.le_trans h t.size))))
  (fun c => Ax.and (DW _) (fun s C C' A B h t hc => by obtain ⟨q,h1,h2⟩:=h; exact ⟨q,h1,h2.stays hJx t hc⟩))
  (fun k => k < WA.heap.size) (fun k hk => hk)
  ⟨HJA.out,⟨HYA.out,by have:=HS0.out; have:=HB0.out.size; omega⟩,⟨av,cv,⟨HAA.out,by have:=HSA.out; omega⟩,hcv1,hcv2,HRA.out,hrb1,by have:=HSA.out; omega,by have:=HSA.out; omega⟩,by have:=HS0.out; have:=HB0.out.size; omega⟩
  ?assign ?body ?ends
 case assign =>
  intro l x W K hK
  unfold Aa.val' at *
  gi_wp2
  exact hK _ _ (Nat.le_refl _) (AF.new W x) ((Below.refl _ W).alloc (Nat.le_refl _) _)
 case body =>
  rintro ll pre x Bx Ci W2 ⟨hout,hyb,hah,hWW⟩ hCi hWs hp hCx hBx hbx
  obtain ⟨Cx,hcx⟩ : ∃ Cx : Nat -> Prop,(fun k => Ci k \/ k = Bx) = Cx:=⟨_,rfl⟩
  have hcx1 : ∀ k,Ci k -> Cx k:=fun k hk => by rw [<- hcx]; exact .inl hk
  have hcx2 : Cx Bx:=by rw [<- hcx]; exact .inr rfl
  rw [hcx]
  obtain ⟨own,hown⟩ : ∃ own : Nat -> Prop,(fun k => (k = W.heap.size \/ k = w1.heap.size \/ k = rb) \/ k = Bx) = own:=⟨_,rfl⟩
  have HOW:=hid hown
  have HO : Xd own W.heap.size w1.heap.size rb Bx:=by rw [<- hown]; exact ⟨.inl (.inl rfl),.inl (.inr (.inl rfl)),.inl (.inr (.inr rfl)),.inr rfl⟩
  have HST : Hid (E0 J own y W.heap.size w1.heap.size rb Bx G2 Cx W W2 x (CL a pre).1 (CL a pre).2 W2):=by
   refine ⟨?_,(hyb.mono hcx1).mono fun k hk => .inl hk,hah.stays (AX.refl _ _) fun k hk => .inl (hcx1 k hk),Ac.refl _ _,A8.refl _ _,hbx,hWW⟩
   obtain ⟨C1,j1,j2,j3,j4⟩:=hout
   refine ⟨C1,j1,fun k hk => .inl (hcx1 k (j2 k hk)),j3,fun k hk => ?_⟩
   rw [<- hown] at hk
   rcases hk with hk | rfl
   · exact j4 k hk
   · exact ⟨fun h => hCx (j2 _ h),Ad hbx⟩
  have HAB : Hid (Cx w1.heap.size /\ ¬ G2 w1.heap.size /\ w1.heap.size ≠ W.heap.size /\ w1.heap.size ≠ rb /\ w1.heap.size ≠ Bx):=by
   have h0:=HS0.out
   have h1:=HB1.out.size
   obtain ⟨_,_,hh,_⟩:=hah
   exact ⟨hcx1 _ hh.2,fun h => by have:=HG20.out _ h; omega,by omega,by omega,fun e => hCx (e ▸ hh.2)⟩
  have HBX : Hid (Cx Bx /\ ¬ G2 Bx /\ Bx ≠ W.heap.size /\ Bx ≠ w1.heap.size /\ Bx ≠ rb):=by
   have h0:=HS0.out
   have h1:=HB1.out.size
   have h2:=HSA.out
   exact ⟨hcx2,fun h => by have:=HG20.out _ h; omega,by omega,by omega,by omega⟩
  have HSP : Hid (CL a (pre ++ [x]) = Dl (CL a pre) x):=Pd a pre x
  have HPR : Hid (∀ i,i <= (CO (CL a pre).2 x).length -> (CL a pre).1 ++ (CL a pre).2.take i <+: Gx a b):=fun i hi => Uy hp hi
  have HPE : Hid ((CL a (pre ++ [x])).1 <+: Gx a b):=Mf hp
  have hfm : Tryz.prog.follows .mixedOrders = true:=by kernel_rfl
  clear hout hyb hah hbx hcx hown hp
  unfold Aa.val'
  generalize hmm : CL a pre = sm at *
  obtain ⟨s,ah⟩:=sm
  simp only at HST HPR HSP
  gi_wp2
  gi_loopw [] (fun wr => ∃ i,i <= (CO ah x).length /\ Hid (E0 J own y W.heap.size w1.heap.size rb Bx G2 Cx W W2 x (s ++ ah.take i) (ah.drop i) wr)) (fun wr => Tw wr w1.heap.size)
  case atStart => exact ⟨0,Nat.zero_le _,by rw [List.take_zero,List.append_nil,List.drop_zero]; exact HST⟩
  case round =>
   obtain ⟨i,hi,HM⟩:=hrel
   clear HST
   have bx:=HM.out.box
   have x0:=bx.c0
   have x1:=bx.c1
   have x2:=bx.c2
   have hyc:=HM.out.yb.cell
   clear bx
   cases hd : ah.drop i with
   | nil =>
     rw [hd] at HM
     obtain ⟨av',c',hc⟩:=HM.out.ahead.none
     gi_wp2
     refine DE (by kernel_rfl) (by kernel_rfl) (by kernel_rfl) ?_
     repeat (gi_big_quiet_step (fail))
     refine wpQuietIn_nil ?_
     rintro _ ⟨nq,rfl⟩
     have HTK : Hid (s ++ ah.take i = s ++ CO ah x /\ CR ah x = []):=by
      have hil:=AaH hi hd
      rw [hil]
      rw [hil] at hd
      exact ⟨by rw [(KU ah x).1],by rw [<- (KU ah x).2]; exact hd⟩
     have HMX : Hid (CL a (pre ++ [x]) = (s ++ CO ah x ++ [x],[])):=by
      show _ = _
      rw [HSP.out]
      unfold Dl
      simp only
      rw [HTK.out.2]
      rfl
     have HPX : Hid (s ++ CO ah x ++ [x] <+: Gx a b):=by
      have:=HPE.out
      rwa [HMX.out] at this
     rw [HTK.out.1] at HM
     have HYX : Hid (∀ k,_):=fun k => Kn hJ HY.out hGG HO HM.out x HPX.out ll k
     clear hd
     gi_wp2
     refine DE (by kernel_rfl) (by kernel_rfl) (by kernel_rfl) ?_
     repeat (gi_big_quiet_step (fail))
     refine wpQuietIn_nil ?_
     rintro _ ⟨nq,rfl⟩
     gi_wp2
     refine Ff rfl (HYX.out _) ?_
     rintro e W3 ⟨bb,rfl,hbb⟩
     refine ⟨_,rfl,?_⟩
     cases bb with
     | true =>
       have HM3:=hid (hbb.out.1 rfl)
       clear hbb
       gi_wp2
       exact MK HM3.out (fun k hk => by rw [<- HOW.out]; exact .inl hk) HMX.out
     | false =>
       have HX3:=hid (hbb.out.2 rfl)
       clear hbb
       gi_wp2
       refine ⟨HX3.out.1,rfl,_,HPX.out,?_⟩
       exact HX3.out.2.mono (fun _ h => h) fun k hk => by rw [<- HOW.out]; exact .inl hk
   | cons q r =>
     rw [hd] at HM
     obtain ⟨o',c',hc,hcf,hc1,hc2,q0,q1,q2⟩:=HM.out.ahead.cons
     obtain ⟨hlt1,hlt2⟩:=Ab4 hi hd
     have HL1:=hid hlt1
     have HL2:=hid hlt2
     clear hlt1 hlt2
     cases hbf : AO q.key x.key with
     | true =>
       have hlss : Op.bytesLess q.key.toList x.key.toList = true:=hbf
       have hi1:=HL1.out hbf
       have HI1:=hid hi1
       have HTK : Hid (ah.take (i + 1) = ah.take i ++ [q] /\ ah.drop (i + 1) = r):=by
        have hlt : i < ah.length:=by
         have:=congrArg List.length hd
         rw [List.length_drop,List.length_cons] at this
         omega
        have h2:=List.drop_eq_getElem_cons hlt
        rw [hd] at h2
        injection h2 with h2 h3
        exact ⟨by rw [List.take_succ_eq_append_getElem hlt,h2],h3.symm⟩
       have HPI : Hid ((s ++ ah.take i) ++ [q] <+: Gx a b):=by
        have:=HPR.out (i + 1) hi1
        rwa [HTK.out.1,<- List.append_assoc] at this
       have HYD:=hid (fun k => Kn hJ HY.out hGG HO HM.out q HPI.out ll k)
       have HLA:=hid (Rs hc)
       clear hbf hd hi1 HL1 HL2
       gi_wp2
       refine DE (by kernel_rfl) (by kernel_rfl) (by kernel_rfl) ?_
       repeat (gi_big_quiet_step (fail))
       refine wpQuietIn_nil ?_
       rintro _ ⟨nq,rfl⟩
       gi_wp2
       gi_region_with_o (refine Ff rfl (HYD.out _) ?_; rintro e W3 ⟨bb,rfl,hbb⟩; have HBB:=hid hbb; clear hbb; refine ⟨_,rfl,?_⟩)
       all_goals
        cases bb with
        | true =>
          have hM3:=HBB.out.1 rfl
          obtain ⟨o3,c3,e1,e2,e3,e4,-⟩:=hM3.ahead.cons
          have hMT:=hM3.tail hJ HO HAB.out.1 HAB.out.2.1 HAB.out.2.2.1 HAB.out.2.2.2.1 HAB.out.2.2.2.2 e1
          have HMT:=hid hMT
          clear hM3 hMT HBB
          gi_wp2
          refine ⟨⟨i + 1,HI1.out,by rw [HTK.out.1,HTK.out.2,<- List.append_assoc]; exact HMT.out⟩,?_⟩
          show Tw (W3.setCell ⟨w1.heap.size,0,none⟩ (.slice (Gf rb o3 c3) r.length (c3 - 1))) w1.heap.size < Tw wr w1.heap.size
          obtain ⟨av5,c5,h5,_⟩:=HMT.out.ahead
          rw [Rs h5.cell,HLA.out]
          exact Nat.lt_succ_self _
        | false =>
          have HX3:=hid (HBB.out.2 rfl)
          clear HBB
          gi_wp2
          refine ⟨HX3.out.1,rfl,_,HPI.out,?_⟩
          exact HX3.out.2.mono (fun _ h => h) fun k hk => by rw [<- HOW.out]; exact .inl hk
     | false =>
       have hlss : Op.bytesLess q.key.toList x.key.toList = false:=hbf
       have hil:=HL2.out hbf
       have HTK : Hid (s ++ ah.take i = s ++ CO ah x /\ CR ah x = q :: r):=by
        rw [hil]
        rw [hil] at hd
        exact ⟨by rw [(KU ah x).1],by rw [<- (KU ah x).2]; exact hd⟩
       rw [HTK.out.1] at HM
       clear hbf hd HL1 HL2 hil
       by_cases hk : q.key = x.key
       · have hkk : (q.key.toList == x.key.toList) = true:=by rw [hk]; simp
         have HMX : Hid (CL a (pre ++ [x]) = (s ++ CO ah x ++ [q],r)):=by
          show _ = _
          rw [HSP.out]
          unfold Dl
          simp only
          rw [HTK.out.2]
          unfold Ea
          simp only [if_pos hk]
         have HPX : Hid (s ++ CO ah x ++ [q] <+: Gx a b):=by
          have:=HPE.out
          rwa [HMX.out] at this
         clear hk
         gi_wp2
         refine DE (by kernel_rfl) (by kernel_rfl) (by kernel_rfl) ?_
         repeat (gi_big_quiet_step (fail))
         refine wpQuietIn_nil ?_
         rintro _ ⟨nq,rfl⟩
         gi_wp2
         refine DE (by kernel_rfl) (by kernel_rfl) (by kernel_rfl) ?_
         repeat (gi_big_quiet_step (fail))
         refine wpQuietIn_nil ?_
         rintro _ ⟨nq,rfl⟩
         gi_wp2
         by_cases hc3 : c' = 1
         · subst hc3
           obtain rfl : r = []:=List.eq_nil_of_length_eq_zero (by omega)
           have hWS : ∀ k : Nat,E0 J own y W.heap.size w1.heap.size rb Bx G2 Cx W W2 q (s ++ CO ah x) [] (((((wr.drewN k).setCell ⟨Bx,0,none⟩ (.string q.key)).setCell ⟨Bx,1,none⟩ (.string q.val)).setCell ⟨Bx,2,none⟩ (.bool q.gone)).setCell ⟨w1.heap.size,0,none⟩ (.slice (some ⟨rb,o',none⟩) 0 0)):=fun k => by
            have hbb:=(HM.out.drewN hJ k).boxed hJ HO HBX.out.1 HBX.out.2.1 HBX.out.2.2.1 HBX.out.2.2.2.1 HBX.out.2.2.2.2 q
            refine hbb.tail (o:=o') (c:=1) hJ HO HAB.out.1 HAB.out.2.1 HAB.out.2.2.1 HAB.out.2.2.2.1 HAB.out.2.2.2.2 ?_
            exact (Cs HAB.out.2.2.2.2).trans ((Cs HAB.out.2.2.2.2).trans ((Cs HAB.out.2.2.2.2).trans hc))
           have HWS:=hid hWS
           clear hWS
           refine NE (fun w5 => ∃ k : Nat,((((wr.drewN k).setCell ⟨Bx,0,none⟩ (.string q.key)).setCell ⟨Bx,1,none⟩ (.string q.val)).setCell ⟨Bx,2,none⟩ (.bool q.gone)).setCell ⟨w1.heap.size,0,none⟩ (.slice (some ⟨rb,o',none⟩) 0 0) = w5) ?_
           apply Exists.intro
           refine ⟨?h1,?h2⟩
           case h1 =>
            have bf0:=Ag HM.out.box 0
            have bf1:=Ag HM.out.box 1
            have bf2:=Ag HM.out.box 2
            have hne1 : ¬ w1.heap.size = Bx:=HAB.out.2.2.2.2
            have hne2 : ¬ Bx = w1.heap.size:=fun e => HAB.out.2.2.2.2 e.symm
            gi_region
            all_goals exact ⟨rfl,rfl,_,rfl⟩
           case h2 =>
            rintro w5 ⟨k,rfl⟩
            have hM5:=HWS.out k
            have bx5:=hM5.box
            have z0:=bx5.c0
            have z1:=bx5.c1
            have z2:=bx5.c2
            have y5:=hM5.yb.cell
            have HYX:=hid (O6 HY.out hGG HO hM5 q HPX.out ll)
            clear hM5 bx5 HWS
            generalize ((((wr.drewN k).setCell ⟨Bx,0,none⟩ (.string q.key)).setCell ⟨Bx,1,none⟩ (.string q.val)).setCell ⟨Bx,2,none⟩ (.bool q.gone)).setCell ⟨w1.heap.size,0,none⟩ (.slice (some ⟨rb,o',none⟩) 0 0) = w5 at *
            gi_wp2
            refine Ff rfl HYX.out ?_
            rintro e W3 ⟨bb,rfl,hbb⟩
            refine ⟨_,rfl,?_⟩
            cases bb with
            | true =>
              have HM3:=hid (hbb.out.1 rfl)
              clear hbb
              gi_wp2
              exact MK HM3.out (fun k hk => by rw [<- HOW.out]; exact .inl hk) HMX.out
            | false =>
              have HX3:=hid (hbb.out.2 rfl)
              clear hbb
              gi_wp2
              refine ⟨HX3.out.1,rfl,_,HPX.out,?_⟩
              exact HX3.out.2.mono (fun _ h => h) fun k hk => by rw [<- HOW.out]; exact .inl hk
         · have hWS : ∀ k : Nat,E0 J own y W.heap.size w1.heap.size rb Bx G2 Cx W W2 q (s ++ CO ah x) r (((((wr.drewN k).setCell ⟨Bx,0,none⟩ (.string q.key)).setCell ⟨Bx,1,none⟩ (.string q.val)).setCell ⟨Bx,2,none⟩ (.bool q.gone)).setCell ⟨w1.heap.size,0,none⟩ (.slice (Gf rb o' c') r.length (c' - 1))):=fun k => by
             have hbb:=(HM.out.drewN hJ k).boxed hJ HO HBX.out.1 HBX.out.2.1 HBX.out.2.2.1 HBX.out.2.2.2.1 HBX.out.2.2.2.2 q
             refine hbb.tail hJ HO HAB.out.1 HAB.out.2.1 HAB.out.2.2.1 HAB.out.2.2.2.1 HAB.out.2.2.2.2 ?_
             exact (Cs HAB.out.2.2.2.2).trans ((Cs HAB.out.2.2.2.2).trans ((Cs HAB.out.2.2.2.2).trans hc))
           have HWS:=hid hWS
           clear hWS
           refine NE (fun w5 => ∃ k : Nat,((((wr.drewN k).setCell ⟨Bx,0,none⟩ (.string q.key)).setCell ⟨Bx,1,none⟩ (.string q.val)).setCell ⟨Bx,2,none⟩ (.bool q.gone)).setCell ⟨w1.heap.size,0,none⟩ (.slice (Gf rb o' c') r.length (c' - 1)) = w5) ?_
           apply Exists.intro
           refine ⟨?h1,?h2⟩
           case h1 =>
            have bf0:=Ag HM.out.box 0
            have bf1:=Ag HM.out.box 1
            have bf2:=Ag HM.out.box 2
            have hne1 : ¬ w1.heap.size = Bx:=HAB.out.2.2.2.2
            have hne2 : ¬ Bx = w1.heap.size:=fun e => HAB.out.2.2.2.2 e.symm
            have hbe : Gf rb o' c' = some ⟨rb,o' + 3,none⟩:=if_neg hc3
            rw [hbe]
            clear hbe
            gi_region
            all_goals exact ⟨rfl,rfl,_,rfl⟩
           case h2 =>
            rintro w5 ⟨k,rfl⟩
            have hM5:=HWS.out k
            have bx5:=hM5.box
            have z0:=bx5.c0
            have z1:=bx5.c1
            have z2:=bx5.c2
            have y5:=hM5.yb.cell
            have HYX:=hid (O6 HY.out hGG HO hM5 q HPX.out ll)
            clear hM5 bx5 HWS
            generalize ((((wr.drewN k).setCell ⟨Bx,0,none⟩ (.string q.key)).setCell ⟨Bx,1,none⟩ (.string q.val)).setCell ⟨Bx,2,none⟩ (.bool q.gone)).setCell ⟨w1.heap.size,0,none⟩ (.slice (Gf rb o' c') r.length (c' - 1)) = w5 at *
            gi_wp2
            refine Ff rfl HYX.out ?_
            rintro e W3 ⟨bb,rfl,hbb⟩
            refine ⟨_,rfl,?_⟩
            cases bb with
            | true =>
              have HM3:=hid (hbb.out.1 rfl)
              clear hbb
              gi_wp2
              exact MK HM3.out (fun k hk => by rw [<- HOW.out]; exact .inl hk) HMX.out
            | false =>
              have HX3:=hid (hbb.out.2 rfl)
              clear hbb
              gi_wp2
              refine ⟨HX3.out.1,rfl,_,HPX.out,?_⟩
              exact HX3.out.2.mono (fun _ h => h) fun k hk => by rw [<- HOW.out]; exact .inl hk
       · have hkk : (q.key.toList == x.key.toList) = false:=by rw [JC]; simpa using hk
         have HMX : Hid (CL a (pre ++ [x]) = (s ++ CO ah x ++ [x],q :: r)):=by
          show _ = _
          rw [HSP.out]
          unfold Dl
          simp only
          rw [HTK.out.2]
          unfold Ea
          simp only [if_neg hk]
         have HPX : Hid (s ++ CO ah x ++ [x] <+: Gx a b):=by
          have:=HPE.out
          rwa [HMX.out] at this
         have HYX : Hid (∀ k,_):=fun k => Kn hJ HY.out hGG HO HM.out x HPX.out ll k
         clear hk
         gi_wp2
         refine DE (by kernel_rfl) (by kernel_rfl) (by kernel_rfl) ?_
         repeat (gi_big_quiet_step (fail))
         refine wpQuietIn_nil ?_
         rintro _ ⟨nq,rfl⟩
         gi_wp2
         refine DE (by kernel_rfl) (by kernel_rfl) (by kernel_rfl) ?_
         repeat (gi_big_quiet_step (fail))
         refine wpQuietIn_nil ?_
         rintro _ ⟨nq,rfl⟩
         gi_wp2
         refine Ff rfl (HYX.out _) ?_
         rintro e W3 ⟨bb,rfl,hbb⟩
         refine ⟨_,rfl,?_⟩
         cases bb with
         | true =>
           have HM3:=hid (hbb.out.1 rfl)
           clear hbb
           gi_wp2
           exact MK HM3.out (fun k hk => by rw [<- HOW.out]; exact .inl hk) HMX.out
         | false =>
           have HX3:=hid (hbb.out.2 rfl)
           clear hbb
           gi_wp2
           refine ⟨HX3.out.1,rfl,_,HPX.out,?_⟩
           exact HX3.out.2.mono (fun _ h => h) fun k hk => by rw [<- HOW.out]; exact .inl hk
 case ends =>
  refine ⟨?_,?_⟩
  · rintro D Ci W3 hD hnD hCi ⟨hout,hyb,hah,hWW⟩ hK
    obtain ⟨av',c',a1,a2,a3,a4,a5,a6,a7⟩:=hah
    obtain ⟨own,hown⟩ : ∃ own : Nat -> Prop,(fun k => (k = W.heap.size \/ k = w1.heap.size \/ k = rb) \/ k = D) = own:=⟨_,rfl⟩
    have o1 : own W.heap.size:=by rw [<- hown]; exact .inl (.inl rfl)
    have o2 : own rb:=by rw [<- hown]; exact .inl (.inr (.inr rfl))
    have o3 : own D:=by rw [<- hown]; exact .inr rfl
    have HST : Hid (M7 J own y W.heap.size rb D av' c' W (CL a b).1 (CL a b).2 W3):=by
     obtain ⟨C1,j1,j2,j3,j4⟩:=hout
     refine ⟨⟨C1,j1,fun _ _ => trivial,j3,fun k hk => ?_⟩,hyb.1,a4,hK,hWW⟩
     rw [<- hown] at hk
     rcases hk with hk | rfl
     · exact j4 k hk
     · exact ⟨fun h => hnD (j2 _ h),Ad hK⟩
    have HOW:=hid (And.intro o1 (And.intro o2 (And.intro o3 a5)))
    have HPR : Hid (∀ i,(CL a b).1 ++ (CL a b).2.take i <+: Gx a b):=fun i => QU i
    have HPA : Hid ((CL a b).1 ++ (CL a b).2 = Gx a b):=rfl
    have hlm:=Aad a b
    have hac:=a1.cell
    have hyc:=hyb.cell
    clear hout hyb hWW hK a1 a4 a5 a6 a7 o1 o2 o3 hown
    generalize (CL a b).1 = s at *
    generalize (CL a b).2 = ah at *
    have hml : ah.length <= 9223372036854775807:=by omega
    have HST0 : Hid (∃ wr,M7 J own y W.heap.size rb D av' c' W (s ++ ah.take 0) ah wr /\ wr = W3):=⟨W3,by rw [List.take_zero,List.append_nil]; exact HST.out,rfl⟩
    gi_wp2
    gi_loopw [55] (fun iv wr => ∃ i : Nat,i <= ah.length /\ iv = .int .i64 (i : Int) /\ Hid (M7 J own y W.heap.size rb D av' c' W (s ++ ah.take i) ah wr)) (fun iv _ => ah.length - (intOf iv).toNat)
    case atStart => exact ⟨0,Nat.zero_le _,rfl,by rw [List.take_zero,List.append_nil]; exact HST⟩
    case round =>
     obtain ⟨i,hi,rfl,HE⟩:=hrel
     clear HST HST0 hac hyc
     by_cases hlt : i < ah.length
     · obtain ⟨bb0,o',rfl,q0,q1,q2⟩:=HE.out.read.at hlt
       have HTK : Hid (ah.take (i + 1) = ah.take i ++ [ah[i]]):=List.take_succ_eq_append_getElem hlt
       have hPX : s ++ ah.take i ++ [ah[i]] <+: Gx a b:=by
        have:=HPR.out (i + 1)
        rwa [HTK.out,<- List.append_assoc] at this
       have hmes : ah.length - (intOf (.int .i64 ((i : Int) + 1))).toNat < ah.length - (intOf (.int .i64 (i : Int))).toNat:=by simp [intOf]; omega
       have hbl : Below wr.heap.size wr (wr.alloc (.cells #[.string ah[i].key,.string ah[i].val,.bool ah[i].gone] 57)):=(Below.refl _ wr).alloc (Nat.le_refl _) _
       have HE2:=hid (HE.out.below hJ hbl)
       have hyy:=XW HY.out HOW.out.1 HOW.out.2.1 HOW.out.2.2.1 HOW.out.2.2.2 HE2.out ah[i] hPX (6 - 1)
       have HPX:=hid hPX
       have hyc : (wr.alloc (.cells #[.string ah[i].key,.string ah[i].val,.bool ah[i].gone] 57)).cell? ⟨W.heap.size,0,none⟩ = some (.func (.yield y) #[] #[]):=by rw [Ab HE2.out.yb]; rfl
       have HYX:=hid hyy
       clear hbl hyy hPX HE
       generalize ah[i] = x at *
       obtain ⟨xk,xv,xg⟩:=x
       simp only at q0 q1 q2 hyc HYX
       gi_wp2
       refine Ff rfl HYX.out ?_
       rintro e W4 ⟨bb,rfl,hbb⟩
       refine ⟨_,rfl,?_⟩
       cases bb with
       | true =>
         have HE3:=hid (hbb.out.1 rfl)
         clear hbb
         gi_wp2
         exact ⟨⟨i + 1,by omega,by go_num,by rw [HTK.out,<- List.append_assoc]; exact HE3⟩,hmes⟩
       | false =>
         obtain ⟨⟨C1,j1,j2,j3,j4⟩,hmk⟩:=hbb.out.2 rfl
         have hnd:=(j4 D HOW.out.2.2.1).1
         clear hbb
         gi_wp2
         refine ⟨by simp,.inl ⟨_,_,rfl,run_takeDeferred hmk,?_⟩⟩
         exact ⟨_,results_none rfl _ _ _,⟨_,rfl⟩,C1,fun k hk => by have:=j3 k hk; simpa using this,.inr ⟨_,HPX.out,hJx.later j1 (AX.putObj _ _ hnd)⟩⟩
     · obtain rfl : i = ah.length:=by omega
       rw [List.take_length,HPA.out] at HE
       obtain ⟨C1,j1,j2,j3,j4⟩:=HE.out.out
       have hmk:=HE.out.mark
       have hnd:=(j4 D HOW.out.2.2.1).1
       gi_wp2
       refine ⟨by simp,.inl ⟨_,_,rfl,run_takeDeferred hmk,?_⟩⟩
       exact ⟨_,results_none rfl _ _ _,⟨_,rfl⟩,C1,fun k hk => by have:=j3 k hk; simpa using this,.inl (hJ.later j1 (AX.putObj _ _ hnd))⟩
  · rintro D c pre Ci W3 hD hnD hCi hp ⟨rfl,s,hs,C1,j1,j2,j3,j4⟩ hK
    refine (wpIn_wide (n:=6)).1 ?_
    gi_wp2
    refine ⟨by simp,.inl ⟨_,_,rfl,run_takeDeferred hK,?_⟩⟩
    exact ⟨_,results_none rfl _ _ _,⟨_,rfl⟩,C1,fun k hk => by have:=j3 k hk; simpa using this,.inr ⟨_,hs,hJx.later j1 (AX.putObj _ _ (fun h => hnD (j2 _ h)))⟩⟩
end
end Go.Proofs.YtnafjlhohbhcoaaGreatDoor
