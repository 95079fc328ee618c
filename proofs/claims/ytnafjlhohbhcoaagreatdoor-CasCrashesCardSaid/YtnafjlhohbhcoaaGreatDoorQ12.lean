/- Parts of the proof. -/
import Derived.Test.YtnafjlhohbhcoaaGreatDoorQ08
import Derived.Maps.OwnIn
namespace Go.Proofs.YtnafjlhohbhcoaaGreatDoor
open Go.Lib (hid)
set_option linter.unusedVariables false
section
open Go.RowKit Go.Shelf
attribute [local go_sem] Oper.semAt_some
def I1 (n₀ B : Nat) (t e : TypeId) (size k : Nat) (xs : List Value) (C : Nat -> Prop) (W : World) : Prop:=
 ∃ v,Boxed W B t v /\ W.ownsRow n₀ e size v k xs /\ C B /\ ∀ j,v.ownBlock = some j -> C j
theorem WL {C : Nat -> Prop} {W W' : World} (t : AX C W W') {base : Nat} {e : TypeId} {size : Nat} {v : Value} {n : Nat} {xs : List Value} (hr : W.ownsRow base e size v n xs) (hc : ∀ k,v.ownBlock = some k -> C k) : W'.ownsRow base e size v n xs:=by
 refine ⟨hr.1,?_⟩
 rcases hr.2 with h1 | ⟨g,cap,cur,hv,hb,hgg,rest⟩
 · exact .inl h1
 · subst hv
   exact .inr ⟨g,cap,cur,rfl,hb,(t.block g (hc g rfl)).trans hgg,rest⟩
theorem I1.stays {n₀ B : Nat} {t e : TypeId} {size k : Nat} {xs : List Value} {C C' : Nat -> Prop} {W W' : World} (h : I1 n₀ B t e size k xs C W) (s : AX C W W') (hc : ∀ k,C k -> C' k) : I1 n₀ B t e size k xs C' W':=by
 obtain ⟨v,h1,h2,h3,h4⟩:=h
 exact ⟨v,(s.block B h3).trans h1,WL s h2 h4,hc _ h3,fun j hj => hc _ (h4 j hj)⟩
theorem Ik {β : Type} (n₀ B : Nat) (t e : TypeId) (size : Nat) (k : β -> Nat) (f : β -> List Value) : Ax (fun s C W => I1 n₀ B t e size (k s) (f s) C W):=fun s C C' W W' h t hc => I1.stays h t hc
theorem Dz {n₀ B : Nat} {t e : TypeId} {size k m : Nat} {xs ys : List Value} {C : Nat -> Prop} {W w1 : World} {v v' : Value} {tmp : Obj} (hv : Boxed W B t v) (hr : W.ownsRow n₀ e size v k xs) (hCB : C B) (hCr : ∀ j,v.ownBlock = some j -> C j) (hte : t ≠ e) (hn : n₀ <= W.heap.size) (hB : n₀ <= B)
 (ho : w1.ownsRow n₀ e size v' (k + m) (xs ++ ys)) (hg : (W.alloc tmp).grownBy w1 v.ownBlock) (hw : v'.ownBlock = v.ownBlock \/ v'.ownBlock = some (W.alloc tmp).heap.size) :
 I1 n₀ B t e size (k + m) (xs ++ ys) (Ba C W (w1.setCell ⟨B,0,none⟩ v')) (w1.setCell ⟨B,0,none⟩ v') /\ Ac C W (w1.setCell ⟨B,0,none⟩ v') /\ Below n₀ W (w1.setCell ⟨B,0,none⟩ v') /\ Boxed w1 B t v:=by
 obtain ⟨hv1,hv2,hr2,hk2,hb2⟩:=hv.appended hte hr hn hB ho hg
 refine ⟨⟨v',hv2,hr2,.inl hCB,fun j hj => ?_⟩,(((Ac.refl C W).alloc _).grown hg (fun k e => .inl (hCr k e))).setCell (p:=⟨B,0,none⟩) (.inl hCB) _,hb2,hv1⟩
 rcases hw with hw | hw
 · exact .inl (hCr j (hw ▸ hj))
 · have hlt:=(hr2.lt j hj).2
   rw [hw] at hj
   cases hj
   refine .inr ⟨by simp,hlt⟩
def N8 (n : Nat) (w : World) (C : Nat -> Prop) (W : World) : Prop:=Below n w W /\ ∀ k,k < n -> C k
theorem N8.stays {n : Nat} {w : World} {C C' : Nat -> Prop} {W W' : World} (h : N8 n w C W) (t : AX C W W') (hc : ∀ k,C k -> C' k) : N8 n w C' W':=
 ⟨h.1.trans ⟨t.os,t.tape,t.output,t.size,fun k hk => t.block k (h.2 k hk)⟩,fun k hk => hc k (h.2 k hk)⟩
theorem II {β : Type} (n : Nat) (w : World) : Ax (fun (_ : β) C W => N8 n w C W):=fun s C C' W W' h t hc => h.stays t hc
theorem N8.turn {n : Nat} {w : World} {C : Nat -> Prop} {W W' : World} (h : N8 n w C W) (t : Below n W W') : N8 n w (Ba C W W') W':=⟨h.1.trans t,fun k hk => .inl (h.2 k hk)⟩
set_option maxRecDepth 100000 in
set_option maxHeartbeats 2000000 in
theorem Sn (g : Nat) (lb : Array Value) (eg : ∀ args w,(callFunc g args).run Tryz.prog w = .ok (.enter g args) w)
 (G : Nat -> Prop) (ps : List Aa) (w : World) (hG : ∀ k,G k -> k < w.heap.size) (hN : ps.length <= 3518437208880) (hseq : ∀ W,A8 G w W -> w.heap.size <= W.heap.size -> FO g lb G ps W) :
 Calls Tryz.prog 170 #[.slice none 0 0,.func (.func g) #[] lb] w fun e W' => ∃ v,e = .returned v /\ W'.ownsRow w.heap.size 57 3 v ps.length (AA ps) /\ Below w.heap.size w W':=by
 obtain ⟨i0,hi,hz0,hz1,hz2⟩:=info_parts infoPair
 refine (callsIn_wide (n:=6)).1 ?_
 refine callsIn_of_wp_marks Tryz.func170 rfl trivial ?_ rfl
 simp only [Tryz.ntmps170,List.size_toArray,List.length_cons,List.length_nil,Nat.reduceAdd,Nat.reduceSub,Array.replicate_succ,Array.replicate_zero,List.push_toArray,List.append_toArray,List.nil_append,List.cons_append]
 refine wpIn_wide.2 ?_
 go_wp2
 have bO:=Boxed.new w 30 (.slice none 0 0)
 have hB0 : Below w.heap.size w (w.alloc (.cells #[.slice none 0 0] 30)):=(Below.refl _ w).alloc (Nat.le_refl _) _
 have hs0 : (w.alloc (.cells #[.slice none 0 0] 30)).heap.size = w.heap.size + 1:=by simp
 refine Im 5 7 5 (gf:=g) (lb:=lb) (G:=G) (ps:=ps) rfl eg (fun W hk hs => hseq W ((A8.of_below hB0 hG).trans hk) (by omega)) (fun k hk => by have:=hG k hk; omega) rfl
  (fun pre C W => I1 w.heap.size w.heap.size 30 57 3 pre.length (AA pre) C W /\ N8 w.heap.size w C W)
  (fun _ _ _ _ => False)
  (Ax.and (Ik _ _ _ _ 3 (fun (pre : List Aa) => pre.length) (fun (pre : List Aa) => AA pre)) (II _ _))
  (fun _ _ _ _ _ _ hs _ _ => hs)
  (fun k => k < w.heap.size + 1) (fun k hk => by omega)
  ⟨⟨_,bO,World.ownsRow_nil _ _ _ _,by omega,fun j hj => by simp [Value.ownBlock] at hj⟩,hB0,fun k hk => by omega⟩
  ?assign ?body ?ends
 case assign =>
  intro l x W K hK
  unfold Aa.val' at *
  gi_wp2
  exact hK _ _ (Nat.le_refl _) (AF.new W x) ((Below.refl _ W).alloc (Nat.le_refl _) _)
 case body =>
  rintro l pre x Bx C W ⟨⟨v,hv,hrow,hCB,hCr⟩,hB⟩ hC hWs hp hCx hBx hbx
  have hc:=hv.cell
  have x0:=hbx.c0
  have x1:=hbx.c1
  have x2:=hbx.c2
  have hlt : pre.length < ps.length:=by have:=hp.length_le; simp at this; omega
  have hne : (30 : TypeId) ≠ 57:=by decide
  have hBs:=hB.1.size
  unfold Aa.val'
  gi_wp2_with (gi_at_builtin; refine wpListIn_append_own_at _ rfl _ _ 30 rfl w.heap.size 57 i0 _ 3 40 Tryz.underlying30 hi hz0 hz1 hz2 rfl (by decide) _ _ _ rfl (hrow.alloc _) ⟨W.heap.size,0,none⟩ 1 1 [.string x.key,.string x.val,.bool x.gone] rfl rfl (Ev _ _) (DL x) (by unfold maxLen; omega) (by omega) (by simp; omega) ?_; intro v' w1 hown' hgrow _ hwh; obtain ⟨g',cap',rfl⟩:=ownsRow_succ hown'; obtain ⟨hh,ht,hb2,hv1⟩:=Dz hv hrow hCB hCr hne hBs (Nat.le_refl _) hown' hgrow hwh; have hc1:=hv1.cell; have hf1:=hv1.frozen)
  exact ⟨ht,A8.of_below hb2 hG,by rw [DH,List.length_append]; exact hh,hB.turn hb2⟩
 case ends =>
  refine ⟨?_,fun _ _ _ _ _ _ _ _ _ h _ => h.elim⟩
  rintro D C W hD hn hC ⟨⟨v,hv,hrow,hCB,hCr⟩,hB⟩ hK
  have hc:=hv.cell
  go_wp2
  refine ⟨by simp,.inl ⟨_,_,rfl,run_takeDeferred hK,?_⟩⟩
  exact ⟨_,results_tmp rfl _ _ _,v,rfl,ownsRow_putObj hrow _ hK rfl,hB.1.trans (belowK_b (w:=w) (Nat.le_refl _) W D _ _ (by omega) hK rfl rfl)⟩
set_option maxHeartbeats 1000000 in
theorem Tl (g : Nat) (lb : Array Value) (eg : ∀ args w,(callFunc g args).run Tryz.prog w = .ok (.enter g args) w)
 (G : Nat -> Prop) (ps : List Aa) (w : World) (hG : ∀ k,G k -> k < w.heap.size) (hN : ps.length <= 3518437208880) (hseq : ∀ W,A8 G w W -> w.heap.size <= W.heap.size -> FO g lb G ps W) :
 Calls Tryz.prog 135 #[.func (.func g) #[] lb] w fun e W' => ∃ v,e = .returned v /\ W'.ownsRow w.heap.size 57 3 v ps.length (AA ps) /\ Below w.heap.size w W':=by
 have H:=hid (Sn g lb eg G ps w hG hN hseq)
 clear hseq eg
 go_enter Tryz.func135,Tryz.ntmps135
 go_wp2_with fail
 refine H.out.mono ?_
 rintro e w' ⟨v,rfl,hrow,hb⟩
 go_wp2
 go_ret
 exact ⟨v,rfl,hrow,hb⟩
end
section
open Go.RowKit Go.Shelf Go.Maps Go.WideMaps
attribute [local go_sem] Oper.semAt_some
def Sb (vb : Nat) (a : Option Addr) (l : List Aa) (i : Nat) : Prop:=i = vb \/ ∃ b o,a = some ⟨b,o,none⟩ /\ i = b /\ l ≠ []
theorem My {W W' : World} {vb : Nat} {a : Option Addr} {c : Nat} {l : List Aa} (h : Aj W (.slice a l.length c) l) (hk : A8 (Sb vb a l) W W') : Aj W' (.slice a l.length c) l:=by
 by_cases hl : l = []
 · exact ⟨h.1,a,c,rfl,.inl hl⟩
 · obtain ⟨hm,a',c',hv,h1⟩:=h
   injection hv with e1 e2 e3
   subst e1
   subst e3
   rcases h1 with h1 | ⟨b,o,rfl,h1⟩
   · exact absurd h1 hl
   · refine ⟨hm,_,_,rfl,.inr ⟨b,o,rfl,fun i hi => ?_⟩⟩
     have hb:=hk b (.inr ⟨b,o,rfl,rfl,hl⟩)
     obtain ⟨q0,q1,q2⟩:=h1 i hi
     exact ⟨(World.cell?_of_block (w:=W) (a:=⟨b,o + i * 3,none⟩) hb).trans q0,(World.cell?_of_block (w:=W) (a:=⟨b,o + i * 3 + 1,none⟩) hb).trans q1,(World.cell?_of_block (w:=W) (a:=⟨b,o + i * 3 + 2,none⟩) hb).trans q2⟩
theorem Qy {C : Nat -> Prop} {W W' : World} (h : ∀ k,C k -> k < W.heap.size) (hs : W.heap.size <= W'.heap.size) : ∀ k,Ba C W W' k -> k < W'.heap.size:=by
 rintro k (h1 | h1)
 · exact Nat.lt_of_lt_of_le (h k h1) hs
 · exact h1.2
set_option maxRecDepth 100000 in
set_option maxHeartbeats 4000000 in
theorem UH (y vb : Nat) (a : Option Addr) (c : Nat) (l : List Aa) (J Jx : List Aa -> (Nat -> Prop) -> World -> Prop) (C : Nat -> Prop) (W : World) (hC : ∀ k,C k -> k < W.heap.size)
 (hJ : Ax J)
 (hY : ∀ pre x C1 W1,J pre C1 W1 -> (∀ k,C1 k -> k < W1.heap.size) -> W.heap.size <= W1.heap.size -> pre ++ [x] <+: l -> ∀ m,YieldAt Fence.wide m Tryz.prog y #[Aa.val' x] W1 fun e W' => Ac C1 W1 W' /\ ((e = .returned (.bool true) /\ J (pre ++ [x]) (Ba C1 W1 W') W' /\ A8 (Sb vb a l) W1 W') \/ (e = .returned (.bool false) /\ Jx (pre ++ [x]) (Ba C1 W1 W') W')))
 (hv : W.cell? ⟨vb,0,none⟩ = some (.slice a l.length c)) (hR : Aj W (.slice a l.length c) l) (h0 : J [] C W) :
 Calls Tryz.prog 209 #[.func (.yield y) #[] #[],.pointer (some ⟨vb,0,none⟩)] W fun e W' => (∃ v,e = .returned v) /\ ∃ C',(∀ k,C' k -> k < W'.heap.size) /\ (J l C' W' \/ ∃ pre,pre <+: l /\ Jx pre C' W'):=by
 have hmx : l.length <= 9223372036854775807:=by have:=hR.1; unfold maxLen at this; omega
 have HR0:=hid hR
 have HJ0 : Hid (∃ C,J [] C W /\ (∀ k,C k -> k < W.heap.size)):=⟨C,h0,hC⟩
 clear hR h0 hC
 refine (callsIn_wide (n:=5)).1 ?_
 refine callsIn_of_wp Tryz.func209 rfl trivial ?_ rfl
 simp only [Tryz.ntmps209,List.size_toArray,List.length_cons,List.length_nil,Nat.reduceAdd,Nat.reduceSub,Array.replicate_succ,Array.replicate_zero,List.push_toArray,List.append_toArray,List.nil_append,List.cons_append]
 gi_wp2
 gi_loopw [7] (fun iv wr => ∃ i : Nat,i <= l.length /\ iv = .int .i64 (i : Int) /\ Hid (Aj wr (.slice a l.length c) l) /\ Hid (∃ C,J (l.take i) C wr /\ (∀ k,C k -> k < wr.heap.size)) /\ Hid (W.heap.size <= wr.heap.size)) (fun iv _ => l.length - (intOf iv).toNat)
 case atStart => exact ⟨0,Nat.zero_le _,rfl,HR0,HJ0,Nat.le_refl _⟩
 case round =>
  obtain ⟨i,hi,rfl,HR,hj,HS⟩:=hrel
  clear HR0 HJ0
  by_cases hlt : i < l.length
  · obtain ⟨b,o,rfl,q0,q1,q2⟩:=HR.out.at hlt
    have hbl : Below wr.heap.size wr (wr.alloc (.cells #[.string l[i].key,.string l[i].val,.bool l[i].gone] 57)):=(Below.refl _ wr).alloc (Nat.le_refl _) _
    obtain ⟨C1,hj0,hc1⟩:=hj.out
    have hj1 : J (l.take i) C1 (wr.alloc (.cells #[.string l[i].key,.string l[i].val,.bool l[i].gone] 57)):=hJ.later hj0 (AX.of_below hbl hc1)
    have HTK : Hid (l.take (i + 1) = l.take i ++ [l[i]]):=List.take_succ_eq_append_getElem hlt
    have HPX : Hid (l.take (i + 1) <+: l):=List.take_prefix _ _
    have hc2 : ∀ k,C1 k -> k < (wr.alloc (.cells #[.string l[i].key,.string l[i].val,.bool l[i].gone] 57)).heap.size:=fun k hk => by have:=hc1 k hk; simp; omega
    have hyy:=hY (l.take i) l[i] C1 _ hj1 hc2 (Nat.le_trans HS.out hbl.size) (by rw [<- HTK.out]; exact HPX.out) (5 - 1)
    have HRL:=hid (HR.out.below hbl)
    rw [<- HTK.out] at hyy
    have hmes : l.length - (intOf (.int .i64 ((i : Int) + 1))).toNat < l.length - (intOf (.int .i64 (i : Int))).toNat:=by simp [intOf]; omega
    have HBL : Hid (wr.heap.size <= (wr.alloc (.cells #[.string l[i].key,.string l[i].val,.bool l[i].gone] 57)).heap.size):=hbl.size
    have HC2:=hid hc2
    clear hbl hj1 hj0 hc1 hc2 hj
    generalize l[i] = x at *
    obtain ⟨xk,xv,xg⟩:=x
    unfold Aa.val' at hyy
    simp only at q0 q1 q2 hyy HRL HBL HC2
    obtain ⟨fn,tmps,assign,body,hy,hRR⟩:=hyy
    gi_wp2
    refine hRR.mono ?_
    rintro e W3 ⟨hT,(⟨rfl,hJ3,hk3⟩ | ⟨rfl,hJx3⟩)⟩
    · have HR3:=hid (My HRL.out hk3)
      have HJ3 : Hid (∃ C,J (l.take (i + 1)) C W3 /\ (∀ k,C k -> k < W3.heap.size)):=⟨_,hJ3,Qy HC2.out hT.size⟩
      have HS3 : Hid (W.heap.size <= W3.heap.size):=Nat.le_trans HS.out (Nat.le_trans HBL.out hT.size)
      clear hJ3 hk3 hT
      gi_wp2
      exact ⟨⟨i + 1,by omega,by go_num,HR3,HJ3,HS3⟩,hmes⟩
    · have HE : Hid (∃ C',(∀ k,C' k -> k < W3.heap.size) /\ (J l C' W3 \/ ∃ pre,pre <+: l /\ Jx pre C' W3)):=⟨_,Qy HC2.out hT.size,.inr ⟨_,HPX.out,hJx3⟩⟩
      clear hJx3 hT
      gi_wp2
      refine bodyPost_ret (results_none rfl _ _ _) rfl ?_
      exact ⟨⟨_,rfl⟩,HE.out⟩
  · obtain rfl : i = l.length:=by omega
    rw [List.take_length] at hj
    gi_wp2
    go_end0
    obtain ⟨C1,hj0,hc1⟩:=hj.out
    exact ⟨⟨_,rfl⟩,C1,hc1,.inl hj0⟩
set_option maxRecDepth 100000 in
set_option maxHeartbeats 1000000 in
theorem QT {w : World} {a : Option Addr} {c : Nat} {l : List Aa} (h : Aj w (.slice a l.length c) l) :
 Calls Tryz.prog 171 #[.slice a l.length c] w fun e w' => ∃ g lb G,e = .returned (.func (.func g) #[] lb) /\ (∀ args w,(callFunc g args).run Tryz.prog w = .ok (.enter g args) w) /\
  (∀ w'',A8 G w' w'' -> w'.heap.size <= w''.heap.size -> FO g lb G l w'') /\ (∀ j,G j -> j < w'.heap.size) /\ Below w.heap.size w w' /\ ∀ j,G j -> w.heap.size <= j \/ ∃ b o,a = some ⟨b,o,none⟩ /\ j = b /\ l ≠ []:=by
 have hmf : ∀ (fn : Fn) (first cap : Array Value) (w : World),(Instr.makeFunc fn first cap).run Tryz.prog w = .ok (.func fn first cap) w:=fun _ _ _ _ => rfl
 have hb : Below w.heap.size w (w.alloc (.cells #[.slice a l.length c] 30)):=(Below.refl _ w).alloc (Nat.le_refl _) _
 have hnw:=heap_alloc_new w (.cells #[.slice a l.length c] 30)
 have hsz : (w.alloc (.cells #[.slice a l.length c] 30)).heap.size = w.heap.size + 1:=by simp
 have key : ∀ w'',A8 (Sb w.heap.size a l) (w.alloc (.cells #[.slice a l.length c] 30)) w'' -> (w.alloc (.cells #[.slice a l.length c] 30)).heap.size <= w''.heap.size -> FO 209 #[.pointer (some ⟨w.heap.size,0,none⟩)] (Sb w.heap.size a l) l w'':=by
  intro w'' hw hs y J Jx C hJ hJx hC hY h0
  have hbx:=(hw w.heap.size (.inl rfl)).trans hnw
  exact UH y w.heap.size a c l J Jx C w'' hC hJ hY (by rw [Ab hbx]; rfl) (My (h.below hb) hw) h0
 have hG : ∀ j,Sb w.heap.size a l j -> j < (w.alloc (.cells #[.slice a l.length c] 30)).heap.size:=fun j hj => by
  rw [hsz]
  rcases hj with hj | ⟨b,o,ha,rfl,hl⟩
  · omega
  · have hp : 0 < l.length:=List.length_pos_iff.2 hl
    obtain ⟨b',o',ha',q,_⟩:=h.at hp
    rw [ha] at ha'
    injection ha' with ha'
    injection ha' with e1 e2
    subst e1
    have:=World.block_lt_of_cell? w ⟨_,_,none⟩ q
    simp only at this
    omega
 have HK:=hid (And.intro key hG)
 have HB:=hid hb
 clear key hG hb hnw hsz h
 go_enter Tryz.func171,Tryz.ntmps171
 go_wp2
 go_ret
 exact ⟨_,_,_,rfl,enters_of Tryz.func209 (by kernel_rfl) rfl,HK.out.1,HK.out.2,HB.out,fun j hj => by
  rcases hj with hj | hj
  · exact .inl (by omega)
  · exact .inr hj⟩
end
end Go.Proofs.YtnafjlhohbhcoaaGreatDoor
