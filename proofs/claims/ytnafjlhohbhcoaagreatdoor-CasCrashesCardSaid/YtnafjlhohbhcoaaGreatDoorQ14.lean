/- Parts of the proof. -/
import Derived.Test.YtnafjlhohbhcoaaGreatDoorQ13
import Derived.Deep.CondSized
import Derived.Deep.RegionHeld3
namespace Go.Proofs.YtnafjlhohbhcoaaGreatDoor
open Go.Lib (hid)
set_option linter.unusedVariables false
section
open Go.RowKit Go.Maps Go.WideMaps Go.Shelf
theorem Di.tight {w : World} {v : Value} {l : List Aa} {G : Nat -> Prop} (h : Di w v l G) : ∃ G0,Di w v l G0 /\ (∀ j,G0 j -> j < w.heap.size) /\ ∀ j,G0 j -> G j:=by
 rcases h with h | ⟨g,lb,h1,h2,h3,h4⟩
 · exact ⟨fun _ => False,.inl h,fun _ h => h.elim,fun _ h => h.elim⟩
 · exact ⟨G,.inr ⟨g,lb,h1,h2,h3,h4⟩,h4,fun _ h => h⟩
theorem Di.form {w : World} {v : Value} {l : List Aa} {G : Nat -> Prop} (h : Di w v l G) : v = .nilFunc \/ ∃ g lb,v = .func (.func g) #[] lb:=by
 rcases h with ⟨h,_⟩ | ⟨g,lb,h,_⟩
 · exact .inl h
 · exact .inr ⟨g,lb,h⟩
set_option maxRecDepth 100000 in
set_option maxHeartbeats 1000000 in
theorem Xx {w : World} {v : Value} {l : List Aa} {G : Nat -> Prop} (h : Di w v l G) :
 Calls Tryz.prog 57 #[v] w (JE w G (By l)):=by
 have hmf : ∀ (fn : Fn) (first cap : Array Value) (w : World),(Instr.makeFunc fn first cap).run Tryz.prog w = .ok (.func fn first cap) w:=fun _ _ _ _ => rfl
 obtain ⟨G0,h0,hG0,hGG⟩:=h.tight
 have hv:=h.form
 have hb : Below w.heap.size w (w.alloc (.cells #[v] 107)):=(Below.refl _ w).alloc (Nat.le_refl _) _
 have hnw:=heap_alloc_new w (.cells #[v] 107)
 have hsz : (w.alloc (.cells #[v] 107)).heap.size = w.heap.size + 1:=by simp
 have key : JE w G (By l) (.returned (.func (.func 87) #[] #[.pointer (some ⟨w.heap.size,0,none⟩)])) (w.alloc (.cells #[v] 107)):=by
  refine ⟨_,_,fun j => G0 j \/ j = w.heap.size,rfl,.inr ⟨_,_,rfl,enters_of Tryz.func87 (by kernel_rfl) rfl,fun w'' hk hs => ?_,fun j hj => ?_⟩,hb,fun j hj => ?_⟩
  · intro y J Jx C hJ hJx hC hY hj0
    have hbx:=(hk w.heap.size (.inr rfl)).trans hnw
    exact YO y w.heap.size (G:=G0) (fun k h => .inl h) J Jx C w'' hC hJ hJx hY (by rw [Ab hbx]; rfl) ((h0.below hb).keeps (fun k h => hk k (.inl h)) hs) hj0
  · rcases hj with hj | hj
    · have:=hG0 j hj; omega
    · omega
  · rcases hj with hj | hj
    · exact .inl (hGG j hj)
    · exact .inr (by omega)
 have HK:=hid key
 clear key hb hnw hsz h h0 hG0 hGG
 rcases hv with rfl | ⟨g,lb,rfl⟩
 · go_enter Tryz.func57,Tryz.ntmps57
   go_wp2
   go_ret
   exact HK.out
 · go_enter Tryz.func57,Tryz.ntmps57
   go_wp2
   go_ret
   exact HK.out
set_option maxRecDepth 100000 in
set_option maxHeartbeats 1000000 in
theorem RK {w : World} {v : Value} {l : List Aa} {G : Nat -> Prop} (h : Di w v l G) (hr : Ak l) :
 Calls Tryz.prog 88 #[v] w (JE w G l):=by
 have hmf : ∀ (fn : Fn) (first cap : Array Value) (w : World),(Instr.makeFunc fn first cap).run Tryz.prog w = .ok (.func fn first cap) w:=fun _ _ _ _ => rfl
 obtain ⟨G0,h0,hG0,hGG⟩:=h.tight
 have hv:=h.form
 have hb : Below w.heap.size w (w.alloc (.cells #[v] 107)):=(Below.refl _ w).alloc (Nat.le_refl _) _
 have hnw:=heap_alloc_new w (.cells #[v] 107)
 have hsz : (w.alloc (.cells #[v] 107)).heap.size = w.heap.size + 1:=by simp
 have key : JE w G l (.returned (.func (.func 133) #[] #[.pointer (some ⟨w.heap.size,0,none⟩)])) (w.alloc (.cells #[v] 107)):=by
  refine ⟨_,_,fun j => G0 j \/ j = w.heap.size,rfl,.inr ⟨_,_,rfl,enters_of Tryz.func133 (by kernel_rfl) rfl,fun w'' hk hs => ?_,fun j hj => ?_⟩,hb,fun j hj => ?_⟩
  · intro y J Jx C hJ hJx hC hY hj0
    have hbx:=(hk w.heap.size (.inr rfl)).trans hnw
    exact AaK y w.heap.size (G:=G0) hr (fun k h => .inl h) J Jx C w'' hC hJ hJx hY (by rw [Ab hbx]; rfl) ((h0.below hb).keeps (fun k h => hk k (.inl h)) hs) hj0
  · rcases hj with hj | hj
    · have:=hG0 j hj; omega
    · omega
  · rcases hj with hj | hj
    · exact .inl (hGG j hj)
    · exact .inr (by omega)
 have HK:=hid key
 clear key hb hnw hsz h h0 hG0 hGG hr
 rcases hv with rfl | ⟨g,lb,rfl⟩
 · go_enter Tryz.func88,Tryz.ntmps88
   go_wp2
   go_ret
   exact HK.out
 · go_enter Tryz.func88,Tryz.ntmps88
   go_wp2
   go_ret
   exact HK.out
set_option maxRecDepth 100000 in
set_option maxHeartbeats 1000000 in
theorem W8 {w : World} {g1 g2 : Nat} {lb1 lb2 : Array Value} {a b : List Aa} {G1 G2 G : Nat -> Prop} (h1 : Di w (.func (.func g1) #[] lb1) a G1) (h2 : Di w (.func (.func g2) #[] lb2) b G2) (hN : a.length <= 3518437208780) {w0 : World} (hs0 : w0.heap.size <= w.heap.size) (hg1 : ∀ j,G1 j -> G j \/ w0.heap.size <= j) (hg2 : ∀ j,G2 j -> G j \/ w0.heap.size <= j) :
 Calls Tryz.prog 89 #[.func (.func g1) #[] lb1,.func (.func g2) #[] lb2] w fun e w' => ∃ g lb G',e = .returned (.func (.func g) #[] lb) /\ Di w' (.func (.func g) #[] lb) (Gx a b) G' /\ Below w.heap.size w w' /\ ∀ j,G' j -> G j \/ w0.heap.size <= j:=by
 have hmf : ∀ (fn : Fn) (first cap : Array Value) (w : World),(Instr.makeFunc fn first cap).run Tryz.prog w = .ok (.func fn first cap) w:=fun _ _ _ _ => rfl
 obtain ⟨W1,hW1⟩ : ∃ W1,(w.alloc (.cells #[.func (.func g1) #[] lb1] 107)).alloc (.cells #[.func (.func g2) #[] lb2] 107) = W1:=⟨_,rfl⟩
 have hb : Below w.heap.size w W1:=by rw [<- hW1]; exact ((Below.refl _ w).alloc (Nat.le_refl _) _).alloc (by simp) _
 have hn1 : W1.heap[w.heap.size]? = some (.cells #[.func (.func g1) #[] lb1] 107 (0,0)):=by
  rw [<- hW1,Below.heap_alloc _ _ _ (by simp)]; exact heap_alloc_new _ _
 have hn2 : W1.heap[w.heap.size + 1]? = some (.cells #[.func (.func g2) #[] lb2] 107 (0,0)):=by
  have:=heap_alloc_new (w.alloc (.cells #[.func (.func g1) #[] lb1] 107)) (.cells #[.func (.func g2) #[] lb2] 107)
  rwa [hW1,World.size_alloc] at this
 have hsz : W1.heap.size = w.heap.size + 2:=by rw [<- hW1]; simp
 have hl1:=h1.func.2.2
 have hl2:=h2.func.2.2
 have key : ∃ G',Di W1 (.func (.func 134) #[] #[.pointer (some ⟨w.heap.size,0,none⟩),.pointer (some ⟨w.heap.size + 1,0,none⟩)]) (Gx a b) G' /\ Below w.heap.size w W1 /\ ∀ j,G' j -> G j \/ w0.heap.size <= j:=by
  refine ⟨fun j => (G1 j \/ G2 j) \/ j = w.heap.size \/ j = w.heap.size + 1,.inr ⟨_,_,rfl,enters_of Tryz.func134 (by kernel_rfl) rfl,fun w'' hk hs => ?_,fun j hj => ?_⟩,hb,fun j hj => ?_⟩
  · intro y J Jx C hJ hJx hC hY hj0
    have hbx1:=(hk w.heap.size (.inr (.inl rfl))).trans hn1
    have hbx2:=(hk (w.heap.size + 1) (.inr (.inr rfl))).trans hn2
    exact Aag y w.heap.size (w.heap.size + 1) (G2:=G2) hN (fun k h => .inl (.inr h)) J Jx C w'' hC hJ hJx hY (by rw [Ab hbx1]; rfl) ((h1.below hb).keeps (fun k h => hk k (.inl (.inl h))) hs) (by rw [Ab hbx2]; rfl) ((h2.below hb).keeps (fun k h => hk k (.inl (.inr h))) hs) hj0
  · rcases hj with (hj | hj) | hj | hj
    · have:=hl1 j hj; omega
    · have:=hl2 j hj; omega
    · omega
    · omega
  · rcases hj with (hj | hj) | hj | hj
    · exact hg1 j hj
    · exact hg2 j hj
    · exact .inr (by omega)
    · exact .inr (by omega)
 have HK:=hid key
 have HW:=hid hW1
 clear key hb hn1 hn2 hsz h1 h2 hl1 hl2 hg1 hg2 hs0 hN hW1
 go_enter Tryz.func89,Tryz.ntmps89
 go_wp2
 go_ret
 obtain ⟨G',k1,k2,k3⟩:=HK.out
 rw [HW.out]
 exact ⟨_,_,G',rfl,k1,k2,k3⟩
end
section
open Go.RowKit Go.Maps Go.WideMaps Go.Shelf
theorem TD {w : World} {a : Option Addr} {n c k : Nat} {ls : List (List Aa)} {G : Nat -> Prop} (h : Ed w (.slice a n c) ls G) (hk : k <= ls.length) : Ed w (.slice a (ls.take k).length c) (ls.take k) G:=by
 obtain ⟨h1,h2,a',c',hv,h0,h3⟩:=h
 injection hv with e1 e2 e3
 subst e1 e3
 have hl : (ls.take k).length = k:=by rw [List.length_take]; omega
 refine ⟨h1,by omega,_,_,rfl,⟨by omega,h0.2⟩,?_⟩
 rcases h3 with h3 | ⟨b,o,rfl,hb,h3⟩
 · left; subst h3; simp
 · refine .inr ⟨b,o,rfl,hb,fun i hi => ?_⟩
   rw [List.getElem_take]
   exact h3 i (by omega)
theorem Ur {w : World} {b o n c k : Nat} {ls : List (List Aa)} {G : Nat -> Prop} (h : Ed w (.slice (some ⟨b,o,none⟩) n c) ls G) (hk : k < ls.length) : Ed w (.slice (some ⟨b,o + k,none⟩) (ls.drop k).length (c - k)) (ls.drop k) G:=by
 obtain ⟨h1,h2,a',c',hv,h0,h3⟩:=h
 injection hv with e1 e2 e3
 subst e1 e3
 have hl : (ls.drop k).length = ls.length - k:=List.length_drop
 refine ⟨h1,by omega,_,_,rfl,⟨by omega,by omega⟩,?_⟩
 rcases h3 with h3 | ⟨b',o',e,hb,h3⟩
 · subst h3; simp at hk
 · injection e with e
   injection e with e4 e5
   subst e4 e5
   refine .inr ⟨b,o + k,rfl,hb,fun i hi => ?_⟩
   rw [List.getElem_drop,Nat.add_assoc]
   exact h3 (k + i) (by omega)
theorem YH {l : List Aa} (hr : Ak l) (hf : Az l) : BY [l] = l:=by rw [CS,allP_nil,Lz hr hf]
theorem slSeqs : Tryz.prog.underlying 110 = some (.slice (Tryz.prog.elem 110)):=by kernel_rfl
theorem Yn (w : World) : (sizeOf (Tryz.prog.elem 110)).run Tryz.prog w = .ok 1 w:=by kernel_rfl
theorem AaN (b o n c k : Nat) (hk : k <= n) (hc : n <= c) (wx : World) : (Instr.slice 110 (.slice (some ⟨b,o,none⟩) n c) none (some (.int .i64 (k : Int))) none).run Tryz.prog wx = .ok (.slice (some ⟨b,o,none⟩) k c) wx:=by
 have:=run_slice_h (P:=Tryz.prog) (w:=wx) 110 (some ⟨b,o,none⟩) n c slSeqs .i64 (k : Int) (by omega) (by omega)
 rw [Yn] at this
 rw [this]
 show Result.ok (sliced (some ⟨b,o,none⟩) 0 ((k : Int).toNat) c 1) wx = _
 unfold sliced
 simp [Addr.add]
theorem RJ (b o n c k : Nat) (h1 : 1 <= k) (hk : k < n) (hc : n <= c) (wx : World) : (Instr.slice 110 (.slice (some ⟨b,o,none⟩) n c) (some (.int .i64 (k : Int))) none none).run Tryz.prog wx = .ok (.slice (some ⟨b,o + k,none⟩) (n - k) (c - k)) wx:=by
 have:=run_slice_l (P:=Tryz.prog) (w:=wx) 110 (some ⟨b,o,none⟩) n c slSeqs .i64 (k : Int) (by omega) (by omega)
 rw [Yn] at this
 rw [this]
 show Result.ok (sliced (some ⟨b,o,none⟩) ((k : Int).toNat) n c 1) wx = _
 unfold sliced
 have hne : ¬ c = k:=by omega
 have hk0 : ¬ k = 0:=by omega
 simp [Addr.add,hne,hk0]
set_option maxRecDepth 100000 in
set_option maxHeartbeats 4000000 in
theorem all8_any : ∀ (n : Nat) {ls : List (List Aa)},ls.length <= n -> ∀ {w : World} {a : Option Addr} {c : Nat} {G : Nat -> Prop},Ed w (.slice a ls.length c) ls G -> Cd ls -> Bk ls + ls.length <= 1099511627776 -> Calls Tryz.prog 58 #[.slice a ls.length c] w (JE w G (BY ls)):=by
 intro n
 induction n with
 | zero =>
   intro ls hn w a c G h hg hs
   obtain rfl : ls = []:=List.eq_nil_of_length_eq_zero (by omega)
   have H:=hid (RK (w:=w) (v:=.nilFunc) (l:=[]) (G:=fun _ => False) (.inl ⟨rfl,rfl⟩) List.Pairwise.nil)
   clear h hg hs hn
   go_enter Tryz.func58,Tryz.ntmps58
   go_wp2_with fail
   refine H.out.mono ?_
   rintro e w1 ⟨g,lb,G',rfl,h1,h2,h3⟩
   have HS:=hid h1
   have HB:=hid h2
   have H3:=hid h3
   clear h1 h2 h3 H
   go_wp2
   go_ret
   exact ⟨g,lb,G',rfl,HS.out,HB.out,fun j hj => (H3.out j hj).elim False.elim .inr⟩
 | succ n ih =>
   intro ls hn w a c G h hg hs
   by_cases h0 : ls = []
   · subst h0
     exact ih (Nat.zero_le _) h hg hs
   by_cases h1 : ls.length = 1
   · obtain ⟨l,rfl⟩ : ∃ l,ls = [l]:=by
       match ls,h1 with
       | [l],_ => exact ⟨l,rfl⟩
     obtain ⟨g1,g2,a',c',hv,g3,g4⟩:=h
     injection hv with e1 e2 e3
     subst e1 e3
     rcases g4 with g4 | ⟨b,o,rfl,hb,g4⟩
     · cases g4
     · obtain ⟨u,Gi,q1,q2,q3⟩:=g4 0 (by simp)
       have hgl:=hg l (by simp)
       have H:=hid (RK q2 hgl.1)
       have HA : Hid (BY [l] = l):=YH hgl.1 hgl.2
       have Q3:=hid q3
       have hfm:=q2.form
       have hlen : ([l] : List (List Aa)).length = 1:=rfl
       simp only [List.length_singleton] at g3
       obtain ⟨g31,g32⟩:=g3
       rw [Nat.add_zero] at q1
       clear hg hs hn ih h0 h1 g1 g2 g4 q2 q3 hgl hb
       show Calls Tryz.prog 58 #[.slice (some ⟨b,o,none⟩) 1 c] w (JE w G (BY [l]))
       rcases hfm with rfl | ⟨gf,lbf,rfl⟩
       all_goals
        go_enter Tryz.func58,Tryz.ntmps58
        go_wp2_with fail
        refine H.out.mono ?_
        rintro e w1 ⟨g,lb,G',rfl,h1,h2,h3⟩
        have HS:=hid h1
        have HB:=hid h2
        have H3:=hid h3
        clear h1 h2 h3 H
        go_wp2
        go_ret
        exact ⟨g,lb,G',rfl,by rw [HA.out]; exact HS.out,HB.out,fun j hj => (H3.out j hj).elim (fun h => .inl (Q3.out j h)) .inr⟩
   · have h2 : 2 <= ls.length:=by
       have:=List.length_pos_iff.2 h0
       omega
     obtain ⟨k,hk⟩ : ∃ k,ls.length / 2 = k:=⟨_,rfl⟩
     have hk1 : 1 <= k:=by omega
     have hk2 : k < ls.length:=by omega
     have hl1 : (ls.take k).length = k:=by rw [List.length_take]; omega
     have hl2 : (ls.drop k).length = ls.length - k:=List.length_drop
     have hsum : Bk (ls.take k) + Bk (ls.drop k) = Bk ls:=by rw [<- Qr,List.take_append_drop]
     obtain ⟨b,o,rfl,hc0,hc1⟩ : ∃ b o,a = some ⟨b,o,none⟩ /\ ls.length <= c /\ c <= maxLen:=by
      obtain ⟨_,_,a',c',hv,g3,g4⟩:=h
      injection hv with e1 e2 e3
      subst e1 e3
      rcases g4 with g4 | ⟨b,o,e,_⟩
      · exact absurd g4 h0
      · exact ⟨b,o,e,g3⟩
     have HA1 : Hid (∀ w',Below w.heap.size w w' -> Calls Tryz.prog 58 #[.slice (some ⟨b,o,none⟩) k c] w' (JE w' G (BY (ls.take k)))):=fun w' t => by
      have:=ih (ls:=ls.take k) (by omega) ((TD h (k:=k) (by omega)).below t) (fun l hl => hg l (List.mem_of_mem_take hl)) (by omega)
      rwa [hl1] at this
     have HA2 : Hid (∀ w',Below w.heap.size w w' -> Calls Tryz.prog 58 #[.slice (some ⟨b,o + k,none⟩) (ls.length - k) (c - k)] w' (JE w' G (BY (ls.drop k)))):=fun w' t => by
      have:=ih (ls:=ls.drop k) (by omega) ((Ur h (k:=k) (by omega)).below t) (fun l hl => hg l (List.mem_of_mem_drop hl)) (by omega)
      rwa [hl2] at this
     have hmix : Gx (BY (ls.take k)) (BY (ls.drop k)) = BY ls:=by
      rw [XH (allP_rising _) (allP_rising _) (allP_fine _)]
      rw [<- allP_append fun l hl => hg l (List.mem_of_mem_take hl),List.take_append_drop]
     have hal:=allP_len (ls.take k)
     have hN : (BY (ls.take k)).length <= 3518437208780:=by omega
     have hq : ((ls.length : Int) / 2) = (k : Int):=by omega
     have hn1 : ((ls.length : Int) == 0) = false:=by simp; omega
     have hn2 : ((ls.length : Int) == 1) = false:=by simp; omega
     have hmx : ls.length <= 1099511627776:=by omega
     have HMX:=hid hmix
     have hsl1:=AaN b o ls.length c k (by omega) hc0
     have hsl2:=RJ b o ls.length c k hk1 hk2 hc0
     clear h0 h1 hk hl1 hl2 hsum hal hmix ih hg hs hn h h2
     generalize BY ls = L at *
     generalize BY (ls.take k) = A1 at *
     generalize BY (ls.drop k) = A2 at *
     generalize ls.length = N at *
     go_enter Tryz.func58,Tryz.ntmps58
     go_wp2_with fail
     go_region_held3 (fun _ => True) (exact trivial)
      (first
      | (go_at_call 58; have hx:=SA; clear hx; refine (HA2.out _ (by repeat (first | exact BA.out | exact Below.refl _ _ | apply Below.drew))).mono ?_; rintro e wC ⟨gC,lbC,GC,rfl,sC,bC,gGC⟩; have BC : Hid (Below w.heap.size w wC):=A4 (by repeat (first | exact BA.out | apply Below.drew)) (Nat.le_refl _) bC; have SC:=hid sC; have SA2:=hid ((SA.out.below (by repeat (first | exact Below.refl _ _ | apply Below.drew))).below bC); have GGC : Hid (∀ j,GC j -> G j \/ w.heap.size <= j):=(fun j hj => (gGC j hj).imp_right fun h => Nat.le_trans BA.out.size (by simpa using h)); clear sC bC gGC)
      | (go_at_call 58; refine (HA1.out _ (by repeat (first | exact Below.refl _ _ | apply Below.drew))).mono ?_; rintro e wA ⟨gA,lbA,GA,rfl,sA,bA,gGA⟩; have BA : Hid (Below w.heap.size w wA):=A4 (by repeat (first | exact Below.refl _ _ | apply Below.drew)) (Nat.le_refl _) bA; have SA:=hid sA; have GGA : Hid (∀ j,GA j -> G j \/ w.heap.size <= j):=(fun j hj => (gGA j hj).imp_right fun h => by simpa using h); clear sA bA gGA)
      | (go_at_call 89; refine (W8 (w0:=w) (G:=G) (SA2.out.below (by repeat (first | exact Below.refl _ _ | apply Below.drew))) (SC.out.below (by repeat (first | exact Below.refl _ _ | apply Below.drew))) hN BC.out.size GGA.out GGC.out).mono ?_; rintro e wD ⟨gD,lbD,GD,rfl,sD,bD,gGD⟩; have BD : Hid (Below w.heap.size w wD):=A4 (by repeat (first | exact BC.out | apply Below.drew)) (Nat.le_refl _) bD; have SD:=hid sD; have GGD:=hid gGD; clear sD bD gGD)
      )
     all_goals
      go_wp2
      go_ret
      exact ⟨_,_,GD,rfl,by rw [<- HMX.out]; exact SD.out,BD.out,GGD.out⟩
end
section
open Go.RowKit Go.Maps Go.WideMaps Go.Shelf
attribute [local go_sem] Oper.semAt_some
theorem Aae (a b : ByteArray) (w : World) : (binOp BinOp.geq 9 (.string a) (.string b)).run Tryz.prog w = .ok (.bool (!AO a b)) w:=by
 simp [binOp,Op.stringOp,AO]
set_option maxRecDepth 100000 in
set_option maxHeartbeats 4000000 in
theorem Lk {w : World} {v : Value} {l : List Aa} {G : Nat -> Prop} (tu : ByteArray) (most : Int) (h : Di w v l G) (hN : l.length <= 3518437208780) (hm : (Lit.int .i64 most).wf = true) :
 Calls Tryz.prog 56 #[v,.string tu,.int .i64 most] w fun e w' => ∃ r,e = .returned r /\ (Aj w' r (CU l tu most) /\ (∀ a n c,r = .slice a n c -> n <= c) /\ w'.ownsRow w.heap.size 57 3 r (CU l tu most).length (AA (CU l tu most))) /\ Below w.heap.size w w':=by
 obtain ⟨i0,hi,hz0,hz1,hz2⟩:=info_parts infoPair
 obtain ⟨W0,hW0⟩ : ∃ W0,(w.alloc (.cells #[.string tu] 9)).alloc (.cells #[.int .i64 most] 3) = W0:=⟨_,rfl⟩
 have hb0 : Below w.heap.size w W0:=by rw [<- hW0]; exact ((Below.refl _ w).alloc (Nat.le_refl _) _).alloc (by simp) _
 have hs0 : W0.heap.size = w.heap.size + 2:=by rw [<- hW0]; simp
 have ht0 : W0.heap[w.heap.size]? = some (.cells #[.string tu] 9 (0,0)):=by
  rw [<- hW0,Below.heap_alloc _ _ _ (by simp)]; exact heap_alloc_new _ _
 have hm0 : W0.heap[w.heap.size + 1]? = some (.cells #[.int .i64 most] 3 (0,0)):=by
  have:=heap_alloc_new (w.alloc (.cells #[.string tu] 9)) (.cells #[.int .i64 most] 3)
  rwa [hW0,World.size_alloc] at this
 have hmc : W0.cell? ⟨w.heap.size + 1,0,none⟩ = some (.int .i64 most):=by rw [Ab hm0]; rfl
 have hS0:=h.below hb0
 have HS0:=hid hs0
 have HT0:=hid ht0
 have HM0:=hid hm0
 have HB0:=hid hb0
 have HW0:=hid hW0
 clear hs0 ht0 hm0 hb0 h
 refine (callsIn_wide (n:=6)).1 ?_
 refine callsIn_of_wp_marks Tryz.func56 rfl trivial ?_ rfl
 simp only [Tryz.ntmps56,List.size_toArray,List.length_cons,List.length_nil,Nat.reduceAdd,Nat.reduceSub,Array.replicate_succ,Array.replicate_zero,List.push_toArray,List.append_toArray,List.nil_append,List.cons_append]
 refine wpIn_wide.2 ?_
 rcases hS0 with ⟨rfl,rfl⟩ | ⟨g,lb,rfl,eg,hgi,hG⟩
 · have hnn : ∀ w,(binOp BinOp.eql 107 .nilFunc .nilFunc).run Tryz.prog w = .ok (.bool true) w:=O9 Tryz.underlying107
   have HE : Hid (CU ([] : List Aa) tu most = []):=by simp [Hid,CU]
   have HN0 : Hid (Aj W0 (.slice none 0 0) []):=⟨Nat.zero_le _,_,_,rfl,.inl rfl⟩
   go_wp2
   exact ⟨_,results_tmp rfl _ _ _,_,rfl,⟨by rw [HE.out]; exact HN0.out,(fun a n c e => by cases e; exact Nat.le_refl _),by rw [HE.out]; exact World.ownsRow_nil _ _ _ _⟩,HB0.out⟩
 · have hnf : ∀ w,(binOp BinOp.eql 107 (.func (.func g) #[] lb) .nilFunc).run Tryz.prog w = .ok (.bool false) w:=fun w => Lu Tryz.underlying107 g lb w
   by_cases h1 : most < 1
   · have HE : Hid (CU l tu most = []):=by
       show CU l tu most = []
       unfold CU
       rw [show most.toNat = 0 by omega,List.take_zero]
     have HN0 : Hid (Aj W0 (.slice none 0 0) []):=⟨Nat.zero_le _,_,_,rfl,.inl rfl⟩
     go_wp2
     exact ⟨_,results_tmp rfl _ _ _,_,rfl,⟨by rw [HE.out]; exact HN0.out,(fun a n c e => by cases e; exact Nat.le_refl _),by rw [HE.out]; exact World.ownsRow_nil _ _ _ _⟩,HB0.out⟩
   · obtain ⟨WA,hWA⟩ : ∃ WA,W0.alloc (.cells #[.slice none 0 0] 30) = WA:=⟨_,rfl⟩
     have hbA : Below W0.heap.size W0 WA:=by rw [<- hWA]; exact (Below.refl _ W0).alloc (Nat.le_refl _) _
     have hsA : WA.heap.size = W0.heap.size + 1:=by rw [<- hWA]; simp
     have hlA : Boxed WA W0.heap.size 30 (.slice none 0 0):=by rw [<- hWA]; exact Boxed.new _ _ _
     have HWA:=hid hWA
     have HSA:=hid hsA
     have HBA:=hid hbA
     have HLA:=hid hlA
     have hgA : ∀ W',A8 G WA W' -> WA.heap.size <= W'.heap.size -> FO g lb G l W':=fun W' hk hs => hgi W' ((A8.of_below hbA hG).trans hk) (Nat.le_trans hbA.size hs)
     have hGA : ∀ j,G j -> j < WA.heap.size:=fun j hj => by have:=hG j hj; omega
     have HG:=hid hG
     clear hbA hsA hlA hWA hgi hG
     go_wp2_with fail
     rw [HWA.out]
     clear hnf hmc
     refine Im 5 16 8 rfl eg hgA hGA rfl
      (fun pre C W => (I1 W0.heap.size W0.heap.size 30 57 3 pre.length (AA pre) C W /\ ((∀ y ∈ pre,Bi tu y = true) /\ (pre.length : Int) < most)) /\ N8 W0.heap.size WA C W)
      (fun c _ C W => c = .exit 0 /\ I1 W0.heap.size W0.heap.size 30 57 3 (CU l tu most).length (AA (CU l tu most)) C W /\ N8 W0.heap.size WA C W)
      (Ax.and (Ax.and (Ik _ _ 30 57 3 (fun (pre : List Aa) => pre.length) (fun (pre : List Aa) => AA pre)) (DW (fun (pre : List Aa) => (∀ y ∈ pre,Bi tu y = true) /\ (pre.length : Int) < most))) (II _ _))
      (fun c => Ax.and (DW _) (Ax.and (Ik _ _ 30 57 3 (fun (_ : List Aa) => (CU l tu most).length) (fun _ => AA (CU l tu most))) (II _ _)))
      (fun k => k < WA.heap.size) (fun k hk => hk)
      ⟨⟨⟨_,HLA.out,World.ownsRow_nil _ _ _ _,by have:=HSA.out; omega,fun j hj => by simp [Value.ownBlock] at hj⟩,by simp,by simp; omega⟩,Below.refl _ _,fun k hk => by have:=HSA.out; omega⟩
      ?assign ?body ?ends
     case assign =>
      intro l x W K hK
      unfold Aa.val' at *
      gi_wp2
      exact hK _ _ (Nat.le_refl _) (AF.new W x) ((Below.refl _ W).alloc (Nat.le_refl _) _)
     case body =>
      rintro ll pre x Bx C W ⟨⟨⟨v,hv,hrow,hCB,hCr⟩,hall,hlm⟩,hB⟩ hC hWs hp hCx hBx hbx
      have hlt : pre.length < l.length:=by have:=hp.length_le; simp at this; omega
      have hpt : l.take pre.length = pre /\ l[pre.length] = x /\ l.take (pre.length + 1) = pre ++ [x]:=by
       obtain ⟨r,rfl⟩:=hp
       refine ⟨by simp,by simp,?_⟩
       rw [show pre.length + 1 = (pre ++ [x]).length by simp]
       exact List.take_left
      have x0:=hbx.c0
      have x1:=hbx.c1
      have x2:=hbx.c2
      have c0:=hv.cell
      have f0:=hv.frozen
      have hs:=hB.1.size
      have hsA:=HSA.out
      have htB:=(hB.1.block w.heap.size (by have:=HS0.out; omega)).trans ((HBA.out.block w.heap.size (by have:=HS0.out; omega)).trans HT0.out)
      have hmB:=(hB.1.block (w.heap.size + 1) (by have:=HS0.out; omega)).trans ((HBA.out.block (w.heap.size + 1) (by have:=HS0.out; omega)).trans HM0.out)
      have t0 : W.cell? ⟨w.heap.size,0,none⟩ = some (.string tu):=by rw [Ab htB]; rfl
      have m0 : W.cell? ⟨w.heap.size + 1,0,none⟩ = some (.int .i64 most):=by rw [Ab hmB]; rfl
      have hne : (30 : TypeId) ≠ 57:=by decide
      obtain ⟨av,cv,rfl⟩:=(Aj.own hrow).slice
      have HLM:=hid (And.intro hall (And.intro hlm (And.intro hpt hlt)))
      have hgq:=Aae x.key tu
      have HMB:=hid hmB
      clear htB hmB hall hlm hpt hp hsA
      have hlt':=HLM.out.2.2.2
      have HMC : Hid (∀ (w1 : World) (o : Obj),(W.alloc o).grownBy w1 (Value.slice av pre.length cv).ownBlock -> W.ownsRow W0.heap.size 57 3 (.slice av pre.length cv) pre.length (AA pre) -> w1.cell? ⟨w.heap.size + 1,0,none⟩ = some (.int .i64 most)):=fun w1 o hg hr => by
       have h2 : w.heap.size + 1 < W0.heap.size:=by have:=HS0.out; omega
       have h3 : w.heap.size + 1 < W.heap.size:=by have:=HSA.out; omega
       rw [Ab ((hg.block (w.heap.size + 1) (by simp; omega) (fun e => by have:=(hr.lt _ e.symm).1; omega)).trans ((Below.heap_alloc _ _ _ h3).trans HMB.out))]
       rfl
      unfold Aa.val'
      by_cases hto : tu.size = 0
      · have he:=Sz hto
        have HBT : Hid (Bi tu x = true):=by unfold Bi; simp [Hid,hto]
        clear hto hgq
        by_cases hlast : ((pre.length : Int) + 1) = most
        · have hl2 : Hid (CU l tu most = pre ++ [x]):=by
            rw [<- HLM.out.2.2.1.2.2]
            refine J6 (i:=pre.length + 1) (by omega) (fun y hy => ?_) (by omega) (.inr (.inl (by omega)))
            rw [HLM.out.2.2.1.2.2] at hy
            rcases List.mem_append.1 hy with hy | hy
            · exact HLM.out.1 y hy
            · rw [List.mem_singleton.1 hy]; exact HBT.out
          gi_wp2_with (gi_at_builtin; go_loud (refine wpListIn_append_own_at _ rfl _ _ 30 rfl W0.heap.size 57 i0 _ 3 40 Tryz.underlying30 hi hz0 hz1 hz2 rfl (by decide) _ _ _ rfl (hrow.alloc _) ⟨W.heap.size,0,none⟩ 1 1 [.string x.key,.string x.val,.bool x.gone] rfl rfl (Ev _ _) (DL x) (by unfold maxLen; omega) (by omega) (by have:=HSA.out; simp; omega) ?_; intro v' w1 hown' hgrow _ hwh; obtain ⟨g',cap',rfl⟩:=ownsRow_succ hown'; obtain ⟨hh,ht,hb2,hv1⟩:=Dz hv hrow hCB hCr hne (by have:=HSA.out; omega) (Nat.le_refl _) hown' hgrow hwh; have hc1:=hv1.cell; have hf1:=hv1.frozen; have hc2 : ∀ u,(w1.setCell ⟨W0.heap.size,0,none⟩ u).cell? ⟨w.heap.size + 1,0,none⟩ = some (.int .i64 most):=fun u => (Cs (by have:=HS0.out; omega)).trans (HMC.out w1 _ hgrow hrow)))
          exact ⟨ht,rfl,by rw [hl2.out,DH,List.length_append]; exact hh,hB.turn hb2⟩
        · have hnl : (((pre.length : Int) + 1) == most) = false:=by simpa using hlast
          have HNL : Hid ((pre.length : Int) + 1 < most):=by
           have:=HLM.out.2.1
           show _ < _
           omega
          have HBA2 : Hid (∀ y ∈ pre ++ [x],Bi tu y = true):=fun y hy => by
           rcases List.mem_append.1 hy with hy | hy
           · exact HLM.out.1 y hy
           · rw [List.mem_singleton.1 hy]; exact HBT.out
          clear hlast
          gi_wp2_with (gi_at_builtin; go_loud (refine wpListIn_append_own_at _ rfl _ _ 30 rfl W0.heap.size 57 i0 _ 3 40 Tryz.underlying30 hi hz0 hz1 hz2 rfl (by decide) _ _ _ rfl (hrow.alloc _) ⟨W.heap.size,0,none⟩ 1 1 [.string x.key,.string x.val,.bool x.gone] rfl rfl (Ev _ _) (DL x) (by unfold maxLen; omega) (by omega) (by have:=HSA.out; simp; omega) ?_; intro v' w1 hown' hgrow _ hwh; obtain ⟨g',cap',rfl⟩:=ownsRow_succ hown'; obtain ⟨hh,ht,hb2,hv1⟩:=Dz hv hrow hCB hCr hne (by have:=HSA.out; omega) (Nat.le_refl _) hown' hgrow hwh; have hc1:=hv1.cell; have hf1:=hv1.frozen; have hc2 : ∀ u,(w1.setCell ⟨W0.heap.size,0,none⟩ u).cell? ⟨w.heap.size + 1,0,none⟩ = some (.int .i64 most):=fun u => (Cs (by have:=HS0.out; omega)).trans (HMC.out w1 _ hgrow hrow)))
          exact ⟨ht,A8.of_below hb2 HG.out,⟨by rw [DH,List.length_append]; exact hh,HBA2.out,by rw [List.length_append]; exact HNL.out⟩,hB.turn hb2⟩
      · have he:=Ss hto
        cases hbf : AO x.key tu with
        | true =>
          rw [hbf] at hgq
          have HBT : Hid (Bi tu x = true):=by unfold Bi; simp [Hid,hbf]
          clear hto hbf
          by_cases hlast : ((pre.length : Int) + 1) = most
          · have hl2 : Hid (CU l tu most = pre ++ [x]):=by
              rw [<- HLM.out.2.2.1.2.2]
              refine J6 (i:=pre.length + 1) (by omega) (fun y hy => ?_) (by omega) (.inr (.inl (by omega)))
              rw [HLM.out.2.2.1.2.2] at hy
              rcases List.mem_append.1 hy with hy | hy
              · exact HLM.out.1 y hy
              · rw [List.mem_singleton.1 hy]; exact HBT.out
            gi_wp2_with (gi_at_builtin; go_loud (refine wpListIn_append_own_at _ rfl _ _ 30 rfl W0.heap.size 57 i0 _ 3 40 Tryz.underlying30 hi hz0 hz1 hz2 rfl (by decide) _ _ _ rfl (hrow.alloc _) ⟨W.heap.size,0,none⟩ 1 1 [.string x.key,.string x.val,.bool x.gone] rfl rfl (Ev _ _) (DL x) (by unfold maxLen; omega) (by omega) (by have:=HSA.out; simp; omega) ?_; intro v' w1 hown' hgrow _ hwh; obtain ⟨g',cap',rfl⟩:=ownsRow_succ hown'; obtain ⟨hh,ht,hb2,hv1⟩:=Dz hv hrow hCB hCr hne (by have:=HSA.out; omega) (Nat.le_refl _) hown' hgrow hwh; have hc1:=hv1.cell; have hf1:=hv1.frozen; have hc2 : ∀ u,(w1.setCell ⟨W0.heap.size,0,none⟩ u).cell? ⟨w.heap.size + 1,0,none⟩ = some (.int .i64 most):=fun u => (Cs (by have:=HS0.out; omega)).trans (HMC.out w1 _ hgrow hrow)))
            exact ⟨ht,rfl,by rw [hl2.out,DH,List.length_append]; exact hh,hB.turn hb2⟩
          · have hnl : (((pre.length : Int) + 1) == most) = false:=by simpa using hlast
            have HNL : Hid ((pre.length : Int) + 1 < most):=by
             have:=HLM.out.2.1
             show _ < _
             omega
            have HBA2 : Hid (∀ y ∈ pre ++ [x],Bi tu y = true):=fun y hy => by
             rcases List.mem_append.1 hy with hy | hy
             · exact HLM.out.1 y hy
             · rw [List.mem_singleton.1 hy]; exact HBT.out
            clear hlast
            gi_wp2_with (gi_at_builtin; go_loud (refine wpListIn_append_own_at _ rfl _ _ 30 rfl W0.heap.size 57 i0 _ 3 40 Tryz.underlying30 hi hz0 hz1 hz2 rfl (by decide) _ _ _ rfl (hrow.alloc _) ⟨W.heap.size,0,none⟩ 1 1 [.string x.key,.string x.val,.bool x.gone] rfl rfl (Ev _ _) (DL x) (by unfold maxLen; omega) (by omega) (by have:=HSA.out; simp; omega) ?_; intro v' w1 hown' hgrow _ hwh; obtain ⟨g',cap',rfl⟩:=ownsRow_succ hown'; obtain ⟨hh,ht,hb2,hv1⟩:=Dz hv hrow hCB hCr hne (by have:=HSA.out; omega) (Nat.le_refl _) hown' hgrow hwh; have hc1:=hv1.cell; have hf1:=hv1.frozen; have hc2 : ∀ u,(w1.setCell ⟨W0.heap.size,0,none⟩ u).cell? ⟨w.heap.size + 1,0,none⟩ = some (.int .i64 most):=fun u => (Cs (by have:=HS0.out; omega)).trans (HMC.out w1 _ hgrow hrow)))
            exact ⟨ht,A8.of_below hb2 HG.out,⟨by rw [DH,List.length_append]; exact hh,HBA2.out,by rw [List.length_append]; exact HNL.out⟩,hB.turn hb2⟩
        | false =>
          rw [hbf] at hgq
          have HEQ : Hid (CU l tu most = pre):=by
           have h1:=J6 (l:=l) (to:=tu) (most:=most) (i:=pre.length) (by omega) (by rw [HLM.out.2.2.1.1]; exact HLM.out.1) (by have:=HLM.out.2.1; omega) (.inr (.inr ⟨hlt',by rw [HLM.out.2.2.1.2.1]; unfold Bi; simp [hto,hbf]⟩))
           rw [HLM.out.2.2.1.1] at h1
           exact h1
          have HHE : Hid (I1 W0.heap.size W0.heap.size 30 57 3 pre.length (AA pre) (Ba C W W) W):=I1.stays ⟨_,hv,hrow,hCB,hCr⟩ (AX.refl C W) (fun k hk => .inl hk)
          clear hto hbf
          gi_wp2
          exact ⟨Ac.refl _ _,rfl,by rw [HEQ.out]; exact HHE.out,hB.turn (Below.refl _ _)⟩
     case ends =>
      refine Tb.block (fun C W => I1 W0.heap.size W0.heap.size 30 57 3 (CU l tu most).length (AA (CU l tu most)) C W /\ N8 W0.heap.size WA C W) ?_ ?_ ?_
      · rintro C W - ⟨⟨hh,hall,hlm⟩,hB⟩
        have h1:=J6 (l:=l) (to:=tu) (most:=most) (i:=l.length) (Nat.le_refl _) (by rw [List.take_length]; exact hall) (by omega) (.inl rfl)
        rw [List.take_length] at h1
        rw [h1]
        exact ⟨hh,hB⟩
      · rintro c pre C W - hp ⟨rfl,hh,hB⟩
        exact ⟨rfl,hh,hB⟩
      · rintro D C W hD hnD hCW ⟨⟨v,hv,hrow,hCB,hCr⟩,hB⟩ hK
        have hc:=hv.cell
        have hBE : Hid (Below w.heap.size w W):=HB0.out.trans ((HBA.out.trans (hB.1.mono (Nat.le_refl _))).mono HB0.out.size)
        have HDS : Hid (w.heap.size <= D):=by
         have h1:=HB0.out.size
         have h2:=HSA.out
         show _ <= _
         omega
        go_wp2
        refine ⟨by simp,.inl ⟨_,_,rfl,run_takeDeferred hK,?_⟩⟩
        exact ⟨_,results_tmp rfl _ _ _,v,rfl,⟨Aj.own (ownsRow_putObj hrow _ hK rfl),(fun a n c e => by
         obtain ⟨a',c',e2⟩:=An hrow
         rw [e2] at hrow e
         cases e
         exact (Jg hrow).1),Au (ownsRow_putObj hrow _ hK rfl) HB0.out.size⟩,hBE.out.trans (belowK_b (w:=w) (Nat.le_refl _) W D _ _ HDS.out hK rfl rfl)⟩
theorem Wc {w : World} {v : Value} {l : List Aa} {G : Nat -> Prop} (tu : ByteArray) (most : Int) (h : Di w v l G) (hN : l.length <= 3518437208780) (hm : (Lit.int .i64 most).wf = true) :
 Calls Tryz.prog 56 #[v,.string tu,.int .i64 most] w fun e w' => ∃ r,e = .returned r /\ Aj w' r (CU l tu most) /\ Below w.heap.size w w':=
 (Lk tu most h hN hm).mono fun e w' k => by obtain ⟨r,h1,h2,h3⟩:=k; exact ⟨r,h1,h2.1,h3⟩
theorem mergeK : Ab9:=⟨fun h hg hs => all8_any _ (Nat.le_refl _) h hg hs,fun h _ => Xx h,fun tu most h hN hm => Wc tu most h hN hm⟩
end
end Go.Proofs.YtnafjlhohbhcoaaGreatDoor
