/- Parts of the proof. -/
import Derived.Test.YtnafjlhohbhcoaaGreatDoorQ36
import Derived.Test.YtnafjlhohbhcoaaGreatDoorQ12
namespace Go.Proofs.YtnafjlhohbhcoaaGreatDoor
open Go.Lib (hid)
set_option linter.unusedVariables false
section
open Go.RowKit Go.Shelf Go.Maps Go.WideMaps
set_option maxRecDepth 100000 in
set_option maxHeartbeats 1000000 in
theorem Vt {w : World} {p : Nat} {l : List Aa} {B : Nat} (k : ByteArray) (h : Ib w p l B) (hB : B <= w.heap.size) :
 Calls Tryz.prog 138 #[.pointer (some ⟨p,0,none⟩),.string k] w fun e w' => ∃ g lb G,e = .returned (.func (.func g) #[] lb) /\ (∀ args w,(callFunc g args).run Tryz.prog w = .ok (.enter g args) w) /\ (∀ w'',A8 G w' w'' -> w'.heap.size <= w''.heap.size -> FO g lb G (AG k l) w'') /\ (∀ j,G j -> j < w'.heap.size) /\ Below w.heap.size w w' /\ ∀ j,G j -> j < B \/ w.heap.size <= j:=by
 have hsk:=RO k h hB
 clear h
 go_enter Tryz.func138,Tryz.ntmps138
 go_wp2_with fail
 refine hsk.mono ?_
 rintro e w1 ⟨a,c,rfl,hr,hb,b1⟩
 have hva:=QT hr
 have B1:=hid b1
 have HBB:=hid hb
 have hs1:=b1.size
 clear hsk hr hb b1
 go_wp2_with fail
 refine hva.mono ?_
 rintro e w2 ⟨g,lb,G,rfl,eg,hg,hG,b2,hG2⟩
 have H2 : Hid ((∀ w'',A8 G w2 w'' -> w2.heap.size <= w''.heap.size -> FO g lb G (AG k l) w'') /\ (∀ j,G j -> j < w2.heap.size) /\ ∀ j,G j -> j < B \/ w.heap.size <= j):=⟨hg,hG,fun j hj => by
  rcases hG2 j hj with h | ⟨b,o,ha,rfl,hne⟩
  · exact .inr (by omega)
  · exact .inl (HBB.out _ _ ha hne)⟩
 have B2:=hid (B1.out.trans (b2.mono B1.out.size))
 have EG:=hid eg
 clear hva hg hG b2 hG2 eg
 go_wp2
 go_ret
 exact ⟨g,lb,G,rfl,EG.out,H2.out.1,H2.out.2.1,B2.out,H2.out.2.2⟩
end
section
open Go.RowKit Go.Shelf
def Lc (w : World) (p : Nat) (l : List Aa) (F : Nat -> Prop) : Prop:=
 ∃ g c,w.heap[p]? = some (.cells #[.slice (some ⟨g,0,none⟩) l.length c] 208 (0,0)) /\ w.ownsRow 0 57 3 (.slice (some ⟨g,0,none⟩) l.length c) l.length (AA l) /\ F p /\ F g /\ Ak l /\ l.length <= 8388608
theorem Lc.mono {w : World} {p : Nat} {l : List Aa} {F G : Nat -> Prop} (h : Lc w p l F) (hd : ∀ k,F k -> G k) : Lc w p l G:=by
 obtain ⟨g,c,h1,h2,h3,h4,h5,h6⟩:=h
 exact ⟨g,c,h1,h2,hd _ h3,hd _ h4,h5,h6⟩
theorem Lc.kept {w w' : World} {p : Nat} {l : List Aa} {F G : Nat -> Prop} (h : Lc w p l F) (t : Ac G w w') (hd : ∀ k,F k -> ¬ G k) : Lc w' p l F:=by
 obtain ⟨g,c,h1,h2,h3,h4,h5,h6⟩:=h
 refine ⟨g,c,t.keeps h1 (hd _ h3),t.row h2 (fun k hk => ?_),h3,h4,h5,h6⟩
 simp [Value.ownBlock] at hk
 subst hk
 exact hd _ h4
theorem Lc.tight {w : World} {p : Nat} {l : List Aa} {F : Nat -> Prop} (h : Lc w p l F) : Lc w p l (fun k => F k /\ k < w.heap.size):=by
 obtain ⟨g,c,h1,h2,h3,h4,h5,h6⟩:=h
 exact ⟨g,c,h1,h2,⟨h3,Ad h1⟩,⟨h4,(h2.lt g rfl).2⟩,h5,h6⟩
set_option maxHeartbeats 4000000 in
set_option maxRecDepth 100000 in
theorem WB (s : ByteArray) (w : World) (hs : s.size <= 1099511627776) :
 Calls Tryz.prog 112 #[.string s] w fun e w' => ((∃ l p,e = .returned (.tuple #[.pointer (some ⟨p,0,none⟩),.int .i64 0]) /\ ET s.data.toList l /\ Lc w' p l (fun k => w.heap.size <= k)) \/ (e = .returned (.tuple #[.pointer none,.int .i64 60]) /\ ∀ l,¬ ET s.data.toList l)) /\ Below w.heap.size w w':=by
 have hsl : s.data.toList.length = s.size:=Ab2 s
 have hscan:=Yg s hs w
 unfold MG at hscan
 cases hsc : Bz s.data.toList with | mk fs rest =>
 rw [hsc] at hscan
 simp only at hscan
 have hfew:=Y5 hsc
 have hinv:=scanL_inv fs _ rest hsc
 have hrl : rest.length <= s.size:=by have:=congrArg List.length hinv.1; rw [List.length_append] at this; omega
 have HNO:=hid (fun l (ht : ET s.data.toList l) => AaP hsc ht)
 by_cases hrest : rest = []
 · subst hrest
   by_cases hf0 : 1 <= fs.length
   · obtain ⟨m,hm⟩ : ∃ m,fs.length = m + 1:=⟨fs.length - 1,by omega⟩
     obtain ⟨gs,eG⟩ : ∃ gs,fs.take m = gs:=⟨_,rfl⟩
     obtain ⟨ft,eF⟩ : ∃ ft,fs.getD m [] = ft:=⟨_,rfl⟩
     have hgl : gs.length = m:=by rw [<- eG,List.length_take]; omega
     have hgz : ∀ i,(gs.getD i []).length <= 1048576:=fun i => by
      by_cases hi : i < gs.length
      · have e : gs.getD i [] = gs[i]:=by simp [List.getD,hi]
        rw [e]
        refine hinv.2 _ (List.mem_of_mem_take (i:=m) ?_)
        rw [eG]
        exact List.getElem_mem hi
      · have e : gs.getD i [] = []:=by simp [List.getD,Nat.le_of_not_lt hi]
        rw [e]; simp
     have hfz : ft.length <= 1048576:=by
      have hlt : m < fs.length:=by omega
      rw [<- eF,show fs.getD m [] = fs[m] by simp [List.getD,hlt]]
      exact hinv.2 _ (List.getElem_mem hlt)
     have hgg : ∀ i,i < m -> fs.getD i [] = gs.getD i []:=fun i hi => by
      rw [<- eG]
      simp [List.getD,hi]
     have HYES : Hid (∀ l,gs = AI l (Ao l.length) -> De l = 0 -> JF ft l = true -> ET s.data.toList l):=fun l h1 h2 h3 => by
      refine YC hsc hf0 ?_ h2 ?_
      · rw [hm,Nat.add_sub_cancel,eG]; exact h1
      · rw [hm,Nat.add_sub_cancel,eF]; exact h3
     have HNO2 : Hid (∀ l,ET s.data.toList l -> gs = AI l (Ao l.length) /\ Az l /\ De l = 0 /\ JF ft l = true):=fun l ht => by
      obtain ⟨_,_,h1,h2,h3,h4⟩:=HNO.out l ht
      rw [hm,Nat.add_sub_cancel] at h1 h4
      rw [eG] at h1
      rw [eF] at h4
      exact ⟨h1,h2,h3,h4⟩
     obtain ⟨FT,eFT⟩ : ∃ A : ByteArray,(⟨ft.toArray⟩ : ByteArray) = A:=⟨_,rfl⟩
     have dFT : FT.data.toList = ft:=by rw [<- eFT]
     have zFT : FT.size = ft.length:=by rw [<- eFT,A0]
     obtain ⟨w1i,w2i,w3i,w4i⟩:=Zg (nb:=m) (by omega)
     have hm5 : m <= 219902325555:=by omega
     clear HNO hinv hf0
     go_enter Tryz.func112,Tryz.ntmps112
     go_wp2_with fail
     refine hscan.mono ?_
     rintro e w1 ⟨v1,rfl,ho1,b1⟩
     obtain ⟨g,fc,rfl,hlast⟩:=IN ho1 (show m < fs.length by omega)
     have hrt:=WZ ho1
     have hcap:=(Oo ho1).1
     rw [eF] at hlast
     unfold tx at hlast
     rw [eFT] at hlast
     have hgb : g < w1.heap.size:=World.block_lt_of_cell? w1 ⟨g,m,none⟩ hlast
     have B1:=hid b1
     have hrow : GY w1 (some ⟨g,0,none⟩) gs.length (fun i => tx (gs.getD i [])):=⟨by omega,.inr ⟨g,0,rfl,hgb,fun i hi => by
      rw [Nat.zero_add,<- hgg i (by omega)]
      exact hrt i (by omega)⟩⟩
     have hrb:=NY (c:=fc) hrow hgz (by omega)
     rw [hgl] at hrb
     rw [hm] at *
     have hz0 : ((s.size : Int) - (([] : List UInt8).length : Int)) = (s.size : Int):=by simp
     clear ho1 b1 hscan hrow hrt hgz hgg
     go_wp2_with fail
     refine hrb.mono ?_
     rintro e w2 ⟨xs,v2,ok,rfl,k1,k2,b2⟩
     have B2:=hid (B1.out.trans (b2.mono B1.out.size))
     have hl2 : w2.cell? ⟨g,m,none⟩ = some (.string FT):=(b2.cell hgb).trans hlast
     have hs2:=b2.size
     have HK2 : Hid (∀ l,ET s.data.toList l -> ok = true /\ xs = l):=fun l ht => k2 l (HNO2.out l ht).2.1 (HNO2.out l ht).1
     clear hrb b2 k2
     cases ok with
     | false =>
       have HN : Hid (∀ l,¬ ET s.data.toList l):=fun l ht => by
        have:=(HK2.out l ht).1
        cases this
       go_wp2
       go_ret2
       exact ⟨.inr ⟨rfl,HN.out⟩,B2.out⟩
     | true =>
       obtain ⟨o2,hgx⟩:=k1 rfl
       have hxl : xs.length <= 8 * m:=by
        have h1 : Ao xs.length = m:=by rw [<- hgl,hgx,Ca]
        unfold Ao at h1
        omega
       by_cases hE : De xs = 0
       · obtain ⟨hne,hrise,hfi⟩:=GP.1 hE
         have hx1 : 1 <= xs.length:=List.length_pos_iff.2 hne
         obtain ⟨gx,xc,rfl⟩ : ∃ gx c,v2 = .slice (some ⟨gx,0,none⟩) xs.length c:=by
          rcases o2.2 with ⟨_,h0⟩ | ⟨g',cap,cur,hv,_⟩
          · omega
          · exact ⟨g',cap,hv⟩
         have hcx:=(Oo o2).1
         have hchk:=Lh (Aj.own o2)
         rw [hE] at hchk
         have O2:=hid o2
         clear k1 o2
         go_wp2_with fail
         refine hchk.mono ?_
         rintro e w3 ⟨rfl,b3⟩
         have O3:=hid (Ah O2.out b3)
         have hl3 : w3.cell? ⟨g,m,none⟩ = some (.string FT):=(b3.cell (by have:=World.block_lt_of_cell? w2 ⟨g,m,none⟩ hl2; simpa using this)).trans hl2
         have B3:=hid (B2.out.trans (b3.mono B2.out.size))
         have hif:=QO (s:=FT) (Aj.own O3.out) hfi hcx (by omega) hx1 (by omega)
         rw [dFT] at hif
         clear b3 hchk O2 hl2
         go_wp2_with fail
         refine hif.mono ?_
         rintro e w4 ⟨rfl,b4⟩
         have O4:=hid (Ah O3.out b4)
         have B4:=hid (B3.out.trans (b4.mono B3.out.size))
         clear b4 hif hl3 O3
         cases hfb : JF ft xs with
         | true =>
           have HY:=hid (HYES.out xs hgx hE hfb)
           have hnew:=heap_alloc_new w4 (.cells #[.slice (some ⟨gx,0,none⟩) xs.length xc] 208)
           have hba:=hid ((Below.refl _ w4).alloc (Nat.le_refl _) (.cells #[.slice (some ⟨gx,0,none⟩) xs.length xc] 208))
           have hsz : (w4.alloc (.cells #[.slice (some ⟨gx,0,none⟩) xs.length xc] 208)).heap.size = w4.heap.size + 1:=by simp
           have hs1w:=B1.out.size
           have HT : Hid (Lc (w4.alloc (.cells #[.slice (some ⟨gx,0,none⟩) xs.length xc] 208)) w4.heap.size xs (fun k => w.heap.size <= k)):=
            ⟨gx,xc,hnew,Au (Ah O4.out hba.out) (Nat.zero_le _),B4.out.size,by have:=(O4.out.lt gx rfl).1; omega,hrise,YS HY.out⟩
           have HBZ:=hid (B4.out.trans (hba.out.mono B4.out.size))
           clear hnew hba hsz O4 hs1w
           go_wp2
           go_ret2
           exact ⟨.inl ⟨xs,_,rfl,HY.out,HT.out⟩,HBZ.out⟩
         | false =>
           have HN : Hid (∀ l,¬ ET s.data.toList l):=fun l ht => by
            have h1:=(HNO2.out l ht).2.2.2
            rw [<- (HK2.out l ht).2,hfb] at h1
            cases h1
           go_wp2
           go_ret2
           exact ⟨.inr ⟨rfl,HN.out⟩,B4.out⟩
       · have HN : Hid (∀ l,¬ ET s.data.toList l):=fun l ht => hE (by rw [(HK2.out l ht).2]; exact (HNO2.out l ht).2.2.1)
         obtain ⟨xa,xc,rfl⟩:=An o2
         have hchk:=Lh (Aj.own o2)
         have hc1 : ((De xs : Int) == 0) = false:=by simp; omega
         generalize De xs = E at *
         clear k1 o2
         go_wp2_with fail
         refine hchk.mono ?_
         rintro e w3 ⟨rfl,b3⟩
         have B3:=hid (B2.out.trans (b3.mono B2.out.size))
         clear b3 hchk
         go_wp2
         go_ret2
         exact ⟨.inr ⟨rfl,HN.out⟩,B3.out⟩
   · have hf1 : fs = []:=List.eq_nil_of_length_eq_zero (by omega)
     subst hf1
     have HN : Hid (∀ l,¬ ET s.data.toList l):=fun l ht => by
      have:=(HNO.out l ht).2.1
      simp at this
     clear hinv hfew
     go_enter Tryz.func112,Tryz.ntmps112
     go_wp2_with fail
     refine hscan.mono ?_
     rintro e w1 ⟨v1,rfl,ho1,b1⟩
     obtain ⟨fa,fc,rfl⟩:=An ho1
     have B1:=hid b1
     clear ho1 b1 hscan
     go_wp2
     go_ret2
     exact ⟨.inr ⟨rfl,HN.out⟩,B1.out⟩
 · have HN : Hid (∀ l,¬ ET s.data.toList l):=fun l ht => hrest (HNO.out l ht).1
   have hr1 : 0 < rest.length:=List.length_pos_iff.2 hrest
   have hlt : ((s.size : Int) - (rest.length : Int)) < (s.size : Int):=by omega
   clear hinv hfew
   go_enter Tryz.func112,Tryz.ntmps112
   go_wp2_with fail
   refine hscan.mono ?_
   rintro e w1 ⟨v1,rfl,ho1,b1⟩
   obtain ⟨fa,fc,rfl⟩:=An ho1
   have B1:=hid b1
   clear ho1 b1 hscan
   go_wp2
   go_ret2
   exact ⟨.inr ⟨rfl,HN.out⟩,B1.out⟩
end
end Go.Proofs.YtnafjlhohbhcoaaGreatDoor
