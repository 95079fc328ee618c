/- Parts of the proof. -/
import Derived.Test.YtlkefgngefpkiaaGreatDoorQ35
import Derived.Test.YtlkefgngefpkiaaGreatDoorQ32
namespace Go.Proofs.YtlkefgngefpkiaaGreatDoor
set_option linter.unusedVariables false
section
open Go.RowKit
def Ed (t : List UInt8) (l : List Aa) : Bool:=l.all fun x => FO t x.key
theorem NH (t : List UInt8) (l : List Aa) : Ed t l = true ↔ ∀ x ∈ l,FO t x.key = true:=by unfold Ed; exact List.all_eq_true
theorem Sw {t : List UInt8} {l : List Aa} {i : Nat} (h : i < l.length) (ha : Ed t (l.take i) = true) : Ed t (l.take (i + 1)) = FO t l[i].key:=by
 unfold Ed at *
 rw [List.take_succ_eq_append_getElem h,List.all_append,ha]
 simp
theorem Xp {t : List UInt8} {l : List Aa} {i : Nat} (h : i < l.length) (ha : FO t l[i].key = false) : Ed t l = false:=by
 cases hb : Ed t l with
 | false => rfl
 | true => rw [(NH t l).1 hb _ (List.getElem_mem h)] at ha; cases ha
set_option maxHeartbeats 1000000 in
set_option maxRecDepth 100000 in
theorem Uq {w : World} {fb : Nat} {t : ByteArray} {x : Aa} (hc : w.cell? ⟨fb,0,none⟩ = some (.string t)) (ht : t.size <= maxLen) (hx : x.key.size <= maxLen) :
 Calls Tryz.prog 209 #[x.val',.pointer (some ⟨fb,0,none⟩)] w fun e w' => e = .returned (.bool (!FO t.data.toList x.key)) /\ Below w.heap.size w w':=by
 obtain ⟨xk,xv,xg⟩:=x
 have hb:=World.block_lt_of_cell? w ⟨fb,0,none⟩ hc
 have hB:=Lib.hid ((Below.refl _ w).alloc (Nat.le_refl _) (.cells #[.string xk,.string xv,.bool xg] 61))
 have hca:=fun w => AaC t xk ht hx w
 show Calls Tryz.prog 209 #[.agg #[.string xk,.string xv,.bool xg],.pointer (some ⟨fb,0,none⟩)] w _
 go_enter Tryz.func209,Tryz.ntmps209
 go_wp2_with fail
 refine (hca _).mono ?_
 rintro e w1 ⟨rfl,b1⟩
 have B1:=Lib.hid (hB.out.trans (b1.mono hB.out.size))
 clear b1
 go_wp2
 go_ret
 exact ⟨rfl,B1.out⟩
set_option maxHeartbeats 1000000 in
set_option maxRecDepth 100000 in
theorem Vz {w : World} {fb : Nat} {t : ByteArray} {a : Option Addr} {c : Nat} {l : List Aa} (h : Ao w (.slice a l.length c) l) (hf : Az l) (hc : w.cell? ⟨fb,0,none⟩ = some (.string t)) (ht : t.size <= maxLen) :
 Calls Tryz.prog 230 #[.slice a l.length c,.func (.func 209) #[] #[.pointer (some ⟨fb,0,none⟩)]] w fun e w' => ∃ r : Int,e = .returned (.int .i64 r) /\ decide (0 <= r) = (!Ed t.data.toList l) /\ Below w.heap.size w w':=by
 have hmax : l.length <= 9223372036854775807:=by have:=h.1; unfold maxLen at this; omega
 have eg : ∀ args w,(callFunc 209 args).run Tryz.prog w = .ok (.enter 209 args) w:=enters_of Tryz.func209 (by kernel_rfl) rfl
 have hb:=World.block_lt_of_cell? w ⟨fb,0,none⟩ hc
 have H:=Lib.hid h
 have HC:=Lib.hid hc
 clear h hc
 go_enter Tryz.func230,Tryz.ntmps230
 go_wp2
 go_loopw [8] (fun iv wr => ∃ i : Nat,i <= l.length /\ iv = .int .i64 (i : Int) /\ Hid (Ed t.data.toList (l.take i) = true /\ Below w.heap.size w wr)) (fun iv _ => l.length - (intOf iv).toNat)
 case atStart => exact ⟨0,Nat.zero_le _,rfl,rfl,Below.refl _ _⟩
 case round =>
  obtain ⟨i,hil,rfl,HI⟩:=hrel
  by_cases hlt : i < l.length
  · obtain ⟨b,o,rfl,q0,q1,q2⟩:=H.out.in HI.out.2 hlt
    have hmeas : l.length - (intOf (.int .i64 ((i : Int) + 1))).toNat < l.length - (intOf (.int .i64 (i : Int))).toNat:=by simp [intOf]; omega
    have hkf:=((BV _).1 (hf _ (List.getElem_mem hlt))).2.1
    have hcl:=Uq (x:=l[i]) ((HI.out.2.cell hb).trans HC.out) ht (by unfold maxLen; omega)
    have HAN:=Lib.hid (Sw hlt HI.out.1)
    have HNO:=Lib.hid (fun e => Xp (t:=t.data.toList) hlt e)
    generalize l[i] = X at *
    obtain ⟨xk,xv,xg⟩:=X
    unfold Aa.val' at hcl
    simp only at q0 q1 q2 hcl HAN HNO
    have HB:=Lib.hid HI.out.2
    clear HI
    cases hh : FO t.data.toList xk with
    | true =>
      rw [hh] at hcl HAN
      simp only [Bool.not_true] at hcl
      go_wp2_with fail
      refine hcl.mono ?_
      rintro e w1 ⟨rfl,b1⟩
      have B1:=Lib.hid (HB.out.trans (b1.mono HB.out.size))
      clear b1 hcl
      go_wp2
      go_roundw
      case rel => exact ⟨i + 1,by omega,by go_num,HAN.out,B1.out⟩
      case measure => exact hmeas
    | false =>
      rw [hh] at hcl
      simp only [Bool.not_false] at hcl
      have HF:=Lib.hid (HNO.out hh)
      go_wp2_with fail
      refine hcl.mono ?_
      rintro e w1 ⟨rfl,b1⟩
      have B1:=Lib.hid (HB.out.trans (b1.mono HB.out.size))
      clear b1 hcl
      go_wp2
      go_ret
      exact ⟨(i : Int),rfl,by rw [HF.out]; simp,B1.out⟩
  · obtain rfl : i = l.length:=by omega
    have HA:=HI.out.1
    rw [List.take_length] at HA
    have HA2:=Lib.hid HA
    have HB:=Lib.hid HI.out.2
    clear HI HA
    go_wp2
    go_ret
    exact ⟨-1,rfl,by rw [HA2.out]; simp,HB.out⟩
set_option maxHeartbeats 1000000 in
set_option maxRecDepth 100000 in
theorem WP {w : World} {fb : Nat} {t : ByteArray} {a : Option Addr} {c : Nat} {l : List Aa} (h : Ao w (.slice a l.length c) l) (hf : Az l) (hc : w.cell? ⟨fb,0,none⟩ = some (.string t)) (ht : t.size <= maxLen) :
 Calls Tryz.prog 208 #[.slice a l.length c,.func (.func 209) #[] #[.pointer (some ⟨fb,0,none⟩)]] w fun e w' => e = .returned (.bool (!Ed t.data.toList l)) /\ Below w.heap.size w w':=by
 have hix:=Vz h hf hc ht
 generalize Ed t.data.toList l = A at *
 go_enter Tryz.func208,Tryz.ntmps208
 go_wp2_with fail
 refine hix.mono ?_
 rintro e w1 ⟨r,rfl,hd,b1⟩
 have B1:=Lib.hid b1
 have HD:=Lib.hid hd
 clear b1 hix hd
 go_wp2
 go_ret
 exact ⟨by rw [<- HD.out]; rfl,B1.out⟩
set_option maxHeartbeats 1000000 in
set_option maxRecDepth 100000 in
theorem U8 {w : World} {t : ByteArray} {a : Option Addr} {c : Nat} {l : List Aa} (h : Ao w (.slice a l.length c) l) (hf : Az l) (ht : t.size <= maxLen) :
 Calls Tryz.prog 175 #[.string t,.slice a l.length c] w fun e w' => e = .returned (.bool (Ed t.data.toList l)) /\ Below w.heap.size w w':=by
 have hmf : ∀ (fn : Fn) (first cap : Array Value) (w : World),(Instr.makeFunc fn first cap).run Tryz.prog w = .ok (.func fn first cap) w:=fun _ _ _ _ => rfl
 have hb:=(Below.refl _ w).alloc (Nat.le_refl _) (.cells #[.string t] 9)
 have hix:=WP (h.below hb) hf (fb:=w.heap.size) (by rw [Ab (heap_alloc_new _ _)]; rfl) ht
 have HIX:=Lib.hid hix
 have HB:=Lib.hid hb
 clear hix h hb
 generalize Ed t.data.toList l = A at *
 go_enter Tryz.func175,Tryz.ntmps175
 go_wp2_with fail
 refine HIX.out.mono ?_
 rintro e w1 ⟨rfl,b1⟩
 have B1:=Lib.hid (HB.out.trans (b1.mono HB.out.size))
 clear b1 HIX HB
 go_wp2
 go_ret
 exact ⟨by simp,B1.out⟩
end
section
open Go.RowKit
def JD (s : List UInt8) (l : List Aa) : Bool:=Lib.hasPrefix s (DK l) && Fd (textS (some (Lib.trimPrefix s (DK l)))).2 && Ed (textS (some (Lib.trimPrefix s (DK l)))).1 l
theorem PQ {s : List UInt8} {l : List Aa} (hs : s.length <= 1048576) : JD s l = true ↔ ∃ flt,s = Di l flt /\ ∀ x ∈ l,FO flt x.key = true:=by
 unfold JD
 rw [Bool.and_eq_true,Bool.and_eq_true,NH]
 constructor
 · rintro ⟨⟨h1,h2⟩,h3⟩
   obtain ⟨rest,rfl⟩:=List.isPrefixOf_iff_prefix.1 (show (DK l).isPrefixOf s = true from h1)
   have e1 : Lib.trimPrefix (DK l ++ rest) (DK l) = rest:=by
    unfold Lib.trimPrefix
    rw [if_pos h1,List.drop_left]
   rw [e1] at h2 h3
   cases ht : textS (some rest) with
   | mk flt R =>
     rw [ht] at h2 h3
     have e2:=Aat h2
     simp only at e2
     subst e2
     obtain ⟨_,t2⟩:=Rg ht
     rw [List.append_nil] at t2
     exact ⟨flt,by rw [LH,<- t2],h3⟩
 · rintro ⟨flt,rfl,h3⟩
   rw [LH] at hs ⊢
   have h1 : Lib.hasPrefix (DK l ++ (As flt.length ++ flt)) (DK l) = true:=List.isPrefixOf_iff_prefix.2 (List.prefix_append _ _)
   have e1 : Lib.trimPrefix (DK l ++ (As flt.length ++ flt)) (DK l) = As flt.length ++ flt:=by
    unfold Lib.trimPrefix
    rw [if_pos h1,List.drop_left]
   have hl : flt.length <= 1048576:=by
    rw [List.length_append,List.length_append] at hs
    omega
   have e2:=Wq (t:=flt) (AJ (by omega)) []
   rw [List.append_nil] at e2
   rw [e1,e2]
   exact ⟨⟨h1,rfl⟩,h3⟩
set_option maxHeartbeats 1000000 in
set_option maxRecDepth 100000 in
theorem QL {w : World} {s : ByteArray} {b o c : Nat} {l : List Aa} (h : Ao w (.slice (some ⟨b,o,none⟩) l.length c) l) (hf : Az l) (hc : l.length <= c) (hN : l.length <= 3518437208780) (h1 : 1 <= l.length) (hs : s.size <= 1048576) :
 Calls Tryz.prog 141 #[.string s,.slice (some ⟨b,o,none⟩) l.length c] w fun e w' => e = .returned (.bool (JD s.data.toList l)) /\ Below w.heap.size w w':=by
 have HW : Hid (∀ w',Below w.heap.size w w' -> Ao w' (.slice (some ⟨b,o,none⟩) l.length c) l):=fun w' hb => h.below hb
 have hhd:=QU h hf hc hN h1
 obtain ⟨HD,eHD⟩ : ∃ A : ByteArray,(⟨(DK l).toArray⟩ : ByteArray) = A:=⟨_,rfl⟩
 have dHD : HD.data.toList = DK l:=by rw [<- eHD]
 rw [eHD] at hhd
 have hcp:=fun w => Sh.strings_CutPrefix s HD w
 rw [dHD] at hcp
 obtain ⟨rs,eR⟩ : ∃ r,Lib.trimPrefix s.data.toList (DK l) = r:=⟨_,rfl⟩
 obtain ⟨ok,eO⟩ : ∃ r,Lib.hasPrefix s.data.toList (DK l) = r:=⟨_,rfl⟩
 have hrs : rs.length <= 1048576:=by
  have:=Lib.trimPrefix_le s.data.toList (DK l)
  rw [eR] at this
  have e : s.data.toList.length = s.size:=by simp
  omega
 have HFB : Hid (JD s.data.toList l = (ok && Fd (textS (some rs)).2 && Ed (textS (some rs)).1 l)):=by
  show _ = _
  unfold JD
  rw [eR,eO]
 simp only [eR,eO] at hcp
 obtain ⟨RB,eRB⟩ : ∃ A : ByteArray,(⟨rs.toArray⟩ : ByteArray) = A:=⟨_,rfl⟩
 have dRB : RB.data.toList = rs:=by rw [<- eRB]
 have zRB : RB.size = rs.length:=by rw [<- eRB,A0]
 simp only [eRB] at hcp
 have hrd:=fun w => IX RB (by omega) w
 simp only [dRB] at hrd
 have HHD:=Lib.hid hhd
 have HCP:=Lib.hid hcp
 have HRD:=Lib.hid hrd
 clear hhd hcp hrd eR eO eHD dHD eRB dRB h
 go_enter Tryz.func141,Tryz.ntmps141
 go_wp2_with fail
 refine HHD.out.mono ?_
 rintro e w1 ⟨rfl,b1⟩
 have B1:=Lib.hid b1
 clear b1 HHD
 go_wp2_with fail
 refine (HCP.out _).mono ?_
 rintro e w2 ⟨rfl,rfl⟩
 go_wp2_with fail
 refine (HRD.out _).mono ?_
 rintro e w3 ⟨rfl,r3,b3⟩
 have B3:=Lib.hid (B1.out.trans (b3.mono B1.out.size))
 have hct:=Ie r3
 have htl:=OU (some rs)
 cases ht : textS (some rs) with | mk k R1 =>
 rw [ht] at hct HFB htl
 simp only at hct HFB htl
 obtain ⟨K,eK1,eK2,eK3⟩:=Q0 k
 simp only [eK1] at hct
 have hlt3:=b3.size
 have hws:=B1.out.size
 clear b3 r3 ht HCP HRD
 go_wp2_with fail
 refine hct.mono ?_
 rintro e w4 ⟨rfl,l4⟩
 have hend:=Ik l4.1
 have B4:=Lib.hid (B3.out.trans (l4.below (by omega) hws))
 have hha:=U8 (t:=K) (HW.out _ B4.out) hf (by unfold maxLen; simp at htl; omega)
 rw [eK2] at hha
 generalize Ed k l = A at *
 generalize Fd R1 = E at *
 clear l4 hct
 cases ok with
 | false =>
   go_wp2
   go_ret
   exact ⟨by rw [HFB.out]; rfl,B4.out⟩
 | true =>
   go_wp2_with fail
   refine hend.mono ?_
   rintro e w5 ⟨rfl,rfl⟩
   cases E with
   | false =>
     go_wp2
     go_ret
     exact ⟨by rw [HFB.out]; rfl,B4.out⟩
   | true =>
     go_wp2_with fail
     refine hha.mono ?_
     rintro e w6 ⟨rfl,b6⟩
     have B6:=Lib.hid (B4.out.trans (b6.mono B4.out.size))
     go_wp2
     go_ret
     exact ⟨by rw [HFB.out]; rfl,B6.out⟩
end
section
open Go.RowKit
theorem AaP {s rest : List UInt8} {fs : List (List UInt8)} {l : List Aa} (hs : BI s = (fs,rest)) (ht : EP s l) :
 rest = [] /\ 1 <= fs.length /\ fs.take (fs.length - 1) = AG l (Am l.length) /\ Az l /\ Dm l = 0 /\ JD (fs.getD (fs.length - 1) []) l = true:=by
 obtain ⟨h1,h2,h3,flt,hok,h4⟩:=Yd ht hs
 have h5 : fs.length - 1 = Am l.length:=by omega
 have h6 : fs.getD (Am l.length) [] = Di l flt:=by
  rw [h4]
  simp [List.getD,Ck]
 refine ⟨h1,by omega,?_,hok.fine,GJ.2 ⟨hok.ne,hok.rise,hok.fine⟩,?_⟩
 · rw [h5,h4,List.take_append_of_le_length (by rw [Ck]; omega),List.take_of_length_le (by rw [Ck]; omega)]
 · rw [h5,h6]
   exact (PQ hok.foot).2 ⟨flt,rfl,hok.has⟩
theorem Zi {s : List UInt8} {fs : List (List UInt8)} {l : List Aa} (hs : BI s = (fs,[])) (hne : 1 <= fs.length) (hg : fs.take (fs.length - 1) = AG l (Am l.length)) (hc : Dm l = 0) (hf : JD (fs.getD (fs.length - 1) []) l = true) : EP s l:=by
 obtain ⟨h1,h2⟩:=scanL_inv fs s [] hs
 rw [List.append_nil] at h1
 have hmem : fs.getD (fs.length - 1) [] ∈ fs:=by
  have hlt : fs.length - 1 < fs.length:=by omega
  have e : fs.getD (fs.length - 1) [] = fs[fs.length - 1]:=by simp [List.getD,hlt]
  rw [e]
  exact List.getElem_mem hlt
 have hz:=h2 _ hmem
 obtain ⟨flt,e,hh⟩:=(PQ hz).1 hf
 obtain ⟨hne2,hr,hfi⟩:=GJ.1 hc
 have hfs : fs = AG l (Am l.length) ++ [Di l flt]:=by
  have hlt : fs.length - 1 < fs.length:=by omega
  rw [<- hg,<- e]
  conv => lhs; rw [<- List.take_append_drop (fs.length - 1) fs]
  congr 1
  rw [List.drop_eq_getElem_cons hlt]
  have e1 : fs.length - 1 + 1 = fs.length:=by omega
  rw [e1,List.drop_length]
  simp [List.getD,hlt]
 obtain ⟨x,r,hxr⟩:=List.exists_cons_of_ne_nil hne2
 have hx:=hh x (by rw [hxr]; simp)
 have hb : 1 <= flt.length /\ flt.length <= 8192:=by
  unfold FO at hx
  exact of_decide_eq_true (Bool.and_eq_true_iff.1 hx).1
 refine ⟨flt,⟨hne2,hr,hfi,hb.1,hb.2,hh,by rw [<- e]; exact hz⟩,?_⟩
 rw [h1,hfs,Np]
theorem NN {w : World} {base : Nat} {e : TypeId} {sz n c : Nat} {a : Option Addr} {xs : List Value} (h : w.ownsRow base e sz (.slice a n c) n xs) : n <= c /\ c <= maxLen:=by
 rcases h.2 with ⟨hv,h0⟩ | ⟨g,cap,cur,hv,_,_,h1,h2,_⟩
 · injection hv with _ _ e; subst e; subst h0; exact ⟨Nat.le_refl _,by decide⟩
 · injection hv with _ _ e; subst e; exact ⟨h1,h2⟩
theorem Aaf {s : List UInt8} {l : List Aa} (h : EP s l) : l.length <= 8388608:=by
 obtain ⟨flt,hok,_⟩:=h
 exact V9 hok
theorem Xn {w : World} {base g c : Nat} {fs : List (List UInt8)} (h : w.ownsRow base 9 1 (.slice (some ⟨g,0,none⟩) fs.length c) fs.length (fs.map tx)) : ∀ i,i < fs.length -> w.cell? ⟨g,i,none⟩ = some (tx (fs.getD i [])):=fun i hi => by
 obtain ⟨g',cap,e,hc⟩:=IP h hi
 injection e with e
 injection e with e
 injection e with e
 subst e
 exact hc
def Ia (w : World) (p : Nat) (l : List Aa) (B : Nat) : Prop:=
 ∃ g c,w.heap[p]? = some (.cells #[.slice (some ⟨g,0,none⟩) l.length c] 196 (0,0)) /\ w.ownsRow 0 61 3 (.slice (some ⟨g,0,none⟩) l.length c) l.length (AH l) /\ p < B /\ g < B /\ Aj l /\ l.length <= 8388608
theorem Ia.below {w w' : World} {p : Nat} {l : List Aa} {B : Nat} (h : Ia w p l B) (hb : Below B w w') : Ia w' p l B:=by
 obtain ⟨g,c,h1,h2,h3,h4,h5,h6⟩:=h
 refine ⟨g,c,(hb.block p h3).trans h1,⟨h2.1,?_⟩,h3,h4,h5,h6⟩
 rcases h2.2 with h | ⟨g',cap,cur,hv,g1,g2,g3⟩
 · exact .inl h
 · have hg : g = g':=by injection hv with e; injection e with e; injection e
   exact .inr ⟨g',cap,cur,hv,g1,(hb.block g' (by omega)).trans g2,g3⟩
end
section
open Go.RowKit Go.Lib Go.Sort
theorem Mq {k : ByteArray} : ∀ {l : List Aa},Aj l -> l.countP (fun x => AR x.key k) = placeP k l
 | [],_ => rfl
 | x :: r,h => by
   have h2:=List.pairwise_cons.1 h
   rw [List.countP_cons]
   unfold placeP
   cases hb : AR x.key k with
   | true => rw [if_pos rfl,if_pos rfl,Mq h2.2]
   | false =>
     rw [if_neg (by simp),if_neg (by simp)]
     rw [List.countP_eq_zero.2]
     intro y hy hy2
     have h3:=h2.1 y hy
     rw [BY h3 hy2] at hb
     cases hb
theorem SO {k : ByteArray} {l : List Aa} (h : Aj l) : (List.range l.length).countP (fun i => !(!AR (l.getD i zeroP).key k)) = placeP k l:=by
 rw [<- Mq h]
 have e : l = (List.range l.length).map (fun i => l.getD i zeroP):=by
  apply List.ext_getElem
  · simp
  · intro i h1 h2
    simp [List.getD,h1]
 conv => rhs; rw [e]
 rw [List.countP_map]
 congr 1
 funext i
 simp
theorem W8 {k : ByteArray} {l : List Aa} (h : Aj l) : ∀ a b,a <= b -> b < l.length -> (!AR (l.getD a zeroP).key k) = true -> (!AR (l.getD b zeroP).key k) = true:=by
 intro a b hab hb ha
 rcases Nat.lt_or_ge a b with hlt | hge
 · have ha' : a < l.length:=by omega
   have e1 : l.getD a zeroP = l[a]:=by simp [List.getD,ha']
   have e2 : l.getD b zeroP = l[b]:=by simp [List.getD,hb]
   rw [e1] at ha
   rw [e2]
   have h3:=List.pairwise_iff_getElem.1 h a b ha' hb hlt
   cases hc : AR l[b].key k with
   | false => rfl
   | true => rw [BY h3 hc] at ha; cases ha
 · obtain rfl : a = b:=by omega
   exact ha
set_option maxRecDepth 100000 in
set_option maxHeartbeats 1000000 in
theorem Rv {W : World} {tb kb p g n c i : Nat} {xk k : ByteArray} (h1 : W.cell? ⟨tb,0,none⟩ = some (.pointer (some ⟨p,0,none⟩))) (h2 : W.cell? ⟨kb,0,none⟩ = some (.string k)) (h3 : W.cell? ⟨p,0,none⟩ = some (.slice (some ⟨g,0,none⟩) n c)) (h4 : W.cell? ⟨g,i * 3,none⟩ = some (.string xk)) (hi : i < n) (hn : n <= 8388608) :
 Calls Tryz.prog 158 #[.int .i64 (i : Int),.pointer (some ⟨tb,0,none⟩),.pointer (some ⟨kb,0,none⟩)] W fun e w' => e = .returned (.bool (!AR xk k)) /\ ∃ q,w' = W.drewN q:=by
 have d1 : W.drew.cell? ⟨tb,0,none⟩ = some (.pointer (some ⟨p,0,none⟩)):=h1
 have d2 : W.drew.cell? ⟨kb,0,none⟩ = some (.string k):=h2
 have d3 : W.drew.cell? ⟨p,0,none⟩ = some (.slice (some ⟨g,0,none⟩) n c):=h3
 have d4 : W.drew.cell? ⟨g,i * 3,none⟩ = some (.string xk):=h4
 go_enter Tryz.func158,Tryz.ntmps158
 go_wp2
 go_region
 all_goals (go_wp2; go_ret; exact ⟨by unfold AR; rfl,1,rfl⟩)
theorem TC {w : World} {g cap : Nat} {l : List Aa} (k : ByteArray) (h : w.ownsRow 0 61 3 (.slice (some ⟨g,0,none⟩) l.length cap) l.length (AH l)) :
 ∃ a c,(∀ wx,(Instr.slice 30 (.slice (some ⟨g,0,none⟩) l.length cap) (some (.int .i64 (placeP k l : Nat))) none none).run Tryz.prog wx = .ok (.slice a (AF k l).length c) wx) /\ (∀ wx,Below w.heap.size w wx -> Ao wx (.slice a (AF k l).length c) (AF k l)) /\ ∃ o,a = some ⟨g,o,none⟩:=by
 have hle:=C9 k l
 have hcap:=NN h
 have hlen : (AF k l).length = l.length - placeP k l:=by simp [AF]
 have hsl : ∀ wx,(Instr.slice 30 (.slice (some ⟨g,0,none⟩) l.length cap) (some (.int .i64 (placeP k l : Nat))) none none).run Tryz.prog wx = .ok (.slice (if cap = placeP k l then some ⟨g,0,none⟩ else some ⟨g,placeP k l * 3,none⟩) (l.length - placeP k l) (cap - placeP k l)) wx:=fun wx => by
  have:=run_slice_l (P:=Tryz.prog) (w:=wx) 30 (some ⟨g,0,none⟩) l.length cap slPair .i64 (placeP k l : Nat) (by omega) (by omega)
  rw [Kg] at this
  rw [this]
  show Result.ok (sliced (some ⟨g,0,none⟩) (((placeP k l : Nat) : Int).toNat) l.length cap 3) wx = _
  unfold sliced
  rw [Int.toNat_natCast]
  split
  · rfl
  · rw [Option.map_some,Addr.add_lit,Nat.zero_add]
 refine ⟨if cap = placeP k l then some ⟨g,0,none⟩ else some ⟨g,placeP k l * 3,none⟩,cap - placeP k l,fun wx => by rw [hlen]; exact hsl wx,fun wx hb => ⟨by unfold AF; rw [List.length_drop]; omega,?_⟩,?_⟩
 · by_cases hc : cap = placeP k l
   · rw [if_pos hc]
     exact ⟨_,_,rfl,.inl (List.eq_nil_of_length_eq_zero (by omega))⟩
   · rw [if_neg hc]
     refine ⟨_,_,rfl,.inr ⟨_,_,rfl,fun i hi => ?_⟩⟩
     have hi2 : placeP k l + i < l.length:=by omega
     obtain ⟨g',cap',hv,_,_,q0,q1,q2⟩:=Hh h hi2
     injection hv with hv
     injection hv with hv
     injection hv with hv
     subst hv
     have e : (AF k l)[i] = l[placeP k l + i]:=by simp [AF]
     rw [e,show placeP k l * 3 + i * 3 = (placeP k l + i) * 3 by omega]
     have tk : ∀ {o : Nat} {u : Value},w.cell? ⟨g,o,none⟩ = some u -> wx.cell? ⟨g,o,none⟩ = some u:=fun {o u} hc => (hb.cell (World.block_lt_of_cell? w ⟨g,o,none⟩ hc)).trans hc
     exact ⟨tk q0,tk q1,tk q2⟩
 · split
   · exact ⟨_,rfl⟩
   · exact ⟨_,rfl⟩
set_option maxRecDepth 100000 in
set_option maxHeartbeats 2000000 in
theorem RX {w : World} {p : Nat} {l : List Aa} {B : Nat} (k : ByteArray) (h : Ia w p l B) (hB : B <= w.heap.size) :
 Calls Tryz.prog 123 #[.pointer (some ⟨p,0,none⟩),.string k] w fun e w' => ∃ a c,e = .returned (.slice a (AF k l).length c) /\ Ao w' (.slice a (AF k l).length c) (AF k l) /\ (∀ b o,a = some ⟨b,o,none⟩ -> (AF k l) ≠ [] -> b < B) /\ Below w.heap.size w w':=by
 obtain ⟨g,cap,hp,hown,hpB,hgB,hrise,hl⟩:=h
 have hmf : ∀ (fn : Fn) (first cap : Array Value) (w : World),(Instr.makeFunc fn first cap).run Tryz.prog w = .ok (.func fn first cap) w:=fun _ _ _ _ => rfl
 have eg : ∀ args w,(callFunc 158 args).run Tryz.prog w = .ok (.enter 158 args) w:=enters_of Tryz.func158 (by kernel_rfl) rfl
 obtain ⟨W0,hW0⟩ : ∃ W0,(w.alloc (.cells #[.pointer (some ⟨p,0,none⟩)] 142)).alloc (.cells #[.string k] 9) = W0:=⟨_,rfl⟩
 have hb0 : Below w.heap.size w W0:=by rw [<- hW0]; exact ((Below.refl _ w).alloc (Nat.le_refl _) _).alloc (by simp) _
 have hsz : W0.heap.size = w.heap.size + 2:=by rw [<- hW0]; simp
 have ht0 : W0.heap[w.heap.size]? = some (.cells #[.pointer (some ⟨p,0,none⟩)] 142 (0,0)):=by
  rw [<- hW0,Below.heap_alloc _ _ _ (by simp)]; exact heap_alloc_new _ _
 have hk0 : W0.heap[w.heap.size + 1]? = some (.cells #[.string k] 9 (0,0)):=by
  have:=heap_alloc_new (w.alloc (.cells #[.pointer (some ⟨p,0,none⟩)] 142)) (.cells #[.string k] 9)
  rw [World.size_alloc,hW0] at this
  exact this
 have hp0:=(hb0.block p (by omega)).trans hp
 have z0 : W0.cell? ⟨w.heap.size,0,none⟩ = some (.pointer (some ⟨p,0,none⟩)):=by rw [Ab ht0]; rfl
 have z1 : W0.cell? ⟨w.heap.size + 1,0,none⟩ = some (.string k):=by rw [Ab hk0]; rfl
 have z2 : W0.cell? ⟨p,0,none⟩ = some (.slice (some ⟨g,0,none⟩) l.length cap):=by rw [Ab hp0]; rfl
 have hS:=Sh.sort_Search 158 #[.pointer (some ⟨w.heap.size,0,none⟩),.pointer (some ⟨w.heap.size + 1,0,none⟩)] l.length (fun i => !AR (l.getD i zeroP).key k) W0 eg (by omega) (fun m os i hi => by
  have old : ∀ {b o : Nat} {u : Value},W0.cell? ⟨b,o,none⟩ = some u -> (grow (W0.drewN m) os).cell? ⟨b,o,none⟩ = some u:=fun {b o u} hc =>
   (World.cell?_of_block (w:=W0) (a:=⟨b,o,none⟩) (heap_grow_old (W0.drewN m) os (World.block_lt_of_cell? W0 ⟨b,o,none⟩ hc))).trans hc
  obtain ⟨g',cap',hv,_,_,q0,_⟩:=Hh hown hi
  injection hv with hv
  injection hv with hv
  injection hv with hv
  subst hv
  have e1 : l.getD i zeroP = l[i]:=by simp [List.getD,hi]
  have q0' : W0.cell? ⟨g,i * 3,none⟩ = some (.string l[i].key):=(hb0.cell (World.block_lt_of_cell? w ⟨g,i * 3,none⟩ q0)).trans q0
  have hc:=Rv (old z0) (old z1) (old z2) (old q0') hi hl
  rw [e1]
  refine hc.mono ?_
  rintro e w' ⟨rfl,q,rfl⟩
  exact ⟨rfl,q,#[],by rw [grow_empty]⟩) (W8 hrise)
 rw [SO hrise] at hS
 obtain ⟨a,c,hsl,hrd,o,rfl⟩:=TC k hown
 have HRD : Hid (∀ wx,Below w.heap.size w wx -> Ao wx (.slice (some ⟨g,o,none⟩) (AF k l).length c) (AF k l)):=hrd
 have HS:=Lib.hid hS
 have HB0:=Lib.hid hb0
 have hplb : p < w.heap.size:=Ad hp
 have hle:=C9 k l
 clear hS hrd hown hp0 ht0 hk0 hb0 hp
 generalize placeP k l = pl at *
 generalize (AF k l).length = fl at *
 go_enter Tryz.func123,Tryz.ntmps123
 go_wp2_with fail
 refine HS.out.mono ?_
 rintro e w1 ⟨rfl,q,os,rfl⟩
 have hb1 : Below W0.heap.size W0 (grow (W0.drewN q) os):=below_grown_sl W0.heap.size W0 q os (Nat.le_refl _)
 have y0 : (grow (W0.drewN q) os).cell? ⟨w.heap.size,0,none⟩ = some (.pointer (some ⟨p,0,none⟩)):=(hb1.cell (by simp only; omega)).trans z0
 have y2 : (grow (W0.drewN q) os).cell? ⟨p,0,none⟩ = some (.slice (some ⟨g,0,none⟩) l.length cap):=(hb1.cell (by simp only; omega)).trans z2
 have B1:=Lib.hid (HB0.out.trans (hb1.mono (by omega)))
 clear hb1 z0 z1 z2
 generalize grow (W0.drewN q) os = w1 at *
 go_wp2
 go_ret
 exact ⟨some ⟨g,o,none⟩,c,rfl,HRD.out _ B1.out,fun b o' e _ => by injection e with e; injection e with e; omega,B1.out⟩
end
section
open Go.RowKit
theorem ZU {k : ByteArray} {l : List Aa} (h : AF k l = []) : CG k l = none:=by
 have h1 : l[placeP k l]? = none:=by
  have:=congrArg (fun r : List Aa => r[0]?) h
  simp only [AF,List.getElem?_drop] at this
  simpa using this
 unfold CG Bh
 rw [h1]
 rfl
theorem Zs {k : ByteArray} {l r : List Aa} {x : Aa} (h : AF k l = x :: r) : CG k l = if x.key = k then some x else none:=by
 have h1 : l[placeP k l]? = some x:=by
  have:=congrArg (fun r : List Aa => r[0]?) h
  simp only [AF,List.getElem?_drop] at this
  simpa using this
 unfold CG Bh
 rw [h1]
 simp
set_option maxRecDepth 100000 in
set_option maxHeartbeats 2000000 in
theorem YC {w : World} {p : Nat} {l : List Aa} {B : Nat} (k : ByteArray) (h : Ia w p l B) (hB : B <= w.heap.size) :
 Calls Tryz.prog 82 #[.pointer (some ⟨p,0,none⟩),.string k] w fun e w' => e = .returned (.tuple #[((CG k l).getD zeroP).val',.bool (CG k l).isSome]) /\ Below w.heap.size w w':=by
 have hb0:=(Below.refl _ w).alloc (Nat.le_refl _) (.cells #[.string ⟨#[]⟩,.string ⟨#[]⟩,.bool false] 61)
 have hnew:=heap_alloc_new w (.cells #[.string ⟨#[]⟩,.string ⟨#[]⟩,.bool false] 61)
 have hsk:=RX k (h.below (hb0.mono hB)) (by simp; omega)
 have HSK:=Lib.hid hsk
 have HN:=Lib.hid hnew
 have HB0:=Lib.hid hb0
 clear h hb0 hnew hsk
 go_enter Tryz.func82,Tryz.ntmps82
 go_wp2_with fail
 generalize w.alloc (.cells #[.string ⟨#[]⟩,.string ⟨#[]⟩,.bool false] 61) = w0 at *
 refine HSK.out.mono ?_
 rintro e w1 ⟨a,c,rfl,hr,-,b1⟩
 have hN1:=(b1.block _ (Ad HN.out)).trans HN.out
 have B1:=Lib.hid (HB0.out.trans (b1.mono HB0.out.size))
 have f0:=Ag hN1 0
 have f1:=Ag hN1 1
 have f2:=Ag hN1 2
 have e0 : w1.cell? ⟨w.heap.size,0,none⟩ = some (.string ⟨#[]⟩):=by rw [Ab hN1]; rfl
 have e1 : w1.cell? ⟨w.heap.size,1,none⟩ = some (.string ⟨#[]⟩):=by rw [Ab hN1]; rfl
 have e2 : w1.cell? ⟨w.heap.size,2,none⟩ = some (.bool false):=by rw [Ab hN1]; rfl
 clear HSK HN b1 hN1
 cases hfr : AF k l with
 | nil =>
   have HG:=Lib.hid (ZU hfr)
   rw [hfr] at hr
   clear hr
   go_wp2
   (try simp only [Exit.inBlock,Exit.then])
   refine bodyPost_ret (v:=.tuple #[zeroP.val',.bool false]) ?_ rfl ⟨by rw [HG.out]; rfl,?_⟩
   · rw [results_cell_tmp rfl]
     go_simp
     rfl
   · exact ((B1.out.setCell (Nat.le_refl _) _).setCell (Nat.le_refl _) _).setCell (Nat.le_refl _) _
 | cons x r =>
   have HG:=Lib.hid (Zs hfr)
   rw [hfr] at hr
   have hlen : 0 < (x :: r).length:=by simp
   obtain ⟨b,o,rfl,q0,q1,q2⟩:=hr.at hlen
   simp only [List.getElem_cons_zero,Nat.zero_mul,Nat.add_zero] at q0 q1 q2
   generalize (x :: r).length = n at *
   have hn0 : ((n : Int) == 0) = false:=by simp; omega
   clear hr
   obtain ⟨xk,xv,xg⟩:=x
   simp only at q0 q1 q2 HG
   by_cases hk : xk = k
   · have hkb : (xk.toList == k.toList) = true:=by rw [Oj,decide_eq_true hk]
     go_wp2
     (try simp only [Exit.inBlock,Exit.then])
     refine bodyPost_ret (v:=.tuple #[.agg #[.string xk,.string xv,.bool xg],.bool true]) ?_ rfl ⟨by rw [HG.out,if_pos hk]; rfl,?_⟩
     · rw [results_cell_tmp rfl]
       go_simp
     · exact ((B1.out.setCell (Nat.le_refl _) _).setCell (Nat.le_refl _) _).setCell (Nat.le_refl _) _
   · have hkb : (xk.toList == k.toList) = false:=by rw [Oj,decide_eq_false hk]
     go_wp2
     (try simp only [Exit.inBlock,Exit.then])
     refine bodyPost_ret (v:=.tuple #[zeroP.val',.bool false]) ?_ rfl ⟨by rw [HG.out,if_neg hk]; rfl,?_⟩
     · rw [results_cell_tmp rfl]
       go_simp
       rfl
     · exact ((B1.out.setCell (Nat.le_refl _) _).setCell (Nat.le_refl _) _).setCell (Nat.le_refl _) _
end
section
open Go.RowKit Go.Shelf Go.Maps Go.WideMaps
attribute [local go_sem] Oper.semAt_some
def Vs (m : Nat) (g : Nat) (lb : Array Value) (G : Nat -> Prop) (b o n : Nat) (w : World) : Prop:=
 SeqStopsK Fence.wide m Tryz.prog g lb (fun _ : Unit => #[.slice (some ⟨b,o,none⟩) n n]) (A5 G) (fun xs => xs = [()]) (fun pre => pre <+: [()]) 1 w
theorem ZR (b o n c : Nat) (hc : n <= c) (wx : World) : (Instr.slice 30 (.slice (some ⟨b,o,none⟩) n c) (some (.int .i64 0)) none none).run Tryz.prog wx = .ok (.slice (some ⟨b,o,none⟩) n c) wx:=by
 have:=run_slice_l (P:=Tryz.prog) (w:=wx) 30 (some ⟨b,o,none⟩) n c slPair .i64 0 (by omega) (by omega)
 rw [Kg] at this
 rw [this]
 show Result.ok (Value.slice (if c = 0 then some ⟨b,o,none⟩ else Option.map (fun x => x.add (0 * 3)) (some (⟨b,o,none⟩ : Addr))) (n - 0) (c - 0)) wx = _
 by_cases h : c = 0
 · rw [if_pos h]
   rfl
 · rw [if_neg h,Option.map_some,Addr.add_lit]
   rfl
theorem Abo (b o n c : Nat) (hc : n <= c) (h0 : 0 < n) (m : Int) (hm : m = (n : Int)) (wx : World) : (Instr.slice 30 (.slice (some ⟨b,o,none⟩) n c) (some (.int .i64 0)) (some (.int .i64 m)) (some (.int .i64 m))).run Tryz.prog wx = .ok (.slice (some ⟨b,o,none⟩) n n) wx:=by
 have:=run_slice_lhm (P:=Tryz.prog) (w:=wx) 30 (some ⟨b,o,none⟩) n c slPair .i64 .i64 .i64 0 m m (by omega) (by omega) (by omega) (by omega)
 rw [Kg] at this
 rw [this]
 show Result.ok (sliced (some ⟨b,o,none⟩) 0 m.toNat m.toNat 3) wx = _
 unfold sliced
 have e2 : m.toNat = n:=by omega
 rw [e2,if_neg (by omega),Option.map_some,Addr.add_lit]
 rfl
set_option maxRecDepth 100000 in
set_option maxHeartbeats 4000000 in
theorem Ab5 (m : Nat) (hm : 1 <= m) (y sb nb b o n c : Nat) (J Jx : List Unit -> World -> Prop) (W : World)
 (hJ : AbidesFrom W.heap.size J)
 (hY : ∀ pre x W1,J pre W1 -> pre.length < 1 -> YieldAt Fence.wide (m - 1) Tryz.prog y #[.slice (some ⟨b,o,none⟩) n n] W1 fun e W' => (e = .returned (.bool true) /\ J (pre ++ [x]) W' /\ A5 (Ee sb nb) W1 W') \/ (e = .returned (.bool false) /\ Jx (pre ++ [x]) W'))
 (hv : W.heap[sb]? = some (.cells #[.slice (some ⟨b,o,none⟩) n c] 30 (0,0))) (hn : W.heap[nb]? = some (.cells #[.int .i64 65536] 3 (0,0))) (hc : n <= c) (h0n : 0 < n) (hmx : n <= 65536) (h0 : J [] W) :
 CallsIn Fence.wide m Tryz.prog 161 #[.func (.yield y) #[] #[],.pointer (some ⟨sb,0,none⟩),.pointer (some ⟨nb,0,none⟩)] W fun e W' => (∃ v,e = .returned v) /\ ((∃ xs,xs = [()] /\ J xs W') \/ (∃ pre,pre <+: [()] /\ Jx pre W')):=by
 have HV0 : Hid (W.heap[sb]? = some (.cells #[.slice (some ⟨b,o,none⟩) n c] 30 (0,0)) /\ W.heap[nb]? = some (.cells #[.int .i64 65536] 3 (0,0))):=⟨hv,hn⟩
 have HJ0 : Hid (J [] W):=h0
 clear h0 hv hn
 refine callsIn_of_wp Tryz.func161 rfl trivial ?_ rfl
 simp only [Tryz.ntmps161,List.size_toArray,List.length_cons,List.length_nil,Nat.reduceAdd,Nat.reduceSub,Array.replicate_succ,Array.replicate_zero,List.push_toArray,List.append_toArray,List.nil_append,List.cons_append]
 gi_wp2
 gi_loopw [4] (fun iv wr => ((iv = .int .i64 0 /\ Hid (J [] wr)) \/ (iv = .int .i64 65536 /\ Hid (J [()] wr))) /\ Hid (wr.heap[sb]? = some (.cells #[.slice (some ⟨b,o,none⟩) n c] 30 (0,0)) /\ wr.heap[nb]? = some (.cells #[.int .i64 65536] 3 (0,0)))) (fun iv _ => 65537 - (intOf iv).toNat)
 case atStart => exact ⟨.inl ⟨rfl,HJ0⟩,HV0⟩
 case round =>
  obtain ⟨hrel,HR⟩:=hrel
  clear HV0 HJ0
  have s0 : wr.cell? ⟨sb,0,none⟩ = some (.slice (some ⟨b,o,none⟩) n c):=by rw [Ab HR.out.1]; rfl
  have n0 : wr.cell? ⟨nb,0,none⟩ = some (.int .i64 65536):=by rw [Ab HR.out.2]; rfl
  rcases hrel with ⟨rfl,hj⟩ | ⟨rfl,hj⟩
  · have d0 : wr.drew.cell? ⟨sb,0,none⟩ = some (.slice (some ⟨b,o,none⟩) n c):=s0
    have d1 : wr.drew.cell? ⟨nb,0,none⟩ = some (.int .i64 65536):=n0
    have hbl : Below wr.heap.size wr wr.drew:=Below.drew (Below.refl _ _)
    have hj1 : J [] wr.drew:=hJ _ _ _ none hj.out (J1 hbl none) (fun r e => by cases e)
    have hyy:=hY [] () _ hj1 (by simp)
    have HPX : Hid ([()] <+: [()]):=List.prefix_refl _
    have ht:=ZR b o n c hc
    have hmn : min (65536 : Int) (n : Int) = (n : Int):=by omega
    have hcc:=Abo b o n c hc h0n _ rfl
    clear hj1 hbl
    obtain ⟨fn,tmps,assign,body,hy,hRR⟩:=hyy
    gi_wp2
    gi_region
    gi_wp2
    refine hRR.mono ?_
    rintro e W3 (⟨rfl,hJ3,hk3⟩ | ⟨rfl,hJx3⟩)
    · have HR3 : Hid (W3.heap[sb]? = some (.cells #[.slice (some ⟨b,o,none⟩) n c] 30 (0,0)) /\ W3.heap[nb]? = some (.cells #[.int .i64 65536] 3 (0,0))):=⟨(hk3 sb (.inl rfl)).trans HR.out.1,(hk3 nb (.inr rfl)).trans HR.out.2⟩
      have HJ3 : Hid (J [()] W3):=hJ3
      have e1 : W3.cell? ⟨nb,0,none⟩ = some (.int .i64 65536):=by rw [Ab HR3.out.2]; rfl
      clear hJ3 hk3
      gi_wp2
      exact ⟨⟨.inr ⟨rfl,HJ3⟩,HR3⟩,by simp [intOf]⟩
    · gi_wp2
      refine bodyPost_ret (results_none rfl _ _ _) rfl ?_
      exact ⟨⟨_,rfl⟩,.inr ⟨_,HPX.out,hJx3⟩⟩
  · have hno : ¬ 65536 < n:=by omega
    gi_wp2
    go_end0
    exact ⟨⟨_,rfl⟩,.inl ⟨_,rfl,hj.out⟩⟩
set_option maxRecDepth 100000 in
set_option maxHeartbeats 1000000 in
theorem AaJ {w : World} {b o n c : Nat} (hc : n <= c) (h0n : 0 < n) (hmx : n <= 65536) :
 Calls Tryz.prog 130 #[.slice (some ⟨b,o,none⟩) n c,.int .i64 65536] w fun e w' => ∃ g lb,e = .returned (.func (.func g) #[] lb) /\ (∀ args w,(callFunc g args).run Tryz.prog w = .ok (.enter g args) w) /\
  (∀ m,1 <= m -> ∀ w'',A5 (Ee w.heap.size (w.heap.size + 1)) w' w'' -> w'.heap.size <= w''.heap.size -> Vs m g lb (Ee w.heap.size (w.heap.size + 1)) b o n w'') /\ w'.heap.size = w.heap.size + 2 /\ Below w.heap.size w w' /\ w'.heap[w.heap.size]? = some (.cells #[.slice (some ⟨b,o,none⟩) n c] 30 (0,0)) /\ w'.heap[w.heap.size + 1]? = some (.cells #[.int .i64 65536] 3 (0,0)):=by
 have hmf : ∀ (fn : Fn) (first cap : Array Value) (w : World),(Instr.makeFunc fn first cap).run Tryz.prog w = .ok (.func fn first cap) w:=fun _ _ _ _ => rfl
 obtain ⟨W0,hW0⟩ : ∃ W0,(w.alloc (.cells #[.slice (some ⟨b,o,none⟩) n c] 30)).alloc (.cells #[.int .i64 65536] 3) = W0:=⟨_,rfl⟩
 have hs0 : W0.heap.size = w.heap.size + 2:=by rw [<- hW0]; simp
 have hb1 : Below (w.alloc (.cells #[.slice (some ⟨b,o,none⟩) n c] 30)).heap.size (w.alloc (.cells #[.slice (some ⟨b,o,none⟩) n c] 30)) W0:=by rw [<- hW0]; exact (Below.refl _ _).alloc (Nat.le_refl _) _
 have hb0 : Below w.heap.size w W0:=((Below.refl _ w).alloc (Nat.le_refl _) _).trans (hb1.mono (by simp))
 have k0 : W0.heap[w.heap.size]? = some (.cells #[.slice (some ⟨b,o,none⟩) n c] 30 (0,0)):=(hb1.block _ (by simp)).trans (heap_alloc_new _ _)
 have k1 : W0.heap[w.heap.size + 1]? = some (.cells #[.int .i64 65536] 3 (0,0)):=by
  have:=heap_alloc_new (w.alloc (.cells #[.slice (some ⟨b,o,none⟩) n c] 30)) (.cells #[.int .i64 65536] 3)
  rw [hW0,World.size_alloc] at this
  exact this
 have key : ∀ m,1 <= m -> ∀ w'',A5 (Ee w.heap.size (w.heap.size + 1)) W0 w'' -> W0.heap.size <= w''.heap.size -> Vs m 161 #[.pointer (some ⟨w.heap.size,0,none⟩),.pointer (some ⟨w.heap.size + 1,0,none⟩)] (Ee w.heap.size (w.heap.size + 1)) b o n w'':=by
  intro m hm w'' hw hs y J Jx W hW hJ hJx hY h0
  have q0:=(hw w.heap.size (.inl rfl)).trans k0
  have q1:=(hw (w.heap.size + 1) (.inr rfl)).trans k1
  exact Ab5 m hm y w.heap.size (w.heap.size + 1) b o n c J Jx W hJ hY ((hW.block w.heap.size (by omega)).trans q0) ((hW.block (w.heap.size + 1) (by omega)).trans q1) hc h0n hmx h0
 have n0 : W0.cell? ⟨w.heap.size + 1,0,none⟩ = some (.int .i64 65536):=by rw [Ab k1]; rfl
 have HK:=Lib.hid key
 have HB:=Lib.hid hb0
 have HS:=Lib.hid hs0
 have HK0:=Lib.hid k0
 have HK1:=Lib.hid k1
 clear key hb0 hs0 hb1 k0 k1
 go_enter Tryz.func130,Tryz.ntmps130
 go_wp2
 go_ret
 exact ⟨_,_,rfl,enters_of Tryz.func161 (by kernel_rfl) rfl,HK.out,HS.out,HB.out,HK0.out,HK1.out⟩
theorem Ym {m : Nat} {g : Operand} {pa : Array Tmp} {assign body : Code} {Q : Exit -> Act -> World -> Prop} {a : Act} {w w0 : World} (sx sb : Nat) (h1 : 1 <= m) {gf : Nat} {lb : Array Value} {G : Nat -> Prop} {b o n : Nat}
 (hg : a.eval g = .func (.func gf) #[] lb) (eg : ∀ args w,(callFunc gf args).run Tryz.prog w = .ok (.enter gf args) w)
 (hseq : Vs (m - 1) gf lb G b o n w0) (hb0 : Below w0.heap.size w0 w) (hG : ∀ k,G k -> k < w.heap.size) (hpa : pa.size = 1)
 (I : List Unit -> World -> Prop) (hI : OwnFrom w.heap.size I) (h0 : I [] w)
 (hassign : ∀ (l : Nat) (x : Unit) (W : World) (K : Act -> World -> Prop),K { tmps:=(a.tmps.setIfInBounds sx (.slice (some ⟨b,o,none⟩) n n)).setIfInBounds sb (.slice (some ⟨b,o,none⟩) n n),defers:=[] } W ->
   assign.wpIn (Fence.wide.inRound l) (m - 1 - 1) Tryz.prog (Exit.then K (fun _ _ _ => False)) { tmps:=(pa.zip #[.slice (some ⟨b,o,none⟩) n n]).foldl (fun t (p,v) => t.setIfInBounds p v) a.tmps,defers:=[] } W)
 (hbody : ∀ (l : Nat) (pre : List Unit) (x : Unit) (W : World),I pre W -> pre.length < 1 ->
   body.wpIn (Fence.wide.inRound l) (m - 1 - 1) Tryz.prog (ownPostG w.heap.size (A5 G) I (fun _ _ _ => False) (pre ++ [x]) W) { tmps:=(a.tmps.setIfInBounds sx (.slice (some ⟨b,o,none⟩) n n)).setIfInBounds sb (.slice (some ⟨b,o,none⟩) n n),defers:=[] } W)
 (hend : ∀ (D : Nat) (W : World),w.heap.size <= D -> I ([()]) W -> W.heap[D]? = some (.deferred (some [])) -> Q .normal { a with defers:={ target:=.collected D,args:=#[] } :: a.defers } W) :
 (Code.rangeFunc g pa assign body).wp Tryz.prog Q a w:=by
 refine (wpIn_wide (n:=m)).1 ?_
 refine wpIn_rangeFunc_ownH rfl h1 (gf:=gf) (lb:=lb) hg trivial eg hseq (fun {A B C} => A5.trans) (fun W l o o' hl => A5.put hG W l o o' (by omega)) hb0 (fun _ => hpa.symm) I (fun _ _ _ => False) hI (fun _ _ _ _ _ hs _ _ => hs) h0
  (fun x a' W => a' = { tmps:=(a.tmps.setIfInBounds sx (.slice (some ⟨b,o,none⟩) n n)).setIfInBounds sb (.slice (some ⟨b,o,none⟩) n n),defers:=[] }) ?hAx ?assign ?body ?done ?stop
 case hAx =>
  rintro x a' _ W W' row h hg hr
  exact h
 case assign =>
  intro l pre x W K hi hK
  exact hassign l x W _ (hK _ _ (KeepsFrom.refl _ _) (A5.refl _ _) hi rfl)
 case body =>
  rintro l pre x a' W hl hr hi rfl hlt
  exact hbody l pre x W hi hlt
 case done =>
  rintro D xs W hD rfl hi hK
  exact hend D W hD hi hK
 case stop =>
  rintro D c pre W _ _ h _
  exact h.elim
end
section
open Go.RowKit Go.Shelf Go.Maps Go.WideMaps
attribute [local go_sem] Oper.semAt_some
@[irreducible] def M1 (X : ByteArray) (pre : List Unit) : List UInt8:=if pre = [] then [] else As X.size ++ X.data.toList
theorem ZJ (n : Nat) (l : List Aa) (hne : l ≠ []) : IB n l = As n ++ M1 (CJ l) [()]:=by
 unfold IB Gb M1
 rw [if_neg hne,if_neg (by simp)]
set_option maxHeartbeats 4000000 in
set_option maxRecDepth 100000 in
theorem LY {w : World} {a : Option Addr} {c : Nat} {l : List Aa} (n : Nat) (hn : n <= limC) (h : Ao w (.slice a l.length c) l) (hc : l.length <= c) (hok : FP l) :
 Calls Tryz.prog 90 #[.int .i64 (n : Int),.slice a l.length c] w fun e w' => e = .returned (.string ⟨(IB n l).toArray⟩) /\ Below w.heap.size w w':=by
 have h1 : 1 <= l.length:=List.length_pos_iff.2 hok.ne
 have hfew:=hok.few
 have hsz:=Oe hok
 obtain ⟨hE0,_⟩:=LK hok
 obtain ⟨b,o,rfl⟩ : ∃ b o,a = some ⟨b,o,none⟩:=by
  obtain ⟨b,o,e,_⟩:=h.at (show 0 < l.length from h1)
  exact ⟨b,o,e⟩
 have HW : Hid (∀ w',Below w.heap.size w w' -> Ao w' (.slice (some ⟨b,o,none⟩) l.length l.length) l):=fun w' hb => by
  obtain ⟨hm,a',c',hv,h2⟩:=h.below hb
  injection hv with e1 e2 e3
  subst e1
  exact ⟨hm,_,_,rfl,h2⟩
 have hrest:=ZJ n l hok.ne
 rw [hrest]
 have hnn : n <= 1000000:=hn
 have hpn:=Au (AJ (n:=n) (by omega))
 have hpx:=Au (AJ (n:=(CJ l).size) (by omega))
 have hB:=fun w' (hb : Below w.heap.size w w') => Xg (HW.out w' hb) (Nat.le_refl _) (by omega)
 rw [hE0] at hB
 obtain ⟨X,hX⟩ : ∃ X,CJ l = X:=⟨_,rfl⟩
 rw [hX] at hB hsz hpx ⊢
 have HBU:=Lib.hid hB
 have hP:=fun w => Fw n (AJ (by omega)) w
 have hT:=fun w => Jm X (by omega) w
 obtain ⟨PN,ePN⟩ : ∃ A : ByteArray,(⟨(As n).toArray⟩ : ByteArray) = A:=⟨_,rfl⟩
 have dPN : PN.data.toList = As n:=by rw [<- ePN]
 have zPN : PN.size <= 10:=by rw [<- ePN,A0]; exact hpn
 obtain ⟨TX,eTX⟩ : ∃ A : ByteArray,(⟨(As X.size ++ X.data.toList).toArray⟩ : ByteArray) = A:=⟨_,rfl⟩
 have dTX : TX.data.toList = M1 X [()]:=by rw [<- eTX]; unfold M1; rw [if_neg (by simp)]
 have zTX : TX.size <= 580000010:=by
  have h3 : X.data.toList.length = X.size:=by simp
  rw [<- eTX,A0,List.length_append]; omega
 have ht0 : M1 X [] = []:=by unfold M1; rfl
 simp only [ePN] at hP
 simp only [eTX] at hT
 have hw0 : IntKind.u64.wrap (n : Int) = (n : Int):=by rw [IntKind.wrap_u64]; omega
 have hbw : b < w.heap.size:=by
  obtain ⟨b',o',e,q,_⟩:=h.at (show 0 < l.length from h1)
  injection e with e
  injection e with e1 _
  subst e1
  exact World.block_lt_of_cell? w ⟨_,_,none⟩ q
 have hne0 : ((l.length : Int) == 0) = false:=beq_false_of_ne (by omega)
 have hne1 : ¬ l.length = 0:=by omega
 have hne2 : ¬ (l.length : Int) = 0:=by omega
 generalize hN : l.length = N at *
 clear hE0 hrest hX hB hok h ePN eTX hpn hpx hN
 refine (callsIn_wide (n:=6)).1 ?_
 refine callsIn_of_wp_marks Tryz.func90 rfl trivial ?_ rfl
 simp only [Tryz.ntmps90,List.size_toArray,List.length_cons,List.length_nil,Nat.reduceAdd,Nat.reduceSub,Array.replicate_succ,Array.replicate_zero,List.push_toArray,List.append_toArray,List.nil_append,List.cons_append]
 refine wpIn_wide.2 ?_
 have k0:=AP.new w
 have bL:=(Below.refl w.heap.size w).alloc (Nat.le_refl _) (.cells #[.pointer none,.slice none 0 0] 172)
 have h6s : (w.alloc (.cells #[.pointer none,.slice none 0 0] 172)).heap.size = w.heap.size + 1:=by simp
 have K0:=Lib.hid k0
 have B0:=Lib.hid bL
 have H0S:=Lib.hid h6s
 clear k0 bL h6s
 go_wp2_with fail
 generalize w.alloc (.cells #[.pointer none,.slice none 0 0] 172) = w0 at *
 refine (hP w0).mono ?_
 rintro e w1 ⟨rfl,b1⟩
 have K1:=Lib.hid (K0.out.kept2 b1)
 have B1:=Lib.hid (B0.out.trans (b1.mono B0.out.size))
 have hs1:=b1.size
 clear b1 hP K0 B0
 have hs0 : w.heap.size + 1 <= w0.heap.size:=Nat.le_of_eq H0S.out.symm
 go_wp2_with fail
 refine (Co K1.out PN (by simp; omega) (by omega)).mono ?_
 rintro e w2 ⟨rfl,k2,b2,_⟩
 rw [dPN,List.nil_append] at k2
 have K2:=Lib.hid k2
 have B2:=Lib.hid (B1.out.trans b2)
 have hs2:=b2.size
 clear k2 b2 K1 B1
 go_wp2_with fail
 refine (AaJ hc (by omega) (by omega)).mono ?_
 rintro e wA ⟨g,lb,rfl,eg,hgi,hsA,bA,g0,g1⟩
 have hseq:=hgi 5 (by omega) wA (A5.refl _ _) (Nat.le_refl _)
 have HA1:=Lib.hid (K2.out.kept2 bA)
 have HBA:=Lib.hid (B2.out.trans (bA.mono (by omega)))
 have HG0:=Lib.hid g0
 have HG1:=Lib.hid g1
 have HG : ∀ k,Ee w2.heap.size (w2.heap.size + 1) k -> k < wA.heap.size:=fun k hk => by unfold Ee at hk; omega
 clear hgi g0 g1 bA K2
 go_wp2_with fail
 refine Ym (m:=6) 18 6 (by omega) rfl eg hseq (Below.refl _ _) HG rfl
  (fun pre W => AP W w.heap.size w.heap.size (As n ++ M1 X pre) /\ W.heap[w2.heap.size]? = some (.cells #[.slice (some ⟨b,o,none⟩) N c] 30 (0,0)) /\ W.heap[w2.heap.size + 1]? = some (.cells #[.int .i64 65536] 3 (0,0)) /\ Below w.heap.size w W)
  (OwnFrom.and (AP.ownFrom _ _ _ (fun pre => As n ++ M1 X pre)) (OwnFrom.and (Fp _ _ (fun _ => _) (fun _ => rfl)) (OwnFrom.and (Fp _ _ (fun _ => _) (fun _ => rfl)) (ownFrom_below (Nat.le_refl _) (by omega)))))
  ⟨by rw [ht0,List.append_nil]; exact HA1.out,HG0.out,HG1.out,HBA.out⟩
  ?assign ?body ?rest
 case assign =>
  intro l' x W K hK
  gi_wp2
  exact hK
 case body =>
  rintro l' pre x W ⟨t0,g0,g1,hB⟩ hlt
  obtain rfl : pre = []:=List.eq_nil_of_length_eq_zero (by omega)
  rw [ht0,List.append_nil] at t0
  have hbo:=HBU.out W hB
  have hlt0:=t0.lt
  have zpn : (As n).length <= 10:=by rw [<- dPN,Array.length_toList]; exact zPN
  gi_wp2_with fail
  refine ⟨trivial,(CallsIn.inRound l' (callsIn_wide.2 hbo)).mono ?_⟩
  rintro e w8 ⟨rfl,b8⟩
  have T8:=Lib.hid (t0.kept2 b8)
  have B8:=Lib.hid (hB.trans (b8.mono hB.size))
  have hs8:=b8.size
  gi_wp2_with fail
  refine ⟨trivial,(CallsIn.inRound l' (callsIn_wide.2 (hT _))).mono ?_⟩
  rintro e w9 ⟨rfl,b9⟩
  have T9:=Lib.hid (T8.out.kept2 b9)
  have B9:=Lib.hid (B8.out.trans (b9.mono B8.out.size))
  have hs9:=b9.size
  gi_wp2_with fail
  refine ⟨trivial,(CallsIn.inRound l' (callsIn_wide.2 (Co T9.out TX (by omega) (by omega)))).mono ?_⟩
  rintro e w10 ⟨rfl,t10,b10,k10⟩
  have kb:=((Ce.of_below b8).trans (Ce.of_below b9)).trans k10
  have ko:=kb.others (Nat.le_trans (Nat.le_trans hs8 hs9) b10.size)
  have g0':=kb.cells g0 (by decide) (by decide)
  have g1':=kb.cells g1 (by decide) (by decide)
  have B10:=Lib.hid (B9.out.trans (b10.mono (by omega)))
  rw [dTX] at t10
  gi_wp2
  refine ⟨ko.from _,?_,t10,g0',g1',B10.out⟩
  rintro k (rfl | rfl)
  · rw [g0',g0]
  · rw [g1',g1]
 case rest =>
  rintro D W hD ⟨t0,g0,g1,hB⟩ hK
  have hlt0:=t0.lt
  have T0:=Lib.hid t0
  have BW:=Lib.hid hB
  have HKD:=Lib.hid hK
  clear t0 hB hK g0 g1
  go_wp2_with fail
  refine (F6 T0.out (by omega)).mono ?_
  rintro e w12 ⟨rfl,b12,k12⟩
  have B12:=Lib.hid (BW.out.trans (b12.mono (by omega)))
  have D12:=Lib.hid (k12 _ _ HKD.out (fun _ _ _ h => by cases h))
  clear b12 k12
  go_wp2
  refine ⟨by simp,.inl ⟨_,_,rfl,run_takeDeferred D12.out,?_⟩⟩
  exact ⟨_,results_tmp rfl _ _ _,rfl,B12.out.trans (belowK_b (w:=w) (Nat.le_refl _) _ D _ _ (by omega) D12.out rfl rfl)⟩
theorem RJ {w : World} {a : Option Addr} {c : Nat} (n : Nat) :
 Calls Tryz.prog 90 #[.int .i64 (n : Int),.slice a 0 c] w fun e w' => e = .returned (.string ⟨#[]⟩) /\ w = w':=by
 refine (callsIn_wide (n:=6)).1 ?_
 refine callsIn_of_wp_marks Tryz.func90 rfl trivial ?_ rfl
 simp only [Tryz.ntmps90,List.size_toArray,List.length_cons,List.length_nil,Nat.reduceAdd,Nat.reduceSub,Array.replicate_succ,Array.replicate_zero,List.push_toArray,List.append_toArray,List.nil_append,List.cons_append]
 refine wpIn_wide.2 ?_
 go_wp2
 exact ⟨_,results_tmp rfl _ _ _,rfl,rfl⟩
end
end Go.Proofs.YtlkefgngefpkiaaGreatDoor
