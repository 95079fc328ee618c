/- Parts of the proof. -/
import Derived.Test.YtnafjlhohbhcoaaGreatDoorQ35
import Derived.Test.YtnafjlhohbhcoaaGreatDoorQ32
namespace Go.Proofs.YtnafjlhohbhcoaaGreatDoor
open Go.Lib (hid)
set_option linter.unusedVariables false
section
open Go.RowKit
def Eb (t : List UInt8) (l : List Aa) : Bool:=l.all fun x => FU t x.key
theorem NP (t : List UInt8) (l : List Aa) : Eb t l = true ↔ ∀ x ∈ l,FU t x.key = true:=by unfold Eb; exact List.all_eq_true
theorem Th {t : List UInt8} {l : List Aa} {i : Nat} (h : i < l.length) (ha : Eb t (l.take i) = true) : Eb t (l.take (i + 1)) = FU t l[i].key:=by
 unfold Eb at *
 rw [List.take_succ_eq_append_getElem h,List.all_append,ha]
 simp
theorem W6 {t : List UInt8} {l : List Aa} {i : Nat} (h : i < l.length) (ha : FU t l[i].key = false) : Eb t l = false:=by
 cases hb : Eb t l with
 | false => rfl
 | true => rw [(NP t l).1 hb _ (List.getElem_mem h)] at ha; cases ha
set_option maxHeartbeats 1000000 in
set_option maxRecDepth 100000 in
theorem Vh {w : World} {fb : Nat} {t : ByteArray} {x : Aa} (hc : w.cell? ⟨fb,0,none⟩ = some (.string t)) (ht : t.size <= maxLen) (hx : x.key.size <= maxLen) :
 Calls Tryz.prog 225 #[x.val',.pointer (some ⟨fb,0,none⟩)] w fun e w' => e = .returned (.bool (!FU t.data.toList x.key)) /\ Below w.heap.size w w':=by
 obtain ⟨xk,xv,xg⟩:=x
 have hb:=World.block_lt_of_cell? w ⟨fb,0,none⟩ hc
 have hB:=hid ((Below.refl _ w).alloc (Nat.le_refl _) (.cells #[.string xk,.string xv,.bool xg] 57))
 have hca:=fun w => AaZ t xk ht hx w
 show Calls Tryz.prog 225 #[.agg #[.string xk,.string xv,.bool xg],.pointer (some ⟨fb,0,none⟩)] w _
 go_enter Tryz.func225,Tryz.ntmps225
 go_wp2_with fail
 refine (hca _).mono ?_
 rintro e w1 ⟨rfl,b1⟩
 have B1:=hid (hB.out.trans (b1.mono hB.out.size))
 clear b1
 go_wp2
 go_ret
 exact ⟨rfl,B1.out⟩
set_option maxHeartbeats 1000000 in
set_option maxRecDepth 100000 in
theorem Vk {w : World} {fb : Nat} {t : ByteArray} {a : Option Addr} {c : Nat} {l : List Aa} (h : Aj w (.slice a l.length c) l) (hf : Az l) (hc : w.cell? ⟨fb,0,none⟩ = some (.string t)) (ht : t.size <= maxLen) :
 Calls Tryz.prog 241 #[.slice a l.length c,.func (.func 225) #[] #[.pointer (some ⟨fb,0,none⟩)]] w fun e w' => ∃ r : Int,e = .returned (.int .i64 r) /\ decide (0 <= r) = (!Eb t.data.toList l) /\ Below w.heap.size w w':=by
 have hmax : l.length <= 9223372036854775807:=by have:=h.1; unfold maxLen at this; omega
 have eg : ∀ args w,(callFunc 225 args).run Tryz.prog w = .ok (.enter 225 args) w:=enters_of Tryz.func225 (by kernel_rfl) rfl
 have hb:=World.block_lt_of_cell? w ⟨fb,0,none⟩ hc
 have H:=hid h
 have HC:=hid hc
 clear h hc
 go_enter Tryz.func241,Tryz.ntmps241
 go_wp2
 go_loopw [8] (fun iv wr => ∃ i : Nat,i <= l.length /\ iv = .int .i64 (i : Int) /\ Hid (Eb t.data.toList (l.take i) = true /\ Below w.heap.size w wr)) (fun iv _ => l.length - (intOf iv).toNat)
 case atStart => exact ⟨0,Nat.zero_le _,rfl,rfl,Below.refl _ _⟩
 case round =>
  obtain ⟨i,hil,rfl,HI⟩:=hrel
  by_cases hlt : i < l.length
  · obtain ⟨b,o,rfl,q0,q1,q2⟩:=H.out.in HI.out.2 hlt
    have hmeas : l.length - (intOf (.int .i64 ((i : Int) + 1))).toNat < l.length - (intOf (.int .i64 (i : Int))).toNat:=by simp [intOf]; omega
    have hkf:=((Cj _).1 (hf _ (List.getElem_mem hlt))).2.1
    have hcl:=Vh (x:=l[i]) ((HI.out.2.cell hb).trans HC.out) ht (by unfold maxLen; omega)
    have HAN:=hid (Th hlt HI.out.1)
    have HNO:=hid (fun e => W6 (t:=t.data.toList) hlt e)
    generalize l[i] = X at *
    obtain ⟨xk,xv,xg⟩:=X
    unfold Aa.val' at hcl
    simp only at q0 q1 q2 hcl HAN HNO
    have HB:=hid HI.out.2
    clear HI
    cases hh : FU t.data.toList xk with
    | true =>
      rw [hh] at hcl HAN
      simp only [Bool.not_true] at hcl
      go_wp2_with fail
      refine hcl.mono ?_
      rintro e w1 ⟨rfl,b1⟩
      have B1:=hid (HB.out.trans (b1.mono HB.out.size))
      clear b1 hcl
      go_wp2
      go_roundw
      case rel => exact ⟨i + 1,by omega,by go_num,HAN.out,B1.out⟩
      case measure => exact hmeas
    | false =>
      rw [hh] at hcl
      simp only [Bool.not_false] at hcl
      have HF:=hid (HNO.out hh)
      go_wp2_with fail
      refine hcl.mono ?_
      rintro e w1 ⟨rfl,b1⟩
      have B1:=hid (HB.out.trans (b1.mono HB.out.size))
      clear b1 hcl
      go_wp2
      go_ret
      exact ⟨(i : Int),rfl,by rw [HF.out]; simp,B1.out⟩
  · obtain rfl : i = l.length:=by omega
    have HA:=HI.out.1
    rw [List.take_length] at HA
    have HA2:=hid HA
    have HB:=hid HI.out.2
    clear HI HA
    go_wp2
    go_ret
    exact ⟨-1,rfl,by rw [HA2.out]; simp,HB.out⟩
set_option maxHeartbeats 1000000 in
set_option maxRecDepth 100000 in
theorem Wb {w : World} {fb : Nat} {t : ByteArray} {a : Option Addr} {c : Nat} {l : List Aa} (h : Aj w (.slice a l.length c) l) (hf : Az l) (hc : w.cell? ⟨fb,0,none⟩ = some (.string t)) (ht : t.size <= maxLen) :
 Calls Tryz.prog 224 #[.slice a l.length c,.func (.func 225) #[] #[.pointer (some ⟨fb,0,none⟩)]] w fun e w' => e = .returned (.bool (!Eb t.data.toList l)) /\ Below w.heap.size w w':=by
 have hix:=Vk h hf hc ht
 generalize Eb t.data.toList l = A at *
 go_enter Tryz.func224,Tryz.ntmps224
 go_wp2_with fail
 refine hix.mono ?_
 rintro e w1 ⟨r,rfl,hd,b1⟩
 have B1:=hid b1
 have HD:=hid hd
 clear b1 hix hd
 go_wp2
 go_ret
 exact ⟨by rw [<- HD.out]; rfl,B1.out⟩
set_option maxHeartbeats 1000000 in
set_option maxRecDepth 100000 in
theorem Uf {w : World} {t : ByteArray} {a : Option Addr} {c : Nat} {l : List Aa} (h : Aj w (.slice a l.length c) l) (hf : Az l) (ht : t.size <= maxLen) :
 Calls Tryz.prog 196 #[.string t,.slice a l.length c] w fun e w' => e = .returned (.bool (Eb t.data.toList l)) /\ Below w.heap.size w w':=by
 have hmf : ∀ (fn : Fn) (first cap : Array Value) (w : World),(Instr.makeFunc fn first cap).run Tryz.prog w = .ok (.func fn first cap) w:=fun _ _ _ _ => rfl
 have hb:=(Below.refl _ w).alloc (Nat.le_refl _) (.cells #[.string t] 9)
 have hix:=Wb (h.below hb) hf (fb:=w.heap.size) (by rw [Ab (heap_alloc_new _ _)]; rfl) ht
 have HIX:=hid hix
 have HB:=hid hb
 clear hix h hb
 generalize Eb t.data.toList l = A at *
 go_enter Tryz.func196,Tryz.ntmps196
 go_wp2_with fail
 refine HIX.out.mono ?_
 rintro e w1 ⟨rfl,b1⟩
 have B1:=hid (HB.out.trans (b1.mono HB.out.size))
 clear b1 HIX HB
 go_wp2
 go_ret
 exact ⟨by simp,B1.out⟩
end
section
open Go.RowKit
def JF (s : List UInt8) (l : List Aa) : Bool:=Lib.hasPrefix s (D8 l) && Fs (textS (some (Lib.trimPrefix s (D8 l)))).2 && Eb (textS (some (Lib.trimPrefix s (D8 l)))).1 l
theorem PK {s : List UInt8} {l : List Aa} (hs : s.length <= 1048576) : JF s l = true ↔ ∃ flt,s = CX l flt /\ ∀ x ∈ l,FU flt x.key = true:=by
 unfold JF
 rw [Bool.and_eq_true,Bool.and_eq_true,NP]
 constructor
 · rintro ⟨⟨h1,h2⟩,h3⟩
   obtain ⟨rest,rfl⟩:=List.isPrefixOf_iff_prefix.1 (show (D8 l).isPrefixOf s = true from h1)
   have e1 : Lib.trimPrefix (D8 l ++ rest) (D8 l) = rest:=by
    unfold Lib.trimPrefix
    rw [if_pos h1,List.drop_left]
   rw [e1] at h2 h3
   cases ht : textS (some rest) with
   | mk flt R =>
     rw [ht] at h2 h3
     have e2:=Ys h2
     simp only at e2
     subst e2
     obtain ⟨_,t2⟩:=RV ht
     rw [List.append_nil] at t2
     exact ⟨flt,by rw [LU,<- t2],h3⟩
 · rintro ⟨flt,rfl,h3⟩
   rw [LU] at hs ⊢
   have h1 : Lib.hasPrefix (D8 l ++ (As flt.length ++ flt)) (D8 l) = true:=List.isPrefixOf_iff_prefix.2 (List.prefix_append _ _)
   have e1 : Lib.trimPrefix (D8 l ++ (As flt.length ++ flt)) (D8 l) = As flt.length ++ flt:=by
    unfold Lib.trimPrefix
    rw [if_pos h1,List.drop_left]
   have hl : flt.length <= 1048576:=by
    rw [List.length_append,List.length_append] at hs
    omega
   have e2:=Xy (t:=flt) (AK (by omega)) []
   rw [List.append_nil] at e2
   rw [e1,e2]
   exact ⟨⟨h1,rfl⟩,h3⟩
set_option maxHeartbeats 1000000 in
set_option maxRecDepth 100000 in
theorem QO {w : World} {s : ByteArray} {b o c : Nat} {l : List Aa} (h : Aj w (.slice (some ⟨b,o,none⟩) l.length c) l) (hf : Az l) (hc : l.length <= c) (hN : l.length <= 3518437208780) (h1 : 1 <= l.length) (hs : s.size <= 1048576) :
 Calls Tryz.prog 154 #[.string s,.slice (some ⟨b,o,none⟩) l.length c] w fun e w' => e = .returned (.bool (JF s.data.toList l)) /\ Below w.heap.size w w':=by
 have HW : Hid (∀ w',Below w.heap.size w w' -> Aj w' (.slice (some ⟨b,o,none⟩) l.length c) l):=fun w' hb => h.below hb
 have hhd:=QZ h hf hc hN h1
 obtain ⟨HD,eHD⟩ : ∃ A : ByteArray,(⟨(D8 l).toArray⟩ : ByteArray) = A:=⟨_,rfl⟩
 have dHD : HD.data.toList = D8 l:=by rw [<- eHD]
 rw [eHD] at hhd
 have hcp:=fun w => Sh.strings_CutPrefix s HD w
 rw [dHD] at hcp
 obtain ⟨rs,eR⟩ : ∃ r,Lib.trimPrefix s.data.toList (D8 l) = r:=⟨_,rfl⟩
 obtain ⟨ok,eO⟩ : ∃ r,Lib.hasPrefix s.data.toList (D8 l) = r:=⟨_,rfl⟩
 have hrs : rs.length <= 1048576:=by
  have:=Lib.trimPrefix_le s.data.toList (D8 l)
  rw [eR] at this
  have e : s.data.toList.length = s.size:=by simp
  omega
 have HFB : Hid (JF s.data.toList l = (ok && Fs (textS (some rs)).2 && Eb (textS (some rs)).1 l)):=by
  show _ = _
  unfold JF
  rw [eR,eO]
 simp only [eR,eO] at hcp
 obtain ⟨RB,eRB⟩ : ∃ A : ByteArray,(⟨rs.toArray⟩ : ByteArray) = A:=⟨_,rfl⟩
 have dRB : RB.data.toList = rs:=by rw [<- eRB]
 have zRB : RB.size = rs.length:=by rw [<- eRB,A0]
 simp only [eRB] at hcp
 have hrd:=fun w => IK RB (by omega) w
 simp only [dRB] at hrd
 have HHD:=hid hhd
 have HCP:=hid hcp
 have HRD:=hid hrd
 clear hhd hcp hrd eR eO eHD dHD eRB dRB h
 go_enter Tryz.func154,Tryz.ntmps154
 go_wp2_with fail
 refine HHD.out.mono ?_
 rintro e w1 ⟨rfl,b1⟩
 have B1:=hid b1
 clear b1 HHD
 go_wp2_with fail
 refine (HCP.out _).mono ?_
 rintro e w2 ⟨rfl,rfl⟩
 go_wp2_with fail
 refine (HRD.out _).mono ?_
 rintro e w3 ⟨rfl,r3,b3⟩
 have B3:=hid (B1.out.trans (b3.mono B1.out.size))
 have hct:=Io r3
 have htl:=PL (some rs)
 cases ht : textS (some rs) with | mk k R1 =>
 rw [ht] at hct HFB htl
 simp only at hct HFB htl
 obtain ⟨K,eK1,eK2,eK3⟩:=Q8 k
 simp only [eK1] at hct
 have hlt3:=b3.size
 have hws:=B1.out.size
 clear b3 r3 ht HCP HRD
 go_wp2_with fail
 refine hct.mono ?_
 rintro e w4 ⟨rfl,l4⟩
 have hend:=Iu l4.1
 have B4:=hid (B3.out.trans (l4.below (by omega) hws))
 have hha:=Uf (t:=K) (HW.out _ B4.out) hf (by unfold maxLen; simp at htl; omega)
 rw [eK2] at hha
 generalize Eb k l = A at *
 generalize Fs R1 = E at *
 clear l4 hct
 cases ok with
 | false =>
   go_wp2
   go_ret
   exact ⟨by rw [HFB.out]; rfl,B4.out⟩
 | true =>
   go_wp2_with fail
   refine hend.mono ?_
   rintro e w5 ⟨rfl,rfl⟩
   cases E with
   | false =>
     go_wp2
     go_ret
     exact ⟨by rw [HFB.out]; rfl,B4.out⟩
   | true =>
     go_wp2_with fail
     refine hha.mono ?_
     rintro e w6 ⟨rfl,b6⟩
     have B6:=hid (B4.out.trans (b6.mono B4.out.size))
     go_wp2
     go_ret
     exact ⟨by rw [HFB.out]; rfl,B6.out⟩
end
section
open Go.RowKit
theorem AaP {s rest : List UInt8} {fs : List (List UInt8)} {l : List Aa} (hs : Bz s = (fs,rest)) (ht : ET s l) :
 rest = [] /\ 1 <= fs.length /\ fs.take (fs.length - 1) = AI l (Ao l.length) /\ Az l /\ De l = 0 /\ JF (fs.getD (fs.length - 1) []) l = true:=by
 obtain ⟨h1,h2,h3,flt,hok,h4⟩:=Yb ht hs
 have h5 : fs.length - 1 = Ao l.length:=by omega
 have h6 : fs.getD (Ao l.length) [] = CX l flt:=by
  rw [h4]
  simp [List.getD,Ca]
 refine ⟨h1,by omega,?_,hok.fine,GP.2 ⟨hok.ne,hok.rise,hok.fine⟩,?_⟩
 · rw [h5,h4,List.take_append_of_le_length (by rw [Ca]; omega),List.take_of_length_le (by rw [Ca]; omega)]
 · rw [h5,h6]
   exact (PK hok.foot).2 ⟨flt,rfl,hok.has⟩
theorem YC {s : List UInt8} {fs : List (List UInt8)} {l : List Aa} (hs : Bz s = (fs,[])) (hne : 1 <= fs.length) (hg : fs.take (fs.length - 1) = AI l (Ao l.length)) (hc : De l = 0) (hf : JF (fs.getD (fs.length - 1) []) l = true) : ET s l:=by
 obtain ⟨h1,h2⟩:=scanL_inv fs s [] hs
 rw [List.append_nil] at h1
 have hmem : fs.getD (fs.length - 1) [] ∈ fs:=by
  have hlt : fs.length - 1 < fs.length:=by omega
  have e : fs.getD (fs.length - 1) [] = fs[fs.length - 1]:=by simp [List.getD,hlt]
  rw [e]
  exact List.getElem_mem hlt
 have hz:=h2 _ hmem
 obtain ⟨flt,e,hh⟩:=(PK hz).1 hf
 obtain ⟨hne2,hr,hfi⟩:=GP.1 hc
 have hfs : fs = AI l (Ao l.length) ++ [CX l flt]:=by
  have hlt : fs.length - 1 < fs.length:=by omega
  rw [<- hg,<- e]
  conv => lhs; rw [<- List.take_append_drop (fs.length - 1) fs]
  congr 1
  rw [List.drop_eq_getElem_cons hlt]
  have e1 : fs.length - 1 + 1 = fs.length:=by omega
  rw [e1,List.drop_length]
  simp [List.getD,hlt]
 obtain ⟨x,r,hxr⟩:=List.exists_cons_of_ne_nil hne2
 have hx:=hh x (by rw [hxr]; simp)
 have hb : 1 <= flt.length /\ flt.length <= 8192:=by
  unfold FU at hx
  exact of_decide_eq_true (Bool.and_eq_true_iff.1 hx).1
 refine ⟨flt,⟨hne2,hr,hfi,hb.1,hb.2,hh,by rw [<- e]; exact hz⟩,?_⟩
 rw [h1,hfs,O1]
theorem Oo {w : World} {base : Nat} {e : TypeId} {sz n c : Nat} {a : Option Addr} {xs : List Value} (h : w.ownsRow base e sz (.slice a n c) n xs) : n <= c /\ c <= maxLen:=by
 rcases h.2 with ⟨hv,h0⟩ | ⟨g,cap,cur,hv,_,_,h1,h2,_⟩
 · injection hv with _ _ e; subst e; subst h0; exact ⟨Nat.le_refl _,by decide⟩
 · injection hv with _ _ e; subst e; exact ⟨h1,h2⟩
theorem YS {s : List UInt8} {l : List Aa} (h : ET s l) : l.length <= 8388608:=by
 obtain ⟨flt,hok,_⟩:=h
 exact VC hok
theorem WZ {w : World} {base g c : Nat} {fs : List (List UInt8)} (h : w.ownsRow base 9 1 (.slice (some ⟨g,0,none⟩) fs.length c) fs.length (fs.map tx)) : ∀ i,i < fs.length -> w.cell? ⟨g,i,none⟩ = some (tx (fs.getD i [])):=fun i hi => by
 obtain ⟨g',cap,e,hc⟩:=IN h hi
 injection e with e
 injection e with e
 injection e with e
 subst e
 exact hc
def Ib (w : World) (p : Nat) (l : List Aa) (B : Nat) : Prop:=
 ∃ g c,w.heap[p]? = some (.cells #[.slice (some ⟨g,0,none⟩) l.length c] 208 (0,0)) /\ w.ownsRow 0 57 3 (.slice (some ⟨g,0,none⟩) l.length c) l.length (AA l) /\ p < B /\ g < B /\ Ak l /\ l.length <= 8388608
theorem Ib.below {w w' : World} {p : Nat} {l : List Aa} {B : Nat} (h : Ib w p l B) (hb : Below B w w') : Ib w' p l B:=by
 obtain ⟨g,c,h1,h2,h3,h4,h5,h6⟩:=h
 refine ⟨g,c,(hb.block p h3).trans h1,⟨h2.1,?_⟩,h3,h4,h5,h6⟩
 rcases h2.2 with h | ⟨g',cap,cur,hv,g1,g2,g3⟩
 · exact .inl h
 · have hg : g = g':=by injection hv with e; injection e with e; injection e
   exact .inr ⟨g',cap,cur,hv,g1,(hb.block g' (by omega)).trans g2,g3⟩
end
section
open Go.RowKit Go.Lib Go.Sort
theorem Mi {k : ByteArray} : ∀ {l : List Aa},Ak l -> l.countP (fun x => AO x.key k) = placeP k l
 | [],_ => rfl
 | x :: r,h => by
   have h2:=List.pairwise_cons.1 h
   rw [List.countP_cons]
   unfold placeP
   cases hb : AO x.key k with
   | true => rw [if_pos rfl,if_pos rfl,Mi h2.2]
   | false =>
     rw [if_neg (by simp),if_neg (by simp)]
     rw [List.countP_eq_zero.2]
     intro y hy hy2
     have h3:=h2.1 y hy
     rw [Bq h3 hy2] at hb
     cases hb
theorem SO {k : ByteArray} {l : List Aa} (h : Ak l) : (List.range l.length).countP (fun i => !(!AO (l.getD i zeroP).key k)) = placeP k l:=by
 rw [<- Mi h]
 have e : l = (List.range l.length).map (fun i => l.getD i zeroP):=by
  apply List.ext_getElem
  · simp
  · intro i h1 h2
    simp [List.getD,h1]
 conv => rhs; rw [e]
 rw [List.countP_map]
 congr 1
 funext i
 simp
theorem WK {k : ByteArray} {l : List Aa} (h : Ak l) : ∀ a b,a <= b -> b < l.length -> (!AO (l.getD a zeroP).key k) = true -> (!AO (l.getD b zeroP).key k) = true:=by
 intro a b hab hb ha
 rcases Nat.lt_or_ge a b with hlt | hge
 · have ha' : a < l.length:=by omega
   have e1 : l.getD a zeroP = l[a]:=by simp [List.getD,ha']
   have e2 : l.getD b zeroP = l[b]:=by simp [List.getD,hb]
   rw [e1] at ha
   rw [e2]
   have h3:=List.pairwise_iff_getElem.1 h a b ha' hb hlt
   cases hc : AO l[b].key k with
   | false => rfl
   | true => rw [Bq h3 hc] at ha; cases ha
 · obtain rfl : a = b:=by omega
   exact ha
set_option maxRecDepth 100000 in
set_option maxHeartbeats 1000000 in
theorem Tr {W : World} {tb kb p g n c i : Nat} {xk k : ByteArray} (h1 : W.cell? ⟨tb,0,none⟩ = some (.pointer (some ⟨p,0,none⟩))) (h2 : W.cell? ⟨kb,0,none⟩ = some (.string k)) (h3 : W.cell? ⟨p,0,none⟩ = some (.slice (some ⟨g,0,none⟩) n c)) (h4 : W.cell? ⟨g,i * 3,none⟩ = some (.string xk)) (hi : i < n) (hn : n <= 8388608) :
 Calls Tryz.prog 173 #[.int .i64 (i : Int),.pointer (some ⟨tb,0,none⟩),.pointer (some ⟨kb,0,none⟩)] W fun e w' => e = .returned (.bool (!AO xk k)) /\ ∃ q,w' = W.drewN q:=by
 have d1 : W.drew.cell? ⟨tb,0,none⟩ = some (.pointer (some ⟨p,0,none⟩)):=h1
 have d2 : W.drew.cell? ⟨kb,0,none⟩ = some (.string k):=h2
 have d3 : W.drew.cell? ⟨p,0,none⟩ = some (.slice (some ⟨g,0,none⟩) n c):=h3
 have d4 : W.drew.cell? ⟨g,i * 3,none⟩ = some (.string xk):=h4
 go_enter Tryz.func173,Tryz.ntmps173
 go_wp2
 go_region
 all_goals (go_wp2; go_ret; exact ⟨by unfold AO; rfl,1,rfl⟩)
theorem Vc {w : World} {g cap : Nat} {l : List Aa} (k : ByteArray) (h : w.ownsRow 0 57 3 (.slice (some ⟨g,0,none⟩) l.length cap) l.length (AA l)) :
 ∃ a c,(∀ wx,(Instr.slice 30 (.slice (some ⟨g,0,none⟩) l.length cap) (some (.int .i64 (placeP k l : Nat))) none none).run Tryz.prog wx = .ok (.slice a (AG k l).length c) wx) /\ (∀ wx,Below w.heap.size w wx -> Aj wx (.slice a (AG k l).length c) (AG k l)) /\ ∃ o,a = some ⟨g,o,none⟩:=by
 have hle:=C8 k l
 have hcap:=Oo h
 have hlen : (AG k l).length = l.length - placeP k l:=by simp [AG]
 have hsl : ∀ wx,(Instr.slice 30 (.slice (some ⟨g,0,none⟩) l.length cap) (some (.int .i64 (placeP k l : Nat))) none none).run Tryz.prog wx = .ok (.slice (if cap = placeP k l then some ⟨g,0,none⟩ else some ⟨g,placeP k l * 3,none⟩) (l.length - placeP k l) (cap - placeP k l)) wx:=fun wx => by
  have:=run_slice_l (P:=Tryz.prog) (w:=wx) 30 (some ⟨g,0,none⟩) l.length cap slPair .i64 (placeP k l : Nat) (by omega) (by omega)
  rw [JR] at this
  rw [this]
  show Result.ok (sliced (some ⟨g,0,none⟩) (((placeP k l : Nat) : Int).toNat) l.length cap 3) wx = _
  unfold sliced
  rw [Int.toNat_natCast]
  split
  · rfl
  · rw [Option.map_some,Addr.add_lit,Nat.zero_add]
 refine ⟨if cap = placeP k l then some ⟨g,0,none⟩ else some ⟨g,placeP k l * 3,none⟩,cap - placeP k l,fun wx => by rw [hlen]; exact hsl wx,fun wx hb => ⟨by unfold AG; rw [List.length_drop]; omega,?_⟩,?_⟩
 · by_cases hc : cap = placeP k l
   · rw [if_pos hc]
     exact ⟨_,_,rfl,.inl (List.eq_nil_of_length_eq_zero (by omega))⟩
   · rw [if_neg hc]
     refine ⟨_,_,rfl,.inr ⟨_,_,rfl,fun i hi => ?_⟩⟩
     have hi2 : placeP k l + i < l.length:=by omega
     obtain ⟨g',cap',hv,_,_,q0,q1,q2⟩:=Hm h hi2
     injection hv with hv
     injection hv with hv
     injection hv with hv
     subst hv
     have e : (AG k l)[i] = l[placeP k l + i]:=by simp [AG]
     rw [e,show placeP k l * 3 + i * 3 = (placeP k l + i) * 3 by omega]
     have tk : ∀ {o : Nat} {u : Value},w.cell? ⟨g,o,none⟩ = some u -> wx.cell? ⟨g,o,none⟩ = some u:=fun {o u} hc => (hb.cell (World.block_lt_of_cell? w ⟨g,o,none⟩ hc)).trans hc
     exact ⟨tk q0,tk q1,tk q2⟩
 · split
   · exact ⟨_,rfl⟩
   · exact ⟨_,rfl⟩
set_option maxRecDepth 100000 in
set_option maxHeartbeats 2000000 in
theorem RO {w : World} {p : Nat} {l : List Aa} {B : Nat} (k : ByteArray) (h : Ib w p l B) (hB : B <= w.heap.size) :
 Calls Tryz.prog 139 #[.pointer (some ⟨p,0,none⟩),.string k] w fun e w' => ∃ a c,e = .returned (.slice a (AG k l).length c) /\ Aj w' (.slice a (AG k l).length c) (AG k l) /\ (∀ b o,a = some ⟨b,o,none⟩ -> (AG k l) ≠ [] -> b < B) /\ Below w.heap.size w w':=by
 obtain ⟨g,cap,hp,hown,hpB,hgB,hrise,hl⟩:=h
 have hmf : ∀ (fn : Fn) (first cap : Array Value) (w : World),(Instr.makeFunc fn first cap).run Tryz.prog w = .ok (.func fn first cap) w:=fun _ _ _ _ => rfl
 have eg : ∀ args w,(callFunc 173 args).run Tryz.prog w = .ok (.enter 173 args) w:=enters_of Tryz.func173 (by kernel_rfl) rfl
 obtain ⟨W0,hW0⟩ : ∃ W0,(w.alloc (.cells #[.pointer (some ⟨p,0,none⟩)] 153)).alloc (.cells #[.string k] 9) = W0:=⟨_,rfl⟩
 have hb0 : Below w.heap.size w W0:=by rw [<- hW0]; exact ((Below.refl _ w).alloc (Nat.le_refl _) _).alloc (by simp) _
 have hsz : W0.heap.size = w.heap.size + 2:=by rw [<- hW0]; simp
 have ht0 : W0.heap[w.heap.size]? = some (.cells #[.pointer (some ⟨p,0,none⟩)] 153 (0,0)):=by
  rw [<- hW0,Below.heap_alloc _ _ _ (by simp)]; exact heap_alloc_new _ _
 have hk0 : W0.heap[w.heap.size + 1]? = some (.cells #[.string k] 9 (0,0)):=by
  have:=heap_alloc_new (w.alloc (.cells #[.pointer (some ⟨p,0,none⟩)] 153)) (.cells #[.string k] 9)
  rw [World.size_alloc,hW0] at this
  exact this
 have hp0:=(hb0.block p (by omega)).trans hp
 have z0 : W0.cell? ⟨w.heap.size,0,none⟩ = some (.pointer (some ⟨p,0,none⟩)):=by rw [Ab ht0]; rfl
 have z1 : W0.cell? ⟨w.heap.size + 1,0,none⟩ = some (.string k):=by rw [Ab hk0]; rfl
 have z2 : W0.cell? ⟨p,0,none⟩ = some (.slice (some ⟨g,0,none⟩) l.length cap):=by rw [Ab hp0]; rfl
 have hS:=Sh.sort_Search 173 #[.pointer (some ⟨w.heap.size,0,none⟩),.pointer (some ⟨w.heap.size + 1,0,none⟩)] l.length (fun i => !AO (l.getD i zeroP).key k) W0 eg (by omega) (fun m os i hi => by
  have old : ∀ {b o : Nat} {u : Value},W0.cell? ⟨b,o,none⟩ = some u -> (grow (W0.drewN m) os).cell? ⟨b,o,none⟩ = some u:=fun {b o u} hc =>
   (World.cell?_of_block (w:=W0) (a:=⟨b,o,none⟩) (heap_grow_old (W0.drewN m) os (World.block_lt_of_cell? W0 ⟨b,o,none⟩ hc))).trans hc
  obtain ⟨g',cap',hv,_,_,q0,_⟩:=Hm hown hi
  injection hv with hv
  injection hv with hv
  injection hv with hv
  subst hv
  have e1 : l.getD i zeroP = l[i]:=by simp [List.getD,hi]
  have q0' : W0.cell? ⟨g,i * 3,none⟩ = some (.string l[i].key):=(hb0.cell (World.block_lt_of_cell? w ⟨g,i * 3,none⟩ q0)).trans q0
  have hc:=Tr (old z0) (old z1) (old z2) (old q0') hi hl
  rw [e1]
  refine hc.mono ?_
  rintro e w' ⟨rfl,q,rfl⟩
  exact ⟨rfl,q,#[],by rw [grow_empty]⟩) (WK hrise)
 rw [SO hrise] at hS
 obtain ⟨a,c,hsl,hrd,o,rfl⟩:=Vc k hown
 have HRD : Hid (∀ wx,Below w.heap.size w wx -> Aj wx (.slice (some ⟨g,o,none⟩) (AG k l).length c) (AG k l)):=hrd
 have HS:=hid hS
 have HB0:=hid hb0
 have hplb : p < w.heap.size:=Ad hp
 have hle:=C8 k l
 clear hS hrd hown hp0 ht0 hk0 hb0 hp
 generalize placeP k l = pl at *
 generalize (AG k l).length = fl at *
 go_enter Tryz.func139,Tryz.ntmps139
 go_wp2_with fail
 refine HS.out.mono ?_
 rintro e w1 ⟨rfl,q,os,rfl⟩
 have hb1 : Below W0.heap.size W0 (grow (W0.drewN q) os):=below_grown_sl W0.heap.size W0 q os (Nat.le_refl _)
 have y0 : (grow (W0.drewN q) os).cell? ⟨w.heap.size,0,none⟩ = some (.pointer (some ⟨p,0,none⟩)):=(hb1.cell (by simp only; omega)).trans z0
 have y2 : (grow (W0.drewN q) os).cell? ⟨p,0,none⟩ = some (.slice (some ⟨g,0,none⟩) l.length cap):=(hb1.cell (by simp only; omega)).trans z2
 have B1:=hid (HB0.out.trans (hb1.mono (by omega)))
 clear hb1 z0 z1 z2
 generalize grow (W0.drewN q) os = w1 at *
 go_wp2
 go_ret
 exact ⟨some ⟨g,o,none⟩,c,rfl,HRD.out _ B1.out,fun b o' e _ => by injection e with e; injection e with e; omega,B1.out⟩
end
section
open Go.RowKit
theorem Zb {k : ByteArray} {l : List Aa} (h : AG k l = []) : DS k l = none:=by
 have h1 : l[placeP k l]? = none:=by
  have:=congrArg (fun r : List Aa => r[0]?) h
  simp only [AG,List.getElem?_drop] at this
  simpa using this
 unfold DS Bd
 rw [h1]
 rfl
theorem Aak {k : ByteArray} {l r : List Aa} {x : Aa} (h : AG k l = x :: r) : DS k l = if x.key = k then some x else none:=by
 have h1 : l[placeP k l]? = some x:=by
  have:=congrArg (fun r : List Aa => r[0]?) h
  simp only [AG,List.getElem?_drop] at this
  simpa using this
 unfold DS Bd
 rw [h1]
 simp
set_option maxRecDepth 100000 in
set_option maxHeartbeats 2000000 in
theorem Aal {w : World} {p : Nat} {l : List Aa} {B : Nat} (k : ByteArray) (h : Ib w p l B) (hB : B <= w.heap.size) :
 Calls Tryz.prog 93 #[.pointer (some ⟨p,0,none⟩),.string k] w fun e w' => e = .returned (.tuple #[((DS k l).getD zeroP).val',.bool (DS k l).isSome]) /\ Below w.heap.size w w':=by
 have hb0:=(Below.refl _ w).alloc (Nat.le_refl _) (.cells #[.string ⟨#[]⟩,.string ⟨#[]⟩,.bool false] 57)
 have hnew:=heap_alloc_new w (.cells #[.string ⟨#[]⟩,.string ⟨#[]⟩,.bool false] 57)
 have hsk:=RO k (h.below (hb0.mono hB)) (by simp; omega)
 have HSK:=hid hsk
 have HN:=hid hnew
 have HB0:=hid hb0
 clear h hb0 hnew hsk
 go_enter Tryz.func93,Tryz.ntmps93
 go_wp2_with fail
 generalize w.alloc (.cells #[.string ⟨#[]⟩,.string ⟨#[]⟩,.bool false] 57) = w0 at *
 refine HSK.out.mono ?_
 rintro e w1 ⟨a,c,rfl,hr,-,b1⟩
 have hN1:=(b1.block _ (Ad HN.out)).trans HN.out
 have B1:=hid (HB0.out.trans (b1.mono HB0.out.size))
 have f0:=Ag hN1 0
 have f1:=Ag hN1 1
 have f2:=Ag hN1 2
 have e0 : w1.cell? ⟨w.heap.size,0,none⟩ = some (.string ⟨#[]⟩):=by rw [Ab hN1]; rfl
 have e1 : w1.cell? ⟨w.heap.size,1,none⟩ = some (.string ⟨#[]⟩):=by rw [Ab hN1]; rfl
 have e2 : w1.cell? ⟨w.heap.size,2,none⟩ = some (.bool false):=by rw [Ab hN1]; rfl
 clear HSK HN b1 hN1
 cases hfr : AG k l with
 | nil =>
   have HG:=hid (Zb hfr)
   rw [hfr] at hr
   clear hr
   go_wp2
   (try simp only [Exit.inBlock,Exit.then])
   refine bodyPost_ret (v:=.tuple #[zeroP.val',.bool false]) ?_ rfl ⟨by rw [HG.out]; rfl,?_⟩
   · rw [results_cell_tmp rfl]
     go_simp
     rfl
   · exact ((B1.out.setCell (Nat.le_refl _) _).setCell (Nat.le_refl _) _).setCell (Nat.le_refl _) _
 | cons x r =>
   have HG:=hid (Aak hfr)
   rw [hfr] at hr
   have hlen : 0 < (x :: r).length:=by simp
   obtain ⟨b,o,rfl,q0,q1,q2⟩:=hr.at hlen
   simp only [List.getElem_cons_zero,Nat.zero_mul,Nat.add_zero] at q0 q1 q2
   generalize (x :: r).length = n at *
   have hn0 : ((n : Int) == 0) = false:=by simp; omega
   clear hr
   obtain ⟨xk,xv,xg⟩:=x
   simp only at q0 q1 q2 HG
   by_cases hk : xk = k
   · have hkb : (xk.toList == k.toList) = true:=by rw [JC,decide_eq_true hk]
     go_wp2
     (try simp only [Exit.inBlock,Exit.then])
     refine bodyPost_ret (v:=.tuple #[.agg #[.string xk,.string xv,.bool xg],.bool true]) ?_ rfl ⟨by rw [HG.out,if_pos hk]; rfl,?_⟩
     · rw [results_cell_tmp rfl]
       go_simp
     · exact ((B1.out.setCell (Nat.le_refl _) _).setCell (Nat.le_refl _) _).setCell (Nat.le_refl _) _
   · have hkb : (xk.toList == k.toList) = false:=by rw [JC,decide_eq_false hk]
     go_wp2
     (try simp only [Exit.inBlock,Exit.then])
     refine bodyPost_ret (v:=.tuple #[zeroP.val',.bool false]) ?_ rfl ⟨by rw [HG.out,if_neg hk]; rfl,?_⟩
     · rw [results_cell_tmp rfl]
       go_simp
       rfl
     · exact ((B1.out.setCell (Nat.le_refl _) _).setCell (Nat.le_refl _) _).setCell (Nat.le_refl _) _
end
section
open Go.RowKit Go.Shelf Go.Maps Go.WideMaps
attribute [local go_sem] Oper.semAt_some
def Vq (m : Nat) (g : Nat) (lb : Array Value) (G : Nat -> Prop) (b o n : Nat) (w : World) : Prop:=
 SeqStopsK Fence.wide m Tryz.prog g lb (fun _ : Unit => #[.slice (some ⟨b,o,none⟩) n n]) (A8 G) (fun xs => xs = [()]) (fun pre => pre <+: [()]) 1 w
theorem Aam (b o n c : Nat) (hc : n <= c) (wx : World) : (Instr.slice 30 (.slice (some ⟨b,o,none⟩) n c) (some (.int .i64 0)) none none).run Tryz.prog wx = .ok (.slice (some ⟨b,o,none⟩) n c) wx:=by
 have:=run_slice_l (P:=Tryz.prog) (w:=wx) 30 (some ⟨b,o,none⟩) n c slPair .i64 0 (by omega) (by omega)
 rw [JR] at this
 rw [this]
 show Result.ok (Value.slice (if c = 0 then some ⟨b,o,none⟩ else Option.map (fun x => x.add (0 * 3)) (some (⟨b,o,none⟩ : Addr))) (n - 0) (c - 0)) wx = _
 by_cases h : c = 0
 · rw [if_pos h]
   rfl
 · rw [if_neg h,Option.map_some,Addr.add_lit]
   rfl
theorem Aa0 (b o n c : Nat) (hc : n <= c) (h0 : 0 < n) (m : Int) (hm : m = (n : Int)) (wx : World) : (Instr.slice 30 (.slice (some ⟨b,o,none⟩) n c) (some (.int .i64 0)) (some (.int .i64 m)) (some (.int .i64 m))).run Tryz.prog wx = .ok (.slice (some ⟨b,o,none⟩) n n) wx:=by
 have:=run_slice_lhm (P:=Tryz.prog) (w:=wx) 30 (some ⟨b,o,none⟩) n c slPair .i64 .i64 .i64 0 m m (by omega) (by omega) (by omega) (by omega)
 rw [JR] at this
 rw [this]
 show Result.ok (sliced (some ⟨b,o,none⟩) 0 m.toNat m.toNat 3) wx = _
 unfold sliced
 have e2 : m.toNat = n:=by omega
 rw [e2,if_neg (by omega),Option.map_some,Addr.add_lit]
 rfl
set_option maxRecDepth 100000 in
set_option maxHeartbeats 4000000 in
theorem Ab7 (m : Nat) (hm : 1 <= m) (y sb nb b o n c : Nat) (J Jx : List Unit -> World -> Prop) (W : World)
 (hJ : AbidesFrom W.heap.size J)
 (hY : ∀ pre x W1,J pre W1 -> pre.length < 1 -> YieldAt Fence.wide (m - 1) Tryz.prog y #[.slice (some ⟨b,o,none⟩) n n] W1 fun e W' => (e = .returned (.bool true) /\ J (pre ++ [x]) W' /\ A8 (Ec sb nb) W1 W') \/ (e = .returned (.bool false) /\ Jx (pre ++ [x]) W'))
 (hv : W.heap[sb]? = some (.cells #[.slice (some ⟨b,o,none⟩) n c] 30 (0,0))) (hn : W.heap[nb]? = some (.cells #[.int .i64 65536] 3 (0,0))) (hc : n <= c) (h0n : 0 < n) (hmx : n <= 65536) (h0 : J [] W) :
 CallsIn Fence.wide m Tryz.prog 174 #[.func (.yield y) #[] #[],.pointer (some ⟨sb,0,none⟩),.pointer (some ⟨nb,0,none⟩)] W fun e W' => (∃ v,e = .returned v) /\ ((∃ xs,xs = [()] /\ J xs W') \/ (∃ pre,pre <+: [()] /\ Jx pre W')):=by
 have HV0 : Hid (W.heap[sb]? = some (.cells #[.slice (some ⟨b,o,none⟩) n c] 30 (0,0)) /\ W.heap[nb]? = some (.cells #[.int .i64 65536] 3 (0,0))):=⟨hv,hn⟩
 have HJ0 : Hid (J [] W):=h0
 clear h0 hv hn
 refine callsIn_of_wp Tryz.func174 rfl trivial ?_ rfl
 simp only [Tryz.ntmps174,List.size_toArray,List.length_cons,List.length_nil,Nat.reduceAdd,Nat.reduceSub,Array.replicate_succ,Array.replicate_zero,List.push_toArray,List.append_toArray,List.nil_append,List.cons_append]
 gi_wp2
 gi_loopw [4] (fun iv wr => ((iv = .int .i64 0 /\ Hid (J [] wr)) \/ (iv = .int .i64 65536 /\ Hid (J [()] wr))) /\ Hid (wr.heap[sb]? = some (.cells #[.slice (some ⟨b,o,none⟩) n c] 30 (0,0)) /\ wr.heap[nb]? = some (.cells #[.int .i64 65536] 3 (0,0)))) (fun iv _ => 65537 - (intOf iv).toNat)
 case atStart => exact ⟨.inl ⟨rfl,HJ0⟩,HV0⟩
 case round =>
  obtain ⟨hrel,HR⟩:=hrel
  clear HV0 HJ0
  have s0 : wr.cell? ⟨sb,0,none⟩ = some (.slice (some ⟨b,o,none⟩) n c):=by rw [Ab HR.out.1]; rfl
  have n0 : wr.cell? ⟨nb,0,none⟩ = some (.int .i64 65536):=by rw [Ab HR.out.2]; rfl
  rcases hrel with ⟨rfl,hj⟩ | ⟨rfl,hj⟩
  · have d0 : wr.drew.cell? ⟨sb,0,none⟩ = some (.slice (some ⟨b,o,none⟩) n c):=s0
    have d1 : wr.drew.cell? ⟨nb,0,none⟩ = some (.int .i64 65536):=n0
    have hbl : Below wr.heap.size wr wr.drew:=Below.drew (Below.refl _ _)
    have hj1 : J [] wr.drew:=hJ _ _ _ none hj.out (Jo hbl none) (fun r e => by cases e)
    have hyy:=hY [] () _ hj1 (by simp)
    have HPX : Hid ([()] <+: [()]):=List.prefix_refl _
    have ht:=Aam b o n c hc
    have hmn : min (65536 : Int) (n : Int) = (n : Int):=by omega
    have hcc:=Aa0 b o n c hc h0n _ rfl
    clear hj1 hbl
    obtain ⟨fn,tmps,assign,body,hy,hRR⟩:=hyy
    gi_wp2
    gi_region
    gi_wp2
    refine hRR.mono ?_
    rintro e W3 (⟨rfl,hJ3,hk3⟩ | ⟨rfl,hJx3⟩)
    · have HR3 : Hid (W3.heap[sb]? = some (.cells #[.slice (some ⟨b,o,none⟩) n c] 30 (0,0)) /\ W3.heap[nb]? = some (.cells #[.int .i64 65536] 3 (0,0))):=⟨(hk3 sb (.inl rfl)).trans HR.out.1,(hk3 nb (.inr rfl)).trans HR.out.2⟩
      have HJ3 : Hid (J [()] W3):=hJ3
      have e1 : W3.cell? ⟨nb,0,none⟩ = some (.int .i64 65536):=by rw [Ab HR3.out.2]; rfl
      clear hJ3 hk3
      gi_wp2
      exact ⟨⟨.inr ⟨rfl,HJ3⟩,HR3⟩,by simp [intOf]⟩
    · gi_wp2
      refine bodyPost_ret (results_none rfl _ _ _) rfl ?_
      exact ⟨⟨_,rfl⟩,.inr ⟨_,HPX.out,hJx3⟩⟩
  · have hno : ¬ 65536 < n:=by omega
    gi_wp2
    go_end0
    exact ⟨⟨_,rfl⟩,.inl ⟨_,rfl,hj.out⟩⟩
set_option maxRecDepth 100000 in
set_option maxHeartbeats 1000000 in
theorem Abd {w : World} {b o n c : Nat} (hc : n <= c) (h0n : 0 < n) (hmx : n <= 65536) :
 Calls Tryz.prog 140 #[.slice (some ⟨b,o,none⟩) n c,.int .i64 65536] w fun e w' => ∃ g lb,e = .returned (.func (.func g) #[] lb) /\ (∀ args w,(callFunc g args).run Tryz.prog w = .ok (.enter g args) w) /\
  (∀ m,1 <= m -> ∀ w'',A8 (Ec w.heap.size (w.heap.size + 1)) w' w'' -> w'.heap.size <= w''.heap.size -> Vq m g lb (Ec w.heap.size (w.heap.size + 1)) b o n w'') /\ w'.heap.size = w.heap.size + 2 /\ Below w.heap.size w w' /\ w'.heap[w.heap.size]? = some (.cells #[.slice (some ⟨b,o,none⟩) n c] 30 (0,0)) /\ w'.heap[w.heap.size + 1]? = some (.cells #[.int .i64 65536] 3 (0,0)):=by
 have hmf : ∀ (fn : Fn) (first cap : Array Value) (w : World),(Instr.makeFunc fn first cap).run Tryz.prog w = .ok (.func fn first cap) w:=fun _ _ _ _ => rfl
 obtain ⟨W0,hW0⟩ : ∃ W0,(w.alloc (.cells #[.slice (some ⟨b,o,none⟩) n c] 30)).alloc (.cells #[.int .i64 65536] 3) = W0:=⟨_,rfl⟩
 have hs0 : W0.heap.size = w.heap.size + 2:=by rw [<- hW0]; simp
 have hb1 : Below (w.alloc (.cells #[.slice (some ⟨b,o,none⟩) n c] 30)).heap.size (w.alloc (.cells #[.slice (some ⟨b,o,none⟩) n c] 30)) W0:=by rw [<- hW0]; exact (Below.refl _ _).alloc (Nat.le_refl _) _
 have hb0 : Below w.heap.size w W0:=((Below.refl _ w).alloc (Nat.le_refl _) _).trans (hb1.mono (by simp))
 have k0 : W0.heap[w.heap.size]? = some (.cells #[.slice (some ⟨b,o,none⟩) n c] 30 (0,0)):=(hb1.block _ (by simp)).trans (heap_alloc_new _ _)
 have k1 : W0.heap[w.heap.size + 1]? = some (.cells #[.int .i64 65536] 3 (0,0)):=by
  have:=heap_alloc_new (w.alloc (.cells #[.slice (some ⟨b,o,none⟩) n c] 30)) (.cells #[.int .i64 65536] 3)
  rw [hW0,World.size_alloc] at this
  exact this
 have key : ∀ m,1 <= m -> ∀ w'',A8 (Ec w.heap.size (w.heap.size + 1)) W0 w'' -> W0.heap.size <= w''.heap.size -> Vq m 174 #[.pointer (some ⟨w.heap.size,0,none⟩),.pointer (some ⟨w.heap.size + 1,0,none⟩)] (Ec w.heap.size (w.heap.size + 1)) b o n w'':=by
  intro m hm w'' hw hs y J Jx W hW hJ hJx hY h0
  have q0:=(hw w.heap.size (.inl rfl)).trans k0
  have q1:=(hw (w.heap.size + 1) (.inr rfl)).trans k1
  exact Ab7 m hm y w.heap.size (w.heap.size + 1) b o n c J Jx W hJ hY ((hW.block w.heap.size (by omega)).trans q0) ((hW.block (w.heap.size + 1) (by omega)).trans q1) hc h0n hmx h0
 have n0 : W0.cell? ⟨w.heap.size + 1,0,none⟩ = some (.int .i64 65536):=by rw [Ab k1]; rfl
 have HK:=hid key
 have HB:=hid hb0
 have HS:=hid hs0
 have HK0:=hid k0
 have HK1:=hid k1
 clear key hb0 hs0 hb1 k0 k1
 go_enter Tryz.func140,Tryz.ntmps140
 go_wp2
 go_ret
 exact ⟨_,_,rfl,enters_of Tryz.func174 (by kernel_rfl) rfl,HK.out,HS.out,HB.out,HK0.out,HK1.out⟩
theorem Xg {m : Nat} {g : Operand} {pa : Array Tmp} {assign body : Code} {Q : Exit -> Act -> World -> Prop} {a : Act} {w w0 : World} (sx sb : Nat) (h1 : 1 <= m) {gf : Nat} {lb : Array Value} {G : Nat -> Prop} {b o n : Nat}
 (hg : a.eval g = .func (.func gf) #[] lb) (eg : ∀ args w,(callFunc gf args).run Tryz.prog w = .ok (.enter gf args) w)
 (hseq : Vq (m - 1) gf lb G b o n w0) (hb0 : Below w0.heap.size w0 w) (hG : ∀ k,G k -> k < w.heap.size) (hpa : pa.size = 1)
 (I : List Unit -> World -> Prop) (hI : OwnFrom w.heap.size I) (h0 : I [] w)
 (hassign : ∀ (l : Nat) (x : Unit) (W : World) (K : Act -> World -> Prop),K { tmps:=(a.tmps.setIfInBounds sx (.slice (some ⟨b,o,none⟩) n n)).setIfInBounds sb (.slice (some ⟨b,o,none⟩) n n),defers:=[] } W ->
   assign.wpIn (Fence.wide.inRound l) (m - 1 - 1) Tryz.prog (Exit.then K (fun _ _ _ => False)) { tmps:=(pa.zip #[.slice (some ⟨b,o,none⟩) n n]).foldl (fun t (p,v) => t.setIfInBounds p v) a.tmps,defers:=[] } W)
 (hbody : ∀ (l : Nat) (pre : List Unit) (x : Unit) (W : World),I pre W -> pre.length < 1 ->
   body.wpIn (Fence.wide.inRound l) (m - 1 - 1) Tryz.prog (ownPostG w.heap.size (A8 G) I (fun _ _ _ => False) (pre ++ [x]) W) { tmps:=(a.tmps.setIfInBounds sx (.slice (some ⟨b,o,none⟩) n n)).setIfInBounds sb (.slice (some ⟨b,o,none⟩) n n),defers:=[] } W)
 (hend : ∀ (D : Nat) (W : World),w.heap.size <= D -> I ([()]) W -> W.heap[D]? = some (.deferred (some [])) -> Q .normal { a with defers:={ target:=.collected D,args:=#[] } :: a.defers } W) :
 (Code.rangeFunc g pa assign body).wp Tryz.prog Q a w:=by
 refine (wpIn_wide (n:=m)).1 ?_
 refine wpIn_rangeFunc_ownH rfl h1 (gf:=gf) (lb:=lb) hg trivial eg hseq (fun {A B C} => A8.trans) (fun W l o o' hl => A8.put hG W l o o' (by omega)) hb0 (fun _ => hpa.symm) I (fun _ _ _ => False) hI (fun _ _ _ _ _ hs _ _ => hs) h0
  (fun x a' W => a' = { tmps:=(a.tmps.setIfInBounds sx (.slice (some ⟨b,o,none⟩) n n)).setIfInBounds sb (.slice (some ⟨b,o,none⟩) n n),defers:=[] }) ?hAx ?assign ?body ?done ?stop
 case hAx =>
  rintro x a' _ W W' row h hg hr
  exact h
 case assign =>
  intro l pre x W K hi hK
  exact hassign l x W _ (hK _ _ (KeepsFrom.refl _ _) (A8.refl _ _) hi rfl)
 case body =>
  rintro l pre x a' W hl hr hi rfl hlt
  exact hbody l pre x W hi hlt
 case done =>
  rintro D xs W hD rfl hi hK
  exact hend D W hD hi hK
 case stop =>
  rintro D c pre W _ _ h _
  exact h.elim
end
section
open Go.RowKit Go.Shelf Go.Maps Go.WideMaps
attribute [local go_sem] Oper.semAt_some
@[irreducible] def Mw (X : ByteArray) (pre : List Unit) : List UInt8:=if pre = [] then [] else As X.size ++ X.data.toList
theorem Zp (n : Nat) (l : List Aa) (hne : l ≠ []) : I5 n l = As n ++ Mw (C3 l) [()]:=by
 unfold I5 Gd Mw
 rw [if_neg hne,if_neg (by simp)]
set_option maxHeartbeats 4000000 in
set_option maxRecDepth 100000 in
theorem LX {w : World} {a : Option Addr} {c : Nat} {l : List Aa} (n : Nat) (hn : n <= limC) (h : Aj w (.slice a l.length c) l) (hc : l.length <= c) (hok : FP l) :
 Calls Tryz.prog 96 #[.int .i64 (n : Int),.slice a l.length c] w fun e w' => e = .returned (.string ⟨(I5 n l).toArray⟩) /\ Below w.heap.size w w':=by
 have h1 : 1 <= l.length:=List.length_pos_iff.2 hok.ne
 have hfew:=hok.few
 have hsz:=MZ hok
 obtain ⟨hE0,_⟩:=L8 hok
 obtain ⟨b,o,rfl⟩ : ∃ b o,a = some ⟨b,o,none⟩:=by
  obtain ⟨b,o,e,_⟩:=h.at (show 0 < l.length from h1)
  exact ⟨b,o,e⟩
 have HW : Hid (∀ w',Below w.heap.size w w' -> Aj w' (.slice (some ⟨b,o,none⟩) l.length l.length) l):=fun w' hb => by
  obtain ⟨hm,a',c',hv,h2⟩:=h.below hb
  injection hv with e1 e2 e3
  subst e1
  exact ⟨hm,_,_,rfl,h2⟩
 have hrest:=Zp n l hok.ne
 rw [hrest]
 have hnn : n <= 1000000:=hn
 have hpn:=Av (AK (n:=n) (by omega))
 have hpx:=Av (AK (n:=(C3 l).size) (by omega))
 have hB:=fun w' (hb : Below w.heap.size w w') => Xs (HW.out w' hb) (Nat.le_refl _) (by omega)
 rw [hE0] at hB
 obtain ⟨X,hX⟩ : ∃ X,C3 l = X:=⟨_,rfl⟩
 rw [hX] at hB hsz hpx ⊢
 have HBU:=hid hB
 have hP:=fun w => F2 n (AK (by omega)) w
 have hT:=fun w => IZ X (by omega) w
 obtain ⟨PN,ePN⟩ : ∃ A : ByteArray,(⟨(As n).toArray⟩ : ByteArray) = A:=⟨_,rfl⟩
 have dPN : PN.data.toList = As n:=by rw [<- ePN]
 have zPN : PN.size <= 10:=by rw [<- ePN,A0]; exact hpn
 obtain ⟨TX,eTX⟩ : ∃ A : ByteArray,(⟨(As X.size ++ X.data.toList).toArray⟩ : ByteArray) = A:=⟨_,rfl⟩
 have dTX : TX.data.toList = Mw X [()]:=by rw [<- eTX]; unfold Mw; rw [if_neg (by simp)]
 have zTX : TX.size <= 580000010:=by
  have h3 : X.data.toList.length = X.size:=by simp
  rw [<- eTX,A0,List.length_append]; omega
 have ht0 : Mw X [] = []:=by unfold Mw; rfl
 simp only [ePN] at hP
 simp only [eTX] at hT
 have hw0 : IntKind.u64.wrap (n : Int) = (n : Int):=by rw [IntKind.wrap_u64]; omega
 have hbw : b < w.heap.size:=by
  obtain ⟨b',o',e,q,_⟩:=h.at (show 0 < l.length from h1)
  injection e with e
  injection e with e1 _
  subst e1
  exact World.block_lt_of_cell? w ⟨_,_,none⟩ q
 have hne0 : ((l.length : Int) == 0) = false:=beq_false_of_ne (by omega)
 have hne1 : ¬ l.length = 0:=by omega
 have hne2 : ¬ (l.length : Int) = 0:=by omega
 generalize hN : l.length = N at *
 clear hE0 hrest hX hB hok h ePN eTX hpn hpx hN
 refine (callsIn_wide (n:=6)).1 ?_
 refine callsIn_of_wp_marks Tryz.func96 rfl trivial ?_ rfl
 simp only [Tryz.ntmps96,List.size_toArray,List.length_cons,List.length_nil,Nat.reduceAdd,Nat.reduceSub,Array.replicate_succ,Array.replicate_zero,List.push_toArray,List.append_toArray,List.nil_append,List.cons_append]
 refine wpIn_wide.2 ?_
 have k0:=AR.new w
 have bL:=(Below.refl w.heap.size w).alloc (Nat.le_refl _) (.cells #[.pointer none,.slice none 0 0] 182)
 have h6s : (w.alloc (.cells #[.pointer none,.slice none 0 0] 182)).heap.size = w.heap.size + 1:=by simp
 have K0:=hid k0
 have B0:=hid bL
 have H0S:=hid h6s
 clear k0 bL h6s
 go_wp2_with fail
 generalize w.alloc (.cells #[.pointer none,.slice none 0 0] 182) = w0 at *
 refine (hP w0).mono ?_
 rintro e w1 ⟨rfl,b1⟩
 have K1:=hid (K0.out.kept2 b1)
 have B1:=hid (B0.out.trans (b1.mono B0.out.size))
 have hs1:=b1.size
 clear b1 hP K0 B0
 have hs0 : w.heap.size + 1 <= w0.heap.size:=Nat.le_of_eq H0S.out.symm
 go_wp2_with fail
 refine (Cf K1.out PN (by simp; omega) (by omega)).mono ?_
 rintro e w2 ⟨rfl,k2,b2,_⟩
 rw [dPN,List.nil_append] at k2
 have K2:=hid k2
 have B2:=hid (B1.out.trans b2)
 have hs2:=b2.size
 clear k2 b2 K1 B1
 go_wp2_with fail
 refine (Abd hc (by omega) (by omega)).mono ?_
 rintro e wA ⟨g,lb,rfl,eg,hgi,hsA,bA,g0,g1⟩
 have hseq:=hgi 5 (by omega) wA (A8.refl _ _) (Nat.le_refl _)
 have HA1:=hid (K2.out.kept2 bA)
 have HBA:=hid (B2.out.trans (bA.mono (by omega)))
 have HG0:=hid g0
 have HG1:=hid g1
 have HG : ∀ k,Ec w2.heap.size (w2.heap.size + 1) k -> k < wA.heap.size:=fun k hk => by unfold Ec at hk; omega
 clear hgi g0 g1 bA K2
 go_wp2_with fail
 refine Xg (m:=6) 18 6 (by omega) rfl eg hseq (Below.refl _ _) HG rfl
  (fun pre W => AR W w.heap.size w.heap.size (As n ++ Mw X pre) /\ W.heap[w2.heap.size]? = some (.cells #[.slice (some ⟨b,o,none⟩) N c] 30 (0,0)) /\ W.heap[w2.heap.size + 1]? = some (.cells #[.int .i64 65536] 3 (0,0)) /\ Below w.heap.size w W)
  (OwnFrom.and (AR.ownFrom _ _ _ (fun pre => As n ++ Mw X pre)) (OwnFrom.and (Fw _ _ (fun _ => _) (fun _ => rfl)) (OwnFrom.and (Fw _ _ (fun _ => _) (fun _ => rfl)) (ownFrom_below (Nat.le_refl _) (by omega)))))
  ⟨by rw [ht0,List.append_nil]; exact HA1.out,HG0.out,HG1.out,HBA.out⟩
  ?assign ?body ?rest
 case assign =>
  intro l' x W K hK
  gi_wp2
  exact hK
 case body =>
  rintro l' pre x W ⟨t0,g0,g1,hB⟩ hlt
  obtain rfl : pre = []:=List.eq_nil_of_length_eq_zero (by omega)
  rw [ht0,List.append_nil] at t0
  have hbo:=HBU.out W hB
  have hlt0:=t0.lt
  have zpn : (As n).length <= 10:=by rw [<- dPN,Array.length_toList]; exact zPN
  gi_wp2_with fail
  refine ⟨trivial,(CallsIn.inRound l' (callsIn_wide.2 hbo)).mono ?_⟩
  rintro e w8 ⟨rfl,b8⟩
  have T8:=hid (t0.kept2 b8)
  have B8:=hid (hB.trans (b8.mono hB.size))
  have hs8:=b8.size
  gi_wp2_with fail
  refine ⟨trivial,(CallsIn.inRound l' (callsIn_wide.2 (hT _))).mono ?_⟩
  rintro e w9 ⟨rfl,b9⟩
  have T9:=hid (T8.out.kept2 b9)
  have B9:=hid (B8.out.trans (b9.mono B8.out.size))
  have hs9:=b9.size
  gi_wp2_with fail
  refine ⟨trivial,(CallsIn.inRound l' (callsIn_wide.2 (Cf T9.out TX (by omega) (by omega)))).mono ?_⟩
  rintro e w10 ⟨rfl,t10,b10,k10⟩
  have kb:=((BV.of_below b8).trans (BV.of_below b9)).trans k10
  have ko:=kb.others (Nat.le_trans (Nat.le_trans hs8 hs9) b10.size)
  have g0':=kb.cells g0 (by decide) (by decide)
  have g1':=kb.cells g1 (by decide) (by decide)
  have B10:=hid (B9.out.trans (b10.mono (by omega)))
  rw [dTX] at t10
  gi_wp2
  refine ⟨ko.from _,?_,t10,g0',g1',B10.out⟩
  rintro k (rfl | rfl)
  · rw [g0',g0]
  · rw [g1',g1]
 case rest =>
  rintro D W hD ⟨t0,g0,g1,hB⟩ hK
  have hlt0:=t0.lt
  have T0:=hid t0
  have BW:=hid hB
  have HKD:=hid hK
  clear t0 hB hK g0 g1
  go_wp2_with fail
  refine (F6 T0.out (by omega)).mono ?_
  rintro e w12 ⟨rfl,b12,k12⟩
  have B12:=hid (BW.out.trans (b12.mono (by omega)))
  have D12:=hid (k12 _ _ HKD.out (fun _ _ _ h => by cases h))
  clear b12 k12
  go_wp2
  refine ⟨by simp,.inl ⟨_,_,rfl,run_takeDeferred D12.out,?_⟩⟩
  exact ⟨_,results_tmp rfl _ _ _,rfl,B12.out.trans (belowK_b (w:=w) (Nat.le_refl _) _ D _ _ (by omega) D12.out rfl rfl)⟩
theorem Rj {w : World} {a : Option Addr} {c : Nat} (n : Nat) :
 Calls Tryz.prog 96 #[.int .i64 (n : Int),.slice a 0 c] w fun e w' => e = .returned (.string ⟨#[]⟩) /\ w = w':=by
 refine (callsIn_wide (n:=6)).1 ?_
 refine callsIn_of_wp_marks Tryz.func96 rfl trivial ?_ rfl
 simp only [Tryz.ntmps96,List.size_toArray,List.length_cons,List.length_nil,Nat.reduceAdd,Nat.reduceSub,Array.replicate_succ,Array.replicate_zero,List.push_toArray,List.append_toArray,List.nil_append,List.cons_append]
 refine wpIn_wide.2 ?_
 go_wp2
 exact ⟨_,results_tmp rfl _ _ _,rfl,rfl⟩
end
end Go.Proofs.YtnafjlhohbhcoaaGreatDoor
