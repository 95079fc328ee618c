/- Parts of the proof. -/
import Derived.Test.YtlkefgngefpkiaaGreatDoorQ48
import Derived.Test.YtlkefgngefpkiaaGreatDoorQ18
import Derived.Test.YtlkefgngefpkiaaGreatDoorQ23
import Derived.Maps.RangeWalk
namespace Go.Proofs.YtlkefgngefpkiaaGreatDoor
set_option linter.unusedVariables false
open Go.RowKit Go.Maps Go.WideMaps Go.Shelf Go.Sort
theorem Pp {m : List Aa} {k : Int} (h : (m.length : Int) <= k) : AZ m ⟨#[]⟩ ⟨#[]⟩ k = m:=by
 unfold AZ
 rw [List.filter_eq_self.2 (fun x _ => ?_),List.take_of_length_le (by omega)]
 unfold inM
 rw [MM]
 rfl
theorem Ms {H : Type} {P : Program} {k : TypeId} {R : Value -> Option (DataW H × List MemPlace)} {w w' : World} {b r n : Nat} {D : DataW H} {left : Lit -> Bool} {cnt : Nat} (h : w.ranges P k R b r n D left cnt) {G : Nat -> Prop} (t : Ac G w w') (hb : ¬ G b) (hr : ¬ G r) : w'.ranges P k R b r n D left cnt:=by
 have h1:=h.owns.lt
 have h2:=h.lt
 obtain ⟨es,clock,since,seen,c0,hb',F,hs,hD,hr',rest⟩:=h
 exact ⟨es,clock,since,seen,c0,(t.block b h1 hb).trans hb',F,hs,hD,(t.block r h2 hr).trans hr',rest⟩
theorem Sl {M ps : List Aa} (hr : Aj M) (hl : YD M) (hf : Az ps) {x : Aa} (hx : CG x.key (AQ ps []) = some x) : G4 x.key (AS M ps) = (x.val,!x.gone):=by
 have hfM : Az M:=fun y hy => (hl y hy).1
 have g1 : BP [M]:=BP.mk hr hfM (fun _ h => by cases h)
 have g2 : BP (AQ ps [] :: [M]):=BP.mk (overP_rising ps List.Pairwise.nil) (Iv ps (fun _ h => by cases h)) g1
 have e0 : CK [] [M] = M:=by
  rw [O0 g1,CN,allP_nil,J0 hr hfM]
  unfold BF
  exact List.filter_eq_self.2 fun y hy => by rw [(hl y hy).2]; rfl
 have e1:=map_write ps (mem:=[]) (runs:=[M]) List.Pairwise.nil (fun _ h => by cases h) g1 hf
 rw [e0] at e1
 rw [<- e1]
 unfold CK
 rw [VB g2]
 unfold GS
 rw [hx]
 rfl
theorem WO {v : Value} {y : DU × List MemPlace} (h : IR v = some y) : ∃ c : Aa,v = c.val':=by
 unfold IR at h
 split at h
 · rename_i a b c
   exact ⟨⟨a,b,c⟩,rfl⟩
 · cases h
theorem Ww {ps : List Aa} (hf : Az ps) {i : Nat} (hi : i < ps.length) : AQ (ps.take (i + 1)) [] = Cn ps[i] (AQ (ps.take i) []):=by
 rw [List.take_succ_eq_append_getElem hi]
 unfold AQ
 rw [List.foldl_append]
 exact if_pos (hf _ (List.getElem_mem hi))
section
variable {E : Nat -> World -> Prop} {St : World -> Nat -> Nat -> Dd -> (Nat -> Prop) -> Prop} {Op : Bx -> List Aa -> Nat -> Prop} (K : Kf E St Op)
include K
set_option maxHeartbeats 16000000 in
set_option maxRecDepth 100000 in
theorem OH {w : World} (hE : E w.heap.size w) (a0 : Option Addr) (c0 : Nat) (l0 : List Aa) (a1 : Option Addr) (c1 : Nat) (l1 : List Aa) (hR0 : Ao w (.slice a0 l0.length c0) l0) (hR1 : Ao w (.slice a1 l1.length c1) l1) :
 Calls Tryz.prog 5 #[.slice a0 l0.length c0,.slice a1 l1.length c1] w fun e w' => e = .returned (.bool true) /\ Below w.heap.size w w':=by
 have haw:=Es K hE
 have HR0:=Lib.hid hR0
 have HR1:=Lib.hid hR1
 have hl1m : l1.length <= 9223372036854775807:=by have:=hR1.1; unfold maxLen at this; omega
 have hmm:=@run_makeMap Tryz.prog
 clear hR0 hR1
 go_enter Tryz.func5,Tryz.ntmps5
 go_wp2_with fail
 refine haw.mono ?_
 rintro e w1 ⟨rfl,B1⟩
 have E1:=K.e_turn hE (Ac.of_below (fun _ => False) B1) (fun _ h => h.elim)
 clear haw hE
 go_wp2_with fail
 refine (Ge w1).mono ?_
 rintro e w2 ⟨p,rfl,hp,hbx,b2⟩
 have hs1:=B1.size
 have hop:=Gf K (B:=w.heap.size) (w0:=w) (X:=fun _ => False) (K.e_below E1 b2) (B1.trans (b2.mono hs1)) (hbx.mono fun k hk => ⟨by omega,fun h => h⟩) (fun k hk => hk.elim) rfl (by decide) (K.empty (S:=Bx.new) (fun x hx => by cases hx) rfl (by decide) List.Pairwise.nil) (by decide)
 clear hbx E1 b2 B1 hs1 hp
 go_wp2_with fail
 refine hop.mono ?_
 rintro e w3 ⟨d,s0,rfl,u3,-,em,en,-,-⟩
 have hw0:=Hi K u3 (HR0.out.below u3.bel) (fun g o e hl => .inr (KY HR0.out e hl)) (by rw [en]; decide)
 clear hop u3 em
 go_wp2_with fail
 refine hw0.mono ?_
 rintro e w4 ⟨rfl,-,s1,u4,-,n4,-,-⟩
 have g4:=(K.good u4.st).2.2.1
 have hsc:=GQ K u4 ⟨#[]⟩ ⟨#[]⟩ 1000 (by decide) (by decide)
 rw [Pp (by omega)] at hsc
 clear hw0 u4
 go_wp2_with fail
 refine hsc.mono ?_
 rintro e w5 ⟨r1,rfl,hr1,-,u5⟩
 obtain ⟨ra,rc,rfl⟩:=Ar hr1
 have hg5:=K.good u5.st
 have HG5:=Lib.hid (And.intro hg5.1 hg5.2.1)
 have hw1:=Hi K u5 (HR1.out.below u5.bel) (fun g o e hl => .inr (KY HR1.out e hl)) (by unfold limN; omega)
 have HR5:=Lib.hid (Ax hr1 (Nat.zero_le _))
 clear hsc u5 hr1 hg5
 go_wp2_with fail
 refine hw1.mono ?_
 rintro e w6 ⟨rfl,t6,s2,u6,m6,n6,-,-⟩
 have HR6:=Lib.hid (t6.row HR5.out (fun k hk h => h.2 (.inr hk)))
 have g6:=(K.good u6.st).2.2.1
 have hsc:=GQ K u6 ⟨#[]⟩ ⟨#[]⟩ 1000 (by decide) (by decide)
 rw [Pp (by omega)] at hsc
 have HM6:=Lib.hid m6
 have HCZ : Hid (A4 l1 = 0 -> Az l1):=fun h => (GH h).2.2
 clear hw1 t6 u6 m6 HR5
 generalize A4 l1 = cn at *
 go_wp2_with fail
 refine hsc.mono ?_
 rintro e w7 ⟨r2,rfl,hr2,t7,u7⟩
 obtain ⟨rb,rd,rfl⟩:=Ar hr2
 by_cases hz : cn = 0
 · subst hz
   have HF:=Lib.hid (HCZ.out rfl)
   have hm6:=HM6.out
   rw [if_pos rfl] at hm6
   have HMM:=Lib.hid hm6
   have b8 : Below w7.heap.size w7 (w7.alloc (.map #[] 0)):=(Below.refl _ w7).alloc (Nat.le_refl _) _
   have HU0 : Hid (∃ X,Ups E St w.heap.size w X (w7.alloc (.map #[] 0)) d p s2 /\ (X w7.heap.size /\ w.heap.size <= w7.heap.size) /\ I5 (w7.alloc (.map #[] 0)) w7.heap.size 0 (AQ (l1.take 0) [])):=⟨_,u7.laid K b8,⟨.inr ⟨Nat.le_refl _,by simp⟩,u7.bel.size⟩,I5.made w7⟩
   clear hsc t7 u7 hr2 b8 HR6 HM6 HCZ hm6
   go_wp2
   generalize w7.heap.size = mb at *
   go_loopw [54] (fun iv wr => ∃ i : Nat,i <= l1.length /\ iv = .int .i64 (i : Int) /\ Hid (∃ X,Ups E St w.heap.size w X wr d p s2 /\ (X mb /\ w.heap.size <= mb) /\ I5 wr mb i (AQ (l1.take i) []))) (fun iv _ => l1.length - (intOf iv).toNat)
   case atStart => exact ⟨0,Nat.zero_le _,rfl,HU0.out⟩
   case round =>
    clear HU0 hmm
    obtain ⟨i,hil,rfl,HI⟩:=hrel
    by_cases hlt : i < l1.length
    · obtain ⟨X,hu,hx,hm⟩:=HI.out
      obtain ⟨gb,o,rfl,q0,q1,q2⟩:=(HR1.out.below hu.bel).at hlt
      have HPO:=Lib.hid (Ww HF.out hlt)
      have hfx:=HF.out _ (List.getElem_mem hlt)
      have hks:=((BV _).1 hfx).2.1
      have hmes : l1.length - (intOf (.int .i64 ((i : Int) + 1))).toNat < l1.length - (intOf (.int .i64 (i : Int))).toNat:=by simp [intOf]; omega
      generalize l1[i] = Y at *
      obtain ⟨yk,yv,yg⟩:=Y
      simp only at q0 q1 q2 hks
      have hbl : Below wr.heap.size wr (wr.alloc (.cells #[.string yk,.string yv,.bool yg] 61)):=(Below.refl _ wr).alloc (Nat.le_refl _) _
      have hpb : AN (wr.alloc (.cells #[.string yk,.string yv,.bool yg] 61)) wr.heap.size ⟨yk,yv,yg⟩:=AN.new wr ⟨yk,yv,yg⟩
      have l0:=hpb.c0
      have l1':=hpb.c1
      have l2:=hpb.c2
      simp only at l0 l1' l2
      have hu4:=hu.laid K hbl
      have hm4:=hm.kept (Ac.of_below (fun _ => False) hbl) (fun h => h)
      obtain ⟨w5,hrun,hm5,hg5⟩:=hm4.put ⟨yk,yv,yg⟩ (by unfold maxLen; show yk.size <= _; omega) (by unfold maxLen; omega)
      have hu5:=hu4.grown K hg5 (fun k hk => by injection hk with hk; subst hk; exact ⟨.inl hx.1,hx.2⟩)
      rw [<- HPO.out] at hm5
      have HG : Hid (∃ X,Ups E St w.heap.size w X w5 d p s2 /\ (X mb /\ w.heap.size <= mb) /\ I5 w5 mb (i + 1) (AQ (l1.take (i + 1)) [])):=⟨_,hu5,⟨.inl (.inl hx.1),hx.2⟩,hm5⟩
      unfold Aa.val' at hrun
      simp only at hrun
      clear hu hx hm HI hu4 hm4 hu5 hm5 hg5 hbl hpb hfx hks HPO
      go_wp2
      go_roundw
      case rel => exact ⟨i + 1,by omega,by go_num,HG⟩
      case measure => exact hmes
    · obtain rfl : i = l1.length:=by omega
      rw [List.take_length] at HI
      obtain ⟨X,hu,hx,hm⟩:=HI.out
      have hrs : Aj (AQ l1 []):=overP_rising l1 List.Pairwise.nil
      obtain ⟨_,D,h1,h2,h3⟩:=hm
      have HX:=Lib.hid hx
      have HU:=Lib.hid hu
      have H3 : Hid (∀ s : ByteArray,D.atKey (.string s.data.toList) (JI zeroP) = JI ((CG s (AQ l1 [])).getD zeroP) /\ Maps.has D (.string s.data.toList) = (CG s (AQ l1 [])).isSome):=h3
      have HRS:=Lib.hid hrs
      clear HI hu hx hrs h2 h3
      go_wp2_with (first | (at_range; refine wpList_range_own _ rfl _ 59 rfl 9 61 (string_keyed Tryz.underlying9) Tryz.underlying59 IR mb l1.length D rfl h1 ?_; intro w8 hrg0 hg0 hs0))
      have HST : Hid (∃ X left cnt,Ups E St w.heap.size w X w8 d p s2 /\ (X mb /\ X wr.heap.size /\ w.heap.size <= wr.heap.size) /\ w8.ranges Tryz.prog 9 IR mb wr.heap.size l1.length D left cnt /\ ∀ kl,left kl = true -> Maps.has D kl = true):=by
       have hu8:=HU.out.laid K ((Below.refl _ _).grown hg0 (Nat.le_refl _) (fun k hk => by cases hk))
       exact ⟨_,_,_,hu8,⟨.inl HX.out.1,.inr ⟨Nat.le_refl _,by omega⟩,HU.out.bel.size⟩,hrg0,fun kl h => h⟩
      clear h1 hrg0 hg0 hs0 HU
      go_frame
      generalize wr.heap.size = rb at *
      go_loopw [14] (fun _ wr => Hid (∃ X left cnt,Ups E St w.heap.size w X wr d p s2 /\ (X mb /\ X rb /\ w.heap.size <= rb) /\ wr.ranges Tryz.prog 9 IR mb rb l1.length D left cnt /\ ∀ kl,left kl = true -> Maps.has D kl = true)) (fun _ wr => wr.rangeLeft mb rb)
      case atStart => exact HST
      case round =>
       obtain ⟨X,left,cnt,hu,hx,hrg,hle⟩:=hrel.out
       go_wp2_with (first | (at_next; refine wpList_next_ranges _ rfl _ rfl 9 (string_keyed Tryz.underlying9) IR encStr (fun c : Aa => c.val') (fun key kl hk => by obtain ⟨x,hx,_⟩:=Maps.keyOf_str Tryz.underlying9 hk; exact ⟨x,hx⟩) (fun v y hv => WO hv) mb rb l1.length D left cnt rfl hrg ?nx1 ?nx2))
       case nx1 =>
        intro _ _
        have HB:=Lib.hid hu.bel
        clear hu hrg hle hrel HST
        go_wp2
        go_ret
        exact ⟨rfl,HB.out⟩
       case nx2 =>
        intro x c kl yd yp w9 cnt9 hkey hlk hv hat hrg9 hlt9 hg9 hs9 hen
        obtain ⟨x',ex,rfl,hxz⟩:=Maps.keyOf_str Tryz.underlying9 hkey
        obtain rfl : x = x':=encStr_inj ex
        obtain ⟨XS,hXS⟩ : ∃ XS : ByteArray,(⟨x.toArray⟩ : ByteArray) = XS:=⟨_,rfl⟩
        have hXd : XS.data.toList = x:=by rw [<- hXS]
        have h3:=H3.out XS
        rw [hXd] at h3
        have hsome:=hle _ hlk
        rw [h3.2] at hsome
        obtain ⟨z,hz⟩:=Option.isSome_iff_exists.1 hsome
        rw [hz] at h3
        have hyd:=(hat (JI zeroP)).symm.trans h3.1
        simp only [Option.getD_some] at hyd
        subst hyd
        have hcz:=Xs hv
        have hzk:=((BO HRS.out XS z).1 hz).2
        rw [<- hzk] at hz
        have hvw:=Sl HG5.out.1 HG5.out.2 HF.out hz
        rw [hzk,<- HMM.out] at hvw
        have hen' : (Instr.entry (.pointer (some ⟨rb,0,none⟩))).run Tryz.prog w9 = .ok (.tuple #[.string XS,z.val']) w9:=by
         rw [hen,hcz,<- hXS]
        have hu9:=hu.grown K hg9 (fun k hk => by injection hk with hk; subst hk; exact ⟨hx.2.1,hx.2.2⟩)
        obtain ⟨zk,zv,zg⟩:=z
        unfold Aa.val' at hen'
        simp only at hen' hvw
        have hb10 : Below w9.heap.size w9 (w9.alloc (.cells #[.string zk,.string zv,.bool zg] 61)):=(Below.refl _ w9).alloc (Nat.le_refl _) _
        have hpb : AN (w9.alloc (.cells #[.string zk,.string zv,.bool zg] 61)) w9.heap.size ⟨zk,zv,zg⟩:=AN.new w9 ⟨zk,zv,zg⟩
        have hu10:=hu9.laid K hb10
        have hgt:=Qm K hu10 XS
        rw [hvw] at hgt
        have hrg10:=Ms hrg9 (Ac.of_below (fun _ => False) hb10) (fun h => h) (fun h => h)
        have HPB:=Lib.hid hpb
        have HRG:=Lib.hid hrg10
        have HCT:=Lib.hid hlt9
        have HLE:=Lib.hid hle
        have HXX:=Lib.hid hx
        have HGT:=Lib.hid hgt
        have HL0:=Lib.hid hrg.left_eq
        clear hu hrg hle hrel HST hx hkey hlk hv hat hrg9 hg9 hs9 hen ex hXS hXd h3 hsome hz hcz hzk hvw hu9 hb10 hpb hu10 hgt hrg10 hlt9 hxz
        go_wp2_with fail
        refine HGT.out.mono ?_
        rintro e w11 ⟨rfl,t11,u11⟩
        have hp11:=(t11.block _ (Ad HPB.out) (fun h => h.2 (.inr ⟨Nat.le_refl _,by simp⟩))).trans HPB.out
        have y1 : w11.cell? ⟨w9.heap.size,1,none⟩ = some (.string zv):=(Ab hp11 1).trans rfl
        have y2 : w11.cell? ⟨w9.heap.size,2,none⟩ = some (.bool zg):=(Ab hp11 2).trans rfl
        have hr11:=Ms HRG.out t11 (fun h => h.2 (.inl (.inl HXX.out.1))) (fun h => h.2 (.inl (.inl HXX.out.2.1)))
        have HG : Hid (∃ X left cnt,Ups E St w.heap.size w X w11 d p s2 /\ (X mb /\ X rb /\ w.heap.size <= rb) /\ w11.ranges Tryz.prog 9 IR mb rb l1.length D left cnt /\ ∀ kl,left kl = true -> Maps.has D kl = true):=⟨_,_,_,u11,⟨.inl (.inl HXX.out.1),.inl (.inl HXX.out.2.1),HXX.out.2.2⟩,hr11,fun kl h => HLE.out kl (by revert h; cases left kl <;> simp)⟩
        have HM : Hid (w11.rangeLeft mb rb < wr.rangeLeft mb rb):=by
         show _ < _
         rw [hr11.left_eq,HL0.out]
         exact HCT.out
        clear t11 u11 hp11 hr11 HGT HPB HRG HLE HXX HL0 HCT
        cases zg <;>
        · go_wp2
          go_roundw
          case rel => exact HG
          case measure => exact HM.out
 · have hzi : ((cn : Int) == 0) = false:=by rw [beq_eq_false_iff_ne]; omega
   have hm6:=HM6.out
   rw [if_neg hz] at hm6
   have hr7:=t7.row HR6.out (fun k hk h => h.2 (.inr hk))
   rw [hm6] at hr2
   have hsm:=Gg (Ao.own hr7) (Ao.own hr2)
   have hss : EX s1.map s1.map = true:=by unfold EX; simp
   rw [hss] at hsm
   have HSM:=Lib.hid hsm
   have hml : s2.map.length = s1.map.length:=by rw [hm6]
   have HB:=Lib.hid u7.bel
   rw [hml]
   clear hsc t7 u7 hr2 hr7 hsm hss HR6 HM6 hm6
   go_wp2_with fail
   refine HSM.out.mono ?_
   rintro e w8 ⟨rfl,n8,rfl⟩
   have HB8:=Lib.hid (below_drewN HB.out n8)
   go_wp2
   go_ret
   exact ⟨rfl,HB8.out⟩
end
end Go.Proofs.YtlkefgngefpkiaaGreatDoor
