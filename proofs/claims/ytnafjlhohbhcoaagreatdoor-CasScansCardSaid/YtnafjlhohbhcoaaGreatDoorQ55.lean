/- Parts of the proof. -/
import Derived.Test.YtnafjlhohbhcoaaGreatDoorQ41
namespace Go.Proofs.YtnafjlhohbhcoaaGreatDoor
open Go.Lib (hid)
set_option linter.unusedVariables false
open Go.RowKit Go.Maps Go.WideMaps
theorem XP {f : Aa -> Bool} {m : List Aa} {i : Nat} (h : i < m.length) (hf : f m[i] = true) : ∃ h2 : ((m.take i).filter f).length < (m.filter f).length,(m.filter f)[((m.take i).filter f).length] = m[i] /\ ((m.take (i + 1)).filter f).length = ((m.take i).filter f).length + 1:=by
 have e : m.filter f = (m.take i).filter f ++ m[i] :: (m.drop (i + 1)).filter f:=by
  conv => lhs; rw [<- List.take_append_drop i m,List.filter_append,List.drop_eq_getElem_cons h,List.filter_cons_of_pos hf]
 refine ⟨by rw [e,List.length_append,List.length_cons]; omega,by simp [e],?_⟩
 rw [List.take_succ_eq_append_getElem h,List.filter_append,List.length_append,List.filter_cons_of_pos hf]
 rfl
theorem Uv {f : Aa -> Bool} {m : List Aa} {i : Nat} (h : i < m.length) (hf : f m[i] = false) : ((m.take (i + 1)).filter f).length = ((m.take i).filter f).length:=by
 rw [List.take_succ_eq_append_getElem h,List.filter_append,List.length_append,List.filter_cons_of_neg (by simp [hf])]
 rfl
theorem ZD (k p : ByteArray) (h : p.size <= k.size) : ((k.extract 0 p.size).toList == p.toList) = Lib.hasPrefix k.data.toList p.data.toList:=by
 have e : (k.extract 0 p.size).toList = k.data.toList.take p.data.toList.length:=by rw [ByteArray.toList_eq,IB]; simp
 rw [e,ByteArray.toList_eq]
 unfold Lib.hasPrefix
 rw [Bool.eq_iff_iff]
 simp only [beq_iff_eq,List.isPrefixOf_iff_prefix,List.prefix_iff_eq_take]
 exact ⟨fun h => h.symm,fun h => h.symm⟩
theorem W7 (k p : ByteArray) (h : k.size < p.size) : Lib.hasPrefix k.data.toList p.data.toList = false:=by
 unfold Lib.hasPrefix
 cases hb : p.data.toList.isPrefixOf k.data.toList with
 | false => rfl
 | true =>
   have:=(List.isPrefixOf_iff_prefix.1 hb).length_le
   rw [IB,IB] at this
   omega
section
variable {E : Nat -> World -> Prop} {St : World -> Nat -> Nat -> Cv -> (Nat -> Prop) -> Prop} {Op : Bx -> List Aa -> Nat -> Prop} (K : Is E St Op)
include K
set_option maxHeartbeats 8000000 in
set_option maxRecDepth 100000 in
theorem Qe {w : World} (hE : E w.heap.size w) (a0 : Option Addr) (c0 : Nat) (l : List Aa) (pre : ByteArray) (hl : Aj w (.slice a0 l.length c0) l) (hp : pre.size <= 140737488351232) :
 Calls Tryz.prog 7 #[.slice a0 l.length c0,.string pre] w fun e w' => e = .returned (.bool true) /\ Below w.heap.size w w':=by
 have haw:=E9 K hE
 have HL:=hid hl
 clear hl
 go_enter Tryz.func7,Tryz.ntmps7
 go_wp2_with fail
 refine haw.mono ?_
 rintro e w1 ⟨rfl,B1⟩
 have E1:=K.e_below hE B1
 clear haw
 go_wp2_with fail
 refine (GN w1).mono ?_
 rintro e w2 ⟨p,rfl,hp0,hbx,b2⟩
 have hop:=DM K (Gr K E1 B1 hbx (fun k hk => hk.1) b2) (by decide) (by decide)
 clear hbx b2 hp0
 go_wp2_with fail
 refine hop.mono ?_
 rintro e w3 ⟨c,d,s0,rfl,-,h3,em,en,ef⟩
 have hdo:=Gc K h3 ef (cs:=[]) (Ht _) Qb (HL.out.below h3.a.bel) (EO HL.out) (by unfold limN; omega) (by decide)
 clear hop em E1 B1 hE
 go_wp2_with fail
 refine hdo.mono ?_
 rintro e w4 ⟨rfl,-,s4,h4,-,en4,-⟩
 have hn : s4.map.length <= 1000:=by have:=(K.good h4.a.st).2.2.1; omega
 have hs1:=IV K h4 ⟨#[]⟩ ⟨#[]⟩ 1000 (by decide) (by decide) (by decide)
 rw [Lq hn] at hs1
 clear hdo h3 en en4 ef
 generalize doC s0.map [] l = q at *
 go_wp2_with fail
 refine hs1.mono ?_
 rintro e w5 ⟨r1,rfl,hr1,-,h5⟩
 have hs2:=IV K h5 pre ⟨#[]⟩ 1000 (by decide) hp (by decide)
 rw [P3 hn] at hs2
 obtain ⟨ra,rc,rfl⟩:=An hr1
 have HR1:=hid hr1
 have HZ5:=hid h5.a.bel.size
 clear hs1 h4 h5 hr1
 go_wp2_with fail
 refine hs2.mono ?_
 rintro e w6 ⟨r2,rfl,hr2,t6,h6⟩
 obtain ⟨rb,rd,rfl⟩:=An hr2
 have R1:=hid (Aj.own (Au (t6.row HR1.out (fun k hk g => g.2 (.inr hk))) (Nat.zero_le _)))
 have R2:=hid (Aj.own hr2)
 have HB:=hid h6.a.bel
 clear t6 h6 hs2 hr2 HR1
 have hmx : s4.map.length <= 9223372036854775807:=by omega
 have hfl:=List.length_filter_le (KR pre) s4.map
 have hfx : (s4.map.filter (KR pre)).length <= 9223372036854775807:=by omega
 clear hfl
 generalize s4.map = M at *
 have hlk : ∀ i,((M.take i).filter (KR pre)).length <= 1000:=fun i => by
  have h1:=List.length_filter_le (KR pre) (M.take i)
  rw [List.length_take] at h1
  omega
 have HLK:=hid hlk
 clear hlk
 go_wp2
 go_loopw [10,38] (fun nv iv wr => ∃ (i n : Nat),i <= M.length /\ nv = .int .i64 (n : Int) /\ iv = .int .i64 (i : Int) /\ Hid (n = ((M.take i).filter (KR pre)).length /\ Below w6.heap.size w6 wr)) (fun _ iv _ => M.length - (intOf iv).toNat)
 case atStart => exact ⟨0,0,Nat.zero_le _,rfl,rfl,rfl,Below.refl _ _⟩
 case round =>
  obtain ⟨i,n,hil,rfl,rfl,HI⟩:=hrel
  have hnk : n <= 1000:=by have:=HLK.out i; have:=HI.out.1; omega
  by_cases hlt : i < M.length
  · have hmes : M.length - (intOf (.int .i64 ((i : Int) + 1))).toNat < M.length - (intOf (.int .i64 (i : Int))).toNat:=by simp [intOf]; omega
    obtain ⟨b1,o1,rfl,q0,q1,q2⟩:=(R1.out.below HI.out.2).at hlt
    have HAT:=hid (fun hf => XP (f:=KR pre) hlt hf)
    have HOF:=hid (fun hf => Uv (f:=KR pre) hlt hf)
    have hbl : Below wr.heap.size wr (wr.alloc (.cells #[.string M[i].key,.string M[i].val,.bool M[i].gone] 57)):=(Below.refl _ wr).alloc (Nat.le_refl _) _
    have hpx : AF (wr.alloc (.cells #[.string M[i].key,.string M[i].val,.bool M[i].gone] 57)) wr.heap.size M[i]:=AF.new wr M[i]
    generalize hX : M[i] = x at *
    obtain ⟨xk,xv,xg⟩:=x
    obtain ⟨y0,y1,y2⟩ : _ /\ _ /\ _:=⟨hpx.c0,hpx.c1,hpx.c2⟩
    simp only at q0 q1 q2 y0 y1 y2
    have HBL:=hid (HI.out.2.trans (hbl.mono HI.out.2.size))
    clear hpx
    by_cases hz : pre.size <= xk.size
    · have hzi : (pre.size : Int) <= (xk.size : Int):=by omega
      have hbt:=ZD xk pre hz
      cases hb : Lib.hasPrefix xk.data.toList pre.data.toList with
      | true =>
        rw [hb] at hbt
        obtain ⟨hn2,hg2,hk2⟩:=HAT.out hb
        have HK2:=hid hk2
        rw [<- HI.out.1] at hn2
        obtain ⟨b2,o2,rfl,p0,p1,p2⟩:=(R2.out.below HBL.out).at hn2
        have hg3 : (M.filter (KR pre))[n] = ⟨xk,xv,xg⟩:=by rw [<- hg2]; congr 1; exact HI.out.1
        rw [hg3] at p0 p1 p2
        simp only at p0 p1 p2
        have hni : (n : Int) < ((M.filter (KR pre)).length : Int):=by omega
        clear hg2 hg3 hk2 HAT HOF hbl hb
        go_wp2
        go_quiet (fail)
        go_wp2
        go_roundw
        case rel => exact ⟨i + 1,n + 1,by omega,by go_num,by go_num,by rw [HK2.out,HI.out.1],below_drewN HBL.out _⟩
        case measure => exact hmes
      | false =>
        rw [hb] at hbt
        have HK2:=hid (HOF.out hb)
        clear HAT HOF hbl hb
        go_wp2
        go_roundw
        case rel => exact ⟨i + 1,n,by omega,by go_num,by go_num,by rw [HK2.out,HI.out.1],HBL.out⟩
        case measure => exact hmes
    · have hzi : ¬ (pre.size : Int) <= (xk.size : Int):=by omega
      have HK2:=hid (HOF.out (W7 xk pre (by omega)))
      clear HAT HOF hbl hz
      go_wp2
      go_roundw
      case rel => exact ⟨i + 1,n,by omega,by go_num,by go_num,by rw [HK2.out,HI.out.1],HBL.out⟩
      case measure => exact hmes
  · obtain rfl : i = M.length:=by omega
    have hne : n = (M.filter (KR pre)).length:=by have:=HI.out.1; rwa [List.take_length] at this
    subst hne
    have HB2:=hid (HB.out.trans (HI.out.2.mono HB.out.size))
    go_wp2
    go_ret
    exact ⟨rfl,HB2.out⟩
end
end Go.Proofs.YtnafjlhohbhcoaaGreatDoor
