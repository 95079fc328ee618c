/- Parts of the proof. -/
import Derived.Test.YtnafjlhohbhcoaaGreatDoorQ04
import Derived.Deep.QuietTactic
import Derived.BigQuiet
import Derived.Deep.RegionWith
namespace Go.Proofs.YtnafjlhohbhcoaaGreatDoor
open Go.Lib (hid)
set_option linter.unusedVariables false
section
open Go.RowKit
set_option maxHeartbeats 400000 in
set_option maxRecDepth 100000 in
theorem RR (i : Nat) (c : UInt8) (w : World) :
 Calls Tryz.prog 220 #[.int .i64 (i : Int),.int .u8 (c.toNat : Int)] w fun e w' => e = .returned (.bool (Cm i c)) /\ w = w':=by
 by_cases h9 : i = 9
 · subst h9
   go_enter Tryz.func220,Tryz.ntmps220
   go_wp2
   go_ret
   exact ⟨by rw [Jw]; rfl,rfl⟩
 · have h9' : ((i : Int) == 9) = false:=by simp; omega
   by_cases h0 : i = 0
   · subst h0
     go_enter Tryz.func220,Tryz.ntmps220
     go_wp2
     go_ret
     exact ⟨by simp [Cm],rfl⟩
   · have h0' : ((i : Int) == 0) = false:=by simp; omega
     go_enter Tryz.func220,Tryz.ntmps220
     go_wp2
     go_ret
     exact ⟨by rw [Ju h0 h9]; rfl,rfl⟩
set_option maxHeartbeats 400000 in
set_option maxRecDepth 100000 in
theorem VQ (s : ByteArray) (hs : s.size <= maxLen) (w : World) :
 Calls Tryz.prog 193 #[.string s] w fun e w' => AbF s e /\ ∃ n,w' = w.drewN n:=by
 unfold maxLen at hs
 go_enter Tryz.func193,Tryz.ntmps193
 go_wp2
 go_loop [5,6] (fun n i => ∃ (k : Nat) (A : Int),k <= 10 /\ k <= s.size /\ i = .int .i64 (k : Int) /\ n = .int .u64 A /\ TV s k A) (fun _ i => 10 - (intOf i).toNat)
 case atStart => exact ⟨0,0,by omega,by omega,rfl,rfl,SY s⟩
 case round =>
  obtain ⟨k,A,hk,hks,rfl,rfl,hr⟩:=hrel
  by_cases hlt : k < s.size
  · by_cases h10 : k < 10
    · obtain ⟨acc,rfl,hacc⟩:=hr.yes h10
      by_cases h128 : s[k].toNat < 128
      · by_cases hm : Cm k s[k] = true
        · have hor:=Vg (OG hm h10) hacc.1
          have hg:=Aa9 hlt h10 h128 hm hacc.2
          have HO:=hid hor
          have HG:=hid hg
          clear hor hg hacc hr
          go_wp2_with (go_at_call 220; refine (RR _ _ _).mono ?_; rintro e w' ⟨rfl,rfl⟩)
          go_quiet (fail)
          go_wp2
          go_ret3
          exact ⟨.inl ⟨_,_,_,HG.out,Ir _ _,by rw [HO.out]; rfl⟩,_,rfl⟩
        · have hm' : Cm k s[k] = false:=by simpa using hm
          have hg:=Aa2 hlt h10 h128 hm' hacc.2
          have HG:=hid hg
          clear hm hg hacc hr
          go_wp2_with (go_at_call 220; refine (RR _ _ _).mono ?_; rintro e w' ⟨rfl,rfl⟩)
          go_ret3
          exact ⟨.inr ⟨HG.out,rfl⟩,0,rfl⟩
      · have hn:=Y7 hlt h10 h128 hacc.1 hacc.2
        clear hacc hr
        go_wp2
        go_round
        case rel => exact ⟨k + 1,_,by omega,by omega,by go_num,rfl,hn⟩
        case measure => simp [intOf]; omega
    · have HG:=hid (hr.no h10)
      clear hr
      go_wp2
      go_ret3
      exact ⟨.inr ⟨HG.out,rfl⟩,0,rfl⟩
  · by_cases h10 : k < 10
    · obtain ⟨acc,rfl,hacc⟩:=hr.yes h10
      have HG:=hid (AaD hlt h10 hacc.2)
      clear hr hacc
      go_wp2
      go_ret3
      exact ⟨.inr ⟨HG.out,rfl⟩,0,rfl⟩
    · have HG:=hid (hr.no h10)
      clear hr
      go_wp2
      go_ret3
      exact ⟨.inr ⟨HG.out,rfl⟩,0,rfl⟩
end
section
open Go.RowKit
theorem WD {c : Nat} (h : U32 c) : bits .xor .u32 ((c : Int) / 2) (bits .and .u32 3988292384 (-bits .and .u32 (c : Int) 1 % 4294967296)) = (Rn c : Nat):=by
 have hc:=h.out
 have e1 : bits .and .u32 (c : Int) 1 = ((c % 2 : Nat) : Int):=by
  have:=u32_and_nat c 1 hc (by omega)
  rw [Nat.and_one_is_mod] at this
  exact this
 have e2 : ((c : Int) / 2) = ((c / 2 : Nat) : Int):=by simp
 rw [e1,e2]
 unfold Rn
 by_cases h1 : c % 2 = 1
 · rw [if_pos h1,h1,show bits .and .u32 3988292384 (-((1 : Nat) : Int) % 4294967296) = ((3988292384 : Nat) : Int) from by decide,u32_xor_nat _ _ (by omega) (by omega)]
 · rw [if_neg h1,show c % 2 = 0 by omega,show bits .and .u32 3988292384 (-((0 : Nat) : Int) % 4294967296) = ((0 : Nat) : Int) from by decide,u32_xor_nat _ _ (by omega) (by omega),Nat.xor_zero]
set_option maxHeartbeats 400000 in
set_option maxRecDepth 100000 in
theorem Xo (c : Nat) (h : U32 c) (w : World) :
 Calls Tryz.prog 240 #[.int .u32 (c : Int)] w fun e w' => e = .returned (.int .u32 (stepsC 8 c : Nat)) /\ w = w':=by
 go_enter Tryz.func240,Tryz.ntmps240
 go_wp2
 go_loop [0,3] (fun c' i => ∃ (k : Nat),k <= 8 /\ i = .int .i64 (k : Int) /\ c' = .int .u32 (stepsC k c : Nat)) (fun _ i => 8 - (intOf i).toNat)
 case atStart => exact ⟨0,by omega,rfl,rfl⟩
 case round =>
  obtain ⟨k,hk,rfl,rfl⟩:=hrel
  by_cases hlt : k < 8
  · have hs:=hid (WD (LS k h))
    have hb:=(LS k h).out
    go_wp2
    go_round
    case rel => exact ⟨k + 1,by omega,by go_num,by rw [hs.out]; rfl⟩
    case measure => simp [intOf]; omega
  · obtain rfl : k = 8:=by omega
    go_wp2
    go_ret
    exact ⟨rfl,rfl⟩
theorem not32 {c : Nat} (h : U32 c) : bits .xor .u32 IntKind.u32.max (c : Int) = ((4294967295 - c : Nat) : Int):=by
 have hc:=h.out
 show IntKind.u32.wrap ((BitVec.ofInt 32 IntKind.u32.max ^^^ BitVec.ofInt 32 (c : Int)).toNat : Int) = _
 rw [show BitVec.ofInt 32 IntKind.u32.max = BitVec.allOnes 32 from by decide,BitVec.allOnes_xor,BitVec.toNat_not,ofInt_u32 c hc,IntKind.wrap_u32]
 omega
theorem Ye (s : ByteArray) : s.data.toList.take s.size = s.data.toList:=List.take_of_length_le (by simp)
theorem Aaz (s : ByteArray) : bits .xor .u32 IntKind.u32.max (OS (s.data.toList.take s.size) : Int) = (MQ s.data.toList : Nat):=by
 rw [Ye]; exact not32 (V2 _)
set_option maxHeartbeats 400000 in
set_option maxRecDepth 100000 in
theorem AaB (s : ByteArray) (hs : s.size <= maxLen) (w : World) :
 Calls Tryz.prog 222 #[.string s] w fun e w' => e = .returned (.int .u32 (MQ s.data.toList : Nat)) /\ w = w':=by
 unfold maxLen at hs
 have h32:=V2
 go_enter Tryz.func222,Tryz.ntmps222
 go_wp2
 go_loop [3,7] (fun c i => ∃ (k : Nat),k <= s.size /\ i = .int .i64 (k : Int) /\ c = .int .u32 (OS (s.data.toList.take k) : Nat)) (fun _ i => s.size - (intOf i).toNat)
 case atStart => exact ⟨0,by omega,rfl,rfl⟩
 case round =>
  obtain ⟨k,hk,rfl,rfl⟩:=hrel
  by_cases hlt : k < s.size
  · have hx:=hid (Wp (l:=s.data.toList) (k:=k) (by simpa using hlt))
    have hb:=hid (h32 (s.data.toList.take k))
    have hc:=UInt8.toNat_lt s[k]
    have he : bits .xor .u32 (OS (s.data.toList.take k) : Int) (s[k].toNat : Int) = ((OS (s.data.toList.take k) ^^^ s[k].toNat : Nat) : Int):=u32_xor_nat _ _ hb.out.out (by omega)
    have hu : U32 (OS (s.data.toList.take k) ^^^ s[k].toNat):=Aac hb.out.out (by omega)
    go_wp2_with fail
    refine (Xo _ hu _).mono ?_
    rintro e w' ⟨rfl,rfl⟩
    go_wp2
    go_round
    case rel => exact ⟨k + 1,by omega,by go_num,by rw [hx.out]; rfl⟩
    case measure => simp [intOf]; omega
  · obtain rfl : k = s.size:=by omega
    have hn:=hid (Aaz s)
    go_wp2
    go_ret
    exact ⟨by rw [<- hn.out]; rfl,rfl⟩
end
section
open Go.RowKit
theorem Ym (s : ByteArray) : (⟨(Gv (MQ s.data.toList)).toArray⟩ : ByteArray).extract 4 8 = ⟨(Ei s.data.toList).toArray⟩:=by
 apply ByteArray.ext
 apply Array.toList_inj.1
 rw [Lib.extract_data]
 show ((Gv (MQ s.data.toList)).drop 4).take 4 = Ei s.data.toList
 rw [Vs,List.take_of_length_le (by rw [Gq]; omega)]
set_option maxHeartbeats 400000 in
set_option maxRecDepth 100000 in
theorem Ja (s : ByteArray) (hs : s.size <= maxLen) (w : World) :
 Calls Tryz.prog 194 #[.string s] w fun e w' => e = .returned (.string ⟨(Ei s.data.toList).toArray⟩) /\ Below w.heap.size w w':=by
 have hx:=hid (Ym s)
 have hw : IntKind.u64.wrap (MQ s.data.toList : Int) = (MQ s.data.toList : Nat):=by
  have:=(VI s.data.toList).out
  exact IntWalk.u64_in _ ⟨by omega,by omega⟩
 have hl:=In (MQ s.data.toList)
 have h64:=(VI s.data.toList).u64
 go_enter Tryz.func194,Tryz.ntmps194
 go_wp2_with fail
 refine (AaB _ hs _).mono ?_
 rintro e w' ⟨rfl,rfl⟩
 go_wp2_with fail
 refine (Xn _ h64 _).mono ?_
 rintro e w1 ⟨rfl,hb1⟩
 go_wp2
 go_ret
 exact ⟨by rw [<- hx.out]; rfl,hb1⟩
theorem XI (s : ByteArray) : (⟨(As s.size).toArray⟩ ++ ⟨(Ei s.data.toList).toArray⟩ ++ s : ByteArray) = ⟨(Ai s.data.toList).toArray⟩:=by
 apply ByteArray.ext
 apply Array.toList_inj.1
 simp [Ai]
set_option maxHeartbeats 400000 in
set_option maxRecDepth 100000 in
theorem NC (s : ByteArray) (hs : s.size <= 1048576) (w : World) :
 Calls Tryz.prog 168 #[.string s] w fun e w' => e = .returned (.tuple #[.string ⟨(Ai s.data.toList).toArray⟩,.int .i64 0]) /\ Below w.heap.size w w':=by
 have hx:=hid (XI s)
 have hl:=Av (Ia hs)
 have h4:=Gq s.data.toList
 have h64:=Ia hs
 go_enter Tryz.func168,Tryz.ntmps168
 go_wp2_with fail
 refine (F2 _ h64 _).mono ?_
 rintro e w1 ⟨rfl,hb1⟩
 go_wp2_with fail
 refine (Ja _ (by unfold maxLen; omega) _).mono ?_
 rintro e w2 ⟨rfl,hb2⟩
 go_wp2
 go_ret2
 exact ⟨by rw [<- hx.out]; rfl,A4 hb1 (Nat.le_refl _) hb2⟩
set_option maxHeartbeats 400000 in
set_option maxRecDepth 100000 in
theorem WO (s : ByteArray) (hs : ¬ s.size <= 1048576) (w : World) :
 Calls Tryz.prog 168 #[.string s] w fun e w' => e = .returned (.tuple #[.string ⟨#[]⟩,.int .i64 2]) /\ w = w':=by
 go_enter Tryz.func168,Tryz.ntmps168
 go_wp2
 go_ret2
 exact ⟨rfl,rfl⟩
def Kj (l : List UInt8) (k : Nat) : Bool:=(l.take k).all fun c => decide (128 <= c.toNat)
theorem Tf {l : List UInt8} {k : Nat} (h : k < l.length) : Kj l (k + 1) = (Kj l k && decide (128 <= l[k].toNat)):=by
 unfold Kj
 rw [List.take_succ_eq_append_getElem h,List.all_append]
 simp
theorem Up {l : List UInt8} (h : l.length < 10) : Dv l = Kj l l.length:=by
 unfold Dv Kj
 rw [List.take_length,decide_eq_true h,Bool.true_and]
theorem UO {l : List UInt8} (h : ¬ l.length < 10) : Dv l = false:=by
 unfold Dv
 rw [decide_eq_false h,Bool.false_and]
theorem Wj {l : List UInt8} {k : Nat} (h : k < l.length) (hc : l[k].toNat < 128) : Dv l = false:=Pk (List.getElem_mem h) hc
set_option maxHeartbeats 400000 in
set_option maxRecDepth 100000 in
theorem VO (s : ByteArray) (hs : s.size <= maxLen) (w : World) :
 Calls Tryz.prog 192 #[.string s] w fun e w' => e = .returned (.bool (Dv s.data.toList)) /\ w = w':=by
 unfold maxLen at hs
 have hlen : s.data.toList.length = s.size:=by simp
 by_cases h10 : s.size < 10
 · have hc:=hid (Up (l:=s.data.toList) (by omega))
   clear hlen
   go_enter Tryz.func192,Tryz.ntmps192
   go_wp2
   go_loop [9] (fun i => ∃ (k : Nat),k <= s.size /\ i = .int .i64 (k : Int) /\ Hid (Kj s.data.toList k = true)) (fun i => s.size - (intOf i).toNat)
   case atStart => exact ⟨0,by omega,rfl,rfl⟩
   case round =>
    obtain ⟨k,hk,rfl,hh⟩:=hrel
    by_cases hlt : k < s.size
    · by_cases h128 : s[k].toNat < 128
      · have hf:=hid (Wj (l:=s.data.toList) (k:=k) (by simpa using hlt) h128)
        go_wp2
        go_ret
        exact ⟨by rw [hf.out]; rfl,rfl⟩
      · have hn : Hid (Kj s.data.toList (k + 1) = true):=by
          show _ = _
          rw [Tf (by simpa using hlt),hh.out,Bool.true_and]
          exact decide_eq_true (by show 128 <= s[k].toNat; omega)
        go_wp2
        go_round
        case rel => exact ⟨k + 1,by omega,by go_num,hn⟩
        case measure => simp [intOf]; omega
    · obtain rfl : k = s.size:=by omega
      have hf : Hid (Dv s.data.toList = true):=by
       show _ = _
       rw [hc.out,Array.length_toList]; exact hh.out
      go_wp2
      go_ret
      exact ⟨by rw [hf.out]; rfl,rfl⟩
 · have hf:=hid (UO (l:=s.data.toList) (by omega))
   clear hlen
   go_enter Tryz.func192,Tryz.ntmps192
   go_wp2
   go_ret
   exact ⟨by rw [hf.out]; rfl,rfl⟩
end
section
open Go.RowKit
def QF (s : ByteArray) (e : Ending) : Prop:=
 (∃ a r : ByteArray,BJ s.data.toList = (0,a.data.toList,r.data.toList) /\ e = .returned (.tuple #[.string a,.string r,.int .i64 0])) \/
 (∃ k : Nat,(k = 20 \/ k = 21) /\ BJ s.data.toList = (k,[],[]) /\ e = .returned (.tuple #[.string ⟨#[]⟩,.string ⟨#[]⟩,.int .i64 (k : Int)]))
theorem IQ {s : ByteArray} {k : Nat} (hk : k = 20 \/ k = 21) (h : BJ s.data.toList = (k,[],[])) : QF s (.returned (.tuple #[.string ⟨#[]⟩,.string ⟨#[]⟩,.int .i64 (k : Int)])):=.inr ⟨k,hk,h,rfl⟩
theorem Sc (t : ByteArray) (i j : Nat) : (t.extract i j).data.toList = (t.data.toList.take j).drop i:=by
 rw [Lib.extract_data,List.drop_take]
set_option maxHeartbeats 1000000 in
set_option maxRecDepth 100000 in
theorem Kv (s : ByteArray) (hs : s.size <= 140737488355328) (w : World) :
 Calls Tryz.prog 149 #[.string s] w fun e w' => QF s e /\ Below w.heap.size w w':=by
 by_cases hc : Dv s.data.toList = true
 · have H:=IQ (.inl rfl) (Hr hc)
   go_enter Tryz.func149,Tryz.ntmps149
   go_wp2_with fail
   refine (VO _ (by unfold maxLen; omega) _).mono ?_
   rintro e w' ⟨rfl,rfl⟩
   go_wp2
   go_ret3
   exact ⟨H,Below.refl _ _⟩
 · have hc : Dv s.data.toList = false:=by simpa using hc
   have HC:=hid hc
   go_enter Tryz.func149,Tryz.ntmps149
   go_wp2_with fail
   refine (VO _ (by unfold maxLen; omega) _).mono ?_
   rintro e w' ⟨rfl,rfl⟩
   go_wp2_with fail
   refine (VQ _ (by unfold maxLen; omega) _).mono ?_
   rintro e w1 ⟨he,nq,rfl⟩
   have hb1 : Below w.heap.size w (w.drewN nq):=below_drewN (Below.refl _ w) nq
   rcases he with ⟨n,k,t,hg,ht,rfl⟩ | ⟨hg,rfl⟩
   · have hts:=congrArg List.length ht
     have hk:=Nr hg
     rw [List.length_drop] at hts
     simp only [Array.length_toList] at hts hk
     by_cases hn : 1048576 < n
     · have H:=IQ (.inr rfl) (ID hc hg hn)
       clear hc hg ht hts hk
       have hd : decide ((1048576 : Int) < (n : Int)) = true:=by simp; omega
       go_wp2
       go_ret3
       exact ⟨H,hb1⟩
     · have hd : decide ((1048576 : Int) < (n : Int)) = false:=by simp; omega
       have hw : IntKind.i64.wrap (n : Int) = (n : Int):=IntWalk.i64_in _ ⟨by omega,by omega⟩
       have e1 : s.data.size = s.size:=rfl
       have e2 : t.data.size = t.size:=rfl
       by_cases hl : t.size < 4 + n
       · have H:=IQ (.inl rfl) (GJ hc hg hn (by rw [Array.length_toList]; omega))
         clear hc hg ht hts hk
         go_wp2
         go_ret3
         exact ⟨H,hb1⟩
       · have hct : (t.extract 4 (4 + n)).data.toList = ((s.data.toList.drop k).take (4 + n)).drop 4:=by rw [Sc,ht]
         have hcs : (t.extract 4 (4 + n)).size <= 140737488355328:=by
          have:=congrArg List.length hct
          simp only [Array.length_toList,List.length_drop,List.length_take] at this
          show (t.extract 4 (4 + n)).data.size <= _
          omega
         have h4 : (t.extract 0 4).data.toList = (s.data.toList.drop k).take 4:=by rw [Sc,ht]; simp
         have hnl : ¬ s.data.toList.length - k < 4 + n:=by rw [Array.length_toList]; omega
         have q1 : ((4 : Int) + (n : Int)).toNat = 4 + n:=by omega
         have q2 : (0 : Int) <= 4 + (n : Int):=by omega
         have q3 : (4 : Int) + (n : Int) <= (t.size : Int):=by omega
         have q4 : 4 + n <= t.size:=by omega
         have q5 : (4 : Int) <= 4 + (n : Int):=by omega
         have q6 : 4 <= 4 + n:=by omega
         have q7 : 4 <= t.size:=by omega
         have q8 : (4 : Int) <= (t.size : Int):=by omega
         have hsp : Ei (List.take n (List.drop 4 t.data.toList)) = Ei (((s.data.toList.drop k).take (4 + n)).drop 4):=by
          rw [ht,List.drop_take]; congr 2; omega
         by_cases hsum : (s.data.toList.drop k).take 4 = Ei (((s.data.toList.drop k).take (4 + n)).drop 4)
         · have HN : QF s (.returned (.tuple #[.string (t.extract 4 (4 + n)),.string (t.extract (4 + n) t.size),.int .i64 0])):=by
             refine .inl ⟨_,_,?_,rfl⟩
             rw [Lb hc hg hn hnl hsum,hct,Ir,ht]
           have hcmp : ((t.extract 0 4).toList == Ei (List.take n (List.drop 4 t.data.toList))) = true:=by
            rw [Lib.toList_data,h4,hsp,hsum]; exact beq_self_eq_true _
           clear hc hg ht hts hk hsum h4 hct hnl hsp
           go_wp2_with fail
           go_region_with (go_at_call 194; refine (Ja _ (by unfold maxLen; omega) _).mono ?_; rintro e w2 ⟨rfl,hb2⟩)
           all_goals go_wp2
           all_goals go_quiet (fail)
           all_goals go_wp2
           all_goals go_ret3
           all_goals exact ⟨HN,below_drewN ((below_drewN (Below.refl _ w) _).trans hb2) _⟩
         · have HN:=IQ (.inr rfl) (I9 hc hg hn hnl hsum)
           have hcmp : ((t.extract 0 4).toList == Ei (List.take n (List.drop 4 t.data.toList))) = false:=by
            rw [Lib.toList_data,h4,hsp]; simpa using hsum
           clear hc hg ht hts hk hsum h4 hct hnl hsp
           go_wp2_with fail
           go_region_with (go_at_call 194; refine (Ja _ (by unfold maxLen; omega) _).mono ?_; rintro e w2 ⟨rfl,hb2⟩)
           all_goals go_wp2
           all_goals go_ret3
           all_goals exact ⟨HN,(below_drewN (Below.refl _ w) _).trans hb2⟩
   · have H:=IQ (.inr rfl) (Ke hc hg)
     clear hc hg
     go_wp2
     go_ret3
     exact ⟨H,hb1⟩
end
section
open Go.RowKit
end
section
open Go.RowKit
end
section
open Go.RowKit
set_option maxHeartbeats 400000 in
set_option maxRecDepth 100000 in
theorem IZ (s : ByteArray) (hs : s.size <= 140737488355328) (w : World) :
 Calls Tryz.prog 126 #[.string s] w fun e w' => e = .returned (.string ⟨(As s.size ++ s.data.toList).toArray⟩) /\ Below w.heap.size w w':=by
 have hl:=Av (n:=s.size) (by show _ < _; omega)
 go_enter Tryz.func126,Tryz.ntmps126
 go_wp2_with (go_at_call 124; refine (F2 _ (by show _ < _; omega) _).mono ?_; rintro e w' ⟨rfl,hb⟩)
 go_ret
 refine ⟨?_,hb⟩
 rw [Le]
 rfl
end
section
open Go.RowKit
end
section
open Go.RowKit
end
section
open Go.RowKit
end
section
open Go.RowKit
set_option maxHeartbeats 400000 in
set_option maxRecDepth 100000 in
theorem Ge {w : World} {b : Nat} {R : Option (List UInt8)} (h : RDE w b R) :
 Calls Tryz.prog 109 #[.pointer (some ⟨b,0,none⟩)] w fun e w' => e = .returned (.bool R.isNone) /\ w = w':=by
 obtain ⟨s,⟨ht,h0,h1,f0,f1,hz⟩⟩:=h
 go_enter Tryz.func109,Tryz.ntmps109
 go_wp2
 go_ret
 exact ⟨rfl,rfl⟩
set_option maxHeartbeats 400000 in
set_option maxRecDepth 100000 in
theorem Hg {w : World} {b : Nat} {R : Option (List UInt8)} (h : RDE w b R) :
 Calls Tryz.prog 150 #[.pointer (some ⟨b,0,none⟩)] w fun e w' => e = .returned (.tuple #[]) /\ RDE w' b none /\ w.grownBy w' (some b):=by
 obtain ⟨s,h⟩:=h
 have hr:=hid (Abe h)
 obtain ⟨ht,h0,h1,f0,f1,hz⟩:=h
 go_enter Tryz.func150,Tryz.ntmps150
 go_wp2
 go_end0
 exact ⟨rfl,hr.out,TP w b⟩
set_option maxHeartbeats 400000 in
set_option maxRecDepth 100000 in
theorem Iu {w : World} {b : Nat} {R : Option (List UInt8)} (h : RDE w b R) :
 Calls Tryz.prog 110 #[.pointer (some ⟨b,0,none⟩)] w fun e w' => e = .returned (.bool (Fs R)) /\ w = w':=by
 have hb:=Ge h
 obtain ⟨s,⟨ht,h0,h1,f0,f1,hz⟩⟩:=h
 cases R with
 | none =>
   go_enter Tryz.func110,Tryz.ntmps110
   go_wp2_with fail
   refine hb.mono ?_
   rintro e w' ⟨rfl,rfl⟩
   go_wp2
   go_ret
   exact ⟨rfl,rfl⟩
 | some l =>
   have he:=WE s l ht
   go_enter Tryz.func110,Tryz.ntmps110
   go_wp2_with fail
   refine hb.mono ?_
   rintro e w' ⟨rfl,rfl⟩
   go_wp2
   go_ret
   exact ⟨by rw [he]; rfl,rfl⟩
set_option maxHeartbeats 400000 in
set_option maxRecDepth 100000 in
theorem Vf {w : World} {b : Nat} {R : Option (List UInt8)} (h : RDE w b R) (most : Nat) (hm : U64 most) :
 Calls Tryz.prog 151 #[.pointer (some ⟨b,0,none⟩),.int .u64 (most : Int)] w fun e w' => e = .returned (.int .u64 ((Gn most R).1 : Int)) /\ EH w w' b (Gn most R).2:=by
 have hbad:=Ge h
 have hE:=hid h
 obtain ⟨s,hR⟩:=h
 have HR:=hid hR
 obtain ⟨ht,h0,h1,f0,f1,hz⟩:=hR
 cases R with
 | none =>
   go_enter Tryz.func151,Tryz.ntmps151
   go_wp2_with fail
   refine hbad.mono ?_
   rintro e w' ⟨rfl,rfl⟩
   go_wp2
   go_ret
   exact ⟨rfl,hE.out,DR _ _⟩
 | some l =>
   clear ht
   go_enter Tryz.func151,Tryz.ntmps151
   go_wp2_with fail
   refine hbad.mono ?_
   rintro e w' ⟨rfl,rfl⟩
   go_wp2_with fail
   refine (VQ _ (by unfold maxLen; omega) _).mono ?_
   rintro e w2 ⟨he,nq,rfl⟩
   have ht : s.data.toList = l:=HR.out.text
   rcases he with ⟨n,k,t,hg,htt,rfl⟩ | ⟨hg,rfl⟩
   · rw [ht] at hg htt
     by_cases hn : n <= most
     · have HS:=hid (Oz hg hn)
       have HT:=hid (YG (HR.out.drewN nq) htt (PJ ht htt))
       clear hg ht htt
       go_wp2
       go_ret
       exact ⟨by rw [HS.out]; rfl,by rw [HS.out]; exact HT.out,CJ (GS (DR w _) nq) (FC _ ⟨b,0,none⟩ _)⟩
     · have HS:=hid (Vd hg hn)
       clear hg ht htt
       go_wp2_with fail
       refine (Hg (hE.out.drewN nq)).mono ?_
       rintro e w3 ⟨rfl,hb3,hg3⟩
       go_wp2
       go_ret
       exact ⟨by rw [HS.out]; rfl,by rw [HS.out]; exact hb3,CJ (GS (DR w _) nq) hg3⟩
   · rw [ht] at hg
     have HS:=hid (NA (most:=most) hg)
     clear hg ht
     go_wp2_with fail
     refine (Hg (hE.out.drewN nq)).mono ?_
     rintro e w3 ⟨rfl,hb3,hg3⟩
     go_wp2
     go_ret
     exact ⟨by rw [HS.out]; rfl,by rw [HS.out]; exact hb3,CJ (GS (DR w _) nq) hg3⟩
set_option maxHeartbeats 400000 in
set_option maxRecDepth 100000 in
theorem Gb {w : World} {b : Nat} {R : Option (List UInt8)} (h : RDE w b R) (most : Int) (hm : most <= 9223372036854775807) :
 Calls Tryz.prog 108 #[.pointer (some ⟨b,0,none⟩),.int .i64 most] w fun e w' => e = .returned (.int .i64 ((CI most R).1 : Int)) /\ EH w w' b (CI most R).2:=by
 by_cases h0 : most < 0
 · have HS:=hid (Y4 R h0)
   go_enter Tryz.func108,Tryz.ntmps108
   go_wp2_with fail
   refine (Hg h).mono ?_
   rintro e w3 ⟨rfl,hb3,hg3⟩
   go_wp2
   go_ret
   exact ⟨by rw [HS.out]; rfl,by rw [HS.out]; exact hb3,hg3⟩
 · obtain ⟨m,rfl⟩:=Int.eq_ofNat_of_zero_le (by omega : 0 <= most)
   have HS:=hid (Gk R m)
   have hq:=MB m R
   have hq2 : (((Gn m R).1 : Nat) : Int) <= 9223372036854775807:=by omega
   clear hq
   go_enter Tryz.func108,Tryz.ntmps108
   go_wp2_with fail
   refine (Vf h m (by unfold U64; omega)).mono ?_
   rintro e w3 ⟨rfl,hl⟩
   go_wp2
   go_ret
   exact ⟨by rw [HS.out]; rfl,by rw [HS.out]; exact hl⟩
def tv (l : List UInt8) : Value:=.string ⟨l.toArray⟩
set_option maxHeartbeats 400000 in
set_option maxRecDepth 100000 in
theorem Kw {w : World} {b : Nat} {R : Option (List UInt8)} (h : RDE w b R) (n : Int) (hn : n <= 9223372036854775807) :
 Calls Tryz.prog 118 #[.pointer (some ⟨b,0,none⟩),.int .i64 n] w fun e w' => e = .returned (tv (CW n R).1) /\ EH w w' b (CW n R).2:=by
 have hbad:=Ge h
 have hE:=hid h
 obtain ⟨s,hR⟩:=h
 have HR:=hid hR
 obtain ⟨ht,h0,h1,f0,f1,hz⟩:=hR
 cases R with
 | none =>
   go_enter Tryz.func118,Tryz.ntmps118
   go_wp2_with fail
   refine hbad.mono ?_
   rintro e w' ⟨rfl,rfl⟩
   go_wp2
   go_ret
   exact ⟨rfl,hE.out,DR _ _⟩
 | some l =>
   have ht' : s.data.toList = l:=ht
   have hl:=VL ht'
   by_cases hneg : n < 0
   · have HS:=hid (Wi (l:=l) hneg)
     clear ht ht' hl
     go_enter Tryz.func118,Tryz.ntmps118
     go_wp2_with fail
     refine hbad.mono ?_
     rintro e w' ⟨rfl,rfl⟩
     go_wp2_with fail
     refine (Hg hE.out).mono ?_
     rintro e w3 ⟨rfl,hb3,hg3⟩
     go_wp2
     go_ret
     exact ⟨by rw [HS.out]; rfl,by rw [HS.out]; exact hb3,hg3⟩
   · obtain ⟨m,rfl⟩:=Int.eq_ofNat_of_zero_le (by omega : 0 <= n)
     by_cases hmore : s.size < m
     · have HS:=hid (JL (l:=l) (n:=(m : Int)) (by omega))
       clear ht ht' hl
       go_enter Tryz.func118,Tryz.ntmps118
       go_wp2_with fail
       refine hbad.mono ?_
       rintro e w' ⟨rfl,rfl⟩
       go_wp2_with fail
       refine (Hg hE.out).mono ?_
       rintro e w3 ⟨rfl,hb3,hg3⟩
       go_wp2
       go_ret
       exact ⟨by rw [HS.out]; rfl,by rw [HS.out]; exact hb3,hg3⟩
     · have HS:=hid (IW (l:=l) (n:=m) (by omega))
       have HX:=hid (Q5 ht' m)
       have hxd : (s.extract m s.size).data.toList = l.drop m:=by rw [Ir,ht']
       have HT:=hid (YG HR.out hxd (PJ ht' hxd))
       clear ht ht' hl hxd
       go_enter Tryz.func118,Tryz.ntmps118
       go_wp2_with fail
       refine hbad.mono ?_
       rintro e w' ⟨rfl,rfl⟩
       go_wp2
       go_ret
       exact ⟨by rw [HS.out]; show _ = Ending.returned (.string _); rw [<- HX.out]; rfl,by rw [HS.out]; exact HT.out,FC _ ⟨b,0,none⟩ _⟩
set_option maxHeartbeats 400000 in
set_option maxRecDepth 100000 in
theorem Io {w : World} {b : Nat} {R : Option (List UInt8)} (h : RDE w b R) :
 Calls Tryz.prog 111 #[.pointer (some ⟨b,0,none⟩)] w fun e w' => e = .returned (tv (textS R).1) /\ EH w w' b (textS R).2:=by
 have hbad:=Ge h
 have hE:=hid h
 obtain ⟨s,hR⟩:=h
 obtain ⟨ht,h0,h1,f0,f1,hz⟩:=hR
 cases R with
 | none =>
   go_enter Tryz.func111,Tryz.ntmps111
   go_wp2_with fail
   refine hbad.mono ?_
   rintro e w' ⟨rfl,rfl⟩
   go_wp2
   go_ret
   exact ⟨rfl,hE.out,DR _ _⟩
 | some l =>
   have hl:=VL (show s.data.toList = l from ht)
   have HS:=hid (Pa l)
   have HL:=hid hl
   clear ht hl
   go_enter Tryz.func111,Tryz.ntmps111
   go_wp2_with fail
   refine hbad.mono ?_
   rintro e w' ⟨rfl,rfl⟩
   go_wp2_with fail
   rw [HL.out] at HS
   refine (Gb hE.out _ (by omega)).mono ?_
   rintro e w1 ⟨rfl,hl1⟩
   have hq:=MB s.size (some l)
   rw [<- Gk] at hq
   go_wp2_with fail
   refine (Kw hl1.1 _ (by omega)).mono ?_
   rintro e w2 ⟨rfl,hl2⟩
   go_wp2
   go_ret
   exact ⟨by rw [HS.out]; rfl,by rw [HS.out]; exact hl1.trans hl2⟩
end
section
open Go.RowKit
end
section
open Go.RowKit
set_option maxHeartbeats 400000 in
set_option maxRecDepth 100000 in
theorem IK (s : ByteArray) (hs : s.size <= 140737488351232) (w : World) :
 Calls Tryz.prog 107 #[.string s] w fun e w' => e = .returned (.pointer (some ⟨w.heap.size,0,none⟩)) /\ RDE w' w.heap.size (some s.data.toList) /\ Below w.heap.size w w':=by
 go_enter Tryz.func107,Tryz.ntmps107
 go_wp2
 go_ret
 exact ⟨rfl,⟨s,rfl,World.cell?_alloc_new _ _ _ _,World.cell?_alloc_new _ _ _ _,World.frozen?_alloc_at _ _ _ _ rfl,World.frozen?_alloc_at _ _ _ _ rfl,hs⟩,(Below.refl _ _).alloc (Nat.le_refl _) _⟩
end
end Go.Proofs.YtnafjlhohbhcoaaGreatDoor
