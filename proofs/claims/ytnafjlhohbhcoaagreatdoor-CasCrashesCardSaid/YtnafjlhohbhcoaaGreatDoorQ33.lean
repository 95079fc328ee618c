/- Parts of the proof. -/
import Derived.Test.YtnafjlhohbhcoaaGreatDoorQ22
import Derived.Deep.RegionWith
namespace Go.Proofs.YtnafjlhohbhcoaaGreatDoor
open Go.Lib (hid)
set_option linter.unusedVariables false
open Go.RowKit
theorem Aa4 (x y : UInt8) : bits .or .u8 (x.toNat : Int) (y.toNat : Int) = ((x ||| y).toNat : Int):=by
 have hx:=UInt8.toNat_lt x
 have hy:=UInt8.toNat_lt y
 rw [u8_or_nat _ _ (by omega) (by omega),UInt8.toNat_or]
set_option maxHeartbeats 1000000 in
set_option maxRecDepth 100000 in
theorem Y3 (a : Option Addr) (c : Nat) (ks : List ByteArray) (w : World) (h : GY w a ks.length (fun i => .string (ks.getD i ByteArray.empty))) (hs : ∀ i,(ks.getD i ByteArray.empty).size <= maxLen) (n : Int) (hn : (Lit.int .i64 n).wf = true) :
 Calls Tryz.prog 210 #[.slice a ks.length c,.int .i64 n] w fun e w' => e = .returned (.tuple #[.string (Oj ks n),.int .i64 (Ru n : Nat)]) /\ Below w.heap.size w w':=by
 have hnb:=bounds_i64 hn
 have hmax:=h.max
 clear hn
 by_cases hr : 1 <= n /\ n <= 8192
 · obtain ⟨m,rfl⟩ : ∃ m : Nat,n = (m : Int):=⟨n.toNat,by omega⟩
   have eS : Oj ks (m : Int) = ⟨(Fa ks m).toArray⟩:=by unfold Oj; rw [if_pos hr]; simp
   have eE : Ru (m : Int) = 0:=by unfold Ru; rw [if_pos hr]
   rw [eS,eE]
   obtain ⟨hr1,hr2⟩:=hr
   have hm8 : m <= 8192:=by omega
   have hm0 : 0 < m:=by omega
   obtain ⟨i0,hi,hz0,hz1,hz2⟩:=info_parts infoU8
   have hmk:=run_make (P:=Tryz.prog) w 55 5 i0 (.int .u8 0) Tryz.underlying55 hi hz0 .i64 .i64 (m : Int) (m : Int) (by omega) (by omega) (by rw [hz2]; omega) (by omega)
   rw [hz1,Int.toNat_natCast,UT] at hmk
   have hB0 : IU (w.alloc (.cells (EU (List.replicate m 0)) 5)) w.heap.size (List.replicate m 0):=heap_alloc_new _ _
   have hb0 : Below w.heap.size w (w.alloc (.cells (EU (List.replicate m 0)) 5)):=(Below.refl _ w).alloc (Nat.le_refl _) _
   have H:=hid h
   have HS:=hid hs
   have HB0:=hid hB0
   have Hb0:=hid hb0
   clear h hs hB0 hb0 eS eE hi hz0 hz1 hz2
   go_enter Tryz.func210,Tryz.ntmps210
   go_wp2
   generalize w.alloc (.cells (EU (List.replicate m 0)) 5) = W0 at *
   go_loopw [21] (fun iv wr => ∃ k : Nat,k <= ks.length /\ iv = .int .i64 (k : Int) /\ Hid (IU wr w.heap.size (Fa (ks.take k) m) /\ Below w.heap.size w wr)) (fun iv _ => ks.length - (intOf iv).toNat)
   case atStart =>
    have e : Fa (ks.take 0) m = List.replicate m 0:=by unfold Fa; rfl
    exact ⟨0,by omega,rfl,by rw [e]; exact HB0.out,Hb0.out⟩
   case round =>
    clear HB0 Hb0
    obtain ⟨k,hk,rfl,HR⟩:=hrel
    by_cases hlt : k < ks.length
    · obtain ⟨b,off,ha,hbl,hc⟩:=H.out.at hlt
      subst ha
      have hck : wr.cell? ⟨b,off + k,none⟩ = some (.string (ks.getD k ByteArray.empty)):=(HR.out.2.cell hbl).trans hc
      have hgd : ks.getD k ByteArray.empty = ks[k]:=by simp [List.getD,hlt]
      have hsz:=HS.out k
      have HN:=hid (Un hlt m)
      have hlen:=Fi (ks.take k) m
      rw [hgd] at hck hsz
      generalize ks[k] = s at *
      generalize Fa (ks.take k) m = L at *
      have hcall:=fun w => Tk s hsz m hm0 hm8 w
      have hfl:=Qj s (n:=m) hm0
      have HST : Hid (∀ q,FF L s (q + 1) = GX (FF L s q) (Ic s m q)):=fun q => by rw [O7,hlen]
      have HSL:=hid (fun q => (Jv L s q).trans hlen)
      have HS4 : Hid (FF L s 4 = RY L s):=rfl
      have HS0 : Hid (FF L s 0 = L):=rfl
      generalize Ic s m = f at *
      clear hc hgd hsz
      go_wp2_with fail
      refine (hcall _).mono ?_
      rintro e w1 ⟨rfl,b1⟩
      have hB1 : IU w1 w.heap.size L:=(b1.block _ (Ad HR.out.1)).trans HR.out.1
      have hlow : w.heap.size + 1 <= w1.heap.size:=by have:=b1.size; have:=Ad HR.out.1; omega
      have hw1 : Below w.heap.size w w1:=HR.out.2.trans (b1.mono (by have:=Ad HR.out.1; omega))
      have HI : Hid (IU w1 w.heap.size L /\ Below w.heap.size w w1):=⟨hB1,hw1⟩
      clear hB1 hw1 b1 hcall HR hck
      go_wp2
      go_loopw [28] (fun iv wr => ∃ q : Nat,q <= 4 /\ iv = .int .i64 (q : Int) /\ Hid (IU wr w.heap.size (FF L s q) /\ Below w.heap.size w wr)) (fun iv _ => 4 - (intOf iv).toNat)
      case atStart => exact ⟨0,by omega,rfl,by rw [HS0.out]; exact HI.out⟩
      case round =>
       clear HI
       obtain ⟨q,hq,rfl,HR⟩:=hrel
       by_cases hlq : q < 4
       · have g1:=HR.out.1
         have c0:=fun w => Oe f hlq w
         have hf:=hfl q
         have hl:=HSL.out q
         have HN2:=hid (HST.out q)
         have HRX:=HR
         generalize FF L s q = L' at *
         generalize f q = K at *
         obtain ⟨j,hj⟩ : ∃ j,K / 8 = j:=⟨_,rfl⟩
         obtain ⟨r,hr⟩ : ∃ r,K % 8 = r:=⟨_,rfl⟩
         have hjl : j < L'.length:=by omega
         have cB : wr.cell? ⟨w.heap.size,j,none⟩ = some (bv L'[j]):=by rw [Ab g1]; exact P0 hjl
         have fB : wr.frozen? ⟨w.heap.size,j,none⟩ = false:=Ag g1 j
         have hB:=Wm hj hr hjl
         have hr8 : r < 8:=by rw [<- hr]; exact Nat.mod_lt _ (by decide)
         have hk32 : K < 4294967296:=by omega
         have hmask:=fun w => ST K hk32 w
         obtain ⟨M,hM⟩ : ∃ M,(1 : UInt8) <<< UInt8.ofNat r = M:=⟨_,rfl⟩
         have hb8 : Yd K = M:=by unfold Yd; rw [hr,hM]
         rw [hb8] at hmask
         rw [hM] at hB
         have hOB:=Aa4 L'[j] M
         obtain ⟨X,hX⟩ : ∃ X,L'[j] ||| M = X:=⟨_,rfl⟩
         rw [hX] at hB hOB
         have HB:=hid hB
         have HOB:=hid hOB
         clear hX hB hOB hM hb8
         have hjm : j < m:=by rw [<- hl]; exact hjl
         have d7 : IntKind.u32.wrap (j : Int) = (j : Int):=Abv j (by omega)
         have d3 : wrap64 (j : Int) = (j : Int):=Ni (Nat.le_of_lt (Nat.lt_of_lt_of_le hjm hm8))
         have d6 : IntKind.i64.wrap (j : Int) = (j : Int):=Rk (Nat.le_of_lt (Nat.lt_of_lt_of_le hjm hm8))
         obtain ⟨d1,d2,d4,d5,hrlt⟩:=ZC hj hr
         have hj1 : (0 : Int) <= (j : Int):=Int.natCast_nonneg _
         have hj2 : (j : Int) < (m : Int):=Int.ofNat_lt.2 hjm
         unfold bv at cB
         clear hj hr hf hl g1 HR
         have HS8:=hid (HRX.out.1.set j X)
         have HSB : Hid (Below w.heap.size w ((wr.setCell ⟨w.heap.size,j,none⟩ (bv X)).drew)):=(HRX.out.2.setCell (p:=⟨w.heap.size,j,none⟩) (Nat.le_refl _) (bv X)).drew
         unfold bv at HS8 HSB
         have hmea : 4 - (intOf (.int .i64 ((q : Int) + 1))).toNat < 4 - (intOf (.int .i64 (q : Int))).toNat:=by simp [intOf]; omega
         go_wp2_with fail
         go_region_with (go_at_call 237; refine (hmask _).mono ?_; rintro e w2 ⟨rfl,rfl⟩)
         all_goals
          rw [HOB.out]
          go_wp2
          go_roundw
          all_goals first
           | exact ⟨q + 1,by omega,by go_num,by rw [HN2.out,HB.out]; exact ⟨HS8.out,HSB.out⟩⟩
           | exact hmea
           | (simp [intOf]; omega)
       · obtain rfl : q = 4:=by omega
         go_wp2
         go_roundw
         case rel => exact ⟨k + 1,by omega,by go_num,by rw [HN.out,<- HS4.out]; exact ⟨HR.out.1,HR.out.2⟩⟩
         case measure => simp [intOf]; omega
    · obtain rfl : k = ks.length:=by omega
      have e : ks.take ks.length = ks:=List.take_length
      rw [e] at HR
      have hlen:=Fi ks m
      obtain ⟨L,hL⟩ : ∃ L,Fa ks m = L:=⟨_,rfl⟩
      have HLL:=hid hL
      rw [hL] at HR hlen
      clear hL
      have hcv:=NS (HR.out.1.own (by rw [hlen]; unfold maxLen; omega))
      rw [hlen] at hcv
      have HE:=hid HR.out.2
      clear HR
      go_wp2
      go_ret2
      exact ⟨by rw [HLL.out]; rfl,HE.out⟩
 · have eS : Oj ks n = ⟨#[]⟩:=by unfold Oj; rw [if_neg hr]
   have eE : Ru n = 1:=by unfold Ru; rw [if_neg hr]
   rw [eS,eE]
   by_cases h2 : n < 1
   · go_enter Tryz.func210,Tryz.ntmps210
     go_wp2
     go_ret2
     exact ⟨rfl,Below.refl _ _⟩
   · have g2 : 8192 < n:=by omega
     go_enter Tryz.func210,Tryz.ntmps210
     go_wp2
     go_ret2
     exact ⟨rfl,Below.refl _ _⟩
end Go.Proofs.YtnafjlhohbhcoaaGreatDoor
