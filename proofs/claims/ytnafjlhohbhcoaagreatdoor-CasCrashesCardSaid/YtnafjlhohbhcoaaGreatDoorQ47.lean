/- Parts of the proof. -/
import Derived.Test.YtnafjlhohbhcoaaGreatDoorQ46
import Derived.Deep.RegionLaw
namespace Go.Proofs.YtnafjlhohbhcoaaGreatDoor
open Go.Lib (hid)
set_option linter.unusedVariables false
section
open Go.RowKit Go.Maps Go.WideMaps Go.Shelf
theorem JO {st : AQ} (h : AV st) (hne : st.mem ≠ []) (hs : Bk (st.mem :: st.runs) <= 65536) : FP (AJ st.mem st.runs).1 /\ ((AJ st.mem st.runs).2 = st.runs \/ (AJ st.mem st.runs).2 = []) /\ (AJ st.mem st.runs).2.length <= 2 /\ (AJ st.mem st.runs).2.length <= st.runs.length /\ ∀ r ∈ (AJ st.mem st.runs).2,FP r:=by
 have h3:=h.few
 unfold AJ
 split
 · refine ⟨⟨Qg h.good (by simp) hne,F7 _,GZ _,Nat.le_trans (IT _) hs⟩,.inr rfl,by simp,by simp,by simp⟩
 · rename_i hc
   refine ⟨⟨hne,h.rising,h.fine,?_⟩,.inl rfl,?_,Nat.le_refl _,h.runs⟩
   · unfold Bk at hs
     simp only [List.map_cons,List.sum_cons] at hs
     show st.mem.length <= _
     omega
   · show st.runs.length <= 2
     omega
theorem K7 {st : AQ} (h : AV st) (h2 : 2 <= st.runs.length) (hs : Bk (st.mem :: st.runs) <= 65536) : FP (AB st.runs):=by
 unfold AB
 rw [if_neg (by omega)]
 have hne : st.runs ≠ []:=fun e => by rw [e] at h2; simp at h2
 obtain ⟨l,hl⟩:=List.exists_mem_of_ne_nil _ hne
 refine ⟨Qg h.goodR hl (h.runs l hl).ne,F7 _,GZ _,Nat.le_trans (IT _) ?_⟩
 unfold Bk at *
 simp only [List.map_cons,List.sum_cons] at hs
 omega
def AQ.flushed (st : AQ) : AQ:=⟨st.newest + 1,(AJ st.mem st.runs).1 :: (AJ st.mem st.runs).2,[],st.last + 1,0⟩
theorem AV.flushed {st : AQ} (h : AV st) (hne : st.mem ≠ []) (hs : Bk (st.mem :: st.runs) <= 65536) : AV st.flushed:=by
 obtain ⟨h1,h2,h3,h4,h5⟩:=JO h hne hs
 have hn:=h.newest
 refine ⟨List.Pairwise.nil,(fun _ h => by cases h),fun r hr => ?_,?_,?_⟩
 · rcases List.mem_cons.1 hr with rfl | hr
   · exact h1
   · exact h5 r hr
 · show ((AJ st.mem st.runs).1 :: (AJ st.mem st.runs).2).length <= 3
   rw [List.length_cons]; omega
 · show ((AJ st.mem st.runs).1 :: (AJ st.mem st.runs).2).length <= st.newest + 1
   rw [List.length_cons]; omega
theorem AQ.flushed_map {st : AQ} (h : AV st) : st.flushed.map = st.map:=Tu h.good
theorem Gs.flushed {st : AQ} {N : Nat} (h : Gs st N) (h1 : st.newest + 1 <= N) (h2 : st.last + 1 <= 2 * N) : Gs st.flushed N:=
 ⟨Nat.le_trans (Si st.mem st.runs) h.sum,h1,h2,Nat.zero_le _⟩
set_option maxRecDepth 100000 in
set_option maxHeartbeats 2000000 in
theorem P4 {B : Nat} {w : World} {d b q mp c : Nat} {tv : Value} {st : AQ} {dn ap : Bool} {S : Bx} {F Fb Fm Fr : Nat -> Prop} (E : EY B w) (hB : ∀ k,F k -> B <= k) (h : AU w d b q mp tv st dn c ap S F Fb Fm Fr) (hd : S.down = false) {A : List Bo} (hD : AZ S.files st A Eg) (hc : DD A c ap) (hS : AV st) (hne : st.mem ≠ [])
 {N : Nat} (hf : Gs st N) (h1 : st.newest + 1 <= N) (h2 : st.last + 1 <= 2 * N) (hz : ZS S.files) (hcN : c <= 2 * N) (hN : N <= 1001) (hw : weigh S.files + 600000000 <= wB N) :
 Calls Tryz.prog 64 #[.pointer (some ⟨d,0,none⟩)] w fun e w' => Ac F w w' /\ ((e = .returned (.int .i64 0) /\ Ek w w' d b F S st.flushed dn (c + 1) (weigh S.files + 600000000)) \/ (e = .returned (.int .i64 30) /\ EZ w w' d b F S [st.map] N)):=by
 have hs6 : Bk (st.mem :: st.runs) <= 65536:=by have:=hf.sum; omega
 obtain ⟨k1,k2,k3,k4,k5⟩:=JO hS hne hs6
 have hsh:=hS.flushed hne hs6
 have hmap:=AQ.flushed_map hS
 have hfw:=hf.flushed h1 h2
 have hok : ER ⟨st.last + 1,some (st.newest + 1,((AJ st.mem st.runs).1 :: (AJ st.mem st.runs).2).length),[]⟩:=by
  have h3:=hsh.few
  have h4:=hsh.newest
  refine ⟨(by show 1 <= st.last + 1; omega),(by show st.last + 1 <= limC; unfold limC; omega),(fun _ h => by cases h),(fun h => by cases h),fun a k e => ?_,Nat.zero_le _,Nat.zero_le _⟩
  injection e with e
  injection e with e1 e2
  subst e1
  subst e2
  exact ⟨by unfold limC; omega,h3,h4⟩
 have HFL:=hid (Me h hS (by omega))
 have HH:=hid h
 have HE:=hid E
 have HB:=hid hB
 have HALL:=hid (And.intro hD (And.intro hc (And.intro hS (And.intro hf (And.intro hz (And.intro k1 (And.intro k2 (And.intro hsh (And.intro hmap (And.intro hfw hok))))))))))
 clear h E hB hD hc hS hf hz k1 k2 k3 k4 k5 hsh hmap hfw hok hne
 go_enter Tryz.func64,Tryz.ntmps64
 go_wp2_with fail
 refine HFL.out.mono ?_
 rintro e w1 ⟨v,tv',rfl,⟨va,vc,rfl,hvc,hrp⟩,hru,b1⟩
 obtain ⟨ta,tc,rfl,_,_,_⟩:=hru.read
 have HRP:=hid hrp
 have HRU:=hid hru
 have B1:=hid b1
 clear hrp hru b1 HFL
 go_wp2_with fail
 refine (MM w1).mono ?_
 rintro e w2 ⟨mp',rfl,hmt,b2⟩
 have B2:=hid (B1.out.trans (b2.mono B1.out.size))
 have hs1:=B1.out.size
 have hs2:=b2.size
 have ltw : ∀ k,F k -> k < w.heap.size:=HH.out.lt
 have TW2 : Ac F w w2:=Ac.of_below F B2.out
 have h2' : AU w2 d b q mp tv st dn c ap S (AN F w w2) Fb Fm Fr:=(HH.out.below B2.out).mono (fun k hk => .inl hk) (fun k hk => by
  rcases hk with hk | hk
  · have:=ltw k hk; omega
  · exact hk.2)
 have hdq : d < w.heap.size /\ q < w.heap.size:=⟨HH.out.head.lt,ltw _ HH.out.fq⟩
 have hp2 : FM w2 d q mp' (.slice ta (AJ st.mem st.runs).2.length tc) [] (AJ st.mem st.runs).2 (AN F w w2) Fb (fun k => w1.heap.size <= k /\ k < w2.heap.size) Fr:=
  { mem:=hmt
    runs:=HRU.out.below b2
    fm:=fun k hk => .inr ⟨by omega,hk.2⟩
    fr:=fun k hk => .inl (HH.out.fr k hk)
    dm:=fun hk => by omega
    dr:=HH.out.dr
    qm:=fun hk => by omega
    qr:=HH.out.qr
    bm:=fun k hk hm => by have:=ltw k (HH.out.fb k hk); omega
    br:=HH.out.br
    mr:=fun k hm hr => by have:=ltw k (HH.out.fr k hr); omega }
 obtain ⟨a1,a2,a3,a4,a5,a6,a7,a8,a9,a10,a11⟩:=HALL.out
 have hat:=KD (HE.out.below B2.out) (fun k hk => by
  rcases hk with hk | hk
  · exact HB.out k hk
  · have:=HE.out.size; omega) h2' hd a1 a2 a3 hp2 (HRP.out.below b2) hvc a6 (.inl rfl) a7 a8 a9 a4 a10 a11 a5 hcN hN hw
 have HAT:=hid hat
 have HT2:=hid TW2
 clear hat TW2 hp2 h2' hmt b2 a1 a2 a3 a4 a5 a6 a7 a8 a9 a10 a11 hdq
 go_wp2_with fail
 refine HAT.out.mono ?_
 rintro e w8 ⟨t8,hres⟩
 have HRES:=hid hres
 have T8:=hid t8
 clear hres t8 HAT
 rcases HRES.out with ⟨rfl,hmd⟩ | ⟨rfl,hlo⟩
 · have HMD:=hid hmd
   clear hmd HRES
   go_wp2
   go_ret
   exact ⟨C9 HT2.out T8.out,.inl ⟨rfl,HMD.out.early HT2.out.size T8.out.size ltw (BR.refl S) rfl (Nat.le_refl _)⟩⟩
 · have HLO:=hid hlo
   clear hlo HRES
   go_wp2
   go_ret
   exact ⟨C9 HT2.out T8.out,.inr ⟨rfl,HLO.out.early HT2.out.size T8.out.size ltw (BR.refl S) rfl⟩⟩
theorem Ek.after {w w1 w' : World} {d b : Nat} {F : Nat -> Prop} {S : Bx} {st : AQ} {dn : Bool} {c W : Nat} (h : Ek w1 w' d b F S st dn c W) (hs : w.heap.size <= w1.heap.size) (hlt : ∀ k,F k -> k < w.heap.size) (hs2 : w1.heap.size <= w'.heap.size) : Ek w w' d b F S st dn c W:=by
 obtain ⟨q,mp,tv,ap,S',A,Fb,Fm,Fr,h1,h2⟩:=h
 exact ⟨q,mp,tv,ap,S',A,Fb,Fm,Fr,h1.mono (fun k hk => by
  rcases hk with hk | hk
  · exact .inl hk
  · exact .inr ⟨Nat.le_trans hs hk.1,hk.2⟩) (fun k hk => by
  rcases hk with hk | hk
  · have:=hlt k hk; omega
  · exact hk.2),h2⟩
theorem Ek.early' {w w1 w' : World} {d b : Nat} {F : Nat -> Prop} {S : Bx} {st : AQ} {dn : Bool} {c W W' : Nat} (h : Ek w1 w' d b F S st dn c W) (hs : w.heap.size <= w1.heap.size) (hlt : ∀ k,F k -> k < w.heap.size) (hs2 : w1.heap.size <= w'.heap.size) (hW : W <= W') : Ek w w' d b F S st dn c W':=by
 obtain ⟨q,mp,tv,ap,S',A,Fb,Fm,Fr,h1,h2,h3,h4,h5,h6,h7⟩:=h.after hs hlt hs2
 exact ⟨q,mp,tv,ap,S',A,Fb,Fm,Fr,h1,h2,h3,h4,h5,h6,Nat.le_trans h7 hW⟩
theorem EZ.after {w w1 w' : World} {d b : Nat} {F : Nat -> Prop} {S : Bx} {ms : List (List Aa)} {n : Nat} (h : EZ w1 w' d b F S ms n) (hs : w.heap.size <= w1.heap.size) (hlt : ∀ k,F k -> k < w.heap.size) (hs2 : w1.heap.size <= w'.heap.size) : EZ w w' d b F S ms n:=by
 obtain ⟨h0,q,mp,tv,st,dn,c,ap,S',Fb,Fm,Fr,h1,h2⟩:=h
 exact ⟨h0,q,mp,tv,st,dn,c,ap,S',Fb,Fm,Fr,h1.mono (fun k hk => by
  rcases hk with hk | hk
  · exact .inl hk
  · exact .inr ⟨Nat.le_trans hs hk.1,hk.2⟩) (fun k hk => by
  rcases hk with hk | hk
  · have:=hlt k hk; omega
  · exact hk.2),h2⟩
structure ME (st st' : AQ) (N : Nat) : Prop where
 map : st'.map = st.map
 mem : st'.mem = if 4096 <= At st.mem then [] else st.mem
 runs : At st.mem < 4096 -> st'.runs = st.runs
 shape : AV st'
 few : Gs st' N
set_option maxRecDepth 100000 in
set_option maxHeartbeats 2000000 in
theorem Oy {B : Nat} {w : World} {d b q mp c : Nat} {tv : Value} {st : AQ} {dn ap : Bool} {S : Bx} {F Fb Fm Fr : Nat -> Prop} (E : EY B w) (hB : ∀ k,F k -> B <= k) (h : AU w d b q mp tv st dn c ap S F Fb Fm Fr) (hd : S.down = false) {A : List Bo} (hD : AZ S.files st A Eg) (hc : DD A c ap) (hS : AV st)
 {N : Nat} (hf : Gs st N) (h1 : st.newest + 1 <= N) (h2 : st.last + 1 <= 2 * N) (hz : ZS S.files) (hcN : c <= 2 * N) (hN : N <= 1001) (hw : weigh S.files + 600000000 <= wB N) :
 Calls Tryz.prog 50 #[.pointer (some ⟨d,0,none⟩)] w fun e w' => Ac F w w' /\ ((e = .returned (.int .i64 0) /\ ∃ st' c',c' <= c + 1 /\ ME st st' N /\ Ek w w' d b F S st' dn c' (weigh S.files + 600000000)) \/ (e = .returned (.int .i64 30) /\ EZ w w' d b F S [st.map] N)):=by
 have HLN:=hid (VS h.mem)
 have hle:=len_le_size hS.fine
 have c2:=h.head.c2
 have HH:=hid h
 have HE:=hid E
 have HB:=hid hB
 have ltw : ∀ k,F k -> k < w.heap.size:=h.lt
 have HALL:=hid (And.intro hD (And.intro hc (And.intro hS (And.intro hf hz))))
 by_cases hg : 4096 <= At st.mem
 · have HFL : Hid (∀ w1,Below w.heap.size w w1 -> Calls Tryz.prog 64 #[.pointer (some ⟨d,0,none⟩)] w1 fun e w' => Ac F w1 w' /\ ((e = .returned (.int .i64 0) /\ Ek w1 w' d b F S st.flushed dn (c + 1) (weigh S.files + 600000000)) \/ (e = .returned (.int .i64 30) /\ EZ w1 w' d b F S [st.map] N))):=fun w1 b1 => by
     have hne : st.mem ≠ []:=fun e => by rw [e] at hg; exact absurd hg (by show ¬ 4096 <= 0; omega)
     exact P4 (E.below b1) hB (h.below b1) hd hD hc hS hne hf h1 h2 hz hcN hN hw
   have HST : Hid (ME st st.flushed N):=by
    have hne : st.mem ≠ []:=fun e => by rw [e] at hg; exact absurd hg (by show ¬ 4096 <= 0; omega)
    exact ⟨AQ.flushed_map hS,by rw [if_pos hg]; rfl,fun h => by omega,hS.flushed hne (by have:=hf.sum; omega),hf.flushed h1 h2⟩
   clear h hD hc hS hf hz E hB
   generalize At st.mem = Z at *
   go_enter Tryz.func50,Tryz.ntmps50
   go_wp2_with fail
   refine HLN.out.mono ?_
   rintro e w1 ⟨rfl,b1⟩
   have HF1:=hid (HFL.out w1 b1)
   have B1:=hid b1
   clear b1 HLN HFL
   go_wp2_with fail
   refine HF1.out.mono ?_
   rintro e w8 ⟨t8,hres⟩
   have HRES:=hid hres
   have T8:=hid t8
   clear hres t8 HF1
   rcases HRES.out with ⟨rfl,hmd⟩ | ⟨rfl,hlo⟩
   · have HMD:=hid hmd
     clear hmd HRES
     go_wp2
     go_ret
     exact ⟨(Ac.of_below F B1.out).trans T8.out (fun i hi => .inl hi),.inl ⟨rfl,_,_,Nat.le_refl _,HST.out,HMD.out.after B1.out.size ltw T8.out.size⟩⟩
   · have HLO:=hid hlo
     clear hlo HRES
     go_wp2
     go_ret
     exact ⟨(Ac.of_below F B1.out).trans T8.out (fun i hi => .inl hi),.inr ⟨rfl,HLO.out.after B1.out.size ltw T8.out.size⟩⟩
 · have c6:=h.head.c6
   have hdl:=h.head.lt
   obtain ⟨ta,tc,rfl,_,_,_⟩:=h.runs.read
   by_cases hg2 : 65536 <= st.logged
   · have HRB : Hid (∀ w1,Below w.heap.size w w1 -> Calls Tryz.prog 83 #[.pointer (some ⟨d,0,none⟩),.int .i64 (st.newest : Int),.slice ta st.runs.length tc,.pointer (some ⟨mp,0,none⟩)] w1 fun e w' => ∃ i,e = .returned (.int .i64 i) /\ Ac F w1 w' /\ ((i = 0 /\ Ek w1 w' d b F S ⟨st.newest,st.runs,st.mem,st.last + 1,0⟩ dn (c + 1) (weigh S.files + 1048700)) \/ (i = 30 /\ EZ w1 w' d b F S [st.map] N))):=fun w1 b1 => by
       have h3:=hS.few
       have h4:=hS.newest
       have hok : ER ⟨st.last + 1,some (st.newest,st.runs.length),st.mem⟩:=by
        refine ⟨(by show 1 <= st.last + 1; omega),(by show st.last + 1 <= limC; unfold limC; omega),hS.fine,(fun h => by cases h),fun a k e => ?_,(by show st.mem.length <= 4096; omega),(by show At st.mem <= 530000; omega)⟩
        injection e with e
        injection e with e1 e2
        subst e1
        subst e2
        exact ⟨by unfold limC; omega,h3,h4⟩
       have hrb:=Oc (E.below b1) hB (h.below b1) hd hD hc (fun k b h => h.elim) hS (h.below b1).parts hD.tabs (fun k b h => h.elim) ⟨hS.rising,hS.fine,hS.runs,hS.few,hS.newest⟩ rfl hf ⟨hf.sum,hf.newest,h2,Nat.zero_le _⟩ hok hz hcN hN (by omega)
       refine hrb.mono (fun e w' k => ?_)
       obtain ⟨k1,⟨rfl,k2⟩ | ⟨rfl,k2⟩⟩:=k
       · exact ⟨0,rfl,k1,.inl ⟨rfl,k2⟩⟩
       · exact ⟨30,rfl,k1,.inr ⟨rfl,k2⟩⟩
     have HST : Hid (ME st ⟨st.newest,st.runs,st.mem,st.last + 1,0⟩ N):=⟨rfl,by rw [if_neg hg],fun _ => rfl,⟨hS.rising,hS.fine,hS.runs,hS.few,hS.newest⟩,⟨hf.sum,hf.newest,h2,Nat.zero_le _⟩⟩
     have HC : Hid (∀ w1,Below w.heap.size w w1 -> w1.cell? ⟨d,6,none⟩ = some (.int .i64 (st.logged : Int)) /\ w1.cell? ⟨d,4,none⟩ = some (.int .i64 (st.newest : Int)) /\ w1.cell? ⟨d,3,none⟩ = some (.slice ta st.runs.length tc) /\ w1.cell? ⟨d,2,none⟩ = some (.pointer (some ⟨mp,0,none⟩))):=fun w1 b1 => ⟨(h.below b1).head.c6,(h.below b1).head.c4,(h.below b1).head.c3,(h.below b1).head.c2⟩
     clear h hD hc hS hf hz E hB
     generalize At st.mem = Z at *
     have hg3 : (65536 : Int) <= (st.logged : Int):=by omega
     have hdc : decide ((65536 : Int) <= (st.logged : Int)) = true:=decide_eq_true hg3
     have hg4 : ¬ (4096 : Int) <= (Z : Int):=by omega
     have hdc4 : decide ((4096 : Int) <= (Z : Int)) = false:=decide_eq_false hg4
     generalize st.logged = LG at *
     clear hg2 hg
     go_enter Tryz.func50,Tryz.ntmps50
     go_wp2_with fail
     refine HLN.out.mono ?_
     rintro e w1 ⟨rfl,b1⟩
     obtain ⟨q6,q4,q3,q2⟩:=HC.out w1 b1
     have HR1:=hid (HRB.out w1.drew (b1.trans ((Ay w1).mono b1.size)))
     have B1:=hid (b1.trans ((Ay w1).mono b1.size))
     clear b1 HLN HRB HC
     go_upto_region 5 with (fail)
     have z4 : w1.drew.cell? ⟨d,4,none⟩ = some (.int .i64 (st.newest : Int)):=q4
     have z3 : w1.drew.cell? ⟨d,3,none⟩ = some (.slice ta st.runs.length tc):=q3
     have z2 : w1.drew.cell? ⟨d,2,none⟩ = some (.pointer (some ⟨mp,0,none⟩)):=q2
     go_region_law
      (first
        | (go_simp; go_at_call 83; refine HR1.out.mono ?_; rintro e w8 ⟨i8,rfl,t8,hres⟩; have HRES:=hid hres; have T8:=hid t8; clear hres t8))
     all_goals go_wp2
     all_goals go_ret
     all_goals (
      refine ⟨(Ac.of_below F B1.out).trans T8.out (fun i hi => .inl hi),?_⟩
      rcases HRES.out with ⟨rfl,hmd⟩ | ⟨rfl,hlo⟩
      · exact .inl ⟨rfl,_,_,Nat.le_refl _,HST.out,hmd.early' B1.out.size ltw T8.out.size (by omega)⟩
      · exact .inr ⟨rfl,hlo.after B1.out.size ltw T8.out.size⟩)
   · have HMD : Hid (∀ w1,Below w.heap.size w w1 -> Ek w w1 d b F S st dn c (weigh S.files + 600000000)):=fun w1 b1 => ⟨q,mp,_,ap,S,A,Fb,Fm,Fr,(h.below b1).grow,hD,hc,hd,BR.refl S,rfl,by omega⟩
     have HST : Hid (ME st st N):=⟨rfl,by rw [if_neg hg],fun _ => rfl,hS,hf⟩
     have HC : Hid (∀ w1,Below w.heap.size w w1 -> w1.cell? ⟨d,6,none⟩ = some (.int .i64 (st.logged : Int))):=fun w1 b1 => (h.below b1).head.c6
     clear h hD hc hS hf hz E hB
     generalize At st.mem = Z at *
     have hg3 : ¬ (65536 : Int) <= (st.logged : Int):=by omega
     have hdc : decide ((65536 : Int) <= (st.logged : Int)) = false:=decide_eq_false hg3
     have hg4 : ¬ (4096 : Int) <= (Z : Int):=by omega
     have hdc4 : decide ((4096 : Int) <= (Z : Int)) = false:=decide_eq_false hg4
     generalize st.logged = LG at *
     clear hg2 hg
     go_enter Tryz.func50,Tryz.ntmps50
     go_wp2_with fail
     refine HLN.out.mono ?_
     rintro e w1 ⟨rfl,b1⟩
     have q6:=HC.out w1 b1
     have B1:=hid b1
     clear b1 HLN HC
     go_wp2
     go_ret
     exact ⟨Ac.of_below F B1.out,.inl ⟨rfl,_,_,Nat.le_succ _,HST.out,HMD.out _ B1.out⟩⟩
end
section
open Go.RowKit Go.Lib
theorem KP {w : World} {v : Value} {l : List Aa} {B : Nat} (h : Nt w v l B) (hok : l = [] \/ FP l) (n : Nat) (hn : n <= limC) :
 Calls Tryz.prog 96 #[.int .i64 (n : Int),v] w fun e w' => e = .returned (.string ⟨(I5 n l).toArray⟩) /\ Below w.heap.size w w':=by
 obtain ⟨a,c,rfl,h1,h2⟩:=h
 rcases hok with rfl | hok
 · refine (Rj n).mono ?_
   rintro e w' ⟨rfl,rfl⟩
   exact ⟨rfl,Below.refl _ _⟩
 · exact LX n hn h2 h1 hok
theorem comb_empty : AT [[]] = []:=by
 unfold AT
 simp [CS,allP_nil,Bc,By]
theorem Vl {st : AQ} (h : AV st) (hs : Bk (st.mem :: st.runs) <= 65536) : (AJ st.mem st.runs).1 = [] \/ FP (AJ st.mem st.runs).1:=by
 by_cases hne : st.mem = []
 · unfold AJ
   split
   · rename_i h3
     rw [hne]
     by_cases h0 : st.runs = []
     · rw [h0]; exact .inl comb_empty
     · obtain ⟨l,hl⟩:=List.exists_mem_of_ne_nil _ h0
       refine .inr ⟨Qg (by have:=h.good; rwa [hne] at this) (List.mem_cons_of_mem _ hl) (h.runs l hl).ne,F7 _,GZ _,Nat.le_trans (IT _) ?_⟩
       rw [hne] at hs; exact hs
   · exact .inl hne
 · exact .inr (JO h hne hs).1
theorem Q9 {st : AQ} (h : AV st) (hs : Bk (st.mem :: st.runs) <= 65536) : AB st.runs = [] \/ FP (AB st.runs):=by
 by_cases h2 : st.runs.length < 2
 · unfold AB; rw [if_pos h2]; exact .inl rfl
 · exact .inr (K7 h (by omega) hs)
theorem MS {a b : List UInt8} : Lib.hasPrefix a b = true ↔ b <+: a:=by
 unfold Lib.hasPrefix
 exact List.isPrefixOf_iff_prefix
set_option maxRecDepth 100000 in
set_option maxHeartbeats 2000000 in
theorem OP {w : World} {d b q mp c : Nat} {tv : Value} {st : AQ} {dn ap : Bool} {S : Bx} {F Fb Fm Fr : Nat -> Prop} (h : AU w d b q mp tv st dn c ap S F Fb Fm Fr) (hsh : AV st) (hsum : Bk (st.mem :: st.runs) <= 65536) {n : Nat} (hn : n <= limC) (hnw : st.newest + 1 <= limC) (s : ByteArray) (hl : IL st n s.data.toList) :
 Calls Tryz.prog 81 #[.pointer (some ⟨d,0,none⟩),.int .i64 (n : Int),.string s] w fun e w' => e = .returned (.bool true) /\ Below w.heap.size w w':=by
 have hfew:=hsh.few
 have c4:=h.head.c4
 have hn6 : n <= 1000000:=hn
 have hw6 : st.newest + 1 <= 1000000:=hnw
 have HH:=hid h
 obtain ⟨ta,tc,rfl,htl,htm,_⟩:=h.runs.read
 rcases hl with ⟨h1,⟨l,hok,hb⟩,h3,h4⟩ | ⟨h1,h2,h3⟩
 · have hs : s = ⟨(Gd n l).toArray⟩:=by
     apply ByteArray.ext
     show s.data = (Gd n l).toArray
     rw [<- hb]
   subst hs
   have HR:=hid (IF hok n hn w)
   have hle : (n : Int) <= (st.newest : Int):=by omega
   clear h hsh hsum hok hb
   generalize (⟨(Gd n l).toArray⟩ : ByteArray) = RB at *
   go_enter Tryz.func81,Tryz.ntmps81
   go_wp2_with fail
   refine HR.out.mono ?_
   rintro e w1 ⟨rv,rfl,-,b1⟩
   have hd1:=HH.out.below b1
   have y3:=hd1.head.c3
   have y4:=hd1.head.c4
   have hw4 : IntKind.i64.wrap ((st.newest : Int) - 4) = (st.newest : Int) - 4:=by rw [IntKind.wrap_i64]; omega
   have hd4 : decide ((st.newest : Int) - 4 < (n : Int)) = true:=decide_eq_true (by omega)
   have hlen : ((st.runs.length : Nat) : Int) = 1:=by omega
   have B1:=hid b1
   clear hd1 b1 HR c4
   go_wp2
   go_ret
   exact ⟨by simp [],B1.out⟩
 · have hle : ¬ (n : Int) <= (st.newest : Int):=by omega
   have HFL:=hid (Me h hsh (by omega))
   have HFO:=hid (Vl hsh hsum)
   have HCO:=hid (Q9 hsh hsum)
   have HSH:=hid hsh
   have hsm:=hsum
   have HP:=hid h3
   have hw1 : IntKind.i64.wrap ((st.newest : Int) + 1) = (n : Int):=by rw [IntKind.wrap_i64]; omega
   clear h hsh h2 h3 h1
   go_enter Tryz.func81,Tryz.ntmps81
   go_wp2_with fail
   refine HFL.out.mono ?_
   rintro e w1 ⟨v,tv',rfl,hv,-,b1⟩
   have HRT:=hid (KP hv HFO.out n hn)
   obtain ⟨va,vc,rfl,-,-⟩:=hv
   have B1:=hid b1
   clear HFL b1
   generalize hFD : (AJ st.mem st.runs).1 = FD at *
   go_wp2_with fail
   refine HRT.out.mono ?_
   rintro e w2 ⟨rfl,b2⟩
   have B2:=hid (B1.out.trans (b2.mono B1.out.size))
   have hhp:=Sh.strings_HasPrefix ⟨(I5 n FD).toArray⟩ s w2
   rw [show (⟨(I5 n FD).toArray⟩ : ByteArray).data.toList = I5 n FD from rfl] at hhp
   have HHP:=hid hhp
   clear hhp b2 HRT B1
   generalize hTX : (⟨(I5 n FD).toArray⟩ : ByteArray) = TX at *
   have d2:=HH.out.below B2.out
   have y4:=d2.head.c4
   by_cases hp : Lib.hasPrefix (I5 n FD) s.data.toList = true
   · rw [hp] at HHP
     clear d2
     go_wp2_with fail
     refine HHP.out.mono ?_
     rintro e w3 ⟨rfl,rfl⟩
     go_wp2
     go_ret
     exact ⟨by simp,B2.out⟩
   · have hp2 : Lib.hasPrefix (I5 n FD) s.data.toList = false:=by simpa using hp
     rw [hp2] at HHP
     have hpc : Lib.hasPrefix (I5 n (AB st.runs)) s.data.toList = true:=by
      rcases HP.out with h9 | h9
      · exact absurd (MS.2 h9) hp
      · exact MS.2 h9
     have HCP:=hid (J9 d2 HSH.out (by omega))
     clear d2 hp hp2 hTX hFD y4
     go_wp2_with fail
     refine HHP.out.mono ?_
     rintro e w3 ⟨rfl,rfl⟩
     go_wp2_with fail
     refine HCP.out.mono ?_
     rintro e w4 ⟨v4,rfl,hv4,b4⟩
     have HRT:=hid (KP hv4 HCO.out n hn)
     obtain ⟨va4,vc4,rfl,-,-⟩:=hv4
     have B4:=hid (B2.out.trans (b4.mono B2.out.size))
     generalize AB st.runs = CD at *
     clear HCP b4 B2 HHP
     go_wp2_with fail
     refine HRT.out.mono ?_
     rintro e w5 ⟨rfl,b5⟩
     have hhp:=Sh.strings_HasPrefix ⟨(I5 n CD).toArray⟩ s w5
     rw [show (⟨(I5 n CD).toArray⟩ : ByteArray).data.toList = I5 n CD from rfl,hpc] at hhp
     have HHP:=hid hhp
     have B5:=hid (B4.out.trans (b5.mono B4.out.size))
     have y4:=(HH.out.below B5.out).head.c4
     clear hhp hpc HRT b5 B4
     generalize (⟨(I5 n CD).toArray⟩ : ByteArray) = TY at *
     go_wp2_with fail
     refine HHP.out.mono ?_
     rintro e w6 ⟨rfl,rfl⟩
     go_wp2
     go_ret
     exact ⟨by simp,B5.out⟩
end
section
open Go.RowKit Go.Lib
def Gy (k : Nat) : List Value:=List.replicate k (.slice none 0 0)
structure Cu (L : Nat) (w : World) (d b q mp : Nat) (tv : Value) (s : RS9) (Fm : Nat -> Prop) : Prop where
 head : Bl w d b q mp tv s.newest s.last s.logged false
 mem : CN w mp s.mem Fm
 row : w.ownsRow 0 115 1 tv s.k (Gy s.k)
 d0 : L <= d
 dm : ¬ Fm d
 dr : ∀ k,tv.ownBlock = some k -> L <= k /\ k ≠ d /\ ¬ Fm k
 lt : ∀ k,Fm k -> k < w.heap.size
 low : ∀ k,Fm k -> L <= k
section
variable {L : Nat} {w w' : World} {d b q mp : Nat} {tv : Value} {s : RS9} {Fm : Nat -> Prop}
theorem Cu.memD (h : Cu L w d b q mp tv s Fm) : JU w d mp s.mem Fm:=⟨h.head.c2,h.mem,h.dm,h.lt⟩
theorem Cu.turn (h : Cu L w d b q mp tv s Fm) {G : Nat -> Prop} (t : Ac G w w') (hd : ¬ G d) (hm : ∀ k,Fm k -> ¬ G k) (hr : ∀ k,tv.ownBlock = some k -> ¬ G k) : Cu L w' d b q mp tv s Fm:=
 { h with
   head:=t.keeps h.head hd
   mem:=h.mem.kept t hm
   row:=t.row h.row hr
   lt:=fun k hk => Nat.lt_of_lt_of_le (h.lt k hk) t.size }
theorem Cu.below (h : Cu L w d b q mp tv s Fm) (t : Below w.heap.size w w') : Cu L w' d b q mp tv s Fm:=
 h.turn (Ac.of_below (fun _ => False) t) (fun h => h) (fun _ _ h => h) (fun _ _ h => h)
theorem Cu.setLast (h : Cu L w d b q mp tv s Fm) (n : Nat) : Cu L (w.setCell ⟨d,5,none⟩ (.int .i64 (n : Int))) d b q mp tv { s with last:=n } Fm:=by
 have t : Ac (fun k => k = d) w (w.setCell ⟨d,5,none⟩ (.int .i64 (n : Int))):=(Ac.refl (fun k => k = d) w).setCell (p:=⟨d,5,none⟩) (.inl rfl) _
 exact { h with
  head:=h.head.setLast n
  mem:=h.mem.kept t (fun k hk e => h.dm (by have e : k = d:=e; exact e ▸ hk))
  row:=t.row h.row (fun k hk e => (h.dr k hk).2.1 e)
  lt:=fun k hk => Nat.lt_of_lt_of_le (h.lt k hk) t.size }
theorem Cu.setLogged (h : Cu L w d b q mp tv s Fm) (n : Nat) : Cu L (w.setCell ⟨d,6,none⟩ (.int .i64 (n : Int))) d b q mp tv { s with logged:=n } Fm:=by
 have t : Ac (fun k => k = d) w (w.setCell ⟨d,6,none⟩ (.int .i64 (n : Int))):=(Ac.refl (fun k => k = d) w).setCell (p:=⟨d,6,none⟩) (.inl rfl) _
 exact { h with
  head:=h.head.setLogged n
  mem:=h.mem.kept t (fun k hk e => h.dm (by have e : k = d:=e; exact e ▸ hk))
  row:=t.row h.row (fun k hk e => (h.dr k hk).2.1 e)
  lt:=fun k hk => Nat.lt_of_lt_of_le (h.lt k hk) t.size }
theorem Cu.base (h : Cu L w d b q mp tv s Fm) {a k mp2 : Nat} {tv2 : Value} {Fm2 : Nat -> Prop} (hm : CN w mp2 [] Fm2) (hr : w.ownsRow 0 115 1 tv2 k (Gy k)) (hlt : ∀ k,Fm2 k -> L <= k /\ k < w.heap.size /\ k ≠ d) (htv : ∀ k,tv2.ownBlock = some k -> L <= k /\ k ≠ d /\ ¬ Fm2 k) :
 Cu L ((((w.setCell ⟨d,4,none⟩ (.int .i64 (a : Int))).setCell ⟨d,3,none⟩ tv2).setCell ⟨d,2,none⟩ (.pointer (some ⟨mp2,0,none⟩))).setCell ⟨d,6,none⟩ (.int .i64 ((0 : Nat) : Int))) d b q mp2 tv2 ⟨a,k,[],s.last,0⟩ Fm2 /\ Ac (fun k => k = d) w ((((w.setCell ⟨d,4,none⟩ (.int .i64 (a : Int))).setCell ⟨d,3,none⟩ tv2).setCell ⟨d,2,none⟩ (.pointer (some ⟨mp2,0,none⟩))).setCell ⟨d,6,none⟩ (.int .i64 ((0 : Nat) : Int))):=by
 have t : Ac (fun k => k = d) w ((((w.setCell ⟨d,4,none⟩ (.int .i64 (a : Int))).setCell ⟨d,3,none⟩ tv2).setCell ⟨d,2,none⟩ (.pointer (some ⟨mp2,0,none⟩))).setCell ⟨d,6,none⟩ (.int .i64 ((0 : Nat) : Int))):=
  ((((Ac.refl (fun k => k = d) w).setCell (p:=⟨d,4,none⟩) (.inl rfl) _).setCell (p:=⟨d,3,none⟩) (.inl rfl) _).setCell (p:=⟨d,2,none⟩) (.inl rfl) _).setCell (p:=⟨d,6,none⟩) (.inl rfl) _
 refine ⟨{ head:=(((h.head.setNewest a).setTabs tv2).setMem mp2).setLogged 0
           mem:=hm.kept t (fun k hk e => (hlt k hk).2.2 e)
           row:=t.row hr (fun k hk e => (htv k hk).2.1 e)
           d0:=h.d0
           dm:=fun hk => (hlt d hk).2.2 rfl
           dr:=htv
           lt:=fun k hk => Nat.lt_of_lt_of_le (hlt k hk).2.1 t.size
           low:=fun k hk => (hlt k hk).1 },t⟩
theorem Cu.put (h : Cu L w d b q mp tv s Fm) {m : List Aa} (hm : JU w' d mp m (AN Fm w w')) (t : Ac Fm w w') : Cu L w' d b q mp tv { s with mem:=m } (AN Fm w w'):=
 { head:=t.keeps h.head h.dm
   mem:=hm.mem
   row:=t.row h.row (fun k hk => (h.dr k hk).2.2)
   d0:=h.d0
   dm:=hm.dm
   dr:=fun k hk => ⟨(h.dr k hk).1,(h.dr k hk).2.1,fun g => by
    rcases g with g | g
    · exact (h.dr k hk).2.2 g
    · have:=(h.row.lt k hk).2; omega⟩
   lt:=hm.lt
   low:=fun k hk => by
    rcases hk with hk | hk
    · exact h.low k hk
    · have:=h.head.lt
      have:=h.d0
      omega }
end
theorem Yf {w : World} {base : Nat} {e : TypeId} {g n c : Nat} {xs : List Value} (h : w.ownsRow base e 1 (.slice (some ⟨g,0,none⟩) n c) n xs) {i : Nat} (hi : i < n) (x : Value) : (w.setCell ⟨g,i,none⟩ x).ownsRow base e 1 (.slice (some ⟨g,0,none⟩) n c) n (xs.set i x):=by
 refine ⟨by rw [List.length_set]; exact h.1,?_⟩
 rcases h.2 with ⟨hv,_⟩ | ⟨g',cap,cur,hv,hb,hg,hle,hcm,hcs,htake⟩
 · cases hv
 · injection hv with e1 e2 e3
   injection e1 with e1
   injection e1 with e1 _ _
   subst e1
   subst e3
   refine .inr ⟨g,c,cur.setIfInBounds i x,rfl,hb,block_set hg i x,hle,hcm,by rw [Array.size_setIfInBounds]; exact hcs,?_⟩
   rw [Array.toList_setIfInBounds,<- htake,List.take_set]
theorem Ui {l : List (Key × Ae)} {i : Nat} (hi : i < l.length) : (Dy LOG (l.take (i + 1))).length = (Dy LOG (l.take i)).length + (if AE LOG l[i].1 = 0 then 0 else (Bz l[i].2.bytes).1.length):=by
 unfold Dy
 rw [List.take_succ_eq_append_getElem hi,List.flatMap_append,List.length_append]
 congr 1
 rw [List.flatMap_cons,List.flatMap_nil,List.append_nil]
 split <;> rfl
end
section
open Go.RowKit Go.Lib
theorem has_z (k : Key) : Lib.hasPrefix k [122] = zK k:=by
 cases k with
 | nil => rfl
 | cons c r =>
   unfold Lib.hasPrefix zK
   simp only [List.isPrefixOf,Bool.and_true]
   rw [Bool.eq_iff_iff]
   simp only [beq_iff_eq,decide_eq_true_eq]
   exact ⟨fun h => h.symm,fun h => h.symm⟩
theorem PG {k : Key} (h : zK k = true) : AE LOG k = 0:=by
 cases k with
 | nil => rfl
 | cons c r =>
   unfold zK at h
   have hc : c = 122:=of_decide_eq_true h
   subst hc
   unfold AE
   rw [if_neg]
   rintro ⟨h,_⟩
   unfold Lib.hasPrefix LOG at h
   simp at h
theorem P9 {l : List (Key × Ae)} {x : Key × Ae} (h : x ∈ l) : x.2.bytes.length + 1 <= weigh l:=by
 induction l with
 | nil => cases h
 | cons y r ih =>
   unfold weigh at *
   rw [List.map_cons,List.sum_cons]
   rcases List.mem_cons.1 h with rfl | h
   · omega
   · have:=ih h; omega
theorem QX (l : List (Key × Ae)) (i : Nat) : (Dy LOG (l.take i)).length <= (Dy LOG l).length:=by
 conv => rhs; rw [<- List.take_append_drop i l]
 unfold Dy
 rw [List.flatMap_append,List.length_append]
 omega
set_option maxRecDepth 100000 in
set_option maxHeartbeats 4000000 in
theorem Wn {B : Nat} {w : World} {d b q mp c : Nat} {tv : Value} {st : AQ} {dn ap : Bool} {S : Bx} {F Fb Fm Fr : Nat -> Prop} (E : EY B w) (h : AU w d b q mp tv st dn c ap S F Fb Fm Fr) (hd : S.down = false) {A : List Bo} (hD : AZ S.files st A (IL st)) (hS : AV st) (hz : ZS S.files) (hsum : Bk (st.mem :: st.runs) <= 65536) (hn : st.newest + 1 <= limC) (hw : weigh S.files <= 4398046511104)
 {a : Option Addr} {cc : Nat} (hrow : w.ownsRow 0 9 1 (.slice a S.files.length cc) S.files.length (S.files.map fun x => tx x.1)) :
 Calls Tryz.prog 48 #[.pointer (some ⟨d,0,none⟩),.slice a S.files.length cc,.int .i64 ((Bg A).length : Nat)] w fun e w' => e = .returned (.bool true) /\ Below w.heap.size w w':=by
 have hfl:=Fp S.files
 have hR : (Dy LOG S.files).length = (Bg A).length:=hD.nrec
 have hRw:=Mp LOG S.files
 obtain ⟨l,hl⟩ : ∃ l,S.files = l:=⟨_,rfl⟩
 have HREAD : Hid (∀ i (hi : i < l.length),S.read l[i].1 = (l[i].2.bytes,0)):=fun i hi => by
  subst hl
  exact Bx.read_some hd (KY hD.rising (List.getElem_mem hi))
 rw [hl] at hD hz hw hrow hfl hR hRw ⊢
 have hnm6 : st.newest + 1 <= 1000000:=hn
 have hN8 : l.length <= 8796093022208:=by omega
 have HROW:=hid hrow
 have HE:=hid E
 have HH:=hid h
 have HSH:=hid hS
 have HSUM:=hid hsum
 have HNEW:=hid hn
 have HNAME : Hid (∀ i (hi : i < l.length),(zK l[i].1 = true /\ SJ ⟨(l[i].1).toArray⟩) \/ (∃ x ∈ A,l[i] = GG x) \/ ∃ n,1 <= n /\ n <= limC /\ l[i].1 = Ar n /\ ((n <= st.newest /\ st.newest < n + st.runs.length) \/ IL st n l[i].2.bytes)):=fun i hi => by
  have hm:=List.getElem_mem hi
  rcases hD.tabs.left _ hm with h1 | h1 | h1
  · exact .inl ⟨h1,VH h1 (hz.of hm h1)⟩
  · exact .inr (.inl (Rv hD.segs hm h1))
  · exact .inr (.inr h1)
 have HFIRM : Hid (∀ i (hi : i < l.length),(zK l[i].1 = false -> 0 < l[i].2.bytes.length) /\ l[i].2.bytes.length <= 4398046511104):=fun i hi => by
  have h1:=(hD.firm _ (List.getElem_mem hi)).pos
  have h2:=P9 (List.getElem_mem hi)
  exact ⟨h1,by omega⟩
 have HSEG:=hid hD.segs
 have HB0:=hid (Below.refl w.heap.size w)
 have hRb : (Bg A).length <= 4398046511104:=by omega
 clear h E hS hsum hn hD hz hrow
 go_enter Tryz.func48,Tryz.ntmps48
 go_wp2
 go_loopw [2,13] (fun rv iv wr => ∃ i : Nat,i <= l.length /\ rv = .int .i64 (((Bg A).length - (Dy LOG (l.take i)).length : Nat) : Int) /\ iv = .int .i64 (i : Int) /\ Hid (Below w.heap.size w wr)) (fun _ iv _ => l.length - (intOf iv).toNat)
 case atStart => exact ⟨0,Nat.zero_le _,by rw [List.take_zero]; rfl,rfl,HB0.out⟩
 case round =>
  clear HB0
  obtain ⟨i,hi,rfl,rfl,HI⟩:=hrel
  by_cases hlt : i < l.length
  · have hrw:=Ah HROW.out HI.out
    have hmes : l.length - (intOf (.int .i64 ((i : Int) + 1))).toNat < l.length - (intOf (.int .i64 (i : Int))).toNat:=by simp [intOf]; omega
    obtain ⟨g,cp,e1,hcl⟩:=IN (fs:=l.map (·.1)) (w:=wr) (base:=0) (v:=.slice a l.length cc) (by rw [List.length_map,List.map_map]; exact hrw) (i:=i) (by rw [List.length_map]; exact hlt)
    rw [List.length_map] at e1
    injection e1 with e1 _ e2
    subst e1
    subst e2
    have hgd : (l.map (·.1)).getD i [] = l[i].1:=by simp [List.getD,hlt]
    rw [hgd] at hcl
    unfold tx at hcl
    have hrt:=Ui hlt
    have hle1:=QX l i
    have hle2:=QX l (i + 1)
    have hE:=HE.out.below HI.out
    have hH:=HH.out.below HI.out
    have hrd:=HREAD.out i hlt
    have hfm:=HFIRM.out i hlt
    have hnm:=HNAME.out i hlt
    have HRT:=hid hrt
    have HLE:=hid (And.intro hle1 hle2)
    generalize hX : l[i] = X at *
    obtain ⟨xn,xf⟩:=X
    simp only at hcl hrd hfm hnm HRT
    have HHP:=hid (fun w => Sh.strings_HasPrefix ⟨xn.toArray⟩ ⟨#[122]⟩ w)
    have HPZ : Hid (Lib.hasPrefix (⟨xn.toArray⟩ : ByteArray).data.toList (⟨#[122]⟩ : ByteArray).data.toList = zK xn):=has_z xn
    have HNMD : Hid ((⟨xn.toArray⟩ : ByteArray).data.toList = xn):=rfl
    have HHW:=hid hH
    have HIB:=hid HI.out
    clear hrw hX hrt hle1 hle2 HI hH
    rcases hnm with ⟨hz1,hnt⟩ | ⟨x,hxA,hxe⟩ | ⟨n,hn1,hn2,hne,hin⟩
    · have HTN:=hid (Gw hE hnt)
      have hsg:=HRT.out
      rw [PG hz1,if_pos rfl,Nat.add_zero] at hsg
      have HSG:=hid hsg
      have hpz:=HPZ.out
      rw [hz1] at hpz
      have HPT:=hid hpz
      generalize (⟨xn.toArray⟩ : ByteArray) = NM at *
      clear hz1 hnt hE hrd hsg hpz HRT HPZ HNMD hfm
      go_wp2_with fail
      refine HTN.out.mono ?_
      rintro e w2 ⟨rfl,b2⟩
      have hhp:=HHP.out w2
      rw [HPT.out] at hhp
      have HP2:=hid hhp
      have B2:=hid (HIB.out.trans (b2.mono HIB.out.size))
      clear hhp b2 HTN HHP HPT
      go_wp2_with fail
      refine HP2.out.mono ?_
      rintro e w3 ⟨rfl,rfl⟩
      go_wp2
      go_roundw
      case rel => exact ⟨i + 1,by omega,by rw [HSG.out]; simp,by go_num,B2.out⟩
      case measure => exact hmes
    · have hxs:=HSEG.out.num x hxA
      have htr:=HSEG.out.torn x hxA
      have hrs : ∀ r ∈ x.2.1.map A9.bytes,r.length <= 1048576:=fun r hr => by
       obtain ⟨r9,h9,rfl⟩:=List.mem_map.1 hr
       exact A9.len (HSEG.out.ok r9 (List.mem_flatMap.2 ⟨x,hxA,h9⟩))
      have hxn : xn = Af LOG x.1:=by have:=congrArg (·.1) hxe; exact this
      have hxf : xf = FV (A6 (x.2.1.map A9.bytes) ++ x.2.2):=by have:=congrArg (·.2) hxe; exact this
      have hps:=hfm.1 (by rw [hxn]; exact ND _)
      have hsn : (Bz xf.bytes).1.length = x.2.1.length:=by
       rw [hxf]
       show (Bz (A6 (x.2.1.map A9.bytes) ++ x.2.2)).1.length = _
       rw [It hrs x.2.2 htr.next,List.length_map]
      have hsg:=HRT.out
      rw [hxn,if_neg (Gp hxs.1 hxs.2),hsn] at hsg
      have HSG:=hid hsg
      have HTN:=hid (Gw hE (f:=⟨xn.toArray⟩) (by rw [hxn]; exact Pw x.1))
      have hpz:=HPZ.out
      rw [show zK xn = false by rw [hxn]; rfl] at hpz
      have HPT:=hid hpz
      have HIS : Hid (∀ w,Calls Tryz.prog 79 #[.string ⟨xn.toArray⟩] w fun e w' => e = .returned (.bool true) /\ Below w.heap.size w w'):=fun w => by
       rw [hxn]; exact OJ hxs.1 hxs.2
      have hnz : (⟨xn.toArray⟩ : ByteArray).size <= 1000:=by
       rw [A0,hxn]
       unfold Af
       rw [List.length_append,decN_len]
       decide
      have HFR : Hid (∀ w,Calls Tryz.prog 80 #[.string ⟨xf.bytes.toArray⟩] w fun e w' => e = .returned (.int .i64 (x.2.1.length : Nat)) /\ Below w.heap.size w w'):=fun w => by
       have h9:=TI hrs htr ⟨xf.bytes.toArray⟩ (by rw [hxf]; rfl) (by rw [A0]; exact hfm.2) w
       rwa [List.length_map] at h9
      have hne0 : ((⟨xf.bytes.toArray⟩ : ByteArray).toList == []) = false:=by
       have h9 : (⟨xf.bytes.toArray⟩ : ByteArray).size ≠ 0:=by rw [A0]; omega
       rw [beq_eq_false_iff_ne]
       intro e
       have:=DI (k:=⟨xf.bytes.toArray⟩) (by omega)
       rw [e] at this
       cases this
      have HHT:=hid (fun w (b : Below _ _ w) => Ih (HH.out.below b) 0 (by omega) (by omega))
      have hdec : decide (0 <= st.newest /\ st.newest < 0 + st.runs.length) = false:=by
       have:=HSH.out.newest
       exact decide_eq_false (by omega)
      rw [hdec] at HHT
      have HRD : Hid (tx (S.read xn).1 = .string ⟨xf.bytes.toArray⟩):=by show tx (S.read xn).1 = _; rw [hrd]; rfl
      have HRR:=hid (fun w (b : Below _ _ w) => PQ (HH.out.below b) ⟨xn.toArray⟩ (by unfold maxLen; omega))
      have HRE:=hid (show (Dy LOG (l.take i)).length + x.2.1.length <= (Bg A).length by have:=HLE.out.2; omega)
      generalize (⟨xn.toArray⟩ : ByteArray) = NM at *
      generalize (⟨xf.bytes.toArray⟩ : ByteArray) = DT at *
      clear hxs htr hrs hxn hxf hsn hsg hE hrd hpz hdec hxe HRT HPZ hfm hps
      generalize x.2.1.length = XL at *
      go_wp2_with fail
      refine HTN.out.mono ?_
      rintro e w2 ⟨rfl,b2⟩
      have hhp:=HHP.out w2
      rw [HPT.out] at hhp
      have HP2:=hid hhp
      have B2:=hid (HIB.out.trans (b2.mono HIB.out.size))
      clear hhp b2 HTN HHP HPT HIB
      go_wp2_with fail
      refine HP2.out.mono ?_
      rintro e w3 ⟨rfl,rfl⟩
      have HT3:=hid (HHT.out w3 B2.out)
      clear HP2 HHT
      go_wp2_with fail
      refine HT3.out.mono ?_
      rintro e w4 ⟨rfl,b4⟩
      have B4:=hid (B2.out.trans (b4.mono B2.out.size))
      have hr4:=HRR.out w4 B4.out
      rw [HNMD.out,HRD.out] at hr4
      have HR4:=hid hr4
      clear b4 B2 HT3 hr4 HRR HRD
      go_wp2_with fail
      refine HR4.out.mono ?_
      rintro e w5 ⟨rfl,rfl⟩
      have HI5:=hid (HIS.out w4)
      clear HR4 HIS
      go_wp2_with fail
      refine HI5.out.mono ?_
      rintro e w6 ⟨rfl,b6⟩
      have B6:=hid (B4.out.trans (b6.mono B4.out.size))
      have HF6:=hid (HFR.out w6)
      clear HI5 b6 B4 HFR
      go_wp2_with fail
      refine HF6.out.mono ?_
      rintro e w7 ⟨rfl,b7⟩
      have B7:=hid (B6.out.trans (b7.mono B6.out.size))
      have hsb : IntKind.i64.wrap ((((Bg A).length - (Dy LOG (l.take i)).length : Nat) : Int) - (XL : Int)) = (((Bg A).length - (Dy LOG (l.take (i + 1))).length : Nat) : Int):=by
       have h1:=HSG.out
       have h2:=HRE.out
       rw [IntKind.wrap_i64,h1]
       omega
      clear b7 B6 HF6
      go_wp2
      go_roundw
      case rel => exact ⟨i + 1,by omega,rfl,by go_num,B7.out⟩
      case measure => exact hmes
    · subst hne
      have hsg:=HRT.out
      rw [KI,if_pos rfl] at hsg
      have HSG:=hid hsg
      have HTN:=hid (I2 hE hn1 hn2)
      have hps:=hfm.1 (N6 _)
      have hpz:=HPZ.out
      rw [N6] at hpz
      have HPT:=hid hpz
      have hnz : (⟨(Ar n).toArray⟩ : ByteArray).size <= 1000:=by rw [A0]; have:=KJ hn2; omega
      have hne0 : ((⟨xf.bytes.toArray⟩ : ByteArray).toList == []) = false:=by
       have h9 : (⟨xf.bytes.toArray⟩ : ByteArray).size ≠ 0:=by rw [A0]; omega
       rw [beq_eq_false_iff_ne]
       intro e
       have:=DI (k:=⟨xf.bytes.toArray⟩) (by omega)
       rw [e] at this
       cases this
      have hn6 : n <= 1000000:=hn2
      have HHT:=hid (fun w (b : Below _ _ w) => Ih (HH.out.below b) n (by omega) (by omega))
      have HRD : Hid (tx (S.read (Ar n)).1 = .string ⟨xf.bytes.toArray⟩):=by show tx (S.read (Ar n)).1 = _; rw [hrd]; rfl
      have HRR:=hid (fun w (b : Below _ _ w) => PQ (HH.out.below b) ⟨(Ar n).toArray⟩ (by unfold maxLen; omega))
      have HIS : Hid (∀ w,Calls Tryz.prog 79 #[.string ⟨(Ar n).toArray⟩] w fun e w' => e = .returned (.bool false) /\ Below w.heap.size w w'):=fun w => OO w n
      have HML : Hid (¬ (n <= st.newest /\ st.newest < n + st.runs.length) -> ∀ w',Below w.heap.size w w' -> Calls Tryz.prog 81 #[.pointer (some ⟨d,0,none⟩),.int .i64 (n : Int),.string ⟨xf.bytes.toArray⟩] w' fun e w'' => e = .returned (.bool true) /\ Below w'.heap.size w' w''):=fun hno w' b => OP (HH.out.below b) HSH.out HSUM.out hn2 HNEW.out _ (by rcases hin with h9 | h9; exact absurd h9 hno; exact h9)
      have hn0 : ((n : Int) == 0) = false:=by rw [beq_eq_false_iff_ne]; omega
      generalize (⟨(Ar n).toArray⟩ : ByteArray) = NM at *
      generalize (⟨xf.bytes.toArray⟩ : ByteArray) = DT at *
      clear hsg hE hrd hpz HRT HPZ hfm hin hps
      go_wp2_with fail
      refine HTN.out.mono ?_
      rintro e w2 ⟨rfl,b2⟩
      have hhp:=HHP.out w2
      rw [HPT.out] at hhp
      have HP2:=hid hhp
      have B2:=hid (HIB.out.trans (b2.mono HIB.out.size))
      clear hhp b2 HTN HHP HPT HIB
      go_wp2_with fail
      refine HP2.out.mono ?_
      rintro e w3 ⟨rfl,rfl⟩
      have hht:=HHT.out w3 B2.out
      clear HP2 HHT
      by_cases hin : n <= st.newest /\ st.newest < n + st.runs.length
      · rw [decide_eq_true hin] at hht
        have HT3:=hid hht
        clear hht hin
        go_wp2_with fail
        refine HT3.out.mono ?_
        rintro e w4 ⟨rfl,b4⟩
        have B4:=hid (B2.out.trans (b4.mono B2.out.size))
        clear b4 B2 HT3
        go_wp2
        go_roundw
        case rel => exact ⟨i + 1,by omega,by rw [HSG.out]; simp,by go_num,B4.out⟩
        case measure => exact hmes
      · rw [decide_eq_false hin] at hht
        have HT3:=hid hht
        have HM3:=hid (HML.out hin)
        clear hht hin HML
        go_wp2_with fail
        refine HT3.out.mono ?_
        rintro e w4 ⟨rfl,b4⟩
        have B4:=hid (B2.out.trans (b4.mono B2.out.size))
        have hr4:=HRR.out w4 B4.out
        rw [HNMD.out,HRD.out] at hr4
        have HR4:=hid hr4
        clear b4 B2 HT3 hr4 HRR HRD
        go_wp2_with fail
        refine HR4.out.mono ?_
        rintro e w5 ⟨rfl,rfl⟩
        have HI5:=hid (HIS.out w4)
        clear HR4 HIS
        go_wp2_with fail
        refine HI5.out.mono ?_
        rintro e w6 ⟨rfl,b6⟩
        have B6:=hid (B4.out.trans (b6.mono B4.out.size))
        have HM6:=hid (HM3.out w6 B6.out)
        clear HI5 b6 B4 HM3
        go_wp2_with fail
        refine HM6.out.mono ?_
        rintro e w7 ⟨rfl,b7⟩
        have B7:=hid (B6.out.trans (b7.mono B6.out.size))
        clear b7 B6 HM6
        go_wp2
        go_roundw
        case rel => exact ⟨i + 1,by omega,by rw [HSG.out]; simp,by go_num,B7.out⟩
        case measure => exact hmes
  · obtain rfl : i = l.length:=by omega
    rw [List.take_length,hR,Nat.sub_self]
    have HB:=hid HI.out
    clear HI
    go_wp2
    go_ret
    exact ⟨rfl,HB.out⟩
end
section
open Go.RowKit Go.Lib
set_option maxRecDepth 100000 in
theorem WV {w : World} {d b : Nat} {S : Bx} {F : Nat -> Prop} (c0 : w.cell? ⟨d,0,none⟩ = some (.pointer (some ⟨b,0,none⟩))) (hb : AH w b S F) (s : ByteArray) (hs : s.size <= maxLen) :
 Calls Tryz.prog 75 #[.pointer (some ⟨d,0,none⟩),.string s] w fun e w' => e = .returned (tx (S.read s.data.toList).1) /\ w = w':=by
 have HR:=hid (MU hb s hs)
 clear hb
 obtain ⟨X,hX⟩ : ∃ X : ByteArray,tx (S.read s.data.toList).1 = .string X:=⟨_,rfl⟩
 rw [hX] at HR ⊢
 generalize (S.read s.data.toList).2 = e2 at *
 clear hX
 go_enter Tryz.func75,Tryz.ntmps75
 go_wp2_with fail
 refine HR.out.mono ?_
 rintro e w1 ⟨rfl,rfl⟩
 go_wp2
 go_ret
 exact ⟨rfl,rfl⟩
set_option maxRecDepth 100000 in
set_option maxHeartbeats 2000000 in
theorem Ok {L B : Nat} {w : World} {d b q mp : Nat} {tv : Value} {s : RS9} {Fm Fb : Nat -> Prop} {S : Bx} (E : EY B w) (hB : B <= L) (h : Cu L w d b q mp tv s Fm) (hb : AH w b S Fb) (hd : S.down = false) (hFb : ∀ k,Fb k -> k < L) {runs : List (List Aa)} (hk : s.k = runs.length) (hr : ∀ r ∈ runs,FP r)
 (hle : runs.length <= s.newest) (hn : s.newest <= limC) (htabs : ∀ i (h : i < runs.length),Am (Ar (s.newest - i)) S.files = some (FV (Gd (s.newest - i) runs[i]))) :
 Calls Tryz.prog 47 #[.pointer (some ⟨d,0,none⟩)] w fun e w' => e = .returned (.bool true) /\ Ac (fun k => tv.ownBlock = some k) w w' /\ ∃ Fr,Dr w' tv runs Fr /\ ∀ k,Fr k -> tv.ownBlock = some k \/ (w.heap.size <= k /\ k < w'.heap.size):=by
 have hrow:=h.row
 rw [hk] at hrow
 obtain ⟨ta,tc,rfl⟩:=An hrow
 have c3:=h.head.c3
 have hn6 : s.newest <= 1000000:=hn
 have hrl : runs.length <= 1000000:=by omega
 have HN:=hid hn
 have HH:=hid h
 have HB:=hid hb
 have HE:=hid E
 have HR:=hid hr
 have HD:=hid hd
 have HFB:=hid hFb
 have HT:=hid htabs
 have H0 : Hid (Ac (fun k => (Value.slice ta runs.length tc).ownBlock = some k) w w /\ ∃ vs,w.ownsRow 0 115 1 (.slice ta runs.length tc) runs.length vs /\ ∀ j (hj : j < runs.length),j < 0 -> CQ w (vs.getD j undef) runs[j] (fun k => w.heap.size <= k /\ k < w.heap.size)):=⟨Ac.refl _ _,_,hrow,fun j hj h => by omega⟩
 have HTV : Hid (∀ k,(Value.slice ta runs.length tc).ownBlock = some k -> L <= k /\ k ≠ d /\ k < w.heap.size):=fun k hk => ⟨(h.dr k hk).1,(h.dr k hk).2.1,(hrow.lt k hk).2⟩
 clear h hb E hr hd hFb htabs hrow hn
 go_enter Tryz.func47,Tryz.ntmps47
 go_wp2
 go_loopw [12] (fun iv wr => ∃ i : Nat,i <= runs.length /\ iv = .int .i64 (i : Int) /\ Hid (Ac (fun k => (Value.slice ta runs.length tc).ownBlock = some k) w wr /\ ∃ vs,wr.ownsRow 0 115 1 (.slice ta runs.length tc) runs.length vs /\ ∀ j (hj : j < runs.length),j < i -> CQ wr (vs.getD j undef) runs[j] (fun k => w.heap.size <= k /\ k < wr.heap.size))) (fun iv _ => runs.length - (intOf iv).toNat)
 case atStart => exact ⟨0,Nat.zero_le _,rfl,H0.out⟩
 case round =>
  clear H0
  obtain ⟨i,hi,rfl,HI⟩:=hrel
  obtain ⟨ht,vs,hvs,hrn⟩:=HI.out
  by_cases hlt : i < runs.length
  · have hmes : runs.length - (intOf (.int .i64 ((i : Int) + 1))).toNat < runs.length - (intOf (.int .i64 (i : Int))).toNat:=by simp [intOf]; omega
    have hhd : Bl wr d b q mp (.slice ta runs.length tc) s.newest s.last s.logged false:=(ht.block d HH.out.head.lt (fun e => (HTV.out d e).2.1 rfl)).trans HH.out.head
    have g3:=hhd.c3
    have g4:=hhd.c4
    have hbw:=HB.out.kept ht (fun k hk e => by have h1:=(HTV.out k e).1; have h2:=HFB.out k hk; omega)
    have hE:=HE.out.turn ht (fun k e => by have h1:=(HTV.out k e).1; omega)
    have hsub : IntKind.i64.wrap ((s.newest : Int) - (i : Int)) = ((s.newest - i : Nat) : Int):=by rw [IntKind.wrap_i64]; omega
    have hnl : s.newest - i <= limC:=by have:=HN.out; omega
    have htf:=GW hE.tab hnl
    have hok:=HR.out _ (List.getElem_mem hlt)
    have htb:=HT.out i hlt
    have HRR:=hid (fun w => IF hok (s.newest - i) hnl w)
    have HTF:=hid htf
    have HHD:=hid hhd
    have HBW:=hid hbw
    have HRD:=hid (Bx.read_some HD.out htb)
    have hnz : (⟨(Ar (s.newest - i)).toArray⟩ : ByteArray).size <= 12:=by rw [A0]; exact KJ hnl
    have HNMD : Hid ((⟨(Ar (s.newest - i)).toArray⟩ : ByteArray).data.toList = Ar (s.newest - i)):=rfl
    generalize (⟨(Ar (s.newest - i)).toArray⟩ : ByteArray) = NM at *
    have HROW:=hid hvs
    have HRN:=hid hrn
    have HTT:=hid ht
    clear hvs hrn ht HI hhd hbw hE htf htb hok
    go_upto_region 5 with (fail)
    go_wp2_with fail
    refine HTF.out.mono ?_
    rintro e w2 ⟨rfl,b2⟩
    have hrd:=WV (d:=d) ((b2.cell (p:=⟨d,0,none⟩) HHD.out.lt).trans HHD.out.c0) (HBW.out.below b2) NM (by unfold maxLen; omega)
    rw [HNMD.out,HRD.out,show tx (FV (Gd (s.newest - i) runs[i])).bytes = .string ⟨(Gd (s.newest - i) runs[i]).toArray⟩ from rfl] at hrd
    have HR2:=hid hrd
    have B2:=hid b2
    clear hrd b2
    go_wp2_with fail
    refine HR2.out.mono ?_
    rintro e w3 ⟨rfl,rfl⟩
    have HX:=hid (HRR.out w2)
    clear HR2 HTF HRR
    generalize (⟨(Gd (s.newest - i) runs[i]).toArray⟩ : ByteArray) = RB at *
    go_wp2_with fail
    refine HX.out.mono ?_
    rintro e w3 ⟨rv,rfl,hrv,b3⟩
    obtain ⟨rg,rc,rfl⟩:=Lj hrv
    have hb3 : Below wr.heap.size wr w3:=B2.out.trans (b3.mono B2.out.size)
    have hhd3:=(hb3.block d HHD.out.lt).trans HHD.out
    have k3 : w3.cell? ⟨d,3,none⟩ = some (.slice ta runs.length tc):=Bl.c3 hhd3
    have hvs3:=Ah HROW.out hb3
    obtain ⟨gt,hta⟩ : ∃ gt,ta = some ⟨gt,0,none⟩:=by
     rcases hvs3.2 with ⟨h1,h2⟩ | ⟨g,cap,cur,h1,_⟩
     · omega
     · injection h1 with h1; exact ⟨g,h1⟩
    subst hta
    have hcell : ∃ cv,w3.cell? ⟨gt,i,none⟩ = some cv:=by
     rcases hvs3.2 with ⟨h1,h2⟩ | ⟨g,cap,cur,h1,_,hg,hle,hcm,hcs,htk⟩
     · omega
     · injection h1 with h1
       injection h1 with h1
       injection h1 with h1
       subst h1
       exact ⟨cur[i]'(by omega),by rw [Ab hg,Array.getElem?_eq_getElem (by omega)]⟩
    have hfree : w3.frozen? ⟨gt,i,none⟩ = false:=by
     rcases hvs3.2 with ⟨h1,h2⟩ | ⟨g,cap,cur,h1,_,hg,_⟩
     · omega
     · injection h1 with h1
       injection h1 with h1
       injection h1 with h1
       subst h1
       exact Ag hg i
    obtain ⟨cv,hcell⟩:=hcell
    have hst:=Yf hvs3 hlt (.slice (some ⟨rg,0,none⟩) 1 rc)
    have hts : Ac (fun k => k = gt) w3 (w3.setCell ⟨gt,i,none⟩ (.slice (some ⟨rg,0,none⟩) 1 rc)):=(Ac.refl (fun k => k = gt) w3).setCell (p:=⟨gt,i,none⟩) (.inl rfl) _
    have htw:=HTT.out.size
    have hgw:=(HTV.out gt rfl).2.2
    have HG : Hid (Ac (fun k => (Value.slice (some ⟨gt,0,none⟩) runs.length tc).ownBlock = some k) w (w3.setCell ⟨gt,i,none⟩ (.slice (some ⟨rg,0,none⟩) 1 rc)) /\ ∃ vs,(w3.setCell ⟨gt,i,none⟩ (.slice (some ⟨rg,0,none⟩) 1 rc)).ownsRow 0 115 1 (.slice (some ⟨gt,0,none⟩) runs.length tc) runs.length vs /\ ∀ j (hj : j < runs.length),j < i + 1 -> CQ (w3.setCell ⟨gt,i,none⟩ (.slice (some ⟨rg,0,none⟩) 1 rc)) (vs.getD j undef) runs[j] (fun k => w.heap.size <= k /\ k < (w3.setCell ⟨gt,i,none⟩ (.slice (some ⟨rg,0,none⟩) 1 rc)).heap.size)):=by
     refine ⟨(HTT.out.trans (Ac.of_below (fun _ => False) hb3) (fun _ h => h.elim)).trans hts (fun k hk => .inl (by have hk : k = gt:=hk; subst hk; rfl)),_,hst,fun j hj hji => ?_⟩
     have hvl:=HROW.out.1
     by_cases hji2 : j = i
     · subst hji2
       have e9 : (vs.set j (.slice (some ⟨rg,0,none⟩) 1 rc)).getD j undef = .slice (some ⟨rg,0,none⟩) 1 rc:=by
        simp [List.getD, show j < vs.length by omega]
       rw [e9]
       have hs3:=b3.size
       have hs2:=B2.out.size
       exact (hrv.tight.kept hts (fun k hk e => by have e : k = gt:=e; have:=hk.1; omega)).mono (fun k hk => ⟨by have:=hk.1; omega,Nat.lt_of_lt_of_le hk.2 hts.size⟩)
     · have e9 : (vs.set i (.slice (some ⟨rg,0,none⟩) 1 rc)).getD j undef = vs.getD j undef:=by
         simp [List.getD, show ¬ i = j by omega]
       rw [e9]
       have h1:=HRN.out j hj (by omega)
       exact ((h1.kept (Ac.of_below (fun _ => False) hb3) (fun _ _ h => h)).kept hts (fun k hk e => by have e : k = gt:=e; have:=hk.1; omega)).mono (fun k hk => ⟨hk.1,by have:=hb3.size; have:=hts.size; omega⟩)
    have hlI : (i : Int) < (runs.length : Int):=by omega
    have hlI0 : (0 : Int) <= (i : Int):=by omega
    clear hrv b3 hb3 hhd3 hvs3 hst hts HRN HROW HTT HX HBW HHD B2 g3 g4
    go_wp2
    go_roundw
    case rel => exact ⟨i + 1,by omega,by go_num,HG⟩
    case measure => exact hmes
  · obtain rfl : i = runs.length:=by omega
    have HT2:=hid ht
    have HV:=hid hvs
    have HRN:=hid hrn
    clear ht hvs hrn HI
    go_wp2
    go_ret
    refine ⟨rfl,HT2.out,fun k => (Value.slice ta runs.length tc).ownBlock = some k \/ (w.heap.size <= k /\ k < wr.heap.size),⟨vs,HV.out,by have:=HV.out.1; omega,fun k hk => .inl hk,fun j hj => (HRN.out j hj hj).mono (fun k hk => .inr hk)⟩,fun k hk => hk⟩
end
end Go.Proofs.YtnafjlhohbhcoaaGreatDoor
