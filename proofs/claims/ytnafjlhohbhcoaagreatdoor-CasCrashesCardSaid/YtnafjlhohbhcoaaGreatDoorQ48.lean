/- Parts of the proof. -/
import Derived.Test.YtnafjlhohbhcoaaGreatDoorQ47
import Derived.Deep.OwnRows
namespace Go.Proofs.YtnafjlhohbhcoaaGreatDoor
open Go.Lib (hid)
set_option linter.unusedVariables false
section
open Go.RowKit Go.Lib
theorem Ph {k : Nat} (hk : k <= 3) (w : World) : (Instr.makeSlice 97 (.int .i64 (k : Int)) (.int .i64 (k : Int))).run Tryz.prog w = .ok (.slice (some ⟨w.heap.size,0,none⟩) k k) (w.alloc (.cells (madeCells #[.slice none 0 0] k) 115)):=
 run_make_row' 97 115 (.slice none 0 0) 24 Tryz.underlying97 infoRun rfl .i64 .i64 k (by omega) (by omega) w
theorem Vo (z : Value) (k : Nat) : (madeCells #[z] k).toList = List.replicate k z:=by
 apply List.ext_getElem (by simp [madeCells])
 intro i h1 h2
 simp [madeCells,Nat.mod_one]
theorem Gj {k : Nat} (hk : k <= 3) (w : World) : (w.alloc (.cells (madeCells #[.slice none 0 0] k) 115)).ownsRow w.heap.size 115 1 (.slice (some ⟨w.heap.size,0,none⟩) k k) k (Gy k):=by
 refine ⟨by simp [Gy],.inr ⟨w.heap.size,k,_,rfl,Nat.le_refl _,heap_alloc_new w _,Nat.le_refl _,by unfold maxLen; omega,by rw [size_madeCells,Nat.mul_one],?_⟩⟩
 rw [Nat.mul_one,Vo]
 unfold Gy
 rw [List.take_of_length_le (by simp)]
structure ED (rb : Nat) (o : Obj) (w : World) : Prop where
 hr : w.heap[rb]? = some o
theorem ED.below {rb : Nat} {o : Obj} {w w' : World} (h : ED rb o w) (t : Below w.heap.size w w') : ED rb o w':=⟨(t.block _ (Ad h.hr)).trans h.hr⟩
theorem ED.alloc {rb : Nat} {o : Obj} {w : World} (h : ED rb o w) (x : Obj) : ED rb o (w.alloc x):=h.below ((Below.refl _ w).alloc (Nat.le_refl _) x)
theorem ED.drew {rb : Nat} {o : Obj} {w : World} (h : ED rb o w) : ED rb o w.drew:=⟨h.hr⟩
theorem ED.set {d rb : Nat} {o : Obj} {w : World} (hne : rb ≠ d) (h : ED rb o w) (i : Nat) (v : Value) : ED rb o (w.setCell ⟨d,i,none⟩ v):=by
 have t : Ac (fun k => k = d) w (w.setCell ⟨d,i,none⟩ v):=(Ac.refl (fun k => k = d) w).setCell (p:=⟨d,i,none⟩) (.inl rfl) _
 exact ⟨(t.block _ (Ad h.hr) hne).trans h.hr⟩
structure DZ (d b q mp : Nat) (tv : Value) (newest last logged : Nat) (w : World) : Prop where
 out : Bl w d b q mp tv newest last logged false
theorem DZ.below {d b q mp newest last logged : Nat} {tv : Value} {w w' : World} (h : DZ d b q mp tv newest last logged w) (t : Below w.heap.size w w') : DZ d b q mp tv newest last logged w':=⟨(t.block d h.out.lt).trans h.out⟩
theorem DZ.alloc {d b q mp newest last logged : Nat} {tv : Value} {w : World} (h : DZ d b q mp tv newest last logged w) (x : Obj) : DZ d b q mp tv newest last logged (w.alloc x):=h.below ((Below.refl _ w).alloc (Nat.le_refl _) x)
theorem DZ.drew {d b q mp newest last logged : Nat} {tv : Value} {w : World} (h : DZ d b q mp tv newest last logged w) : DZ d b q mp tv newest last logged w.drew:=⟨h.out⟩
theorem DZ.setN {d b q mp newest last logged : Nat} {tv : Value} {w : World} (h : DZ d b q mp tv newest last logged w) (n : Nat) : DZ d b q mp tv n last logged (w.setCell ⟨d,4,none⟩ (.int .i64 (n : Int))):=⟨h.out.setNewest n⟩
theorem YJ {w : World} {base : Nat} {v : Value} {rs : List A9} (h : w.ownsRow base 9 1 v rs.length (rs.map fun r => tx r.bytes)) {i : Nat} (hi : i < rs.length) : ∃ g cap,v = .slice (some ⟨g,0,none⟩) rs.length cap /\ w.cell? ⟨g,i,none⟩ = some (.string ⟨(rs[i].bytes).toArray⟩):=by
 obtain ⟨g,cap,h1,h2⟩:=IN (fs:=rs.map A9.bytes) (w:=w) (base:=base) (v:=v) (by rw [List.length_map,List.map_map]; exact h) (i:=i) (by rw [List.length_map]; exact hi)
 rw [List.length_map] at h1
 refine ⟨g,cap,h1,h2.trans ?_⟩
 simp [List.getD,hi,tx]
set_option maxRecDepth 100000 in
set_option maxHeartbeats 4000000 in
theorem UL {L : Nat} {w : World} {d b q mp : Nat} {tv : Value} {Fm : Nat -> Prop} (hL : L <= w.heap.size) (E : CP w) (hg : 2 < L) (h : Cu L w d b q mp tv zeroR9 Fm) {rs : List A9} {a : Option Addr} {cc : Nat}
 (hrow : w.ownsRow 0 9 1 (.slice a rs.length cc) rs.length (rs.map fun r => tx r.bytes)) (hlow : ∀ k,(Value.slice a rs.length cc).ownBlock = some k -> k < L) (hc : CV rs) :
 Calls Tryz.prog 46 #[.pointer (some ⟨d,0,none⟩),.slice a rs.length cc] w fun e w' => e = .returned (.bool true) /\ Ac (fun k => L <= k) w w' /\ ∃ mp' tv' Fm',Cu L w' d b q mp' tv' (BU rs) Fm':=by
 have hfew:=hc.few
 have hok:=hc.ok
 have HSM:=hid (Mr hok)
 have HCH:=hid hc
 have HOK:=hid hok
 have HE:=hid E
 have HG:=hid hg
 have HROW:=hid hrow
 have HLOW:=hid hlow
 have HL:=hid hL
 have H0 : Hid (Ac (fun k => L <= k) w w /\ ∃ mp tv Fm,Cu L w d b q mp tv (BU (rs.take 0)) Fm):=⟨Ac.refl _ _,mp,tv,Fm,h⟩
 clear h hc hok E hrow hlow hg hL
 go_enter Tryz.func46,Tryz.ntmps46
 go_wp2
 go_loopw [5,12] (fun bv iv wr => ∃ i : Nat,i <= rs.length /\ bv = .bool (basedB rs i) /\ iv = .int .i64 (i : Int) /\ Hid (Ac (fun k => L <= k) w wr /\ ∃ mp tv Fm,Cu L wr d b q mp tv (BU (rs.take i)) Fm)) (fun _ iv _ => rs.length - (intOf iv).toNat)
 case atStart => exact ⟨0,Nat.zero_le _,rfl,rfl,H0.out⟩
 case round =>
  clear H0
  obtain ⟨i,hi,rfl,rfl,HI⟩:=hrel
  by_cases hlt : i < rs.length
  · obtain ⟨ht,mp,tv,Fm,hrep⟩:=HI.out
    have hrw:=ht.row HROW.out (fun k hk hF => by have:=HLOW.out k hk; omega)
    have hroks:=HOK.out _ (List.getElem_mem hlt)
    have hsm:=HSM.out i hi
    have hnx:=HSM.out (i + 1) (by omega)
    have hbn:=GE hlt
    have hpt:=JQ hlt
    have hsu:=fun h0 => HCH.out.succ hlt h0
    have hmes : rs.length - (intOf (.int .i64 ((i : Int) + 1))).toNat < rs.length - (intOf (.int .i64 (i : Int))).toNat:=by simp [intOf]; omega
    obtain ⟨g,cp,e1,hcl⟩:=YJ hrw hlt
    injection e1 with e1 _ e2
    subst e1
    subst e2
    have HREC:=hid (fun w => N7 hroks w)
    have hbl:=A9.len hroks
    generalize rs[i] = R at *
    obtain ⟨num,base,ps⟩:=R
    have HR:=hid hroks
    have HREP:=hid hrep
    have HT:=hid ht
    have HSU : Hid (0 < i -> num = (BU (rs.take i)).last + 1):=hsu
    have HPT : Hid (BU (rs.take (i + 1)) = FK (BU (rs.take i)) ⟨num,base,ps⟩):=hpt
    have HBN : Hid (basedB rs (i + 1) = (base.isSome || (if i = 0 then decide (num = 1) else basedB rs i))):=hbn
    have HNX:=hid hnx
    generalize hSS : BU (rs.take i) = SS at *
    generalize hBB : basedB rs i = BB at *
    have hSB : (⟨(A9.bytes ⟨num,base,ps⟩).toArray⟩ : ByteArray).size <= 1048576:=by rw [A0]; exact hbl
    have hSZ : ((⟨(A9.bytes ⟨num,base,ps⟩).toArray⟩ : ByteArray).size = (A9.bytes ⟨num,base,ps⟩).length):=A0 _
    generalize hbyt : (A9.bytes ⟨num,base,ps⟩).length = BL at *
    generalize (⟨(A9.bytes ⟨num,base,ps⟩).toArray⟩ : ByteArray) = SB at *
    clear hrep hroks hsu hpt hbn hnx ht HI hrw
    go_wp2_with fail
    refine (HREC.out _).mono ?_
    rintro e w2 ⟨v,rfl,hr2,b2⟩
    unfold Qf AaG
    simp only
    obtain ⟨pa,pc,rfl⟩:=An hr2
    obtain ⟨BS,hBS⟩ : ∃ BS,base.isSome = BS:=⟨_,rfl⟩
    obtain ⟨VA,VK,hVA,hVK⟩ : ∃ VA VK,(base.getD (0,0)).1 = VA /\ (base.getD (0,0)).2 = VK:=⟨_,_,rfl,rfl⟩
    rw [hBS] at HBN ⊢
    rw [hVA,hVK]
    have HBV:=hid (And.intro hBS (And.intro hVA hVK))
    have hb3 : Below wr.heap.size wr (w2.alloc (.cells #[.int .i64 (num : Int),.bool BS,.int .i64 (VA : Int),.int .i64 (VK : Int),.slice pa ps.length pc] 136)):=b2.alloc b2.size _
    have hbx:=heap_alloc_new w2 (.cells #[.int .i64 (num : Int),.bool BS,.int .i64 (VA : Int),.int .i64 (VK : Int),.slice pa ps.length pc] 136)
    have hrow3:=hr2.alloc (.cells #[.int .i64 (num : Int),.bool BS,.int .i64 (VA : Int),.int .i64 (VK : Int),.slice pa ps.length pc] 136)
    have hd3:=HREP.out.below hb3
    have hdw:=HREP.out.head.lt
    have hrbs : w2.heap.size < (w2.alloc (.cells #[.int .i64 (num : Int),.bool BS,.int .i64 (VA : Int),.int .i64 (VK : Int),.slice pa ps.length pc] 136)).heap.size:=by simp
    have hws:=b2.size
    clear hBS hVA hVK b2 hr2
    go_upto_region 6 with (fail)
    generalize w2.alloc (.cells #[.int .i64 (num : Int),.bool BS,.int .i64 (VA : Int),.int .i64 (VK : Int),.slice pa ps.length pc] 136) = w3 at *
    generalize w2.heap.size = rb at *
    have y0 : w3.cell? ⟨rb,0,none⟩ = some (.int .i64 (num : Int)):=(Ab hbx 0).trans rfl
    have y5:=hd3.head.c5
    have f5:=hd3.head.free 5
    have hlb : SS.last <= 1000000:=hsm.2.2.2.1
    have hnb : num <= 1000000:=HR.out.num
    have D3:=hid hd3
    have BX:=hid hbx
    have ROW3:=hid hrow3
    have B3:=hid hb3
    clear hd3 hbx hrow3 hb3
    rcases Nat.eq_zero_or_pos i with h0 | h0
    · subst h0
      go_upto_region 6 with (fail)
      go_quiet (fail)
      go_upto_region 9 with (fail)
      have D4:=hid ((D3.out.below (below_drewN (Below.refl _ w3) nq)).setLast num)
      have T4 : Hid (Ac (fun k => k = d) w3 ((w3.drewN nq).setCell ⟨d,5,none⟩ (.int .i64 (num : Int)))):=(Ac.of_below (fun k => k = d) (below_drewN (Below.refl _ w3) nq)).setCell (p:=⟨d,5,none⟩) (.inl rfl) _
      generalize (w3.drewN nq).setCell ⟨d,5,none⟩ (.int .i64 (num : Int)) = w4 at *
      have y6:=D4.out.head.c6
      have f6:=D4.out.head.free 6
      simp only at y6
      have D5 : Hid (Cu L (w4.setCell ⟨d,6,none⟩ (.int .i64 ((SS.logged : Int) + (BL : Int)))) d b q mp tv { SS with last:=num,logged:=SS.logged + BL } Fm):=by
       have h1:=D4.out.setLogged (SS.logged + BL)
       rw [show ((SS.logged + BL : Nat) : Int) = (SS.logged : Int) + (BL : Int) by omega] at h1
       exact h1
      have T5 : Hid (Ac (fun k => k = d) w3 (w4.setCell ⟨d,6,none⟩ (.int .i64 ((SS.logged : Int) + (BL : Int))))):=T4.out.setCell (p:=⟨d,6,none⟩) (.inl rfl) _
      have hSB2 : (SB.size : Int) = (BL : Int):=by omega
      have hlg : SS.logged <= 1048576000000:=by have:=hsm.2.2.1; omega
      clear y0 y5 f5
      go_upto_region 10 with (fail)
      generalize w4.setCell ⟨d,6,none⟩ (.int .i64 ((SS.logged : Int) + (BL : Int))) = w5 at *
      have hrd : rb ≠ d:=by omega
      have bx5:=(T5.out.block _ hrbs (fun e => hrd e)).trans BX.out
      have z0 : w5.cell? ⟨rb,0,none⟩ = some (.int .i64 (num : Int)):=(Ab bx5 0).trans rfl
      have z1 : w5.cell? ⟨rb,1,none⟩ = some (.bool BS):=(Ab bx5 1).trans rfl
      have z2 : w5.cell? ⟨rb,2,none⟩ = some (.int .i64 (VA : Int)):=(Ab bx5 2).trans rfl
      have z3 : w5.cell? ⟨rb,3,none⟩ = some (.int .i64 (VK : Int)):=(Ab bx5 3).trans rfl
      have z4 : w5.cell? ⟨rb,4,none⟩ = some (.slice pa ps.length pc):=(Ab bx5 4).trans rfl
      have ROW5:=hid (T5.out.row ROW3.out (fun k hk e => by have:=(ROW3.out.lt k hk).1; have e : k = d:=e; omega))
      have TW5 : Hid (Ac (fun k => L <= k) w w5):=(HT.out.trans (Ac.of_below (fun _ => False) B3.out) (fun _ h => h.elim)).trans T5.out (fun k hk => .inl (by have hk : k = d:=hk; subst hk; exact HREP.out.d0))
      have H3S:=B3.out.size
      have H5S:=T5.out.size
      have BX5:=hid bx5
      clear y6 f6 D4 T4 T5 bx5 D3 BX ROW3 B3
      have hb1 : ((num : Int) == 1) = decide (num = 1):=by rw [Bool.eq_iff_iff]; simp; omega
      generalize hcb : base.isSome = cb at *
      rcases hbase : base with _ | ⟨ba,bk⟩
      · obtain ⟨e1,e2,e3⟩:=HBV.out
        subst hbase
        simp only [Option.isSome_none] at hcb
        subst hcb
        subst e1
        have hm5:=D5.out.memD
        simp only at hm5
        have hpt0:=FI (E:=HE.out.turn9 TW5.out (fun h => by have:=HG.out; omega)) (fun k hk e => by have h1:=D5.out.low k hk; have:=HG.out; omega) hm5 (Aj.own ROW5.out) (fun g o e _ hk => by subst e; have h1 : wr.heap.size <= g:=(ROW5.out.lt _ rfl).1; have h2:=HREP.out.lt _ hk; omega) HR.out.fine (by have h8 : ps.length <= 4096:=HR.out.few; have h9:=hsm.1; show SS.mem.length + ps.length <= _; omega) (by have h8 : At ps <= 530000:=HR.out.size; have h9:=hsm.2.1; show At SS.mem + At ps <= _; omega)
        have HPT0:=hid hpt0
        clear hm5 hpt0
        go_wp2_with fail
        refine HPT0.out.mono ?_
        rintro e w6 ⟨rfl,m6,t6⟩
        have HG6 : Hid (Ac (fun k => L <= k) w w6 /\ ∃ mp tv Fm,Cu L w6 d b q mp tv (BU (rs.take (0 + 1))) Fm):=by
         refine ⟨TW5.out.trans t6 (fun k hk => .inl (D5.out.low k hk)),mp,tv,AN Fm w5 w6,?_⟩
         rw [HPT.out]
         have h1:=D5.out.put m6 t6
         unfold FK
         simp only
         rw [hbyt]
         exact h1
        have hbn:=HBN.out
        clear m6 t6 HPT0
        go_wp2
        go_roundw
        case rel => exact ⟨0 + 1,by omega,by rw [hbn]; simp,by go_num,HG6⟩
        case measure => exact hmes
      · obtain ⟨e1,e2,e3⟩:=HBV.out
        subst hbase
        simp only [Option.isSome_some] at hcb
        subst hcb
        subst e1
        simp only [Option.getD_some] at e2 e3
        subst e2
        subst e3
        obtain ⟨b1,b2,b3⟩:=HR.out.base ba bk rfl
        have hmk:=fun w => Ph (k:=bk) b2 w
        have f2:=D5.out.head.free 2
        have f3:=D5.out.head.free 3
        have f4:=D5.out.head.free 4
        have f6:=D5.out.head.free 6
        go_upto_region 14 with (fail)
        obtain ⟨O,hO⟩ : ∃ O : Obj,Obj.cells #[.int .i64 (num : Int),.bool true,.int .i64 (ba : Int),.int .i64 (bk : Int),.slice pa ps.length pc] 136 = O:=⟨_,rfl⟩
        have SSF : Hid (∀ w',ED rb O w' -> w'.cell? ⟨rb,2,none⟩ = some (.int .i64 (ba : Int)) /\ w'.cell? ⟨rb,3,none⟩ = some (.int .i64 (bk : Int))):=fun w' ⟨h2⟩ =>
         ⟨by subst hO; exact (Ab h2 2).trans rfl,by subst hO; exact (Ab h2 3).trans rfl⟩
        have O5:=hid (show ED rb O w5 from ⟨by subst hO; exact BX5.out⟩)
        have HD5:=hid (show DZ d b q mp tv SS.newest num (SS.logged + BL) w5 from ⟨D5.out.head⟩)
        clear z0 z1 z2 z3 z4 f2 f3 f4 f6 hO
        go_region_held3 (fun w' => w'.cell? ⟨rb,2,none⟩ = some (.int .i64 (ba : Int)) /\ w'.cell? ⟨rb,3,none⟩ = some (.int .i64 (bk : Int))) ((refine SSF.out _ ?_; (repeat (first | exact O5.out | exact ON.out | refine ED.drew ?_ | refine ED.alloc ?_ _ | refine ED.set hrd ?_ _ _)); done))
         (first
           | (go_at_call 45; refine (MM _).mono ?_; rintro e wN ⟨p2,rfl,hN,bN⟩; have ON:=hid (show ED rb O wN from ED.below (by repeat (first | exact O5.out | refine ED.drew ?_ | refine ED.alloc ?_ _)) bN); have HDN:=hid (show DZ d b q mp tv SS.newest num (SS.logged + BL) wN from DZ.below (by repeat (first | exact HD5.out | refine DZ.drew ?_ | refine DZ.alloc ?_ _)) bN); have c2N:=HDN.out.out.c2; have c3N:=HDN.out.out.c3; have c4N:=HDN.out.out.c4; have c6N:=HDN.out.out.c6; have f2N:=HDN.out.out.free 2; have f3N:=HDN.out.out.free 3; have f4N:=HDN.out.out.free 4; have f6N:=HDN.out.out.free 6; have c2A:=fun x => (HDN.out.alloc x).out.c2; have c3A:=fun x => (HDN.out.alloc x).out.c3; have c4A:=fun x => (HDN.out.alloc x).out.c4; have c6A:=fun x => (HDN.out.alloc x).out.c6; have f2A:=fun x => (HDN.out.alloc x).out.free 2; have f3A:=fun x => (HDN.out.alloc x).out.free 3; have f4A:=fun x => (HDN.out.alloc x).out.free 4; have f6A:=fun x => (HDN.out.alloc x).out.free 6; have c2S:=fun x => ((HDN.out.setN ba).alloc x).out.c2; have c3S:=fun x => ((HDN.out.setN ba).alloc x).out.c3; have c6S:=fun x => ((HDN.out.setN ba).alloc x).out.c6; have f2S:=fun x => ((HDN.out.setN ba).alloc x).out.free 2; have f3S:=fun x => ((HDN.out.setN ba).alloc x).out.free 3; have f6S:=fun x => ((HDN.out.setN ba).alloc x).out.free 6; have HNN:=hid hN; have BNN:=hid bN; clear hN bN))
        · have RN : Cu L (wN) d b q mp tv { SS with last:=num,logged:=SS.logged + BL } Fm:=by
            first | exact ((D5.out.below ((Below.refl _ w5).alloc (Nat.le_refl _) _)).below (Ay _)).below BNN.out | exact (D5.out.below ((Below.refl _ w5).alloc (Nat.le_refl _) _)).below BNN.out
          have hrw9 : (wN).ownsRow w5.heap.size 115 1 (.slice (some ⟨w5.heap.size,0,none⟩) bk bk) bk (Gy bk):=Ah (Ah (Gj b2 w5) (Ay _)) BNN.out
          have hms9 : CN (wN) p2 [] (fun k => (w5.heap.size <= k /\ k < (wN).heap.size) /\ k ≠ w5.heap.size):=HNN.out.mono (fun k hk => by have h1:=hk.1; have h2 : (w5.alloc (.cells (madeCells #[.slice none 0 0] bk) 115)).heap.size = w5.heap.size + 1:=(by simp); have h1 : (w5.alloc (.cells (madeCells #[.slice none 0 0] bk) 115)).heap.size <= k:=h1; exact ⟨⟨by omega,hk.2⟩,by omega⟩)
          have hd5:=D5.out.head.lt
          have hL5:=HREP.out.d0
          have hbs:=RN.base (a:=ba) hms9 (Au hrw9 (Nat.zero_le _)) (fun k hk => ⟨by omega,hk.1.2,by omega⟩) (fun k hk => ⟨by have:=(hrw9.lt k hk).1; omega,by have:=(hrw9.lt k hk).1; omega,fun g => g.2 (by injection hk with hk; exact hk.symm)⟩)
          have TWB : Ac (fun k => k = d) w5 (wN):=(Ac.drew (Ac.of_below (fun k => k = d) ((Below.refl _ w5).alloc (Nat.le_refl _) (.cells (madeCells #[.slice none 0 0] bk) 115)))).trans (Ac.of_below (fun _ => False) BNN.out) (fun _ h => h.elim)
          have HR7 : Hid ((Cu L (((((wN).setCell ⟨d,4,none⟩ (.int .i64 (ba : Int))).setCell ⟨d,3,none⟩ (.slice (some ⟨w5.heap.size,0,none⟩) bk bk)).setCell ⟨d,2,none⟩ (.pointer (some ⟨p2,0,none⟩))).setCell ⟨d,6,none⟩ (.int .i64 0)) d b q p2 (.slice (some ⟨w5.heap.size,0,none⟩) bk bk) ⟨ba,bk,[],num,0⟩ (fun k => (w5.heap.size <= k /\ k < (wN).heap.size) /\ k ≠ w5.heap.size)) /\ Ac (fun k => k = d) w5 (((((wN).setCell ⟨d,4,none⟩ (.int .i64 (ba : Int))).setCell ⟨d,3,none⟩ (.slice (some ⟨w5.heap.size,0,none⟩) bk bk)).setCell ⟨d,2,none⟩ (.pointer (some ⟨p2,0,none⟩))).setCell ⟨d,6,none⟩ (.int .i64 0))):=⟨hbs.1,TWB.trans hbs.2 (fun i hi => .inl hi)⟩
          clear RN hrw9 hms9 hbs TWB HNN BNN HDN c2N c3N c4N c6N f2N f3N f4N f6N c2A c3A c4A c6A f2A f3A f4A f6A c2S c3S c6S f2S f3S f6S ON
          generalize (((((wN).setCell ⟨d,4,none⟩ (.int .i64 (ba : Int))).setCell ⟨d,3,none⟩ (.slice (some ⟨w5.heap.size,0,none⟩) bk bk)).setCell ⟨d,2,none⟩ (.pointer (some ⟨p2,0,none⟩))).setCell ⟨d,6,none⟩ (.int .i64 0)) = w7 at *
          obtain ⟨R7,T7⟩:=HR7.out
          have z4 : w7.cell? ⟨rb,4,none⟩ = some (.slice pa ps.length pc):=(Ab ((T7.block _ (Ad BX5.out) (fun e => hrd e)).trans BX5.out) 4).trans rfl
          have ROW7:=hid (T7.row ROW5.out (fun k hk e => by have:=(ROW5.out.lt k hk).1; have e : k = d:=e; omega))
          have TW7 : Hid (Ac (fun k => L <= k) w w7):=TW5.out.trans T7 (fun k hk => .inl (by have hk : k = d:=hk; subst hk; exact HREP.out.d0))
          have R7H:=hid R7
          have hm7:=R7.memD
          simp only at hm7
          have hpt0:=FI (E:=HE.out.turn9 TW7.out (fun h => by have:=HG.out; omega)) (fun k hk e => by have h1:=R7.low k hk; have:=HG.out; omega) hm7 (Aj.own ROW7.out) (fun g o e _ hk => by subst e; have h1:=(ROW5.out.lt _ rfl).2; have h1 : g < w5.heap.size:=h1; omega) HR.out.fine (by have h8 : ps.length <= 4096:=HR.out.few; show 0 + ps.length <= _; omega) (by have h8 : At ps <= 530000:=HR.out.size; show 0 + At ps <= _; omega)
          have HPT0:=hid hpt0
          clear hm7 hpt0 R7 T7 HR7
          go_wp2_with fail
          refine HPT0.out.mono ?_
          rintro e w8 ⟨rfl,m8,t8⟩
          have HG8 : Hid (Ac (fun k => L <= k) w w8 /\ ∃ mp tv Fm,Cu L w8 d b q mp tv (BU (rs.take (0 + 1))) Fm):=by
           have h9:=R7H.out.put m8 t8
           rw [HPT.out]
           exact ⟨TW7.out.trans t8 (fun k hk => .inl (R7H.out.low k hk)),p2,_,_,h9⟩
          have hbn:=HBN.out
          clear m8 t8 HPT0
          go_wp2
          go_roundw
          case rel => exact ⟨0 + 1,by omega,by rw [hbn]; rfl,by go_num,HG8⟩
          case measure => exact hmes
        · have RN : Cu L (wN.alloc (.cells (madeCells #[.slice none 0 0] bk) 115)) d b q mp tv { SS with last:=num,logged:=SS.logged + BL } Fm:=by
            first | exact ((D5.out.below (Ay _)).below BNN.out).below ((Below.refl _ wN).alloc (Nat.le_refl _) _) | exact (D5.out.below BNN.out).below ((Below.refl _ wN).alloc (Nat.le_refl _) _)
          have hrw9 : (wN.alloc (.cells (madeCells #[.slice none 0 0] bk) 115)).ownsRow w5.heap.size 115 1 (.slice (some ⟨wN.heap.size,0,none⟩) bk bk) bk (Gy bk):=Au (Gj b2 wN) BNN.out.size
          have hms9 : CN (wN.alloc (.cells (madeCells #[.slice none 0 0] bk) 115)) p2 [] (fun k => (w5.heap.size <= k /\ k < (wN.alloc (.cells (madeCells #[.slice none 0 0] bk) 115)).heap.size) /\ k ≠ wN.heap.size):=((HNN.out.kept (Ac.of_below (fun _ => False) ((Below.refl _ wN).alloc (Nat.le_refl _) (.cells (madeCells #[.slice none 0 0] bk) 115))) (fun _ _ h => h))).mono (fun k hk => by have h1 : w5.heap.size <= k:=hk.1; have h2 : (wN.alloc (.cells (madeCells #[.slice none 0 0] bk) 115)).heap.size = wN.heap.size + 1:=(by simp); have h3:=hk.2; exact ⟨⟨h1,by omega⟩,by omega⟩)
          have hd5:=D5.out.head.lt
          have hL5:=HREP.out.d0
          have hbs:=RN.base (a:=ba) hms9 (Au hrw9 (Nat.zero_le _)) (fun k hk => ⟨by omega,hk.1.2,by omega⟩) (fun k hk => ⟨by have:=(hrw9.lt k hk).1; omega,by have:=(hrw9.lt k hk).1; omega,fun g => g.2 (by injection hk with hk; exact hk.symm)⟩)
          have TWB : Ac (fun k => k = d) w5 (wN.alloc (.cells (madeCells #[.slice none 0 0] bk) 115)):=((Ac.of_below (fun k => k = d) (Ay w5)).trans (Ac.of_below (fun _ => False) BNN.out) (fun _ h => h.elim)).alloc (.cells (madeCells #[.slice none 0 0] bk) 115)
          have HR7 : Hid ((Cu L (((((wN.alloc (.cells (madeCells #[.slice none 0 0] bk) 115)).setCell ⟨d,4,none⟩ (.int .i64 (ba : Int))).setCell ⟨d,3,none⟩ (.slice (some ⟨wN.heap.size,0,none⟩) bk bk)).setCell ⟨d,2,none⟩ (.pointer (some ⟨p2,0,none⟩))).setCell ⟨d,6,none⟩ (.int .i64 0)) d b q p2 (.slice (some ⟨wN.heap.size,0,none⟩) bk bk) ⟨ba,bk,[],num,0⟩ (fun k => (w5.heap.size <= k /\ k < (wN.alloc (.cells (madeCells #[.slice none 0 0] bk) 115)).heap.size) /\ k ≠ wN.heap.size)) /\ Ac (fun k => k = d) w5 (((((wN.alloc (.cells (madeCells #[.slice none 0 0] bk) 115)).setCell ⟨d,4,none⟩ (.int .i64 (ba : Int))).setCell ⟨d,3,none⟩ (.slice (some ⟨wN.heap.size,0,none⟩) bk bk)).setCell ⟨d,2,none⟩ (.pointer (some ⟨p2,0,none⟩))).setCell ⟨d,6,none⟩ (.int .i64 0))):=⟨hbs.1,TWB.trans hbs.2 (fun i hi => .inl hi)⟩
          clear RN hrw9 hms9 hbs TWB HNN BNN HDN c2N c3N c4N c6N f2N f3N f4N f6N c2A c3A c4A c6A f2A f3A f4A f6A c2S c3S c6S f2S f3S f6S ON
          generalize (((((wN.alloc (.cells (madeCells #[.slice none 0 0] bk) 115)).setCell ⟨d,4,none⟩ (.int .i64 (ba : Int))).setCell ⟨d,3,none⟩ (.slice (some ⟨wN.heap.size,0,none⟩) bk bk)).setCell ⟨d,2,none⟩ (.pointer (some ⟨p2,0,none⟩))).setCell ⟨d,6,none⟩ (.int .i64 0)) = w7 at *
          obtain ⟨R7,T7⟩:=HR7.out
          have z4 : w7.cell? ⟨rb,4,none⟩ = some (.slice pa ps.length pc):=(Ab ((T7.block _ (Ad BX5.out) (fun e => hrd e)).trans BX5.out) 4).trans rfl
          have ROW7:=hid (T7.row ROW5.out (fun k hk e => by have:=(ROW5.out.lt k hk).1; have e : k = d:=e; omega))
          have TW7 : Hid (Ac (fun k => L <= k) w w7):=TW5.out.trans T7 (fun k hk => .inl (by have hk : k = d:=hk; subst hk; exact HREP.out.d0))
          have R7H:=hid R7
          have hm7:=R7.memD
          simp only at hm7
          have hpt0:=FI (E:=HE.out.turn9 TW7.out (fun h => by have:=HG.out; omega)) (fun k hk e => by have h1:=R7.low k hk; have:=HG.out; omega) hm7 (Aj.own ROW7.out) (fun g o e _ hk => by subst e; have h1:=(ROW5.out.lt _ rfl).2; have h1 : g < w5.heap.size:=h1; omega) HR.out.fine (by have h8 : ps.length <= 4096:=HR.out.few; show 0 + ps.length <= _; omega) (by have h8 : At ps <= 530000:=HR.out.size; show 0 + At ps <= _; omega)
          have HPT0:=hid hpt0
          clear hm7 hpt0 R7 T7 HR7
          go_wp2_with fail
          refine HPT0.out.mono ?_
          rintro e w8 ⟨rfl,m8,t8⟩
          have HG8 : Hid (Ac (fun k => L <= k) w w8 /\ ∃ mp tv Fm,Cu L w8 d b q mp tv (BU (rs.take (0 + 1))) Fm):=by
           have h9:=R7H.out.put m8 t8
           rw [HPT.out]
           exact ⟨TW7.out.trans t8 (fun k hk => .inl (R7H.out.low k hk)),p2,_,_,h9⟩
          have hbn:=HBN.out
          clear m8 t8 HPT0
          go_wp2
          go_roundw
          case rel => exact ⟨0 + 1,by omega,by rw [hbn]; rfl,by go_num,HG8⟩
          case measure => exact hmes
        · rw [<- World.setCell_alloc_past (w:=wN) _ d 4 _ HDN.out.out.lt]
          have RN : Cu L (wN.alloc (.cells (madeCells #[.slice none 0 0] bk) 115)) d b q mp tv { SS with last:=num,logged:=SS.logged + BL } Fm:=by
           first | exact ((D5.out.below (Ay _)).below BNN.out).below ((Below.refl _ wN).alloc (Nat.le_refl _) _) | exact (D5.out.below BNN.out).below ((Below.refl _ wN).alloc (Nat.le_refl _) _)
          have hrw9 : (wN.alloc (.cells (madeCells #[.slice none 0 0] bk) 115)).ownsRow w5.heap.size 115 1 (.slice (some ⟨wN.heap.size,0,none⟩) bk bk) bk (Gy bk):=Au (Gj b2 wN) BNN.out.size
          have hms9 : CN (wN.alloc (.cells (madeCells #[.slice none 0 0] bk) 115)) p2 [] (fun k => (w5.heap.size <= k /\ k < (wN.alloc (.cells (madeCells #[.slice none 0 0] bk) 115)).heap.size) /\ k ≠ wN.heap.size):=((HNN.out.kept (Ac.of_below (fun _ => False) ((Below.refl _ wN).alloc (Nat.le_refl _) (.cells (madeCells #[.slice none 0 0] bk) 115))) (fun _ _ h => h))).mono (fun k hk => by have h1 : w5.heap.size <= k:=hk.1; have h2 : (wN.alloc (.cells (madeCells #[.slice none 0 0] bk) 115)).heap.size = wN.heap.size + 1:=(by simp); have h3:=hk.2; exact ⟨⟨h1,by omega⟩,by omega⟩)
          have hd5:=D5.out.head.lt
          have hL5:=HREP.out.d0
          have hbs:=RN.base (a:=ba) hms9 (Au hrw9 (Nat.zero_le _)) (fun k hk => ⟨by omega,hk.1.2,by omega⟩) (fun k hk => ⟨by have:=(hrw9.lt k hk).1; omega,by have:=(hrw9.lt k hk).1; omega,fun g => g.2 (by injection hk with hk; exact hk.symm)⟩)
          have TWB : Ac (fun k => k = d) w5 (wN.alloc (.cells (madeCells #[.slice none 0 0] bk) 115)):=((Ac.of_below (fun k => k = d) (Ay w5)).trans (Ac.of_below (fun _ => False) BNN.out) (fun _ h => h.elim)).alloc (.cells (madeCells #[.slice none 0 0] bk) 115)
          have HR7 : Hid ((Cu L (((((wN.alloc (.cells (madeCells #[.slice none 0 0] bk) 115)).setCell ⟨d,4,none⟩ (.int .i64 (ba : Int))).setCell ⟨d,3,none⟩ (.slice (some ⟨wN.heap.size,0,none⟩) bk bk)).setCell ⟨d,2,none⟩ (.pointer (some ⟨p2,0,none⟩))).setCell ⟨d,6,none⟩ (.int .i64 0)) d b q p2 (.slice (some ⟨wN.heap.size,0,none⟩) bk bk) ⟨ba,bk,[],num,0⟩ (fun k => (w5.heap.size <= k /\ k < (wN.alloc (.cells (madeCells #[.slice none 0 0] bk) 115)).heap.size) /\ k ≠ wN.heap.size)) /\ Ac (fun k => k = d) w5 (((((wN.alloc (.cells (madeCells #[.slice none 0 0] bk) 115)).setCell ⟨d,4,none⟩ (.int .i64 (ba : Int))).setCell ⟨d,3,none⟩ (.slice (some ⟨wN.heap.size,0,none⟩) bk bk)).setCell ⟨d,2,none⟩ (.pointer (some ⟨p2,0,none⟩))).setCell ⟨d,6,none⟩ (.int .i64 0))):=⟨hbs.1,TWB.trans hbs.2 (fun i hi => .inl hi)⟩
          clear RN hrw9 hms9 hbs TWB HNN BNN HDN c2N c3N c4N c6N f2N f3N f4N f6N c2A c3A c4A c6A f2A f3A f4A f6A c2S c3S c6S f2S f3S f6S ON
          generalize (((((wN.alloc (.cells (madeCells #[.slice none 0 0] bk) 115)).setCell ⟨d,4,none⟩ (.int .i64 (ba : Int))).setCell ⟨d,3,none⟩ (.slice (some ⟨wN.heap.size,0,none⟩) bk bk)).setCell ⟨d,2,none⟩ (.pointer (some ⟨p2,0,none⟩))).setCell ⟨d,6,none⟩ (.int .i64 0)) = w7 at *
          obtain ⟨R7,T7⟩:=HR7.out
          have z4 : w7.cell? ⟨rb,4,none⟩ = some (.slice pa ps.length pc):=(Ab ((T7.block _ (Ad BX5.out) (fun e => hrd e)).trans BX5.out) 4).trans rfl
          have ROW7:=hid (T7.row ROW5.out (fun k hk e => by have:=(ROW5.out.lt k hk).1; have e : k = d:=e; omega))
          have TW7 : Hid (Ac (fun k => L <= k) w w7):=TW5.out.trans T7 (fun k hk => .inl (by have hk : k = d:=hk; subst hk; exact HREP.out.d0))
          have R7H:=hid R7
          have hm7:=R7.memD
          simp only at hm7
          have hpt0:=FI (E:=HE.out.turn9 TW7.out (fun h => by have:=HG.out; omega)) (fun k hk e => by have h1:=R7.low k hk; have:=HG.out; omega) hm7 (Aj.own ROW7.out) (fun g o e _ hk => by subst e; have h1:=(ROW5.out.lt _ rfl).2; have h1 : g < w5.heap.size:=h1; omega) HR.out.fine (by have h8 : ps.length <= 4096:=HR.out.few; show 0 + ps.length <= _; omega) (by have h8 : At ps <= 530000:=HR.out.size; show 0 + At ps <= _; omega)
          have HPT0:=hid hpt0
          clear hm7 hpt0 R7 T7 HR7
          go_wp2_with fail
          refine HPT0.out.mono ?_
          rintro e w8 ⟨rfl,m8,t8⟩
          have HG8 : Hid (Ac (fun k => L <= k) w w8 /\ ∃ mp tv Fm,Cu L w8 d b q mp tv (BU (rs.take (0 + 1))) Fm):=by
           have h9:=R7H.out.put m8 t8
           rw [HPT.out]
           exact ⟨TW7.out.trans t8 (fun k hk => .inl (R7H.out.low k hk)),p2,_,_,h9⟩
          have hbn:=HBN.out
          clear m8 t8 HPT0
          go_wp2
          go_roundw
          case rel => exact ⟨0 + 1,by omega,by rw [hbn]; rfl,by go_num,HG8⟩
          case measure => exact hmes
    · have hla : (SS.last : Int) + 1 = (num : Int):=by have:=HSU.out h0; omega
      have hwl : IntKind.i64.wrap ((SS.last : Int) + 1) = (num : Int):=by rw [IntKind.wrap_i64]; omega
      have hi0 : decide ((0 : Int) < (i : Int)) = true:=decide_eq_true (by omega)
      go_upto_region 6 with (fail)
      go_quiet (fail)
      go_upto_region 9 with (fail)
      have hi00 : ((i : Int) == 0) = false:=by rw [beq_eq_false_iff_ne]; omega
      have hi01 : ¬ i = 0:=by omega
      have D4:=hid ((D3.out.below (below_drewN (Below.refl _ w3) nq)).setLast num)
      have T4 : Hid (Ac (fun k => k = d) w3 ((w3.drewN nq).setCell ⟨d,5,none⟩ (.int .i64 (num : Int)))):=(Ac.of_below (fun k => k = d) (below_drewN (Below.refl _ w3) nq)).setCell (p:=⟨d,5,none⟩) (.inl rfl) _
      generalize (w3.drewN nq).setCell ⟨d,5,none⟩ (.int .i64 (num : Int)) = w4 at *
      have y6:=D4.out.head.c6
      have f6:=D4.out.head.free 6
      simp only at y6
      have D5 : Hid (Cu L (w4.setCell ⟨d,6,none⟩ (.int .i64 ((SS.logged : Int) + (BL : Int)))) d b q mp tv { SS with last:=num,logged:=SS.logged + BL } Fm):=by
       have h1:=D4.out.setLogged (SS.logged + BL)
       rw [show ((SS.logged + BL : Nat) : Int) = (SS.logged : Int) + (BL : Int) by omega] at h1
       exact h1
      have T5 : Hid (Ac (fun k => k = d) w3 (w4.setCell ⟨d,6,none⟩ (.int .i64 ((SS.logged : Int) + (BL : Int))))):=T4.out.setCell (p:=⟨d,6,none⟩) (.inl rfl) _
      have hSB2 : (SB.size : Int) = (BL : Int):=by omega
      have hlg : SS.logged <= 1048576000000:=by have:=hsm.2.2.1; omega
      clear y0 y5 f5
      go_upto_region 10 with (fail)
      generalize w4.setCell ⟨d,6,none⟩ (.int .i64 ((SS.logged : Int) + (BL : Int))) = w5 at *
      have hrd : rb ≠ d:=by omega
      have bx5:=(T5.out.block _ hrbs (fun e => hrd e)).trans BX.out
      have z0 : w5.cell? ⟨rb,0,none⟩ = some (.int .i64 (num : Int)):=(Ab bx5 0).trans rfl
      have z1 : w5.cell? ⟨rb,1,none⟩ = some (.bool BS):=(Ab bx5 1).trans rfl
      have z2 : w5.cell? ⟨rb,2,none⟩ = some (.int .i64 (VA : Int)):=(Ab bx5 2).trans rfl
      have z3 : w5.cell? ⟨rb,3,none⟩ = some (.int .i64 (VK : Int)):=(Ab bx5 3).trans rfl
      have z4 : w5.cell? ⟨rb,4,none⟩ = some (.slice pa ps.length pc):=(Ab bx5 4).trans rfl
      have ROW5:=hid (T5.out.row ROW3.out (fun k hk e => by have:=(ROW3.out.lt k hk).1; have e : k = d:=e; omega))
      have TW5 : Hid (Ac (fun k => L <= k) w w5):=(HT.out.trans (Ac.of_below (fun _ => False) B3.out) (fun _ h => h.elim)).trans T5.out (fun k hk => .inl (by have hk : k = d:=hk; subst hk; exact HREP.out.d0))
      have H3S:=B3.out.size
      have H5S:=T5.out.size
      have BX5:=hid bx5
      clear y6 f6 D4 T4 T5 bx5 D3 BX ROW3 B3
      have hb1 : ((num : Int) == 1) = decide (num = 1):=by rw [Bool.eq_iff_iff]; simp; omega
      generalize hcb : base.isSome = cb at *
      rcases hbase : base with _ | ⟨ba,bk⟩
      · obtain ⟨e1,e2,e3⟩:=HBV.out
        subst hbase
        simp only [Option.isSome_none] at hcb
        subst hcb
        subst e1
        have hm5:=D5.out.memD
        simp only at hm5
        have hpt0:=FI (E:=HE.out.turn9 TW5.out (fun h => by have:=HG.out; omega)) (fun k hk e => by have h1:=D5.out.low k hk; have:=HG.out; omega) hm5 (Aj.own ROW5.out) (fun g o e _ hk => by subst e; have h1 : wr.heap.size <= g:=(ROW5.out.lt _ rfl).1; have h2:=HREP.out.lt _ hk; omega) HR.out.fine (by have h8 : ps.length <= 4096:=HR.out.few; have h9:=hsm.1; show SS.mem.length + ps.length <= _; omega) (by have h8 : At ps <= 530000:=HR.out.size; have h9:=hsm.2.1; show At SS.mem + At ps <= _; omega)
        have HPT0:=hid hpt0
        clear hm5 hpt0
        go_wp2_with fail
        refine HPT0.out.mono ?_
        rintro e w6 ⟨rfl,m6,t6⟩
        have HG6 : Hid (Ac (fun k => L <= k) w w6 /\ ∃ mp tv Fm,Cu L w6 d b q mp tv (BU (rs.take (i + 1))) Fm):=by
         refine ⟨TW5.out.trans t6 (fun k hk => .inl (D5.out.low k hk)),mp,tv,AN Fm w5 w6,?_⟩
         rw [HPT.out]
         have h1:=D5.out.put m6 t6
         unfold FK
         simp only
         rw [hbyt]
         exact h1
        have hbn:=HBN.out
        clear m6 t6 HPT0
        go_wp2
        go_roundw
        case rel => exact ⟨i + 1,by omega,by rw [hbn]; simp [hi01],by go_num,HG6⟩
        case measure => exact hmes
      · obtain ⟨e1,e2,e3⟩:=HBV.out
        subst hbase
        simp only [Option.isSome_some] at hcb
        subst hcb
        subst e1
        simp only [Option.getD_some] at e2 e3
        subst e2
        subst e3
        obtain ⟨b1,b2,b3⟩:=HR.out.base ba bk rfl
        have hmk:=fun w => Ph (k:=bk) b2 w
        have f2:=D5.out.head.free 2
        have f3:=D5.out.head.free 3
        have f4:=D5.out.head.free 4
        have f6:=D5.out.head.free 6
        go_upto_region 14 with (fail)
        obtain ⟨O,hO⟩ : ∃ O : Obj,Obj.cells #[.int .i64 (num : Int),.bool true,.int .i64 (ba : Int),.int .i64 (bk : Int),.slice pa ps.length pc] 136 = O:=⟨_,rfl⟩
        have SSF : Hid (∀ w',ED rb O w' -> w'.cell? ⟨rb,2,none⟩ = some (.int .i64 (ba : Int)) /\ w'.cell? ⟨rb,3,none⟩ = some (.int .i64 (bk : Int))):=fun w' ⟨h2⟩ =>
         ⟨by subst hO; exact (Ab h2 2).trans rfl,by subst hO; exact (Ab h2 3).trans rfl⟩
        have O5:=hid (show ED rb O w5 from ⟨by subst hO; exact BX5.out⟩)
        have HD5:=hid (show DZ d b q mp tv SS.newest num (SS.logged + BL) w5 from ⟨D5.out.head⟩)
        clear z0 z1 z2 z3 z4 f2 f3 f4 f6 hO
        go_region_held3 (fun w' => w'.cell? ⟨rb,2,none⟩ = some (.int .i64 (ba : Int)) /\ w'.cell? ⟨rb,3,none⟩ = some (.int .i64 (bk : Int))) ((refine SSF.out _ ?_; (repeat (first | exact O5.out | exact ON.out | refine ED.drew ?_ | refine ED.alloc ?_ _ | refine ED.set hrd ?_ _ _)); done))
         (first
           | (go_at_call 45; refine (MM _).mono ?_; rintro e wN ⟨p2,rfl,hN,bN⟩; have ON:=hid (show ED rb O wN from ED.below (by repeat (first | exact O5.out | refine ED.drew ?_ | refine ED.alloc ?_ _)) bN); have HDN:=hid (show DZ d b q mp tv SS.newest num (SS.logged + BL) wN from DZ.below (by repeat (first | exact HD5.out | refine DZ.drew ?_ | refine DZ.alloc ?_ _)) bN); have c2N:=HDN.out.out.c2; have c3N:=HDN.out.out.c3; have c4N:=HDN.out.out.c4; have c6N:=HDN.out.out.c6; have f2N:=HDN.out.out.free 2; have f3N:=HDN.out.out.free 3; have f4N:=HDN.out.out.free 4; have f6N:=HDN.out.out.free 6; have c2A:=fun x => (HDN.out.alloc x).out.c2; have c3A:=fun x => (HDN.out.alloc x).out.c3; have c4A:=fun x => (HDN.out.alloc x).out.c4; have c6A:=fun x => (HDN.out.alloc x).out.c6; have f2A:=fun x => (HDN.out.alloc x).out.free 2; have f3A:=fun x => (HDN.out.alloc x).out.free 3; have f4A:=fun x => (HDN.out.alloc x).out.free 4; have f6A:=fun x => (HDN.out.alloc x).out.free 6; have c2S:=fun x => ((HDN.out.setN ba).alloc x).out.c2; have c3S:=fun x => ((HDN.out.setN ba).alloc x).out.c3; have c6S:=fun x => ((HDN.out.setN ba).alloc x).out.c6; have f2S:=fun x => ((HDN.out.setN ba).alloc x).out.free 2; have f3S:=fun x => ((HDN.out.setN ba).alloc x).out.free 3; have f6S:=fun x => ((HDN.out.setN ba).alloc x).out.free 6; have HNN:=hid hN; have BNN:=hid bN; clear hN bN))
        · have RN : Cu L (wN) d b q mp tv { SS with last:=num,logged:=SS.logged + BL } Fm:=by
            first | exact ((D5.out.below ((Below.refl _ w5).alloc (Nat.le_refl _) _)).below (Ay _)).below BNN.out | exact (D5.out.below ((Below.refl _ w5).alloc (Nat.le_refl _) _)).below BNN.out
          have hrw9 : (wN).ownsRow w5.heap.size 115 1 (.slice (some ⟨w5.heap.size,0,none⟩) bk bk) bk (Gy bk):=Ah (Ah (Gj b2 w5) (Ay _)) BNN.out
          have hms9 : CN (wN) p2 [] (fun k => (w5.heap.size <= k /\ k < (wN).heap.size) /\ k ≠ w5.heap.size):=HNN.out.mono (fun k hk => by have h1:=hk.1; have h2 : (w5.alloc (.cells (madeCells #[.slice none 0 0] bk) 115)).heap.size = w5.heap.size + 1:=(by simp); have h1 : (w5.alloc (.cells (madeCells #[.slice none 0 0] bk) 115)).heap.size <= k:=h1; exact ⟨⟨by omega,hk.2⟩,by omega⟩)
          have hd5:=D5.out.head.lt
          have hL5:=HREP.out.d0
          have hbs:=RN.base (a:=ba) hms9 (Au hrw9 (Nat.zero_le _)) (fun k hk => ⟨by omega,hk.1.2,by omega⟩) (fun k hk => ⟨by have:=(hrw9.lt k hk).1; omega,by have:=(hrw9.lt k hk).1; omega,fun g => g.2 (by injection hk with hk; exact hk.symm)⟩)
          have TWB : Ac (fun k => k = d) w5 (wN):=(Ac.drew (Ac.of_below (fun k => k = d) ((Below.refl _ w5).alloc (Nat.le_refl _) (.cells (madeCells #[.slice none 0 0] bk) 115)))).trans (Ac.of_below (fun _ => False) BNN.out) (fun _ h => h.elim)
          have HR7 : Hid ((Cu L (((((wN).setCell ⟨d,4,none⟩ (.int .i64 (ba : Int))).setCell ⟨d,3,none⟩ (.slice (some ⟨w5.heap.size,0,none⟩) bk bk)).setCell ⟨d,2,none⟩ (.pointer (some ⟨p2,0,none⟩))).setCell ⟨d,6,none⟩ (.int .i64 0)) d b q p2 (.slice (some ⟨w5.heap.size,0,none⟩) bk bk) ⟨ba,bk,[],num,0⟩ (fun k => (w5.heap.size <= k /\ k < (wN).heap.size) /\ k ≠ w5.heap.size)) /\ Ac (fun k => k = d) w5 (((((wN).setCell ⟨d,4,none⟩ (.int .i64 (ba : Int))).setCell ⟨d,3,none⟩ (.slice (some ⟨w5.heap.size,0,none⟩) bk bk)).setCell ⟨d,2,none⟩ (.pointer (some ⟨p2,0,none⟩))).setCell ⟨d,6,none⟩ (.int .i64 0))):=⟨hbs.1,TWB.trans hbs.2 (fun i hi => .inl hi)⟩
          clear RN hrw9 hms9 hbs TWB HNN BNN HDN c2N c3N c4N c6N f2N f3N f4N f6N c2A c3A c4A c6A f2A f3A f4A f6A c2S c3S c6S f2S f3S f6S ON
          generalize (((((wN).setCell ⟨d,4,none⟩ (.int .i64 (ba : Int))).setCell ⟨d,3,none⟩ (.slice (some ⟨w5.heap.size,0,none⟩) bk bk)).setCell ⟨d,2,none⟩ (.pointer (some ⟨p2,0,none⟩))).setCell ⟨d,6,none⟩ (.int .i64 0)) = w7 at *
          obtain ⟨R7,T7⟩:=HR7.out
          have z4 : w7.cell? ⟨rb,4,none⟩ = some (.slice pa ps.length pc):=(Ab ((T7.block _ (Ad BX5.out) (fun e => hrd e)).trans BX5.out) 4).trans rfl
          have ROW7:=hid (T7.row ROW5.out (fun k hk e => by have:=(ROW5.out.lt k hk).1; have e : k = d:=e; omega))
          have TW7 : Hid (Ac (fun k => L <= k) w w7):=TW5.out.trans T7 (fun k hk => .inl (by have hk : k = d:=hk; subst hk; exact HREP.out.d0))
          have R7H:=hid R7
          have hm7:=R7.memD
          simp only at hm7
          have hpt0:=FI (E:=HE.out.turn9 TW7.out (fun h => by have:=HG.out; omega)) (fun k hk e => by have h1:=R7.low k hk; have:=HG.out; omega) hm7 (Aj.own ROW7.out) (fun g o e _ hk => by subst e; have h1:=(ROW5.out.lt _ rfl).2; have h1 : g < w5.heap.size:=h1; omega) HR.out.fine (by have h8 : ps.length <= 4096:=HR.out.few; show 0 + ps.length <= _; omega) (by have h8 : At ps <= 530000:=HR.out.size; show 0 + At ps <= _; omega)
          have HPT0:=hid hpt0
          clear hm7 hpt0 R7 T7 HR7
          go_wp2_with fail
          refine HPT0.out.mono ?_
          rintro e w8 ⟨rfl,m8,t8⟩
          have HG8 : Hid (Ac (fun k => L <= k) w w8 /\ ∃ mp tv Fm,Cu L w8 d b q mp tv (BU (rs.take (i + 1))) Fm):=by
           have h9:=R7H.out.put m8 t8
           rw [HPT.out]
           exact ⟨TW7.out.trans t8 (fun k hk => .inl (R7H.out.low k hk)),p2,_,_,h9⟩
          have hbn:=HBN.out
          clear m8 t8 HPT0
          go_wp2
          go_roundw
          case rel => exact ⟨i + 1,by omega,by rw [hbn]; rfl,by go_num,HG8⟩
          case measure => exact hmes
        · have RN : Cu L (wN.alloc (.cells (madeCells #[.slice none 0 0] bk) 115)) d b q mp tv { SS with last:=num,logged:=SS.logged + BL } Fm:=by
            first | exact ((D5.out.below (Ay _)).below BNN.out).below ((Below.refl _ wN).alloc (Nat.le_refl _) _) | exact (D5.out.below BNN.out).below ((Below.refl _ wN).alloc (Nat.le_refl _) _)
          have hrw9 : (wN.alloc (.cells (madeCells #[.slice none 0 0] bk) 115)).ownsRow w5.heap.size 115 1 (.slice (some ⟨wN.heap.size,0,none⟩) bk bk) bk (Gy bk):=Au (Gj b2 wN) BNN.out.size
          have hms9 : CN (wN.alloc (.cells (madeCells #[.slice none 0 0] bk) 115)) p2 [] (fun k => (w5.heap.size <= k /\ k < (wN.alloc (.cells (madeCells #[.slice none 0 0] bk) 115)).heap.size) /\ k ≠ wN.heap.size):=((HNN.out.kept (Ac.of_below (fun _ => False) ((Below.refl _ wN).alloc (Nat.le_refl _) (.cells (madeCells #[.slice none 0 0] bk) 115))) (fun _ _ h => h))).mono (fun k hk => by have h1 : w5.heap.size <= k:=hk.1; have h2 : (wN.alloc (.cells (madeCells #[.slice none 0 0] bk) 115)).heap.size = wN.heap.size + 1:=(by simp); have h3:=hk.2; exact ⟨⟨h1,by omega⟩,by omega⟩)
          have hd5:=D5.out.head.lt
          have hL5:=HREP.out.d0
          have hbs:=RN.base (a:=ba) hms9 (Au hrw9 (Nat.zero_le _)) (fun k hk => ⟨by omega,hk.1.2,by omega⟩) (fun k hk => ⟨by have:=(hrw9.lt k hk).1; omega,by have:=(hrw9.lt k hk).1; omega,fun g => g.2 (by injection hk with hk; exact hk.symm)⟩)
          have TWB : Ac (fun k => k = d) w5 (wN.alloc (.cells (madeCells #[.slice none 0 0] bk) 115)):=((Ac.of_below (fun k => k = d) (Ay w5)).trans (Ac.of_below (fun _ => False) BNN.out) (fun _ h => h.elim)).alloc (.cells (madeCells #[.slice none 0 0] bk) 115)
          have HR7 : Hid ((Cu L (((((wN.alloc (.cells (madeCells #[.slice none 0 0] bk) 115)).setCell ⟨d,4,none⟩ (.int .i64 (ba : Int))).setCell ⟨d,3,none⟩ (.slice (some ⟨wN.heap.size,0,none⟩) bk bk)).setCell ⟨d,2,none⟩ (.pointer (some ⟨p2,0,none⟩))).setCell ⟨d,6,none⟩ (.int .i64 0)) d b q p2 (.slice (some ⟨wN.heap.size,0,none⟩) bk bk) ⟨ba,bk,[],num,0⟩ (fun k => (w5.heap.size <= k /\ k < (wN.alloc (.cells (madeCells #[.slice none 0 0] bk) 115)).heap.size) /\ k ≠ wN.heap.size)) /\ Ac (fun k => k = d) w5 (((((wN.alloc (.cells (madeCells #[.slice none 0 0] bk) 115)).setCell ⟨d,4,none⟩ (.int .i64 (ba : Int))).setCell ⟨d,3,none⟩ (.slice (some ⟨wN.heap.size,0,none⟩) bk bk)).setCell ⟨d,2,none⟩ (.pointer (some ⟨p2,0,none⟩))).setCell ⟨d,6,none⟩ (.int .i64 0))):=⟨hbs.1,TWB.trans hbs.2 (fun i hi => .inl hi)⟩
          clear RN hrw9 hms9 hbs TWB HNN BNN HDN c2N c3N c4N c6N f2N f3N f4N f6N c2A c3A c4A c6A f2A f3A f4A f6A c2S c3S c6S f2S f3S f6S ON
          generalize (((((wN.alloc (.cells (madeCells #[.slice none 0 0] bk) 115)).setCell ⟨d,4,none⟩ (.int .i64 (ba : Int))).setCell ⟨d,3,none⟩ (.slice (some ⟨wN.heap.size,0,none⟩) bk bk)).setCell ⟨d,2,none⟩ (.pointer (some ⟨p2,0,none⟩))).setCell ⟨d,6,none⟩ (.int .i64 0)) = w7 at *
          obtain ⟨R7,T7⟩:=HR7.out
          have z4 : w7.cell? ⟨rb,4,none⟩ = some (.slice pa ps.length pc):=(Ab ((T7.block _ (Ad BX5.out) (fun e => hrd e)).trans BX5.out) 4).trans rfl
          have ROW7:=hid (T7.row ROW5.out (fun k hk e => by have:=(ROW5.out.lt k hk).1; have e : k = d:=e; omega))
          have TW7 : Hid (Ac (fun k => L <= k) w w7):=TW5.out.trans T7 (fun k hk => .inl (by have hk : k = d:=hk; subst hk; exact HREP.out.d0))
          have R7H:=hid R7
          have hm7:=R7.memD
          simp only at hm7
          have hpt0:=FI (E:=HE.out.turn9 TW7.out (fun h => by have:=HG.out; omega)) (fun k hk e => by have h1:=R7.low k hk; have:=HG.out; omega) hm7 (Aj.own ROW7.out) (fun g o e _ hk => by subst e; have h1:=(ROW5.out.lt _ rfl).2; have h1 : g < w5.heap.size:=h1; omega) HR.out.fine (by have h8 : ps.length <= 4096:=HR.out.few; show 0 + ps.length <= _; omega) (by have h8 : At ps <= 530000:=HR.out.size; show 0 + At ps <= _; omega)
          have HPT0:=hid hpt0
          clear hm7 hpt0 R7 T7 HR7
          go_wp2_with fail
          refine HPT0.out.mono ?_
          rintro e w8 ⟨rfl,m8,t8⟩
          have HG8 : Hid (Ac (fun k => L <= k) w w8 /\ ∃ mp tv Fm,Cu L w8 d b q mp tv (BU (rs.take (i + 1))) Fm):=by
           have h9:=R7H.out.put m8 t8
           rw [HPT.out]
           exact ⟨TW7.out.trans t8 (fun k hk => .inl (R7H.out.low k hk)),p2,_,_,h9⟩
          have hbn:=HBN.out
          clear m8 t8 HPT0
          go_wp2
          go_roundw
          case rel => exact ⟨i + 1,by omega,by rw [hbn]; rfl,by go_num,HG8⟩
          case measure => exact hmes
        · rw [<- World.setCell_alloc_past (w:=wN) _ d 4 _ HDN.out.out.lt]
          have RN : Cu L (wN.alloc (.cells (madeCells #[.slice none 0 0] bk) 115)) d b q mp tv { SS with last:=num,logged:=SS.logged + BL } Fm:=by
           first | exact ((D5.out.below (Ay _)).below BNN.out).below ((Below.refl _ wN).alloc (Nat.le_refl _) _) | exact (D5.out.below BNN.out).below ((Below.refl _ wN).alloc (Nat.le_refl _) _)
          have hrw9 : (wN.alloc (.cells (madeCells #[.slice none 0 0] bk) 115)).ownsRow w5.heap.size 115 1 (.slice (some ⟨wN.heap.size,0,none⟩) bk bk) bk (Gy bk):=Au (Gj b2 wN) BNN.out.size
          have hms9 : CN (wN.alloc (.cells (madeCells #[.slice none 0 0] bk) 115)) p2 [] (fun k => (w5.heap.size <= k /\ k < (wN.alloc (.cells (madeCells #[.slice none 0 0] bk) 115)).heap.size) /\ k ≠ wN.heap.size):=((HNN.out.kept (Ac.of_below (fun _ => False) ((Below.refl _ wN).alloc (Nat.le_refl _) (.cells (madeCells #[.slice none 0 0] bk) 115))) (fun _ _ h => h))).mono (fun k hk => by have h1 : w5.heap.size <= k:=hk.1; have h2 : (wN.alloc (.cells (madeCells #[.slice none 0 0] bk) 115)).heap.size = wN.heap.size + 1:=(by simp); have h3:=hk.2; exact ⟨⟨h1,by omega⟩,by omega⟩)
          have hd5:=D5.out.head.lt
          have hL5:=HREP.out.d0
          have hbs:=RN.base (a:=ba) hms9 (Au hrw9 (Nat.zero_le _)) (fun k hk => ⟨by omega,hk.1.2,by omega⟩) (fun k hk => ⟨by have:=(hrw9.lt k hk).1; omega,by have:=(hrw9.lt k hk).1; omega,fun g => g.2 (by injection hk with hk; exact hk.symm)⟩)
          have TWB : Ac (fun k => k = d) w5 (wN.alloc (.cells (madeCells #[.slice none 0 0] bk) 115)):=((Ac.of_below (fun k => k = d) (Ay w5)).trans (Ac.of_below (fun _ => False) BNN.out) (fun _ h => h.elim)).alloc (.cells (madeCells #[.slice none 0 0] bk) 115)
          have HR7 : Hid ((Cu L (((((wN.alloc (.cells (madeCells #[.slice none 0 0] bk) 115)).setCell ⟨d,4,none⟩ (.int .i64 (ba : Int))).setCell ⟨d,3,none⟩ (.slice (some ⟨wN.heap.size,0,none⟩) bk bk)).setCell ⟨d,2,none⟩ (.pointer (some ⟨p2,0,none⟩))).setCell ⟨d,6,none⟩ (.int .i64 0)) d b q p2 (.slice (some ⟨wN.heap.size,0,none⟩) bk bk) ⟨ba,bk,[],num,0⟩ (fun k => (w5.heap.size <= k /\ k < (wN.alloc (.cells (madeCells #[.slice none 0 0] bk) 115)).heap.size) /\ k ≠ wN.heap.size)) /\ Ac (fun k => k = d) w5 (((((wN.alloc (.cells (madeCells #[.slice none 0 0] bk) 115)).setCell ⟨d,4,none⟩ (.int .i64 (ba : Int))).setCell ⟨d,3,none⟩ (.slice (some ⟨wN.heap.size,0,none⟩) bk bk)).setCell ⟨d,2,none⟩ (.pointer (some ⟨p2,0,none⟩))).setCell ⟨d,6,none⟩ (.int .i64 0))):=⟨hbs.1,TWB.trans hbs.2 (fun i hi => .inl hi)⟩
          clear RN hrw9 hms9 hbs TWB HNN BNN HDN c2N c3N c4N c6N f2N f3N f4N f6N c2A c3A c4A c6A f2A f3A f4A f6A c2S c3S c6S f2S f3S f6S ON
          generalize (((((wN.alloc (.cells (madeCells #[.slice none 0 0] bk) 115)).setCell ⟨d,4,none⟩ (.int .i64 (ba : Int))).setCell ⟨d,3,none⟩ (.slice (some ⟨wN.heap.size,0,none⟩) bk bk)).setCell ⟨d,2,none⟩ (.pointer (some ⟨p2,0,none⟩))).setCell ⟨d,6,none⟩ (.int .i64 0)) = w7 at *
          obtain ⟨R7,T7⟩:=HR7.out
          have z4 : w7.cell? ⟨rb,4,none⟩ = some (.slice pa ps.length pc):=(Ab ((T7.block _ (Ad BX5.out) (fun e => hrd e)).trans BX5.out) 4).trans rfl
          have ROW7:=hid (T7.row ROW5.out (fun k hk e => by have:=(ROW5.out.lt k hk).1; have e : k = d:=e; omega))
          have TW7 : Hid (Ac (fun k => L <= k) w w7):=TW5.out.trans T7 (fun k hk => .inl (by have hk : k = d:=hk; subst hk; exact HREP.out.d0))
          have R7H:=hid R7
          have hm7:=R7.memD
          simp only at hm7
          have hpt0:=FI (E:=HE.out.turn9 TW7.out (fun h => by have:=HG.out; omega)) (fun k hk e => by have h1:=R7.low k hk; have:=HG.out; omega) hm7 (Aj.own ROW7.out) (fun g o e _ hk => by subst e; have h1:=(ROW5.out.lt _ rfl).2; have h1 : g < w5.heap.size:=h1; omega) HR.out.fine (by have h8 : ps.length <= 4096:=HR.out.few; show 0 + ps.length <= _; omega) (by have h8 : At ps <= 530000:=HR.out.size; show 0 + At ps <= _; omega)
          have HPT0:=hid hpt0
          clear hm7 hpt0 R7 T7 HR7
          go_wp2_with fail
          refine HPT0.out.mono ?_
          rintro e w8 ⟨rfl,m8,t8⟩
          have HG8 : Hid (Ac (fun k => L <= k) w w8 /\ ∃ mp tv Fm,Cu L w8 d b q mp tv (BU (rs.take (i + 1))) Fm):=by
           have h9:=R7H.out.put m8 t8
           rw [HPT.out]
           exact ⟨TW7.out.trans t8 (fun k hk => .inl (R7H.out.low k hk)),p2,_,_,h9⟩
          have hbn:=HBN.out
          clear m8 t8 HPT0
          go_wp2
          go_roundw
          case rel => exact ⟨i + 1,by omega,by rw [hbn]; rfl,by go_num,HG8⟩
          case measure => exact hmes
  · obtain rfl : i = rs.length:=by omega
    have HT:=hid HI.out
    rw [List.take_length] at HT
    have hb:=HCH.out.basedB
    rw [hb]
    clear HI
    go_wp2
    go_ret
    exact ⟨rfl,HT.out⟩
end
section
open Go.RowKit Go.Maps Go.WideMaps Go.Shelf
def OpZ (S : Bx) (m : List Aa) (n : Nat) : Prop:=Op9 S m n /\ ZS S.files
theorem GM (S : Bx) : Bv S = zF S.files:=by
 unfold Bv zF
 congr 1
structure St9I (w : World) (d b q mp : Nat) (tv : Value) (st : AQ) (c : Nat) (ap : Bool) (A : List Bo) (s : Cv) (F0 Fb Fm Fr F : Nat -> Prop) : Prop where
 db : AU w d b q mp tv st false c ap s.box F0 Fb Fm Fr
 sub : ∀ k,F0 k -> F k
 disk : AZ s.box.files st A Eg
 cur : DD A c ap
 shape : AV st
 few : Gs st s.n
 down : s.box.down = false
 z : ZS s.box.files
 c1 : c <= 2 * s.n + 1
 w : weigh s.box.files <= wB s.n
 n : s.n <= 1001
 size : At st.mem < 4096
 mem : EL s.mem st.mem
 map : s.map = st.map
 tabs : s.tabs = st.runs.length
def St9 (w : World) (d b : Nat) (s : Cv) (F : Nat -> Prop) : Prop:=∃ q mp tv st c ap A F0 Fb Fm Fr,St9I w d b q mp tv st c ap A s F0 Fb Fm Fr F
theorem St9.turn {w w' : World} {d b : Nat} {s : Cv} {F G : Nat -> Prop} (h : St9 w d b s F) (t : Ac G w w') (hd : ∀ k,F k -> ¬ G k) : St9 w' d b s F:=by
 obtain ⟨q,mp,tv,st,c,ap,A,F0,Fb,Fm,Fr,h⟩:=h
 exact ⟨q,mp,tv,st,c,ap,A,F0,Fb,Fm,Fr,{ h with db:=h.db.kept t (fun k hk => hd k (h.sub k hk)) }⟩
theorem St9.mono {w : World} {d b : Nat} {s : Cv} {F G : Nat -> Prop} (h : St9 w d b s F) (hg : ∀ k,F k -> G k) : St9 w d b s G:=by
 obtain ⟨q,mp,tv,st,c,ap,A,F0,Fb,Fm,Fr,h⟩:=h
 exact ⟨q,mp,tv,st,c,ap,A,F0,Fb,Fm,Fr,{ h with sub:=fun k hk => hg k (h.sub k hk) }⟩
theorem St9.tight {w : World} {d b : Nat} {s : Cv} {F : Nat -> Prop} (h : St9 w d b s F) : St9 w d b s (fun k => F k /\ k < w.heap.size):=by
 obtain ⟨q,mp,tv,st,c,ap,A,F0,Fb,Fm,Fr,h⟩:=h
 exact ⟨q,mp,tv,st,c,ap,A,F0,Fb,Fm,Fr,{ h with sub:=fun k hk => ⟨h.sub k hk,h.db.lt k hk⟩ }⟩
theorem St9.hold {w : World} {d b : Nat} {s : Cv} {F : Nat -> Prop} (h : St9 w d b s F) (keep : List Int) : OpZ (s.box.crash keep) s.map s.n:=by
 obtain ⟨q,mp,tv,st,c,ap,A,F0,Fb,Fm,Fr,h⟩:=h
 refine ⟨AaO (OpF.of h.disk (fun k b h => h.elim) h.shape h.few h.map h.cur.le h.c1) h.w h.n,?_⟩
 show ZS (AY keep s.box.files).1
 rw [Je h.disk.rising h.disk.firm]
 exact h.z.sub YV
theorem St9.good {w : World} {d b : Nat} {s : Cv} {F : Nat -> Prop} (h : St9 w d b s F) : Ak s.map /\ Abs s.map /\ s.map.length <= 64 * s.n /\ s.tabs <= 3 /\ weigh s.box.files <= limW:=by
 obtain ⟨q,mp,tv,st,c,ap,A,F0,Fb,Fm,Fr,h⟩:=h
 rw [h.map]
 refine ⟨Ep _ _,?_,?_,by rw [h.tabs]; exact h.shape.few,Nat.le_trans h.w (Po h.n)⟩
 · exact fun x hx => ⟨allP_fine _ x (Cz.1 hx).1,(Cz.1 hx).2⟩
 · have h1:=Jn (BY (st.mem :: st.runs))
   have h2:=allP_len (st.mem :: st.runs)
   have h3:=h.few.sum
   show (By (BY (st.mem :: st.runs))).length <= _
   omega
theorem IY {w w' w2 : World} {d b q mp c : Nat} {tv : Value} {st : AQ} {dn ap : Bool} {S S' : Bx} {F F0 Fb Fm Fr : Nat -> Prop} {ms : List (List Aa)} {n : Nat} (hz : ZS S.files) (hd : AU w' d b q mp tv st dn c ap S' (AN F0 w w') Fb Fm Fr) (h1 : S'.down = true) (h2 : weigh S'.files <= wB n) (h3 : Cn S'.files (zF S.files) ms n) (hn : n <= 1001) (hs : ∀ k,F0 k -> F k) (t : Ac (fun k => k = d) w' w2) :
 ∃ S' F',Fe OpZ w2 b S' F' ms n /\ Cb F w F':=by
 refine ⟨S',AN F0 w w',⟨?_,h1,Nat.le_trans h2 (Po hn),fun keep => ?_⟩,fun k hk => ?_⟩
 · exact (hd.box.kept t (fun k hk e => by have e : k = d:=e; subst e; exact hd.db hk)).mono hd.fb
 · obtain ⟨⟨m,k1,k2⟩,k3⟩:=h3 keep
   exact ⟨m,k1,Rm k2 h2 hn,hz.sub k3⟩
 · rcases hk with hk | hk
   · exact .inl (hs k hk)
   · exact .inr hk.1
theorem Pg {w : World} {d : Nat} (v : Value) : Ac (fun k => k = d) w (w.setCell ⟨d,7,none⟩ v):=(Ac.refl (fun k => k = d) w).setCell (p:=⟨d,7,none⟩) (.inl rfl) v
theorem IOx {w w' : World} {d b : Nat} {S : Bx} {F F0 : Nat -> Prop} {ms : List (List Aa)} {n : Nat} (h : EZ w w' d b F0 S ms n) (ht : Ac F0 w w') (hz : ZS S.files) (hn : n <= 1001) (hs : ∀ k,F0 k -> F k) :
 Calls Tryz.prog 54 #[.pointer (some ⟨d,0,none⟩),.int .i64 30] w' fun e w2 => e = .returned (.int .i64 30) /\ 0 <= S.fuel /\ Ac F w w2 /\ ∃ S' F',Fe OpZ w2 b S' F' ms n /\ Cb F w F':=by
 obtain ⟨h0,q,mp,tv,st,dn,c,ap,S',Fb,Fm,Fr,h1,h2,h3,h4⟩:=h
 refine (Aau h1.head).mono ?_
 rintro e w2 ⟨rfl,rfl⟩
 refine ⟨rfl,h0,?_,IY hz h1 h2 h3 h4 hn hs (Pg _)⟩
 refine (ht.trans (Pg (d:=d) (.bool true)) (fun i hi => ?_)).mono (fun k hk => .inl (hs k hk))
 have hi : i = d:=hi
 subst hi
 rcases h1.fd with hk | hk
 · exact .inl hk
 · exact .inr hk.1
theorem St9.made {w w' : World} {d b : Nat} {S : Bx} {F F0 : Nat -> Prop} {st : AQ} {c W : Nat} {n tabs : Nat} {map : List Aa} {mem : List (ByteArray × Nat)} (h : Ek w w' d b F0 S st false c W) (hs : ∀ k,F0 k -> F k) (hz : ZS S.files) (hS : AV st) (hf : Gs st n) (hc : c <= 2 * n + 1) (hW : W <= wB n) (hn : n <= 1001) (hsz : At st.mem < 4096) (hm : EL mem st.mem) (hmap : map = st.map) (ht : tabs = st.runs.length) :
 ∃ s' F',St9 w' d b s' F' /\ Cb F w F' /\ s'.map = map /\ s'.n = n /\ s'.mem = mem /\ s'.tabs = tabs /\ zF s'.box.files = zF S.files /\ (S.fuel < 0 -> s'.box.fuel < 0):=by
 obtain ⟨q,mp,tv,ap,S',A,Fb,Fm,Fr,h1,h2,h3,h4,h5,h6,h7⟩:=h
 refine ⟨⟨S',map,mem,tabs,n⟩,AN F0 w w',⟨q,mp,tv,st,c,ap,A,AN F0 w w',Fb,Fm,Fr,?_⟩,fun k hk => ?_,rfl,rfl,rfl,rfl,h6,h5.1⟩
 · exact { db:=h1,sub:=fun k hk => hk,disk:=h2,cur:=h3,shape:=hS,few:=hf,down:=h4,z:=hz.eq h6,c1:=hc,w:=Nat.le_trans h7 hW,n:=hn,size:=hsz,mem:=hm,map:=hmap,tabs:=ht }
 · rcases hk with hk | hk
   · exact .inl (hs k hk)
   · exact .inr hk.1
end
section
open Go.RowKit Go.Maps Go.WideMaps Go.Shelf
theorem MF (n : Nat) : wB (n + 1) = wB n + 1073741824:=by unfold wB; omega
set_option maxRecDepth 100000 in
set_option maxHeartbeats 2000000 in
theorem TQ {B : Nat} {w : World} {d b : Nat} {s : Cv} {F : Nat -> Prop} (E : EY B w) (h : St9 w d b s F) (hB : ∀ k,F k -> B <= k) (hn : s.n <= limN) :
 Calls Tryz.prog 38 #[.pointer (some ⟨d,0,none⟩)] w fun e w' => Ac F w w' /\
 ((e = .returned (.int .i64 0) /\ ∃ s' F',St9 w' d b s' F' /\ Cb F w F' /\ s'.map = s.map /\ s'.n = s.n + 1 /\ Bv s'.box = Bv s.box /\ (s.box.fuel < 0 -> s'.box.fuel < 0) /\ s'.mem = []) \/
  (0 <= s.box.fuel /\ e = .returned (.int .i64 30) /\ ∃ S' F',Fe OpZ w' b S' F' [s.map] (s.n + 1) /\ Cb F w F')):=by
 obtain ⟨q,mp,tv,st,c,ap,A,F0,Fb,Fm,Fr,I⟩:=h
 have hn' : s.n <= 1000:=hn
 have hwn:=MF s.n
 have hw:=I.w
 have hc1:=I.c1
 have HDN:=hid (FG I.db.head)
 have HLN:=hid (VS I.db.mem)
 have c2:=I.db.head.c2
 have HSUB:=hid I.sub
 have HFN:=hid (I.few.mono (Nat.le_succ s.n))
 by_cases hm : st.mem = []
 · have hl0 : st.mem.length = 0:=by rw [hm]; rfl
   have HR : Hid (∀ w1,Below w.heap.size w w1 -> ∃ s' F',St9 w1 d b s' F' /\ Cb F w F' /\ s'.map = s.map /\ s'.n = s.n + 1 /\ Bv s'.box = Bv s.box /\ (s.box.fuel < 0 -> s'.box.fuel < 0) /\ s'.mem = []):=fun w1 b1 =>
    ⟨⟨s.box,s.map,[],s.tabs,s.n + 1⟩,F,⟨q,mp,tv,st,c,ap,A,F0,Fb,Fm,Fr,{ I with db:=I.db.below b1,few:=HFN.out,c1:=by show c <= 2 * (s.n + 1) + 1; omega,w:=by show weigh s.box.files <= wB (s.n + 1); omega,n:=by show s.n + 1 <= 1001; omega,mem:=by rw [hm]; exact List.Perm.refl _ }⟩,fun k hk => .inl hk,rfl,rfl,rfl,id,rfl⟩
   clear I
   rw [hl0] at HLN
   go_enter Tryz.func38,Tryz.ntmps38
   go_wp2_with fail
   refine HDN.out.mono ?_
   rintro e w1 ⟨rfl,rfl⟩
   go_wp2_with fail
   refine HLN.out.mono ?_
   rintro e w1 ⟨rfl,b1⟩
   have B1:=hid b1
   clear b1 HLN HDN
   go_wp2
   go_ret
   exact ⟨Ac.of_below F B1.out,.inl ⟨rfl,HR.out _ B1.out⟩⟩
 · have hpos:=List.length_pos_iff.2 hm
   have hnz : ((st.mem.length : Int) == 0) = false:=beq_false_of_ne (by omega)
   have hs6 : Bk (st.mem :: st.runs) <= 65536:=by have:=I.few.sum; omega
   have HFL : Hid (∀ w1,Below w.heap.size w w1 -> Calls Tryz.prog 64 #[.pointer (some ⟨d,0,none⟩)] w1 fun e w' => Ac F0 w1 w' /\ ((e = .returned (.int .i64 0) /\ Ek w1 w' d b F0 s.box st.flushed false (c + 1) (weigh s.box.files + 600000000)) \/ (e = .returned (.int .i64 30) /\ EZ w1 w' d b F0 s.box [st.map] (s.n + 1)))):=fun w1 b1 =>
    P4 (E.below b1) (fun k hk => hB k (I.sub k hk)) (I.db.below b1) I.down I.disk I.cur I.shape hm HFN.out (by have:=I.few.newest; omega) (by have:=I.few.last; omega) I.z (by omega) (by omega) (by omega)
   have HMD : Hid (∀ w',Ek w w' d b F0 s.box st.flushed false (c + 1) (weigh s.box.files + 600000000) -> ∃ s' F',St9 w' d b s' F' /\ Cb F w F' /\ s'.map = s.map /\ s'.n = s.n + 1 /\ Bv s'.box = Bv s.box /\ (s.box.fuel < 0 -> s'.box.fuel < 0) /\ s'.mem = []):=fun w' h => by
    obtain ⟨s',F',k1,k2,k3,k4,k5,k6,k7,k8⟩:=St9.made (F:=F) (n:=s.n + 1) (tabs:=st.flushed.runs.length) (map:=s.map) (mem:=[]) h I.sub I.z (I.shape.flushed hm hs6) (HFN.out.flushed (by have:=I.few.newest; omega) (by have:=I.few.last; omega)) (by omega) (by omega) (by omega) (by show At [] < 4096; show 0 < 4096; omega) (List.Perm.refl _) (by rw [I.map,AQ.flushed_map I.shape]) rfl
    exact ⟨s',F',k1,k2,k3,k4,by rw [GM,GM,k7],k8,k5⟩
   have HZ:=hid I.z
   have HMAP:=hid I.map
   have ltw : ∀ k,F0 k -> k < w.heap.size:=I.db.lt
   clear I hm
   generalize st.mem.length = ML at *
   go_enter Tryz.func38,Tryz.ntmps38
   go_wp2_with fail
   refine HDN.out.mono ?_
   rintro e w1 ⟨rfl,rfl⟩
   go_wp2_with fail
   refine HLN.out.mono ?_
   rintro e w1 ⟨rfl,b1⟩
   have B1:=hid b1
   have HF1:=hid (HFL.out w1 b1)
   clear b1 HLN HDN HFL
   go_wp2_with fail
   refine HF1.out.mono ?_
   rintro e w2 ⟨t2,hres⟩
   have HRES:=hid hres
   have T2:=hid t2
   clear t2 hres HF1
   rcases HRES.out with ⟨rfl,hmd⟩ | ⟨rfl,hlo⟩
   · have HM2:=hid (HMD.out w2 (hmd.after B1.out.size ltw T2.out.size))
     clear hmd HRES
     go_wp2_with fail
     refine (Qd d w2).mono ?_
     rintro e w3 ⟨rfl,rfl⟩
     go_wp2
     go_ret
     exact ⟨(Ac.of_below F B1.out).trans T2.out (fun i hi => .inl (HSUB.out i hi)),.inl ⟨rfl,HM2.out⟩⟩
   · have hel:=IOx (F:=F) (hlo.after B1.out.size ltw T2.out.size) ((Ac.of_below F0 B1.out).trans T2.out (fun i hi => .inl hi)) HZ.out (by omega) HSUB.out
     have HEL:=hid hel
     clear hlo HRES hel
     go_wp2_with fail
     refine HEL.out.mono ?_
     rintro e w3 ⟨rfl,k1,k2,k3⟩
     have K:=hid (And.intro k1 (And.intro k2 k3))
     clear k1 k2 k3 HEL
     go_wp2
     go_ret
     rw [HMAP.out]
     exact ⟨K.out.2.1,.inr ⟨K.out.1,rfl,K.out.2.2⟩⟩
end
section
open Go.RowKit Go.Lib
theorem RI {l : List (Key × Ae)} {A : List Bo} (hr : AC l) (h : Fc l A) : (A.map (·.1)).Pairwise (· < ·):=by
 have h1 : (Bu LOG l).Pairwise (fun a b => bytesBefore a.1 b.1 = true):=List.Pairwise.sublist List.filter_sublist hr
 rw [h.segs,List.pairwise_map] at h1
 rw [List.pairwise_map]
 refine List.Pairwise.imp_of_mem (fun {a b} ha hb hab => ?_) h1
 have h2 : bytesBefore (Af LOG a.1) (Af LOG b.1) = true:=hab
 rw [N0 LOG (Ji (h.num a ha).2) (Ji (h.num b hb).2)] at h2
 exact of_decide_eq_true h2
theorem last_most : ∀ {L : List Nat},L.Pairwise (· < ·) -> ∀ x ∈ L,x <= L.getLastD 0:=fun {L} h x hx => by
 rcases List.eq_nil_or_concat L with rfl | ⟨r,y,rfl⟩
 · cases hx
 · rw [List.concat_eq_append] at *
   rw [List.getLastD_concat]
   rcases List.mem_append.1 hx with hx | hx
   · exact Nat.le_of_lt ((List.pairwise_append.1 h).2.2 x hx y (by simp))
   · rw [List.mem_singleton.1 hx]; exact Nat.le_refl _
theorem Zh {l : List (Key × Ae)} {A : List Bo} (hr : AC l) (h : Fc l A) : DD A (F4 LOG l) false:=by
 unfold DD F4
 simp only [Bool.false_eq_true,↓reduceIte]
 intro x hx
 rw [h.nums]
 exact Nat.lt_succ_of_le (last_most (RI hr h) _ (List.mem_map.2 ⟨x,hx,rfl⟩))
theorem ZU {st : AQ} {A : List Bo} {P : Nat -> List UInt8 -> Prop} (h : AZ [] st A P) : st.mem = [] /\ st.runs = []:=by
 have h1:=h.segs.segs
 have h2 : A = []:=by
  cases A with
  | nil => rfl
  | cons a r => cases h1
 subst h2
 have h3:=h.play
 have h4 : zeroR9 = st.core:=h3
 have h5:=congrArg RS9.mem h4
 have h6:=congrArg RS9.k h4
 exact ⟨h5.symm,List.eq_nil_of_length_eq_zero h6.symm⟩
set_option maxRecDepth 100000 in
set_option maxHeartbeats 4000000 in
theorem WH {B : Nat} {w : World} {b : Nat} {S : Bx} {F : Nat -> Prop} {m : List Aa} {n : Nat} (E : EY B w) (hb : AH w b S F) (hB : ∀ k,F k -> B <= k) (hd : S.down = false) (ho : OpZ S m n) (hn : n <= limN) :
 Calls Tryz.prog 24 #[.pointer (some ⟨b,0,none⟩)] w fun e w' => Ac F w w' /\
 ((∃ d s F',e = .returned (.tuple #[.pointer (some ⟨d,0,none⟩),.int .i64 0]) /\ St9 w' d b s F' /\ Cb F w F' /\ s.map = m /\ s.n = n + 1 /\ Bv s.box = Bv S /\ (S.fuel < 0 -> s.box.fuel < 0) /\ (S.files = [] -> s.mem = [] /\ s.tabs = 0)) \/
  (0 <= S.fuel /\ ∃ p S' F',e = .returned (.tuple #[.pointer p,.int .i64 30]) /\ Fe OpZ w' b S' F' [m] (n + 1) /\ Cb F w F')):=by
 obtain ⟨⟨-,⟨st,A,hD,hS,hf,hm,hA⟩,hw,hn1⟩,hz⟩:=ho
 have hn0 : n <= 1000:=hn
 have hwb:=Po (n:=n) (by omega)
 have hwN:=MF n
 have hcur:=Zh hD.rising hD.segs
 have hcl : F4 LOG S.files <= 2 * n + 2:=by
  have h1:=hD.segs.nums
  have h2 : ∀ x ∈ AD LOG S.files,x <= 2 * n + 1:=fun x hx => by
   rw [h1] at hx
   obtain ⟨a,ha,rfl⟩:=List.mem_map.1 hx
   exact hA a ha
  exact Zn h2
 have hsum : Bk (st.mem :: st.runs) <= 65536:=by have:=hf.sum; omega
 have hnew : st.newest + 1 <= limC:=by have:=hf.newest; unfold limC; omega
 have hfl:=Fp S.files
 have hls:=Oq hb (by omega)
 rw [hd] at hls
 simp only [Bool.false_eq_true,↓reduceIte] at hls
 have hsgz : ∀ x ∈ S.files,AE LOG x.1 ≠ 0 -> x.2.bytes.length <= 4398046511104:=fun x hx _ => by have:=P9 hx; omega
 have hbT:=AH.tight hb
 have HLS:=hid hls
 have HE:=hid E
 have HBT:=hid hbT
 have HB:=hid hB
 have HALL:=hid (And.intro hD (And.intro hS (And.intro hf (And.intro hz hcur))))
 have HM:=hid hm
 have HNUM:=hid (And.intro hw (And.intro hwb (And.intro hwN (And.intro hcl (And.intro hsum (And.intro hnew hA))))))
 have HSG:=hid hsgz
 have HDN:=hid hd
 have hrecs : Dy JX.data.toList S.files = (Bg A).map A9.bytes:=hD.segs.recs
 have HRC:=hid hrecs
 clear hls E hbT hb hB hD hS hf hz hcur hm hw hwN hcl hsum hnew hA hsgz hd hrecs
 go_enter Tryz.func24,Tryz.ntmps24
 go_wp2_with fail
 refine HLS.out.mono ?_
 rintro e w1 ⟨fv,rfl,hfr,b1⟩
 obtain ⟨fa,fc,rfl⟩:=An hfr
 have E1:=HE.out.below b1
 have hop:=Zq (nm:=JX) (HBT.out.below b1) (fun k hk => Nat.lt_of_lt_of_le hk.2 b1.size) E1.tab (fun hk => by have:=HB.out _ hk.1; have:=HE.out.gt; omega) (by decide) (by decide) HDN.out (by have:=HNUM.out.2.2.2.1; have h9 : F4 JX.data.toList S.files = F4 LOG S.files:=rfl; omega) HSG.out (by have:=HNUM.out.1; have:=HNUM.out.2.1; omega)
 have HOP:=hid hop
 have HFR:=hid hfr
 have B1:=hid b1
 clear hop hfr b1 E1 HLS
 go_wp2_with fail
 refine HOP.out.mono ?_
 rintro e w2 ⟨q,rv,rfl,hq1,hlg,hrr,b2⟩
 rw [HRC.out] at hrr
 rw [List.length_map,List.map_map] at hrr
 obtain ⟨ra,rc,rfl⟩:=An hrr
 have B2:=hid (B1.out.trans (b2.mono B1.out.size))
 have HLG:=hid hlg
 have HRR:=hid hrr
 have HQ1:=hid hq1
 have HFR2:=hid (Ah HFR.out b2)
 have hs12:=hid (And.intro B1.out.size b2.size)
 clear hlg hrr b2 hq1 HFR HOP
 go_wp2_with fail
 refine (MM w2).mono ?_
 rintro e w3 ⟨mp,rfl,hm3,b3⟩
 have hb4 : Below w3.heap.size w3 (w3.alloc (.cells #[.pointer (some ⟨b,0,none⟩),.pointer (some ⟨q,0,none⟩),.pointer (some ⟨mp,0,none⟩),.slice none 0 0,.int .i64 0,.int .i64 0,.int .i64 0,.bool false] 99)):=(Below.refl _ w3).alloc (Nat.le_refl _) _
 have hd4 : Bl (w3.alloc (.cells #[.pointer (some ⟨b,0,none⟩),.pointer (some ⟨q,0,none⟩),.pointer (some ⟨mp,0,none⟩),.slice none 0 0,.int .i64 0,.int .i64 0,.int .i64 0,.bool false] 99)) w3.heap.size b q mp (.slice none 0 0) 0 0 0 false:=heap_alloc_new w3 _
 have hrep : Cu w2.heap.size (w3.alloc (.cells #[.pointer (some ⟨b,0,none⟩),.pointer (some ⟨q,0,none⟩),.pointer (some ⟨mp,0,none⟩),.slice none 0 0,.int .i64 0,.int .i64 0,.int .i64 0,.bool false] 99)) w3.heap.size b q mp (.slice none 0 0) zeroR9 (fun k => w2.heap.size <= k /\ k < w3.heap.size):=
  { head:=hd4
    mem:=hm3.kept (Ac.of_below (fun _ => False) hb4) (fun _ _ h => h)
    row:=World.ownsRow_nil _ _ _ _
    d0:=b3.size
    dm:=fun h => Nat.lt_irrefl _ h.2
    dr:=fun k hk => by simp [Value.ownBlock] at hk
    lt:=fun k hk => Nat.lt_of_lt_of_le hk.2 hb4.size
    low:=fun k hk => hk.1 }
 have B24 : Hid (Below w2.heap.size w2 (w3.alloc (.cells #[.pointer (some ⟨b,0,none⟩),.pointer (some ⟨q,0,none⟩),.pointer (some ⟨mp,0,none⟩),.slice none 0 0,.int .i64 0,.int .i64 0,.int .i64 0,.bool false] 99))):=b3.trans (hb4.mono b3.size)
 go_wp2_with fail
 generalize (w3.alloc (.cells #[.pointer (some ⟨b,0,none⟩),.pointer (some ⟨q,0,none⟩),.pointer (some ⟨mp,0,none⟩),.slice none 0 0,.int .i64 0,.int .i64 0,.int .i64 0,.bool false] 99)) = w4 at *
 generalize w3.heap.size = d at *
 obtain ⟨L,hL⟩ : ∃ L,w2.heap.size = L:=⟨_,rfl⟩
 have hs0:=B2.out.size
 have hBs:=HE.out.size
 have E4:=HE.out.below (B2.out.trans (B24.out.mono B2.out.size))
 rw [hL] at hrep
 have hrpl:=UL (L:=L) (by have:=B24.out.size; omega) E4.tab64 (by have:=HE.out.gb; omega) hrep (Au (Ah HRR.out B24.out) (Nat.zero_le _)) (fun k hk => by have:=(HRR.out.lt k hk).2; omega) HALL.out.1.chain
 rw [HALL.out.1.play] at hrpl
 have HRPL:=hid hrpl
 have H4:=hid E4
 have HL:=hid hL
 clear hb4 hd4 hrep hm3 b3 hrpl E4 hL
 refine HRPL.out.mono ?_
 rintro e w5 ⟨rfl,t5,mp5,tv5,Fm5,r5⟩
 have hLB : B <= L:=by have:=HL.out; omega
 have E5:=H4.out.turn t5 (fun k (hk : L <= k) => by omega)
 have hb5 : AH w5 b S (fun k => F k /\ k < w.heap.size):=((HBT.out.below B2.out).below B24.out).kept t5 (fun k hk hg => by have:=hk.2; have:=HL.out; have hg : L <= k:=hg; omega)
 have hrt:=Ok E5 hLB r5 hb5 HDN.out (fun k hk => by have:=hk.2; have:=HL.out; omega) (runs:=st.runs) rfl HALL.out.2.1.runs HALL.out.2.1.newest (by have h9:=HNUM.out.2.2.2.2.2.1; show st.newest <= limC; omega) HALL.out.1.tabs.tabs
 have HRT:=hid hrt
 have T5:=hid t5
 have R5:=hid r5
 have H5:=hid (And.intro E5 hb5)
 clear hrt t5 r5 E5 hb5 HRPL
 go_wp2_with fail
 refine HRT.out.mono ?_
 rintro e w6 ⟨rfl,t6,Fr,hrn,hFr⟩
 have hq2 : q < L:=by have:=HLG.out.head.lt; have:=HL.out; omega
 have hnq:=HLG.out.nq
 have htv : ∀ k,tv5.ownBlock = some k -> L <= k /\ k ≠ d /\ ¬ Fm5 k:=R5.out.dr
 have hs6:=t6.size
 have hdl:=R5.out.head.lt
 have hdb : AU w6 d b q mp5 tv5 st false (F4 LOG S.files) false S (fun k => ((F k /\ k < w.heap.size) \/ k = q \/ L <= k) /\ k < w6.heap.size) (fun k => F k /\ k < w.heap.size) Fm5 Fr:=by
  have hLL:=HL.out
  have hd0:=R5.out.d0
  exact {
   head:=t6.keeps R5.out.head (fun e => (htv d e).2.1 rfl)
   log:=t6.keeps (T5.out.keeps (HLG.out.head.below B24.out) (fun (e : L <= q) => by omega)) (fun e => by have:=(htv q e).1; omega)
   box:=H5.out.2.kept t6 (fun k hk e => by have:=(htv k e).1; have:=hk.2; omega)
   mem:=R5.out.mem.kept t6 (fun k hk e => (htv k e).2.2 hk)
   runs:=hrn
   fd:=⟨.inr (.inr hd0),by omega⟩
   fq:=⟨.inr (.inl rfl),by have:=B24.out.size; have:=T5.out.size; omega⟩
   fb:=fun k hk => ⟨.inl hk,by have:=hk.2; have:=B24.out.size; have:=T5.out.size; omega⟩
   fm:=fun k hk => ⟨.inr (.inr (R5.out.low k hk)),by have:=R5.out.lt k hk; omega⟩
   fr:=fun k hk => by
    rcases hFr k hk with h9 | h9
    · exact ⟨.inr (.inr (htv k h9).1),by have:=(R5.out.row.lt k h9).2; omega⟩
    · exact ⟨.inr (.inr (by omega)),h9.2⟩
   dq:=by omega
   db:=fun h9 => by have:=h9.2; omega
   dm:=R5.out.dm
   dr:=fun h9 => by
    rcases hFr d h9 with h9 | h9
    · exact (htv d h9).2.1 rfl
    · omega
   qb:=hnq
   qm:=fun h9 => by have:=R5.out.low q h9; omega
   qr:=fun h9 => by
    rcases hFr q h9 with h9 | h9
    · have:=(htv q h9).1; omega
    · omega
   bm:=fun k hk h9 => by have:=R5.out.low k h9; have:=hk.2; omega
   br:=fun k hk h9 => by
    rcases hFr k h9 with h9 | h9
    · have:=(htv k h9).1; have:=hk.2; omega
    · have:=hk.2; omega
   mr:=fun k hk h9 => by
    rcases hFr k h9 with h9 | h9
    · exact (htv k h9).2.2 hk
    · have:=R5.out.lt k hk; omega
   lt:=fun k hk => hk.2
   c1:=HLG.out.cur1
   c8:=HLG.out.cur8 }
 have E6:=H5.out.1.turn t6 (fun k hk => by have:=(htv k hk).1; omega)
 have hfr6:=t6.row (T5.out.row (Ah HFR2.out B24.out) (fun k hk (e : L <= k) => by have:=(HFR2.out.lt k hk).2; have:=HL.out; omega)) (fun k hk e => by have:=(htv k e).1; have:=(HFR2.out.lt k hk).2; have:=HL.out; omega)
 have hia:=Wn E6 hdb HDN.out HALL.out.1 HALL.out.2.1 HALL.out.2.2.2.1 HNUM.out.2.2.2.2.1 HNUM.out.2.2.2.2.2.1 (by have:=HNUM.out.1; have:=HNUM.out.2.1; omega) (Au hfr6 (Nat.zero_le _))
 have TW6 : Hid (Ac (fun _ => False) w w6):=by
  have h1:=Ac.of_below (fun _ => False) (B2.out.trans (B24.out.mono B2.out.size))
  have hLL:=HL.out
  exact (h1.trans T5.out (fun k (hk : L <= k) => .inr (by omega))).trans t6 (fun k hk => .inr (by have:=(htv k hk).1; omega))
 have HDB:=hid hdb
 have HIA:=hid hia
 have H6:=hid E6
 have HLB:=hid (And.intro hLB (And.intro hq2 (And.intro HQ1.out (And.intro hs0 HL.out))))
 clear hia hdb t6 hrn hFr E6 hfr6 htv hnq HRT T5 R5 H5 H4 hs6 hdl hs0 hBs hLB hq2
 go_wp2_with fail
 refine HIA.out.mono ?_
 rintro e w7 ⟨rfl,b7⟩
 obtain ⟨FA,hFA⟩ : ∃ FA : Nat -> Prop,FA = fun k => ((F k /\ k < w.heap.size) \/ k = q \/ L <= k) /\ k < w6.heap.size:=⟨_,rfl⟩
 have hB7 : ∀ k,FA k -> B <= k:=fun k hk => by
  rw [hFA] at hk
  have h1:=HLB.out
  have h2:=HE.out.size
  have h3:=hs12.out
  rcases hk.1 with h9 | h9 | h9
  · exact HB.out k h9.1
  · subst h9; omega
  · omega
 have E7:=H6.out.below b7
 have hdb7 : AU w7 d b q mp5 tv5 st false (F4 LOG S.files) false S FA (fun k => F k /\ k < w.heap.size) Fm5 Fr:=by rw [hFA]; exact HDB.out.below b7
 have hsw:=PH E7 hB7 hdb7 HDN.out HALL.out.1 HALL.out.2.1 HALL.out.2.2.2.1 (by have h9:=HNUM.out.2.2.2.2.2.1; omega) (by have:=HNUM.out.1; have:=HNUM.out.2.1; omega)
 have TW7 : Hid (Ac (fun _ => False) w w7):=TW6.out.trans (Ac.of_below (fun _ => False) b7) (fun _ h => h.elim)
 have HFF : Hid (∀ k,FA k -> F k \/ w.heap.size <= k):=fun k hk => by
  rw [hFA] at hk
  have h1:=HLB.out
  have h3:=hs12.out
  rcases hk.1 with h9 | h9 | h9
  · exact .inl h9.1
  · subst h9; exact .inr (by omega)
  · exact .inr (by omega)
 have HSW:=hid hsw
 have H7:=hid (And.intro E7 hB7)
 clear hsw hdb7 E7 hB7 b7 HIA HDB H6 hFA
 go_wp2_with fail
 refine HSW.out.mono ?_
 rintro e w8 ⟨t8,S8,hdb8,hz8,hw8,⟨rfl,hd8,hr8,hD8⟩ | ⟨rfl,h0,hd8,hD8⟩⟩
 case inr =>
  have hlf:=IY (w:=w7) (F:=FA) (n:=n + 1) (ms:=[m]) HALL.out.2.2.2.1 hdb8.grow hd8 (by have:=HNUM.out.1; have:=HNUM.out.2.2.1; omega) (Cn.firm (OpF.of hD8 (fun k b h => h) HALL.out.2.1 (HALL.out.2.2.1.mono (Nat.le_succ n)) HM.out (fun a ha => HNUM.out.2.2.2.2.2.2 a ha) (by omega)) (by simp) hz8) (by omega) (fun k hk => hk) (Ac.refl _ _)
  obtain ⟨S9,F9,hf9,hfr9⟩:=hlf
  have HF : Hid (Ac F w w8 /\ 0 <= S.fuel /\ Fe OpZ w8 b S9 F9 [m] (n + 1) /\ Cb F w F9):=⟨(TW7.out.mono (fun k hk => hk.elim)).trans t8 (fun k hk => HFF.out k hk),h0,hf9,fun k hk => by
   rcases hfr9 k hk with h9 | h9
   · exact HFF.out k h9
   · exact .inr (Nat.le_trans TW7.out.size h9)⟩
  clear t8 hdb8 hz8 hw8 h0 hd8 hD8 hf9 hfr9 HSW
  go_wp2
  go_ret2
  exact ⟨HF.out.1,.inr ⟨HF.out.2.1,none,S9,F9,by simp,HF.out.2.2.1,HF.out.2.2.2⟩⟩
 have E8:=H7.out.1.turn t8 H7.out.2
 have hst:=Oy E8 H7.out.2 hdb8 hd8 hD8 HALL.out.2.2.2.2 HALL.out.2.1 (N:=n + 1) (HALL.out.2.2.1.mono (Nat.le_succ n)) (by have:=HALL.out.2.2.1.newest; omega) (by have:=HALL.out.2.2.1.last; omega) (HALL.out.2.2.2.1.eq hz8) (by have:=HNUM.out.2.2.2.1; omega) (by omega) (by have:=HNUM.out.1; have:=HNUM.out.2.2.1; omega)
 have TW8 : Hid (Ac F w w8):=(TW7.out.mono (fun k hk => hk.elim)).trans t8 (fun k hk => HFF.out k hk)
 have H8:=hid (And.intro hz8 (And.intro hw8 (And.intro hr8 hD8)))
 have HST:=hid hst
 clear hst E8 t8 hdb8 hz8 hw8 hr8 hd8 hD8 HSW
 go_wp2_with fail
 refine HST.out.mono ?_
 rintro e w9 ⟨t9,⟨rfl,st',c',hc',hset,hmd⟩ | ⟨rfl,hlo⟩⟩
 · have hsz : At st'.mem < 4096:=by
     rw [hset.mem]
     split
     · decide
     · omega
   obtain ⟨s9,F9,k1,k2,k3,k4,k5,k6,k7,k8⟩:=St9.made (F:=FA) (n:=n + 1) hmd (fun k hk => hk) (HALL.out.2.2.2.1.eq H8.out.1) hset.shape hset.few (by have:=HNUM.out.2.2.2.1; omega) (by have:=HNUM.out.1; have:=HNUM.out.2.2.1; have:=H8.out.2.1; omega) (by omega) hsz (EL.refl st'.mem) (hset.map.trans HM.out.symm).symm rfl
   have HF : Hid (Ac F w w9 /\ St9 w9 d b s9 F9 /\ Cb F w F9 /\ s9.map = m /\ s9.n = n + 1 /\ Bv s9.box = Bv S /\ (S.fuel < 0 -> s9.box.fuel < 0) /\ (S.files = [] -> s9.mem = [] /\ s9.tabs = 0)):=by
    refine ⟨TW8.out.trans t9 (fun k hk => HFF.out k hk),k1,fun k hk => ?_,k3,k4,?_,fun h9 => k8 (H8.out.2.2.1.1 h9),fun h9 => ?_⟩
    · rcases k2 k hk with h9 | h9
      · exact HFF.out k h9
      · exact .inr (Nat.le_trans TW8.out.size h9)
    · rw [GM,GM,k7,H8.out.1]
    · have hdk:=HALL.out.1
      rw [h9] at hdk
      obtain ⟨e1,e2⟩:=ZU hdk
      have e3 : st'.mem = []:=by rw [hset.mem,e1]; rfl
      have e4:=hset.runs (by rw [e1]; decide)
      rw [k5,k6,e3,e4,e2]
      exact ⟨rfl,rfl⟩
   clear t9 hset hmd k1 k2 k3 k4 k5 k6 k7 k8 HST
   go_wp2
   go_ret2
   obtain ⟨j1,j2,j3,j4,j5,j6,j7,j8⟩:=HF.out
   exact ⟨j1,.inl ⟨d,s9,F9,by simp,j2,j3,j4,j5,j6,j7,j8⟩⟩
 · obtain ⟨h0,q9,mp9,tv9,st9,dn9,c9,ap9,S9,Fb9,Fm9,Fr9,h1,h2,h3,h4⟩:=hlo
   have hlf:=IY (w:=w8) (F:=FA) (n:=n + 1) (ms:=[m]) (HALL.out.2.2.2.1.eq H8.out.1) h1 h2 h3 (by rw [HM.out]; exact h4) (by omega) (fun k hk => hk) (Ac.refl _ _)
   obtain ⟨S9',F9,hf9,hfr9⟩:=hlf
   have HF : Hid (Ac F w w9 /\ 0 <= S.fuel /\ Fe OpZ w9 b S9' F9 [m] (n + 1) /\ Cb F w F9):=⟨TW8.out.trans t9 (fun k hk => HFF.out k hk),by
       rcases Int.lt_or_le S.fuel 0 with h9 | h9
       · have:=H8.out.2.2.1.1 h9; omega
       · exact h9,hf9,fun k hk => by
    rcases hfr9 k hk with h9 | h9
    · exact HFF.out k h9
    · exact .inr (Nat.le_trans TW8.out.size h9)⟩
   clear t9 h0 h1 h2 h3 h4 hf9 hfr9 HST
   go_wp2
   go_ret2
   exact ⟨HF.out.1,.inr ⟨HF.out.2.1,none,S9',F9,by simp,HF.out.2.2.1,HF.out.2.2.2⟩⟩
end
section
open Go.RowKit Go.Maps Go.WideMaps Go.Shelf
set_option maxRecDepth 100000 in
set_option maxHeartbeats 2000000 in
theorem QI {B : Nat} {w : World} {d b : Nat} {s : Cv} {F : Nat -> Prop} (E : EY B w) (h : St9 w d b s F) (hB : ∀ k,F k -> B <= k) (hn : s.n <= limN) :
 Calls Tryz.prog 39 #[.pointer (some ⟨d,0,none⟩)] w fun e w' => Ac F w w' /\
 ((e = .returned (.int .i64 0) /\ ∃ s' F',St9 w' d b s' F' /\ Cb F w F' /\ s'.map = s.map /\ s'.n = s.n + 1 /\ Bv s'.box = Bv s.box /\ (s.box.fuel < 0 -> s'.box.fuel < 0) /\ s'.tabs <= 1) \/
  (0 <= s.box.fuel /\ e = .returned (.int .i64 30) /\ ∃ S' F',Fe OpZ w' b S' F' [s.map] (s.n + 1) /\ Cb F w F')):=by
 obtain ⟨q,mp,tv,st,c,ap,A,F0,Fb,Fm,Fr,I⟩:=h
 have hn' : s.n <= 1000:=hn
 have hwn:=MF s.n
 have hw:=I.w
 have hc1:=I.c1
 have HDN:=hid (FG I.db.head)
 have hs6 : Bk (st.mem :: st.runs) <= 65536:=by have:=I.few.sum; omega
 have HCP:=hid (J9 I.db I.shape (by omega))
 have HSUB:=hid I.sub
 have HFN:=hid (I.few.mono (Nat.le_succ s.n))
 by_cases h2 : st.runs.length < 2
 · have he : AB st.runs = []:=if_pos h2
   rw [he] at HCP
   have HR : Hid (∀ w1,Below w.heap.size w w1 -> ∃ s' F',St9 w1 d b s' F' /\ Cb F w F' /\ s'.map = s.map /\ s'.n = s.n + 1 /\ Bv s'.box = Bv s.box /\ (s.box.fuel < 0 -> s'.box.fuel < 0) /\ s'.tabs <= 1):=fun w1 b1 =>
    ⟨⟨s.box,s.map,s.mem,s.tabs,s.n + 1⟩,F,⟨q,mp,tv,st,c,ap,A,F0,Fb,Fm,Fr,{ I with db:=I.db.below b1,few:=HFN.out,c1:=by show c <= 2 * (s.n + 1) + 1; omega,w:=by show weigh s.box.files <= wB (s.n + 1); omega,n:=by show s.n + 1 <= 1001; omega }⟩,fun k hk => .inl hk,rfl,rfl,rfl,id,by show s.tabs <= 1; rw [I.tabs]; omega⟩
   clear I he
   go_enter Tryz.func39,Tryz.ntmps39
   go_wp2_with fail
   refine HDN.out.mono ?_
   rintro e w1 ⟨rfl,rfl⟩
   go_wp2_with fail
   refine HCP.out.mono ?_
   rintro e w1 ⟨v,rfl,⟨va,vc,rfl,_,_⟩,b1⟩
   have B1:=hid b1
   clear b1 HCP HDN
   simp only [List.length_nil]
   go_wp2
   go_ret
   exact ⟨Ac.of_below F B1.out,.inl ⟨rfl,HR.out _ B1.out⟩⟩
 · have hok:=K7 I.shape (by omega) hs6
   have hce : AB st.runs = AT st.runs:=if_neg h2
   have hpos:=List.length_pos_iff.2 hok.ne
   have hcl:=IT st.runs
   rw [<- hce] at hcl
   have h3:=I.shape.few
   have h4:=I.shape.newest
   have hsz:=I.size
   have hle:=len_le_size I.shape.fine
   have hS2 : AV ⟨st.newest + 1,[AB st.runs],st.mem,st.last + 1,0⟩:=⟨I.shape.rising,I.shape.fine,fun r hr => by rw [List.mem_singleton.1 hr]; exact hok,by show 1 <= 3; omega,by show 1 <= st.newest + 1; omega⟩
   have hmap : AQ.map ⟨st.newest + 1,[AB st.runs],st.mem,st.last + 1,0⟩ = st.map:=by
    show CT st.mem [AB st.runs] = CT st.mem st.runs
    rw [hce]
    exact S7 I.shape.good
   have hf2 : Gs ⟨st.newest + 1,[AB st.runs],st.mem,st.last + 1,0⟩ (s.n + 1):=by
    refine ⟨?_,by have:=I.few.newest; show st.newest + 1 <= _; omega,by have:=I.few.last; show st.last + 1 <= _; omega,Nat.zero_le _⟩
    have h1:=I.few.sum
    show Bk [st.mem,AB st.runs] <= _
    unfold Bk at h1 hcl ⊢
    simp only [List.map_cons,List.map_nil,List.sum_cons,List.sum_nil] at h1 hcl ⊢
    omega
   have hrok : ER ⟨st.last + 1,some (st.newest + 1,[AB st.runs].length),st.mem⟩:=by
    have h5:=I.few.last
    have h6:=I.few.newest
    refine ⟨(by show 1 <= st.last + 1; omega),(by show st.last + 1 <= limC; unfold limC; omega),I.shape.fine,(fun h => by cases h),fun a k e => ?_,(by show st.mem.length <= 4096; omega),(by show At st.mem <= 530000; omega)⟩
    injection e with e
    injection e with e1 e2
    subst e1
    subst e2
    exact ⟨by unfold limC; omega,by show 1 <= 3; omega,by show 1 <= st.newest + 1; omega⟩
   have HAT : Hid (∀ w1 a cc,Below w.heap.size w w1 -> Aj w1 (.slice a (AB st.runs).length cc) (AB st.runs) -> (AB st.runs).length <= cc -> w1.cell? ⟨d,2,none⟩ = some (.pointer (some ⟨mp,0,none⟩)) /\ Calls Tryz.prog 66 #[.pointer (some ⟨d,0,none⟩),.slice a (AB st.runs).length cc,.slice none 0 0,.pointer (some ⟨mp,0,none⟩)] w1 fun e w' => Ac F0 w1 w' /\ ((e = .returned (.int .i64 0) /\ Ek w1 w' d b F0 s.box ⟨st.newest + 1,[AB st.runs],st.mem,st.last + 1,0⟩ false (c + 1) (weigh s.box.files + 600000000)) \/ (e = .returned (.int .i64 30) /\ EZ w1 w' d b F0 s.box [st.map] (s.n + 1)))):=fun w1 a cc b1 hr hcc => by
    have hd1:=I.db.below b1
    exact ⟨hd1.head.c2,KD (E.below b1) (fun k hk => hB k (I.sub k hk)) hd1 I.down I.disk I.cur I.shape { hd1.parts with runs:=Dr.nil _ _ } hr hcc hok (.inr rfl) (.inr rfl) hS2 hmap HFN.out hf2 hrok I.z (by omega) (by omega) (by omega)⟩
   have HMD : Hid (∀ w',Ek w w' d b F0 s.box ⟨st.newest + 1,[AB st.runs],st.mem,st.last + 1,0⟩ false (c + 1) (weigh s.box.files + 600000000) -> ∃ s' F',St9 w' d b s' F' /\ Cb F w F' /\ s'.map = s.map /\ s'.n = s.n + 1 /\ Bv s'.box = Bv s.box /\ (s.box.fuel < 0 -> s'.box.fuel < 0) /\ s'.tabs <= 1):=fun w' h => by
    obtain ⟨s',F',k1,k2,k3,k4,k5,k6,k7,k8⟩:=St9.made (F:=F) (n:=s.n + 1) (tabs:=1) (map:=s.map) (mem:=s.mem) h I.sub I.z hS2 hf2 (by omega) (by omega) (by omega) hsz I.mem (by rw [I.map,hmap]) rfl
    exact ⟨s',F',k1,k2,k3,k4,by rw [GM,GM,k7],k8,by rw [k6]; exact Nat.le_refl _⟩
   have HZ:=hid I.z
   have HMAP:=hid I.map
   have ltw : ∀ k,F0 k -> k < w.heap.size:=I.db.lt
   clear I h2 hok hce hcl hS2 hmap hf2 hrok
   generalize AB st.runs = L at *
   have hnz : ¬ L.length = 0:=by omega
   have hnz2 : ((L.length : Int) == 0) = false:=beq_false_of_ne (by omega)
   go_enter Tryz.func39,Tryz.ntmps39
   go_wp2_with fail
   refine HDN.out.mono ?_
   rintro e w1 ⟨rfl,rfl⟩
   go_wp2_with fail
   refine HCP.out.mono ?_
   rintro e w1 ⟨v,rfl,⟨va,vc,rfl,hvc,hrp⟩,b1⟩
   have B1:=hid b1
   obtain ⟨c2,hat⟩:=HAT.out w1 va vc b1 hrp hvc
   have HF1:=hid hat
   clear b1 HCP HDN HAT hrp hat
   obtain ⟨LN,hLN⟩ : ∃ LN,L.length = LN:=⟨_,rfl⟩
   rw [hLN] at HF1 hnz hnz2 ⊢
   clear hLN
   go_wp2_with fail
   refine HF1.out.mono ?_
   rintro e w2 ⟨t2,hres⟩
   have HRES:=hid hres
   have T2:=hid t2
   clear t2 hres HF1
   rcases HRES.out with ⟨rfl,hmd⟩ | ⟨rfl,hlo⟩
   · have HM2:=hid (HMD.out w2 (hmd.after B1.out.size ltw T2.out.size))
     clear hmd HRES
     go_wp2_with fail
     refine (Qd d w2).mono ?_
     rintro e w3 ⟨rfl,rfl⟩
     go_wp2
     go_ret
     exact ⟨(Ac.of_below F B1.out).trans T2.out (fun i hi => .inl (HSUB.out i hi)),.inl ⟨rfl,HM2.out⟩⟩
   · have hel:=IOx (F:=F) (hlo.after B1.out.size ltw T2.out.size) ((Ac.of_below F0 B1.out).trans T2.out (fun i hi => .inl hi)) HZ.out (by omega) HSUB.out
     have HEL:=hid hel
     clear hlo HRES hel
     go_wp2_with fail
     refine HEL.out.mono ?_
     rintro e w3 ⟨rfl,k1,k2,k3⟩
     have K:=hid (And.intro k1 (And.intro k2 k3))
     clear k1 k2 k3 HEL
     go_wp2
     go_ret
     rw [HMAP.out]
     exact ⟨K.out.2.1,.inr ⟨K.out.1,rfl,K.out.2.2⟩⟩
end
section
open Go.RowKit Go.Maps Go.WideMaps Go.Shelf
theorem UX {l : List Aa} (h : Az l) (hl : l.length <= 64) : At l <= 530000:=by
 have : ∀ l : List Aa,Az l -> At l <= 8256 * l.length:=by
  intro l
  induction l with
  | nil => intro _; exact Nat.zero_le _
  | cons x r ih =>
    intro hf
    have h1:=(Cj x).1 (hf x (by simp))
    have h2:=ih fun y hy => hf y (by simp [hy])
    rw [Cw,List.length_cons]
    omega
 have:=this l h
 omega
theorem Aaa {l : List Aa} : A5 l <= 9223372036854775807:=by
 unfold A5
 split
 · omega
 · split
   · omega
   · split
     · rename_i x _
       unfold Aw
       split
       · omega
       · split <;> omega
     · omega
theorem EZ.mono {w w' : World} {d b : Nat} {F : Nat -> Prop} {S : Bx} {ms ms' : List (List Aa)} {n : Nat} (h : EZ w w' d b F S ms n) (hm : ∀ m ∈ ms,m ∈ ms') : EZ w w' d b F S ms' n:=by
 obtain ⟨h0,q,mp,tv,st,dn,c,ap,S',Fb,Fm,Fr,h1,h2,h3,h4⟩:=h
 exact ⟨h0,q,mp,tv,st,dn,c,ap,S',Fb,Fm,Fr,h1,h2,h3,h4.mono hm⟩
def Ho (w : World) (d b : Nat) (s : Cv) (F : Nat -> Prop) (l : List Aa) (e : Ending) (w' : World) : Prop:=Ac F w w' /\
 ((A5 l ≠ 0 /\ e = .returned (.int .i64 (A5 l : Nat)) /\ ∃ F',St9 w' d b s F' /\ Cb F w F') \/
  (A5 l = 0 /\ e = .returned (.int .i64 0) /\ ∃ s' F',St9 w' d b s' F' /\ Cb F w F' /\ s'.map = AP s.map l /\ s'.n = s.n + 1 /\ Bv s'.box = Bv s.box /\ (s.box.fuel < 0 -> s'.box.fuel < 0) /\ s'.mem = (if 4096 <= ZW (QL s.mem l) then [] else QL s.mem l)) \/
  (A5 l = 0 /\ 0 <= s.box.fuel /\ e = .returned (.int .i64 30) /\ ∃ S' F',Fe OpZ w' b S' F' [s.map,AP s.map l] (s.n + 1) /\ Cb F w F'))
set_option maxRecDepth 100000 in
set_option maxHeartbeats 4000000 in
theorem U0 {B : Nat} {w : World} {d b : Nat} {s : Cv} {F : Nat -> Prop} {a : Option Addr} {cc : Nat} {l : List Aa} (E : EY B w) (h : St9 w d b s F) (hB : ∀ k,F k -> B <= k) (hR : Aj w (.slice a l.length cc) l) (hA : ∀ g o,a = some ⟨g,o,none⟩ -> l ≠ [] -> ¬ F g) (hn : s.n <= limN) :
 Calls Tryz.prog 31 #[.pointer (some ⟨d,0,none⟩),.slice a l.length cc] w (Ho w d b s F l):=by
 have hst:=h
 obtain ⟨q,mp,tv,st,c,ap,A,F0,Fb,Fm,Fr,I⟩:=h
 have hn' : s.n <= 1000:=hn
 have hwn:=MF s.n
 have hwb:=Po I.n
 have hw:=I.w
 have hc1:=I.c1
 have HDN:=hid (FG I.db.head)
 have HCK:=hid (Km hR)
 have HSUB:=hid I.sub
 have HST:=hid hst
 clear hst
 by_cases hck : A5 l = 0
 case neg =>
  have hcl:=Aaa (l:=l)
  clear I hR hA
  obtain ⟨C,hC⟩ : ∃ C,A5 l = C:=⟨_,rfl⟩
  rw [hC] at HCK hck hcl
  have HC:=hid hC
  clear hC
  have hne : ((C : Int) != 0) = true:=by simp; omega
  have hne2 : ¬ (C : Int) = 0:=by omega
  go_enter Tryz.func31,Tryz.ntmps31
  go_wp2_with fail
  refine HDN.out.mono ?_
  rintro e w1 ⟨rfl,rfl⟩
  go_wp2_with fail
  refine HCK.out.mono ?_
  rintro e w1 ⟨rfl,b1⟩
  have B1:=hid b1
  clear b1 HCK HDN
  go_wp2
  go_ret
  unfold Ho
  rw [HC.out]
  exact ⟨Ac.of_below F B1.out,.inl ⟨hck,rfl,F,HST.out.turn (Ac.of_below (fun _ => False) B1.out) (fun _ _ h => h),fun k hk => .inl hk⟩⟩
 case pos =>
 obtain ⟨hlne,hl64,hfi⟩:=Ma hck
 have hsz:=UX hfi hl64
 have hrok : ER ⟨st.last + 1,none,l⟩:=by
  have h5:=I.few.last
  exact ⟨(by show 1 <= st.last + 1; omega),(by show st.last + 1 <= limC; unfold limC; omega),hfi,(fun _ => hck),(fun a k e => by cases e),(by show l.length <= 4096; omega),hsz⟩
 have hrl:=A9.len hrok
 have hfl : (Ai (A9.bytes ⟨st.last + 1,none,l⟩)).length <= 1048590:=by
  have h2:=Fu (l:=A9.bytes ⟨st.last + 1,none,l⟩) hrl
  omega
 have hcl : c <= limC:=by unfold limC; omega
 have hBf : ∀ k,F0 k -> B <= k:=fun k hk => hB k (I.sub k hk)
 have HLB : Hid (∀ w1,Below w.heap.size w w1 -> Calls Tryz.prog 53 #[.pointer (some ⟨d,0,none⟩),.slice a l.length cc] w1 fun e w' => ∃ i ap' S' Fb',e = .returned (.int .i64 i) /\ Iz s.box (Af LOG c) (Ai (A9.bytes ⟨st.last + 1,none,l⟩)) i S' /\ (i = 0 \/ i = 30) /\ (i = 0 -> ap' = true) /\ AU w' d b q mp tv { st with last:=st.last + 1,logged:=st.logged + (A9.bytes ⟨st.last + 1,none,l⟩).length } false c ap' S' (AN F0 w1 w') Fb' Fm Fr /\ Ac F0 w1 w'):=fun w1 b1 =>
  QK (E.below b1) hBf (I.db.below b1) (hR.below b1) hrok I.down hcl (by omega) (by have:=I.few.logged; omega)
 have hfb:=I.few.batch (r:=⟨st.last + 1,none,l⟩) hl64 rfl hrl
 have hsb:=I.shape.batch (r:=⟨st.last + 1,none,l⟩)
 have hmb : (st.batch ⟨st.last + 1,none,l⟩).map = AP st.map l:=AQ.batch_map I.shape hfi
 have hfn:=I.few.mono (Nat.le_succ s.n)
 have HOP0 : Hid (OpF s.box.files s.map (s.n + 1)):=OpF.of I.disk (fun k b h => h.elim) I.shape hfn I.map I.cur.le (by omega)
 have HDB : Hid (∀ m,m <= (Ai (A9.bytes ⟨st.last + 1,none,l⟩)).length -> ∃ A',(∀ x ∈ A',x.1 <= c) /\ ((m < (Ai (A9.bytes ⟨st.last + 1,none,l⟩)).length /\ AZ (Cg (Af LOG c) ((Ai (A9.bytes ⟨st.last + 1,none,l⟩)).take m) s.box.files) st A' Eg) \/ (m = (Ai (A9.bytes ⟨st.last + 1,none,l⟩)).length /\ DD A' c true /\ AZ (Cg (Af LOG c) ((Ai (A9.bytes ⟨st.last + 1,none,l⟩)).take m) s.box.files) (st.batch ⟨st.last + 1,none,l⟩) A' Eg))):=fun m hm =>
  Ub I.disk I.cur I.db.c1 hcl hrok rfl rfl hm
 have HPT : Hid (Cn (Eq (Af LOG c) (Ai (A9.bytes ⟨st.last + 1,none,l⟩)) s.box.files) (zF s.box.files) [s.map,AP s.map l] (s.n + 1)):=by
  refine Cn.part I.disk.rising I.disk.firm (ND _) rfl fun i hi => ?_
  obtain ⟨A',q1,⟨q2,q3⟩ | ⟨q2,q3,q4⟩⟩:=HDB.out i hi
  · exact ⟨s.map,by simp,OpF.of q3 (fun k b h => h.elim) I.shape hfn I.map q1 (by omega)⟩
  · exact ⟨AP s.map l,by simp,OpF.of q4 (fun k b h => h.elim) hsb hfb (by rw [hmb,I.map]) q1 (by omega)⟩
 have HHB : Hid (AV (st.batch ⟨st.last + 1,none,l⟩) /\ Gs (st.batch ⟨st.last + 1,none,l⟩) (s.n + 1) /\ (st.batch ⟨st.last + 1,none,l⟩).map = AP s.map l /\ (st.batch ⟨st.last + 1,none,l⟩).newest + 1 <= s.n + 1 /\ (st.batch ⟨st.last + 1,none,l⟩).last + 1 <= 2 * (s.n + 1)):=⟨hsb,hfb,by rw [hmb,I.map],by have:=I.few.newest; show st.newest + 1 <= _; omega,by have:=I.few.last; show st.last + 1 + 1 <= _; omega⟩
 have HZ:=hid I.z
 have ltw : ∀ k,F0 k -> k < w.heap.size:=I.db.lt
 have HE:=hid E
 have HBF:=hid hBf
 have HRP:=hid hR
 have HMR:=hid (I.mem.over l I.shape.rising hfi)
 have hml : st.mem.length + l.length <= 3518437208000 /\ At st.mem + At l <= 36028797018963968:=by
  have:=I.size
  have:=len_le_size I.shape.fine
  omega
 have HFI:=hid hfi
 have HAG : Hid (∀ g o,a = some ⟨g,o,none⟩ -> l ≠ [] -> ¬ F0 g /\ g < w.heap.size):=fun g o e hne => by
  refine ⟨fun hg => hA g o e hne (I.sub g hg),?_⟩
  obtain ⟨b',o',e2,q,_⟩:=hR.at (List.length_pos_iff.2 hne)
  rw [e] at e2
  injection e2 with e2
  injection e2 with e2 _
  rw [e2]
  exact World.block_lt_of_cell? w ⟨_,_,none⟩ q
 have hdn:=I.down
 rw [hck] at HCK
 clear I hR hA E hB hBf hrok hsb hfb hmb hfn hfi hlne hrl
 obtain ⟨RB,hRB⟩ : ∃ RB,A9.bytes ⟨st.last + 1,none,l⟩ = RB:=⟨_,rfl⟩
 have HRBL : Hid (∀ w' ap' S' Fb' F',AU w' d b q mp tv { st with last:=st.last + 1,logged:=st.logged + (A9.bytes ⟨st.last + 1,none,l⟩).length,mem:=Bc l st.mem } false c ap' S' F' Fb' Fm Fr -> True):=fun _ _ _ _ _ _ => trivial
 clear HRBL hRB
 go_enter Tryz.func31,Tryz.ntmps31
 go_wp2_with fail
 refine HDN.out.mono ?_
 rintro e w1 ⟨rfl,rfl⟩
 go_wp2_with fail
 refine HCK.out.mono ?_
 rintro e w1 ⟨rfl,b1⟩
 have B1:=hid b1
 have HL1:=hid (HLB.out w1 b1)
 clear b1 HCK HDN HLB
 go_wp2_with fail
 refine HL1.out.mono ?_
 rintro e w2 ⟨i,ap',S',Fb',rfl,k1,k2,k3,k4,k5⟩
 have K4:=hid (k4.early B1.out.size ltw k5)
 have T2:=hid ((Ac.of_below F0 B1.out).trans k5 (fun i hi => .inl hi))
 clear k2 k4 k5 HL1
 cases k1 with
 | none h0 =>
   have HEL:=hid (IOx (F:=F) (ms:=[s.map,AP s.map l]) (n:=s.n + 1) (S:=s.box) (w:=w) ⟨by omega,_,_,_,_,_,_,_,_,_,_,_,K4.out,rfl,by show weigh s.box.files <= _; omega,Cn.firm HOP0.out (by simp) rfl⟩ T2.out HZ.out (by omega) HSUB.out)
   clear k3 h0
   go_wp2_with fail
   refine HEL.out.mono ?_
   rintro e w3 ⟨rfl,m1,m2,m3⟩
   have K:=hid (And.intro m1 (And.intro m2 m3))
   clear m1 m2 m3 HEL
   go_wp2
   go_ret
   unfold Ho
   exact ⟨K.out.2.1,.inr (.inr ⟨hck,K.out.1,rfl,K.out.2.2⟩)⟩
 | part S2 hf2 hd2 hr2 h0 =>
   have hfu:=hr2.back h0
   have hws : weigh S2.files <= wB (s.n + 1):=by
    have:=JV (Af LOG c) (Ai (A9.bytes ⟨st.last + 1,none,l⟩)) s.box.files
    rw [hf2]; omega
   have HEL:=hid (IOx (F:=F) (ms:=[s.map,AP s.map l]) (n:=s.n + 1) (S:=s.box) (w:=w) ⟨hfu,_,_,_,_,_,_,_,_,_,_,_,K4.out,rfl,hws,by show Cn S2.files _ _ _; rw [hf2]; exact HPT.out⟩ T2.out HZ.out (by omega) HSUB.out)
   clear k3 h0 hf2 hd2 hr2 hfu hws
   go_wp2_with fail
   refine HEL.out.mono ?_
   rintro e w3 ⟨rfl,m1,m2,m3⟩
   have K:=hid (And.intro m1 (And.intro m2 m3))
   clear m1 m2 m3 HEL
   go_wp2
   go_ret
   unfold Ho
   exact ⟨K.out.2.1,.inr (.inr ⟨hck,K.out.1,rfl,K.out.2.2⟩)⟩
 | all S3 hf3 hd3 hr3 =>
   have ha:=k3 rfl
   subst ha
   obtain ⟨A',q1,⟨q2,q3⟩ | ⟨q2,q3,q4⟩⟩:=HDB.out _ (Nat.le_refl _)
   · omega
   rw [List.take_length,<- hf3] at q4
   have hw3 : weigh S'.files <= weigh s.box.files + 1048600:=by
    have:=JM (Af LOG c) (Ai (A9.bytes ⟨st.last + 1,none,l⟩)) s.box.files
    rw [hf3]; omega
   have hz3 : zF S'.files = zF s.box.files:=by rw [hf3,MD (ND _)]
   have e2:=HE.out.turn T2.out HBF.out
   have hgb : ∀ k,AN F0 w w2 k -> B <= k:=fun k hk => by
    rcases hk with hk | hk
    · exact HBF.out k hk
    · have:=HE.out.size; omega
   have hrd2:=Ki HRP.out T2.out (fun g o e hne => (HAG.out g o e hne).1)
   have hpu:=Y2 e2 hgb K4.out hrd2 (fun g o e hne hg => by
    rcases hg with hg | hg
    · exact (HAG.out g o e hne).1 hg
    · have:=(HAG.out g o e hne).2; omega) HFI.out hml.1 hml.2
   have HPU:=hid hpu
   have Q:=hid (And.intro q4 (And.intro q3 (And.intro hd3 (And.intro hr3 hz3))))
   have E2:=hid e2
   have GB:=hid hgb
   clear hpu hrd2 q4 q3 q2 q1 hf3 hr3 k3 e2 hgb HDB HPT HOP0
   go_wp2_with fail
   refine HPU.out.mono ?_
   rintro e w4 ⟨Fm',rfl,h4,t4⟩
   have hse:=Oy (st:=st.batch ⟨st.last + 1,none,l⟩) (E2.out.turn t4 GB.out) (fun k hk => by
    rcases hk with hk | hk
    · exact GB.out k hk
    · have:=E2.out.size; omega) h4 Q.out.2.2.1 Q.out.1 Q.out.2.1 HHB.out.1 HHB.out.2.1 HHB.out.2.2.2.1 HHB.out.2.2.2.2 (HZ.out.eq Q.out.2.2.2.2) (by omega) (by omega) (by omega)
   have HSE:=hid hse
   have H4:=hid h4
   have T4:=hid t4
   have T24:=hid (C9 T2.out t4)
   clear h4 t4 hse HPU
   go_wp2_with fail
   refine HSE.out.mono ?_
   rintro e w5 ⟨t5,hres⟩
   have HRES:=hid hres
   have T5:=hid t5
   clear t5 hres HSE
   have s24:=T4.out.size
   have s45:=T5.out.size
   have T25:=hid (C9 T24.out (T5.out.mono (F:=AN (AN F0 w w2) w2 w4) (G:=AN F0 w w4) fun k hk => .inl (Jm T2.out.size s24 k hk)))
   have ltg : ∀ k,AN F0 w w2 k -> k < w2.heap.size:=fun k hk => by
    rcases hk with hk | hk
    · have:=ltw k hk; have:=T2.out.size; omega
    · exact hk.2
   rcases HRES.out with ⟨rfl,st',c',hc',hse,hmd⟩ | ⟨rfl,hlo⟩
   · have hmd2:=(hmd.early s24 s45 ltg (BR.refl _) rfl (Nat.le_refl _)).early (W':=weigh s.box.files + 602000000) T2.out.size (Nat.le_trans s24 s45) ltw Q.out.2.2.2.1 Q.out.2.2.2.2 (by omega)
     have hsum : ZW (QL s.mem l) = At (Bc l st.mem):=HMR.out.sum
     have hmem : st'.mem = if 4096 <= At (Bc l st.mem) then [] else Bc l st.mem:=hse.mem
     have HM2 : Hid (∃ s' F',St9 w5 d b s' F' /\ Cb F w F' /\ s'.map = AP s.map l /\ s'.n = s.n + 1 /\ Bv s'.box = Bv s.box /\ (s.box.fuel < 0 -> s'.box.fuel < 0) /\ s'.mem = (if 4096 <= ZW (QL s.mem l) then [] else QL s.mem l)):=by
      obtain ⟨s',F',k1,k2,k3,k4,k5,k6,k7,k8⟩:=St9.made (F:=F) (n:=s.n + 1) (tabs:=st'.runs.length) (map:=AP s.map l) (mem:=if 4096 <= ZW (QL s.mem l) then [] else QL s.mem l) hmd2 HSUB.out HZ.out hse.shape hse.few (by omega) (by omega) (by omega) (by rw [hmem]; split; (show 0 < 4096; omega); omega) (by
       rw [hmem,hsum]
       split
       · exact List.Perm.refl _
       · exact HMR.out) (by rw [hse.map,HHB.out.2.2.1]) rfl
      exact ⟨s',F',k1,k2,k3,k4,by rw [GM,GM,k7],k8,k5⟩
     clear hmd hmd2 HRES hse hsum hmem
     go_wp2_with fail
     refine (Qd d w5).mono ?_
     rintro e w6 ⟨rfl,rfl⟩
     go_wp2
     go_ret
     unfold Ho
     exact ⟨T25.out.mono (fun k hk => .inl (HSUB.out k hk)),.inr (.inl ⟨hck,rfl,HM2.out⟩)⟩
   · have hlo2:=((hlo.early s24 s45 ltg (BR.refl _) rfl).early T2.out.size (Nat.le_trans s24 s45) ltw Q.out.2.2.2.1 Q.out.2.2.2.2).mono (ms':=[s.map,AP s.map l]) (fun m hm => by rw [List.mem_singleton.1 hm,HHB.out.2.2.1]; simp)
     have HEL:=hid (IOx (F:=F) hlo2 T25.out HZ.out (by omega) HSUB.out)
     clear hlo hlo2 HRES
     go_wp2_with fail
     refine HEL.out.mono ?_
     rintro e w6 ⟨rfl,m1,m2,m3⟩
     have K:=hid (And.intro m1 (And.intro m2 m3))
     clear m1 m2 m3 HEL
     go_wp2
     go_ret
     unfold Ho
     exact ⟨K.out.2.1,.inr (.inr ⟨hck,K.out.1,rfl,K.out.2.2⟩)⟩
end
end Go.Proofs.YtnafjlhohbhcoaaGreatDoor
