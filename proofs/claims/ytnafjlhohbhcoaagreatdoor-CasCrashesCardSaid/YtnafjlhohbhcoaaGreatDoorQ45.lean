/- Parts of the proof. -/
import Derived.Test.YtnafjlhohbhcoaaGreatDoorQ44
namespace Go.Proofs.YtnafjlhohbhcoaaGreatDoor
open Go.Lib (hid)
set_option linter.unusedVariables false
section
open Go.RowKit Go.Lib
theorem Xa (b : Bool) (r : List UInt8) : CI 1 (some (Ej b ++ r)) = (if b then 1 else 0,some r):=by
 unfold Ej
 rw [show (1 : Int) = ((1 : Nat) : Int) from rfl,Gm (by cases b <;> simp) (by cases b <;> (unfold U64; decide))]
@[irreducible] def V3 (b : Bool) : Int:=if b then 1 else 0
theorem Ps (b : Bool) : (V3 b == 1) = b:=by unfold V3; cases b <;> rfl
theorem Om {n : Nat} (h : n <= limC) (r : List UInt8) : CI 9223372036854775807 (some (As n ++ r)) = (n,some r):=by
 rw [show (9223372036854775807 : Int) = ((9223372036854775807 : Nat) : Int) from rfl,Gm (by unfold limC at h; omega) (AK (by unfold limC at h; omega))]
theorem ZI {n m : Nat} (h : n <= m) (hm : m <= 3) (r : List UInt8) : CI (m : Int) (some (As n ++ r)) = (n,some r):=Gm h (AK (by omega)) r
theorem Ew {w w' : World} {b c : Nat} {R : Option (List UInt8)} {o : Obj} (h : EH w w' b R) (k : w.heap[c]? = some o) (hne : c ≠ b) : w'.heap[c]? = some o:=(h.2.block c (Ad k) (by simpa using hne)).trans k
theorem WJ {l : List Aa} {i : Nat} (h : i < l.length) : EQ (l.drop i) = pr9 l[i] ++ EQ (l.drop (i + 1)):=by
 rw [List.drop_eq_getElem_cons h,PM]
theorem WI {w w' : World} {b : Nat} {R : Option (List UInt8)} (h : EH w w' b R) {base : Nat} {E : TypeId} {sz : Nat} {v : Value} {n : Nat} {xs : List Value} (ho : w.ownsRow base E sz v n xs) (hb : b < base) : w'.ownsRow base E sz v n xs:=by
 refine ⟨ho.1,?_⟩
 rcases ho.2 with h1 | ⟨g,cap,cur,hv,hb1,hg,rest⟩
 · exact .inl h1
 · exact .inr ⟨g,cap,cur,hv,hb1,(h.2.block g (Ad hg) (by simp; omega)).trans hg,rest⟩
structure EK (w w' : World) (rb cb num va vk : Nat) (bs : Bool) (R : Option (List UInt8)) (v : Value) (l : List Aa) : Prop where
 rd : RDE w' rb R
 below : Below w.heap.size w w'
 box : w'.heap[cb]? = some (.cells #[.int .i64 (num : Int),.bool bs,.int .i64 (va : Int),.int .i64 (vk : Int),v] 136 (0,0))
 zero : w'.heap[w.heap.size]? = some (.cells #[.int .i64 0,.bool false,.int .i64 0,.int .i64 0,.slice none 0 0] 136 (0,0))
 row : w'.ownsRow (cb + 1) 57 3 v l.length (AA l)
 h1 : w.heap.size < rb
 h2 : rb < cb
section
variable {w w' w2 : World} {rb cb num va vk : Nat} {bs : Bool} {R R2 : Option (List UInt8)} {v : Value} {l : List Aa}
theorem EK.left (h : EK w w' rb cb num va vk bs R v l) (t : EH w' w2 rb R2) : EK w w2 rb cb num va vk bs R2 v l:=
 have h1:=h.h1
 have h2:=h.h2
 ⟨t.1,h.below.trans (t.below h.below.size (by omega)),Ew t h.box (by omega),Ew t h.zero (by omega),WI t h.row (by omega),h1,h2⟩
theorem EK.drew (h : EK w w' rb cb num va vk bs R v l) : EK w w'.drew rb cb num va vk bs R v l:=
 h.left ⟨h.rd.below (Ay w'),JI _ (Ay w')⟩
theorem EK.c4 (h : EK w w' rb cb num va vk bs R v l) : w'.cell? ⟨cb,4,none⟩ = some v:=by rw [Ab h.box]; rfl
theorem EK.rowN (h : EK w w' rb cb num va vk bs R v l) {n : Nat} (e : l.length = n) : w'.ownsRow (cb + 1) 57 3 v n (AA l):=e ▸ h.row
theorem EK.a4 (h : EK w w' rb cb num va vk bs R v l) (o : Obj) : (w'.alloc o).cell? ⟨cb,4,none⟩ = some v:=by
 rw [Ab ((((Below.refl w'.heap.size w').alloc (Nat.le_refl _) o).block cb (Ad h.box)).trans h.box)]; rfl
theorem EK.add (h : EK w w' rb cb num va vk bs R v l) (x : Aa) {v' : Value} (ho : w2.ownsRow (cb + 1) 57 3 v' (l.length + 1) (AA l ++ [Value.string x.key,.string x.val,.bool x.gone])) (hg : (w'.alloc (.cells #[.string x.key,.string x.val,.bool x.gone] 57)).grownBy w2 v.ownBlock) :
 (w2.frozen? ⟨cb,4,none⟩ = false /\ w2.cell? ⟨cb,4,none⟩ = some v) /\ EK w (w2.setCell ⟨cb,4,none⟩ v') rb cb num va vk bs R v' (l ++ [x]):=by
 have hb:=(Below.refl w'.heap.size w').alloc (Nat.le_refl _) (.cells #[.string x.key,.string x.val,.bool x.gone] 57)
 have hrow:=h.row.alloc (.cells #[.string x.key,.string x.val,.bool x.gone] 57)
 have hge : ∀ k,v.ownBlock = some k -> cb + 1 <= k:=fun k hk => (h.row.lt k hk).1
 have hk : ∀ k,k <= cb -> k < w'.heap.size -> w2.heap[k]? = w'.heap[k]?:=fun k hk hlt =>
  (hg.block k (by simp; omega) (fun e => by have:=hge k e.symm; omega)).trans (hb.block k hlt)
 have h1:=h.h1
 have h2:=h.h2
 have hbox:=(hk cb (Nat.le_refl _) (Ad h.box)).trans h.box
 have hsz:=h.below.size
 refine ⟨⟨Ag hbox 4,by rw [Ab hbox]; rfl⟩,?_⟩
 refine ⟨?_,?_,block_set hbox 4 v',(Cr (by omega)).trans ((hk _ (by omega) (Ad h.zero)).trans h.zero),?_,h1,h2⟩
 · exact h.rd.block ((Cr (by omega)).trans (hk rb (by omega) h.rd.lt))
 · refine Below.setCell (p:=⟨cb,4,none⟩) ((h.below.alloc hsz _).grown hg (by simp; omega) (fun j hj => by have:=hge j hj; omega)) (by show w.heap.size <= cb; omega) _
 · have e : (l ++ [x]).length = l.length + 1:=by simp
   rw [e,DH]
   refine ⟨ho.1,?_⟩
   rcases ho.2 with q | ⟨g,cap,cur,hv,hb1,hgg,rest⟩
   · exact .inl q
   · exact .inr ⟨g,cap,cur,hv,hb1,(Cr (by omega)).trans hgg,rest⟩
theorem EK.addS (h : EK w w' rb cb num va vk bs R v l) (x : Aa) {n : Nat} (hn : l.length = n) {v' : Value} (ho : w2.ownsRow 0 57 3 v' (n + 1) (AA l ++ [Value.string x.key,.string x.val,.bool x.gone])) (hg : (w'.alloc (.cells #[.string x.key,.string x.val,.bool x.gone] 57)).grownBy w2 v.ownBlock)
 (hl : ∀ k,v'.ownBlock = some k -> v.ownBlock = some k \/ (w'.alloc (.cells #[.string x.key,.string x.val,.bool x.gone] 57)).heap.size <= k) :
 (w2.frozen? ⟨cb,4,none⟩ = false /\ w2.cell? ⟨cb,4,none⟩ = some v) /\ EK w (w2.setCell ⟨cb,4,none⟩ v') rb cb num va vk bs R v' (l ++ [x]):=by
 subst hn
 refine h.add x (JW ho fun k hk => ?_) hg
 rcases hl k hk with h1 | h1
 · exact (h.row.lt k h1).1
 · have:=Ad h.box
   simp at h1
   omega
end
theorem boxC {w : World} {b : Nat} {v0 v1 v2 v3 v4 : Value} {t : TypeId} (h : w.heap[b]? = some (.cells #[v0,v1,v2,v3,v4] t (0,0))) : w.cell? ⟨b,0,none⟩ = some v0 /\ w.cell? ⟨b,1,none⟩ = some v1 /\ w.cell? ⟨b,2,none⟩ = some v2 /\ w.cell? ⟨b,3,none⟩ = some v3 /\ w.cell? ⟨b,4,none⟩ = some v4:=
 ⟨by rw [Ab h]; rfl,by rw [Ab h]; rfl,by rw [Ab h]; rfl,by rw [Ab h]; rfl,by rw [Ab h]; rfl⟩
theorem boxF {w : World} {b : Nat} {c : Array Value} {t : TypeId} (h : w.heap[b]? = some (.cells c t (0,0))) : w.frozen? ⟨b,0,none⟩ = false /\ w.frozen? ⟨b,1,none⟩ = false /\ w.frozen? ⟨b,2,none⟩ = false /\ w.frozen? ⟨b,3,none⟩ = false /\ w.frozen? ⟨b,4,none⟩ = false:=
 ⟨Ag h 0,Ag h 1,Ag h 2,Ag h 3,Ag h 4⟩
theorem Tx {F : Nat -> Prop} {a b : World} (h : Ac F a.drew b) : Ac F a b:=⟨h.os,h.tape,h.output,h.size,h.block⟩
theorem turn9 {b i : Nat} {v : Value} {wr wf : World} (h : Ac (fun k => k = b) wr wf) : Ac (fun k => k = b) wr (wf.setCell ⟨b,i,none⟩ v):=h.setCell (p:=⟨b,i,none⟩) (.inl rfl) v
set_option maxHeartbeats 60000000 in
set_option maxRecDepth 100000 in
theorem N7 {r : A9} (hok : ER r) (w : World) :
 Calls Tryz.prog 73 #[.string ⟨r.bytes.toArray⟩] w fun e w' => ∃ v,e = .returned (.tuple #[Qf r v,.bool true]) /\ w'.ownsRow w.heap.size 57 3 v r.ps.length (AA r.ps) /\ Below w.heap.size w w':=by
 have hlen:=A9.len hok
 obtain ⟨num,base,ps⟩:=r
 have hmx : ps.length <= 4096:=hok.few
 have hnum : num <= limC:=hok.num
 have hfi : Az ps:=hok.fine
 have hba : ∀ a k,base = some (a,k) -> a <= limC /\ k <= 3 /\ k <= a:=hok.base
 have hbat : base = none -> A5 ps = 0:=hok.batch
 obtain ⟨bs,hbs0⟩ : ∃ bs,base.isSome = bs:=⟨_,rfl⟩
 obtain ⟨va,vk,hva,hvk⟩ : ∃ va vk,(base.getD (0,0)).1 = va /\ (base.getD (0,0)).2 = vk:=⟨_,_,rfl,rfl⟩
 obtain ⟨SB,hSB⟩ : ∃ SB : ByteArray,(⟨(A9.bytes ⟨num,base,ps⟩).toArray⟩ : ByteArray) = SB:=⟨_,rfl⟩
 have hSd : SB.data.toList = As num ++ (Ej bs ++ (base9 base ++ EQ ps)):=by
  rw [<- hSB,<- hbs0]
  show ((A9.bytes ⟨num,base,ps⟩).toArray).toList = _
  unfold A9.bytes
  rfl
 have hSz : SB.size <= 140737488351232:=by rw [<- hSB,A0]; omega
 have HRD : Hid (∀ w,Calls Tryz.prog 107 #[.string SB] w fun e w' => e = .returned (.pointer (some ⟨w.heap.size,0,none⟩)) /\ RDE w' w.heap.size (some (As num ++ (Ej bs ++ (base9 base ++ EQ ps)))) /\ Below w.heap.size w w'):=fun w => by
  have:=IK SB hSz w
  rwa [hSd] at this
 have HI1 : Hid (∀ w b r,RDE w b (some (As num ++ r)) -> Calls Tryz.prog 108 #[.pointer (some ⟨b,0,none⟩),.int .i64 9223372036854775807] w fun e w' => e = .returned (.int .i64 (num : Int)) /\ EH w w' b (some r)):=fun w b r h => by
  have:=Gb h 9223372036854775807 (by omega)
  rwa [Om hnum] at this
 have HI2 : Hid (∀ w b r (f : Bool),RDE w b (some (Ej f ++ r)) -> Calls Tryz.prog 108 #[.pointer (some ⟨b,0,none⟩),.int .i64 1] w fun e w' => e = .returned (.int .i64 (V3 f)) /\ EH w w' b (some r)):=fun w b r f h => by
  have:=Gb h 1 (by omega)
  rw [Xa] at this
  refine this.mono fun e w' h => ⟨by rw [h.1]; unfold V3; cases f <;> rfl,h.2⟩
 rw [hSB]
 have hnz : num <= 1000000:=hnum
 clear hSB hSd hSz hlen
 go_enter Tryz.func73,Tryz.ntmps73
 go_wp2_with fail
 have hR0:=heap_alloc_new w (.cells #[.int .i64 0,.bool false,.int .i64 0,.int .i64 0,.slice none 0 0] 136)
 have hB0 : Below w.heap.size w (w.alloc (.cells #[.int .i64 0,.bool false,.int .i64 0,.int .i64 0,.slice none 0 0] 136)):=(Below.refl _ w).alloc (Nat.le_refl _) _
 have hs0 : (w.alloc (.cells #[.int .i64 0,.bool false,.int .i64 0,.int .i64 0,.slice none 0 0] 136)).heap.size = w.heap.size + 1:=by simp
 generalize w.alloc (.cells #[.int .i64 0,.bool false,.int .i64 0,.int .i64 0,.slice none 0 0] 136) = w0 at *
 refine (HRD.out w0).mono ?_
 rintro e w1 ⟨rfl,r1,b1⟩
 have hrb0 : w.heap.size < w0.heap.size:=by omega
 clear hs0
 generalize w0.heap.size = rb at *
 have R1:=hid r1
 have B1:=hid (hB0.trans (b1.mono (Nat.le_of_lt hrb0)))
 have Z1:=hid ((b1.block _ hrb0).trans hR0)
 have hs1:=b1.size
 have hrlt1:=r1.lt
 clear r1 b1 HRD hB0 hR0
 go_wp2_with fail
 refine (HI1.out _ _ _ R1.out).mono ?_
 rintro e w2 ⟨rfl,l2⟩
 have R2:=hid l2.1
 have B2:=hid (B1.out.trans (l2.below (B:=w.heap.size) (by omega) (by omega)))
 have Z2:=hid (Ew l2 Z1.out (by omega))
 have hs2:=l2.2.size
 clear l2 R1 B1 Z1
 go_wp2_with fail
 refine (HI2.out _ _ _ _ R2.out).mono ?_
 rintro e w3 ⟨rfl,l3⟩
 have R3:=hid l3.1
 have B3:=hid (B2.out.trans (l3.below (B:=w.heap.size) (by omega) (by omega)))
 have Z3:=hid (Ew l3 Z2.out (by omega))
 have hs3:=l3.2.size
 have hfl:=Ps bs
 clear l3 R2 B2 Z2
 go_upto_if 15 with (fail)
 have hC4:=heap_alloc_new w3 (.cells #[.int .i64 (num : Int),.bool bs,.int .i64 0,.int .i64 0,.slice none 0 0] 136)
 have hl4 : Below w3.heap.size w3 (w3.alloc (.cells #[.int .i64 (num : Int),.bool bs,.int .i64 0,.int .i64 0,.slice none 0 0] 136)):=(Below.refl _ w3).alloc (Nat.le_refl _) _
 have R4:=hid (R3.out.below hl4)
 have B4:=hid (B3.out.trans (hl4.mono B3.out.size))
 have Z4:=hid ((hl4.block _ (Ad Z3.out)).trans Z3.out)
 have C4:=hid hC4
 have hcb1 : w.heap.size < w3.heap.size:=Ad Z3.out
 have hcb2 : rb < w3.heap.size:=by omega
 clear hC4 hl4 R3 B3 Z3 hs1 hs2 hs3 hfl
 generalize w3.alloc (.cells #[.int .i64 (num : Int),.bool bs,.int .i64 0,.int .i64 0,.slice none 0 0] 136) = w4 at *
 generalize w3.heap.size = cb at *
 go_cut [] from 16 to 24 (fun wx => Hid (RDE wx rb (some (EQ ps)) /\ Below w.heap.size w wx /\ wx.heap[cb]? = some (.cells #[.int .i64 (num : Int),.bool bs,.int .i64 (va : Int),.int .i64 (vk : Int),.slice none 0 0] 136 (0,0)) /\ wx.heap[w.heap.size]? = some (.cells #[.int .i64 0,.bool false,.int .i64 0,.int .i64 0,.slice none 0 0] 136 (0,0))))
 case first =>
  go_upto_region 4 with (fail)
  · rename bs = true => hbt
    obtain ⟨⟨xa,xk⟩,hbs⟩ : ∃ x,base = some x:=by rw [hbt] at hbs0; exact Option.isSome_iff_exists.1 hbs0
    have ha : va = xa /\ vk = xk:=by rw [hbs] at hva hvk; exact ⟨hva.symm,hvk.symm⟩
    obtain ⟨rfl,rfl⟩:=ha
    obtain ⟨k1,k2,k3⟩:=hba _ _ hbs
    have RA : Hid (RDE w4 rb (some (As va ++ (As vk ++ EQ ps)))):=by
     have:=R4.out
     rw [hbs] at this
     show RDE _ _ _
     simpa [base9] using this
    have HIa : Hid (∀ w b r,RDE w b (some (As va ++ r)) -> Calls Tryz.prog 108 #[.pointer (some ⟨b,0,none⟩),.int .i64 9223372036854775807] w fun e w' => e = .returned (.int .i64 (va : Int)) /\ EH w w' b (some r)):=fun w b r h => by
     have:=Gb h 9223372036854775807 (by omega)
     rwa [Om k1] at this
    have HIk : Hid (∀ w b r,RDE w b (some (As vk ++ r)) -> Calls Tryz.prog 108 #[.pointer (some ⟨b,0,none⟩),.int .i64 (min (va : Int) 3)] w fun e w' => e = .returned (.int .i64 (vk : Int)) /\ EH w w' b (some r)):=fun w b r h => by
     have:=Gb h (min (va : Int) 3) (by omega)
     rw [show (min (va : Int) 3) = ((min va 3 : Nat) : Int) by omega,ZI (show vk <= min va 3 by omega) (by omega)] at this
     rwa [show (min (va : Int) 3) = ((min va 3 : Nat) : Int) by omega]
    clear hbs0 hbs hba hbat hva hvk hbt R4 HI1 HI2 hfi hok
    go_wp2_with fail
    refine (HIa.out _ _ _ RA.out).mono ?_
    rintro e w5 ⟨rfl,l5⟩
    have R5:=hid l5.1
    have B5:=hid (B4.out.trans (l5.below (B:=w.heap.size) B4.out.size (by omega)))
    have Z5:=hid (Ew l5 Z4.out (by omega))
    have c5:=Ew l5 C4.out (by omega)
    have c52 : w5.cell? ⟨cb,2,none⟩ = some (.int .i64 0):=by rw [Ab c5]; rfl
    have c52f:=Ag c5 2
    clear l5 RA HIa B4 Z4 C4
    go_wp2_with fail
    have C6:=hid (block_set c5 2 (.int .i64 (va : Int)))
    have Z6:=hid ((Cr (w:=w5) (b:=cb) (i:=2) (v:=.int .i64 (va : Int)) (k:=w.heap.size) (by omega)).trans Z5.out)
    have t6 : Ac (fun k => k = cb) w5 (w5.setCell ⟨cb,2,none⟩ (.int .i64 (va : Int))):=(Ac.refl (fun k => k = cb) w5).setCell (p:=⟨cb,2,none⟩) (.inl rfl) _
    have R6:=hid (R5.out.block (t6.block _ (by have:=R5.out.lt; omega) (by omega)))
    have B6:=hid (B5.out.setCell (p:=⟨cb,2,none⟩) (by show w.heap.size <= cb; omega) (.int .i64 (va : Int)))
    clear c5 c52 c52f Z5 R5 B5 t6
    generalize w5.setCell ⟨cb,2,none⟩ (.int .i64 (va : Int)) = w6 at *
    go_wp2_with fail
    refine (HIk.out _ _ _ R6.out).mono ?_
    rintro e w7 ⟨rfl,l7⟩
    have R7:=hid l7.1
    have B7:=hid (B6.out.trans (l7.below (B:=w.heap.size) B6.out.size (by omega)))
    have Z7:=hid (Ew l7 Z6.out (by omega))
    have c7:=Ew l7 C6.out (by omega)
    have c73 : w7.cell? ⟨cb,3,none⟩ = some (.int .i64 0):=by rw [Ab c7]; rfl
    have c73f:=Ag c7 3
    clear l7 HIk B6 Z6 C6 R6
    go_wp2
    go_meet
    refine ⟨R7.out.block ?_,B7.out.setCell (p:=⟨cb,3,none⟩) (by show w.heap.size <= cb; omega) _,block_set c7 3 _,(Cr (by omega)).trans Z7.out⟩
    exact Cr (by omega)
  · first | rename bs = false => hbt | rename ¬ bs = true => hbt
    have hbs : base = none:=by
     have : bs = false:=by simpa using hbt
     rw [this] at hbs0
     simpa using hbs0
    clear hbt
    have ha : va = 0 /\ vk = 0:=by rw [hbs] at hva hvk; exact ⟨hva.symm,hvk.symm⟩
    obtain ⟨rfl,rfl⟩:=ha
    have RA : Hid (RDE w4 rb (some (EQ ps))):=by
     have:=R4.out
     rw [hbs] at this
     exact this
    go_meet
    exact ⟨RA.out,B4.out,C4.out,Z4.out⟩
 case rest =>
  have HR0:=hid hcut.out.1
  have HB0:=hid hcut.out.2.1
  have HC0:=hid hcut.out.2.2.1
  have HZ0:=hid hcut.out.2.2.2
  have HFI:=hid hfi
  obtain ⟨i0,hi0,hz0,hz1,hz2⟩:=info_parts infoPair
  clear hcut R4 B4 Z4 C4 HI1 hfi hba
  go_wp2
  go_loopw [] (fun wr => ∃ i : Nat,i <= ps.length /\ ∃ v,Hid (EK w wr rb cb num va vk bs (some (EQ (ps.drop i))) v (ps.take i))) (fun wr => IA wr rb)
  case atStart => exact ⟨0,Nat.zero_le _,_,HR0.out,HB0.out,HC0.out,HZ0.out,World.ownsRow_nil _ _ _ _,hrb0,hcb2⟩
  case round =>
   clear HR0 HB0 HC0 HZ0
   obtain ⟨i,hi,v,HR⟩:=hrel
   obtain ⟨a,c,rfl⟩:=An HR.out.row
   have hbad:=Ge HR.out.rd
   have hend:=Iu HR.out.rd
   have htl : (ps.take i).length = i:=by rw [List.length_take]; omega
   by_cases hlt : i < ps.length
   · have hd:=WJ hlt
     have htk : ps.take (i + 1) = ps.take i ++ [ps[i]]:=List.take_succ_eq_append_getElem hlt
     have hxf:=HFI.out ps[i] (List.getElem_mem hlt)
     have hrest:=Hw HR.out.rd
     have HP0:=hid HR.out.drew
     rw [hd] at hend HP0 hrest
     rw [htl] at HP0
     have HTK:=hid htk
     generalize ps[i] = X at *
     obtain ⟨k1,k2,v1,_⟩:=(Cj X).1 hxf
     obtain ⟨xk,xv,xg⟩:=X
     simp only at k1 k2 v1
     obtain ⟨LR,hLR⟩ : ∃ LR,EQ (ps.drop (i + 1)) = LR:=⟨_,rfl⟩
     have hp9 : pr9 ⟨xk,xv,xg⟩ ++ EQ (ps.drop (i + 1)) = As xk.size ++ (xk.data.toList ++ (As xv.size ++ (xv.data.toList ++ (Ej xg ++ LR)))):=by
      unfold pr9
      rw [hLR]
      simp only [List.append_assoc]
     have hpl:=Aa5 ⟨xk,xv,xg⟩
     have HM : Hid (LR.length < IA wr rb):=by show _ < _; rw [hrest,List.length_append,hLR]; omega
     have hE0 : Fs (some (pr9 ⟨xk,xv,xg⟩ ++ EQ (ps.drop (i + 1)))) = false:=by
      unfold Fs
      cases hc : pr9 ⟨xk,xv,xg⟩ with
      | nil => rw [hc] at hpl; simp at hpl
      | cons a r => rfl
     rw [hE0] at hend
     rw [hp9] at HP0
     have HTX : Hid (∀ (s : ByteArray) w b r,s.size <= 140737488355328 -> RDE w b (some (As s.size ++ (s.data.toList ++ r))) -> Calls Tryz.prog 111 #[.pointer (some ⟨b,0,none⟩)] w fun e w' => e = .returned (.string s) /\ EH w w' b (some r)):=fun s w b r hz h => by
      have:=Io h
      rw [LM (AK hz)] at this
      refine this.mono fun e w' h => ⟨by rw [h.1]; unfold tv; rw [QW],h.2⟩
     have HBD:=hid hbad
     have HED:=hid hend
     have HTL:=hid htl
     clear hbad hend hd htk hxf hrest HR hp9 hpl hE0 htl
     go_wp2_with fail
     refine HBD.out.mono ?_
     rintro e w5 ⟨rfl,rfl⟩
     go_wp2_with fail
     refine HED.out.mono ?_
     rintro e w5 ⟨rfl,rfl⟩
     clear HBD HED
     go_upto_region 7 with (fail)
     have e00:=HP0.out.c4
     have hkz : xk.size <= 140737488355328:=by omega
     have hvz : xv.size <= 140737488355328:=by omega
     have hfi1:=Ps xg
     have hi4 : i <= 4096:=by omega
     go_region_law
      (first
        | (go_simp; go_at_call 111; refine (HTX.out xk _ _ _ hkz HP0.out.rd).mono ?_; rintro e wA ⟨rfl,lA⟩; have PA:=hid (HP0.out.left lA); have eA:=PA.out.c4; clear lA)
        | (go_simp; go_at_call 111; refine (HTX.out xv _ _ _ hvz PA.out.rd).mono ?_; rintro e wB ⟨rfl,lB⟩; have PB:=hid (PA.out.left lB); have eB:=PB.out.c4; clear lB)
        | (go_simp; go_at_call 108; refine (HI2.out _ _ _ _ PB.out.rd).mono ?_; rintro e wC ⟨rfl,lC⟩; have PC:=hid (PB.out.left lC); have eC:=PC.out.c4; have eCa:=(PC.out.a4 (.cells #[.string xk,.string xv,.bool xg] 57)); clear lC)
        | (refine Yz _ (v:=.slice a i c) (n:=i) (xs:=AA (ps.take i)) (m:=1) (news:=[.string xk,.string xv,.bool xg]) (by rfl) _ _ (by rfl) Tryz.underlying30 hi0 hz0 hz1 hz2 rfl (by decide) (by rfl) (Au ((PC.out.rowN HTL.out).alloc _) (Nat.zero_le _)) (by rfl) (K8 (sz:=3) wC #[.string xk,.string xv,.bool xg] 57 rfl (DL ⟨xk,xv,xg⟩)) (by omega) (by unfold maxLen; omega) ?_; intro b4 c4 w4 o4 g4 l4; have PD:=hid (PC.out.addS ⟨xk,xv,xg⟩ HTL.out o4 g4 l4); have hfz:=PD.out.1.1; have hcz:=PD.out.1.2))
     all_goals go_wp2
     all_goals go_roundw
     all_goals first
      | exact ⟨i + 1,by omega,_,by rw [HTK.out,hLR]; exact PD.out.2⟩
      | (show IA _ rb < IA wr rb; rw [Hw PD.out.2.rd]; exact HM.out)
   · obtain rfl : i = ps.length:=by omega
     rw [List.drop_length] at HR hend
     rw [List.take_length] at HR
     have hE : Fs (some (EQ [])) = true:=rfl
     rw [hE] at hend
     have HBD:=hid hbad
     have HED:=hid hend
     clear hbad hend hE
     rw [List.take_length] at *
     go_wp2_with fail
     refine HBD.out.mono ?_
     rintro e w5 ⟨rfl,rfl⟩
     go_wp2_with fail
     refine HED.out.mono ?_
     rintro e w5 ⟨rfl,rfl⟩
     clear HBD HED
     go_upto_region 8 with (fail)
     have HP:=hid HR.out.drew
     have HBW:=hid HR.out.below
     have SS : Hid (∀ w',Ac (fun k => k = w.heap.size) wr.drew w' -> w'.cell? ⟨cb,0,none⟩ = some (.int .i64 (num : Int)) /\ w'.cell? ⟨cb,1,none⟩ = some (.bool bs) /\ w'.cell? ⟨cb,2,none⟩ = some (.int .i64 (va : Int)) /\ w'.cell? ⟨cb,3,none⟩ = some (.int .i64 (vk : Int)) /\ w'.cell? ⟨cb,4,none⟩ = some (.slice a ps.length c)):=fun w' t => by
      have hb:=t.keeps HP.out.box (by have h1:=HP.out.h1; have h2:=HP.out.h2; omega)
      exact ⟨by rw [Ab hb]; rfl,by rw [Ab hb]; rfl,by rw [Ab hb]; rfl,by rw [Ab hb]; rfl,by rw [Ab hb]; rfl⟩
     have HCK : Hid (bs = false -> Calls Tryz.prog 29 #[.slice a ps.length c] wr.drew fun e w' => e = .returned (.int .i64 0) /\ Below wr.drew.heap.size wr.drew w'):=fun hb => by
      have hbn : base = none:=by rw [hb] at hbs0; simpa using hbs0
      have h:=Km (Aj.own HP.out.row)
      rw [hbat hbn] at h
      exact h
     have hb0:=HR.out.box
     have d0 : wr.cell? ⟨cb,0,none⟩ = some (.int .i64 (num : Int)):=by rw [Ab hb0]; rfl
     have d1 : wr.cell? ⟨cb,1,none⟩ = some (.bool bs):=by rw [Ab hb0]; rfl
     have d2 : wr.cell? ⟨cb,2,none⟩ = some (.int .i64 (va : Int)):=by rw [Ab hb0]; rfl
     have d3 : wr.cell? ⟨cb,3,none⟩ = some (.int .i64 (vk : Int)):=by rw [Ab hb0]; rfl
     have d4 : wr.cell? ⟨cb,4,none⟩ = some (.slice a ps.length c):=by rw [Ab hb0]; rfl
     have hz0:=HR.out.zero
     have z0 : wr.cell? ⟨w.heap.size,0,none⟩ = some (.int .i64 0):=by rw [Ab hz0]; rfl
     have z1 : wr.cell? ⟨w.heap.size,1,none⟩ = some (.bool false):=by rw [Ab hz0]; rfl
     have z2 : wr.cell? ⟨w.heap.size,2,none⟩ = some (.int .i64 0):=by rw [Ab hz0]; rfl
     have z3 : wr.cell? ⟨w.heap.size,3,none⟩ = some (.int .i64 0):=by rw [Ab hz0]; rfl
     have z4 : wr.cell? ⟨w.heap.size,4,none⟩ = some (.slice none 0 0):=by rw [Ab hz0]; rfl
     have f0:=Ag hz0 0
     have f1:=Ag hz0 1
     have f2:=Ag hz0 2
     have f3:=Ag hz0 3
     have f4:=Ag hz0 4
     have hbd:=Ge HP.out.rd
     simp only [Option.isNone_some] at hbd
     have HBD:=hid hbd
     have hrv : Qf ⟨num,base,ps⟩ (.slice a ps.length c) = .agg #[.int .i64 (num : Int),.bool bs,.int .i64 (va : Int),.int .i64 (vk : Int),.slice a ps.length c]:=by unfold Qf AaG; rw [hva,hvk,hbs0]
     have HRV:=hid hrv
     have hne1 : ¬ cb = w.heap.size:=by omega
     have hne2 : ¬ w.heap.size = cb:=by omega
     clear hz0 hbd hrv HR hb0
     have FIN : Hid (∀ wf,Ac (fun k => k = w.heap.size) wr wf -> wf.ownsRow w.heap.size 57 3 (.slice a ps.length c) ps.length (AA ps) /\ Below w.heap.size w wf):=fun wf t => by
      have hr:=HP.out.row
      have hr2 : wr.ownsRow (cb + 1) 57 3 (.slice a ps.length c) ps.length (AA ps):=hr
      refine ⟨Au (t.row hr2 (fun k hk e => by have:=(hr2.lt k hk).1; omega)) (by omega),?_⟩
      have hb : Below w.heap.size w wr:=HBW.out
      exact hb.trans (t.below (fun i hi => by have : i = w.heap.size:=hi; omega) hb.size)
     cases bs with
     | true =>
       first | (go_region_with (first
        | (go_at_call 109; refine HBD.out.mono ?_; rintro e wA ⟨rfl,rfl⟩))) | fail
       all_goals go_wp2
       all_goals refine bodyPost_ret (v:=.tuple #[.agg #[.int .i64 (num : Int),.bool true,.int .i64 (va : Int),.int .i64 (vk : Int),.slice a ps.length c],.bool true]) ?_ rfl ⟨.slice a ps.length c,by rw [HRV.out],FIN.out _ (by repeat (first | refine turn9 ?_ | apply Ac.drew | exact Ac.refl _ _))⟩
       all_goals rw [results_cell_tmp rfl]
       all_goals go_simp
     | false =>
       have HCKF:=hid (HCK.out rfl)
       first | (go_region_with (first
        | (go_at_call 109; refine HBD.out.mono ?_; rintro e wA ⟨rfl,rfl⟩)
        | (go_at_call 29; refine HCKF.out.mono ?_; rintro e wD ⟨rfl,bD⟩; have BD:=hid bD; obtain ⟨y0,y1,y2,y3,y4⟩:=boxC ((bD.block cb (Ad HP.out.box)).trans HP.out.box); obtain ⟨x0,x1,x2,x3,x4⟩:=boxC ((bD.block w.heap.size (Ad HP.out.zero)).trans HP.out.zero); obtain ⟨g0,g1,g2,g3,g4⟩:=boxF ((bD.block w.heap.size (Ad HP.out.zero)).trans HP.out.zero); clear bD))) | fail
       all_goals go_wp2
       all_goals refine bodyPost_ret (v:=.tuple #[.agg #[.int .i64 (num : Int),.bool false,.int .i64 (va : Int),.int .i64 (vk : Int),.slice a ps.length c],.bool true]) ?_ rfl ⟨.slice a ps.length c,by rw [HRV.out],FIN.out _ (by repeat (first | refine turn9 ?_ | exact Tx (Ac.of_below _ BD.out) | apply Ac.drew | exact Ac.refl _ _))⟩
       all_goals rw [results_cell_tmp rfl]
       all_goals go_simp
end
section
open Go.RowKit Go.Lib
theorem infoTP : (Tryz.prog.info? 153).map (fun i => (i.zero,i.size,i.bytes)) = some (some (.pointer none),1,8):=by kernel_rfl
theorem Abq (p : Option Addr) : ∀ u ∈ (#[Value.pointer p] : Array Value).toList,u.oneCell' = true:=by intro u hu; simp at hu; subst hu; rfl
theorem Lj {w : World} {rv : Value} {l : List Aa} {F : Nat -> Prop} (h : CQ w rv l F) : ∃ g c,rv = .slice (some ⟨g,0,none⟩) 1 c:=by
 obtain ⟨g,c,p,h1,_⟩:=h
 exact ⟨g,c,h1⟩
theorem Zy {w : World} {v : Value} {p B : Nat} {l : List Aa} (ho : w.ownsRow 0 153 1 v 1 [.pointer (some ⟨p,0,none⟩)]) (hl : ∀ k,v.ownBlock = some k -> B <= k) (ht : Lc w p l (fun k => B <= k)) : CQ w v l (fun k => B <= k):=by
 rcases ho.2 with ⟨hv,h0⟩ | ⟨g,cap,cur,hv,_,hg,hle,hcm,hcs,htake⟩
 · cases h0
 · refine ⟨g,cap,p,hv,hl g (by rw [hv]; rfl),?_,ht⟩
   rw [cell_of_row w g _ cur _ _ hg]
   have : (cur.toList.take 1)[0]? = ([Value.pointer (some ⟨p,0,none⟩)])[0]?:=by rw [<- htake]
   rw [List.getElem?_take,if_pos (by omega)] at this
   rw [<- Array.getElem?_toList,this]
   rfl
set_option maxHeartbeats 2000000 in
set_option maxRecDepth 100000 in
theorem IF {l : List Aa} (hok : FP l) (n : Nat) (hn : n <= limC) (w : World) :
 Calls Tryz.prog 74 #[.int .i64 (n : Int),.string ⟨(Gd n l).toArray⟩] w fun e w' => ∃ rv,e = .returned (.tuple #[rv,.bool true]) /\ CQ w' rv l (fun k => w.heap.size <= k) /\ Below w.heap.size w w':=by
 have hlen:=VP hok hn
 have hsz:=MZ hok
 obtain ⟨_,htab⟩:=L8 hok
 have hnn : n <= 1000000:=hn
 obtain ⟨X,hX⟩ : ∃ X,C3 l = X:=⟨_,rfl⟩
 obtain ⟨RS,hRS⟩ : ∃ RS,As X.size ++ X.data.toList = RS:=⟨_,rfl⟩
 obtain ⟨SB,hSB⟩ : ∃ SB : ByteArray,(⟨(Gd n l).toArray⟩ : ByteArray) = SB:=⟨_,rfl⟩
 have hSd : SB.data.toList = As n ++ RS:=by rw [<- hSB,<- hRS,<- hX]; show ((Gd n l).toArray).toList = _; unfold Gd; rfl
 have hSz : SB.size <= 140737488351232:=by rw [<- hSB,A0]; omega
 rw [hX] at hsz htab
 have HRD : Hid (∀ w,Calls Tryz.prog 107 #[.string SB] w fun e w' => e = .returned (.pointer (some ⟨w.heap.size,0,none⟩)) /\ RDE w' w.heap.size (some (As n ++ RS)) /\ Below w.heap.size w w'):=fun w => by
  have:=IK SB hSz w
  rwa [hSd] at this
 have HI1 : Hid (∀ w b r,RDE w b (some (As n ++ r)) -> Calls Tryz.prog 108 #[.pointer (some ⟨b,0,none⟩),.int .i64 9223372036854775807] w fun e w' => e = .returned (.int .i64 (n : Int)) /\ EH w w' b (some r)):=fun w b r h => by
  have:=Gb h 9223372036854775807 (by omega)
  rwa [Om hn] at this
 have HTX : Hid (∀ w b,RDE w b (some RS) -> Calls Tryz.prog 111 #[.pointer (some ⟨b,0,none⟩)] w fun e w' => e = .returned (.string X) /\ EH w w' b (some [])):=fun w b h => by
  have:=Io h
  rw [<- hRS,show As X.size ++ X.data.toList = As X.size ++ (X.data.toList ++ []) by rw [List.append_nil],LM (AK (by omega))] at this
  refine this.mono fun e w' h => ⟨by rw [h.1]; unfold tv; rw [QW],h.2⟩
 have HOP : Hid (∀ w,Calls Tryz.prog 112 #[.string X] w fun e w' => (∃ p,e = .returned (.tuple #[.pointer (some ⟨p,0,none⟩),.int .i64 0]) /\ Lc w' p l (fun k => w.heap.size <= k)) /\ Below w.heap.size w w'):=fun w => by
  refine (WB X w (by omega)).mono fun e w' h => ⟨?_,h.2⟩
  rcases h.1 with ⟨l',p,h1,h2,h3⟩ | ⟨_,h2⟩
  · rw [AaY h2 htab] at h3
    exact ⟨p,h1,h3⟩
  · exact absurd htab (h2 l)
 have hre : Fs (some RS) = false:=by
  have:=EJ X.size
  unfold Fs
  cases hc : RS with
  | nil => rw [hc] at hRS; have:=congrArg List.length hRS; rw [List.length_append,List.length_nil] at this; omega
  | cons a r => rfl
 have hrl : 0 < RS.length:=by
  have:=EJ X.size
  rw [<- hRS,List.length_append]; omega
 rw [hSB]
 obtain ⟨i0,hi0,hz0,hz1,hz2⟩:=info_parts infoTP
 clear hSB hSd hSz hlen hX hRS htab hsz
 go_enter Tryz.func74,Tryz.ntmps74
 go_wp2_with fail
 refine (HRD.out _).mono ?_
 rintro e w1 ⟨rfl,r1,b1⟩
 have R1:=hid r1
 have B1:=hid b1
 have hrb0 : w.heap.size <= w.heap.size:=Nat.le_refl _
 have hrb1 : w.heap.size < w1.heap.size:=r1.lt
 clear r1 b1 HRD
 go_wp2_with fail
 refine (HI1.out _ _ _ R1.out).mono ?_
 rintro e w2 ⟨rfl,l2⟩
 have R2:=hid l2.1
 have B2:=hid (B1.out.trans (l2.below (B:=w.heap.size) (by omega) (by omega)))
 clear l2 R1 B1 HI1
 go_wp2
 go_loopw [6,8] (fun tv kv wr => kv = .bool true /\ ((tv = .slice none 0 0 /\ Hid (RDE wr w.heap.size (some RS) /\ Below w.heap.size w wr)) \/ Hid (CQ wr tv l (fun k => w.heap.size <= k) /\ RDE wr w.heap.size (some []) /\ Below w.heap.size w wr))) (fun _ _ wr => IA wr w.heap.size)
 case atStart => exact ⟨rfl,.inl ⟨rfl,R2.out,B2.out⟩⟩
 case round =>
  clear R2 B2
  obtain ⟨rfl,⟨rfl,HR⟩ | HR⟩:=hrel
  · have hend:=Iu HR.out.1
    rw [hre] at hend
    have HED:=hid hend
    have hm0:=Hw HR.out.1
    have HM:=hid hm0
    clear hend hm0
    go_wp2_with fail
    refine HED.out.mono ?_
    rintro e w3 ⟨rfl,rfl⟩
    clear HED
    go_wp2_with fail
    refine (HTX.out _ _ HR.out.1).mono ?_
    rintro e w4 ⟨rfl,l4⟩
    have R4:=hid l4.1
    have B4:=hid (HR.out.2.trans (l4.below (B:=w.heap.size) HR.out.2.size (by omega)))
    have hrl4:=l4.1.lt
    clear l4 HR HTX
    go_wp2_with fail
    refine (HOP.out _).mono ?_
    rintro e w5 ⟨⟨p,rfl,t5⟩,b5⟩
    have R5:=hid (R4.out.below b5)
    have B5:=hid (B4.out.trans (b5.mono B4.out.size))
    have T5:=hid (t5.mono (G:=fun k => w.heap.size <= k) fun k hk => Nat.le_trans B4.out.size hk)
    clear t5 b5 R4 B4 HOP
    have al:=(Below.refl w5.heap.size w5).alloc (Nat.le_refl _) (.cells #[.pointer (some ⟨p,0,none⟩)] 153)
    have R6:=hid (R5.out.below al)
    have B6:=hid (B5.out.trans (al.mono B5.out.size))
    have T6:=hid (T5.out.kept (Ac.of_below (fun _ => False) al) (fun _ _ h => h))
    have hsrc:=K8 (sz:=1) w5 #[.pointer (some ⟨p,0,none⟩)] 153 rfl (Abq _)
    have hs5:=B5.out.size
    clear al R5 B5 T5
    go_wp2_with (at_builtin; go_loud (refine Bp _ rfl (.tmp 31) (.tmp 33) rfl Tryz.underlying115 hi0 hz0 hz1 hz2 rfl (by decide) rfl (World.ownsRow_nil _ _ _ _) rfl hsrc ?a1 ?a2 ?_))
    case a1 => omega
    case a2 => unfold maxLen; omega
    intro v6 w7 o7 g7 l7
    have b7:=(Below.refl _ _).grown g7 (Nat.le_refl _) (fun j hj => by cases hj)
    have HRA : Hid (CQ w7 v6 l (fun k => w.heap.size <= k)):=by
     refine Zy o7 (fun k hk => ?_) ?_
     · rcases l7 k hk with h | h
       · cases h
       · have h2 : w5.heap.size + 1 <= k:=h; omega
     · exact T6.out.kept (Ac.of_below (fun _ => False) b7) (fun _ _ h => h)
    have R7:=hid (R6.out.below b7)
    have B7:=hid (B6.out.trans (b7.mono B6.out.size))
    clear b7 o7 g7 l7 R6 B6 T6 hsrc
    go_wp2
    go_roundw
    case rel => exact ⟨rfl,.inr ⟨HRA.out,R7.out,B7.out⟩⟩
    case measure => rw [Hw R7.out,HM.out]; exact hrl
  · have hend:=Iu HR.out.2.1
    have he0 : Fs (some ([] : List UInt8)) = true:=rfl
    rw [he0] at hend
    have HED:=hid hend
    obtain ⟨g,c,rfl⟩:=Lj HR.out.1
    clear hend
    go_wp2_with fail
    refine HED.out.mono ?_
    rintro e w3 ⟨rfl,rfl⟩
    go_wp2
    go_ret2
    exact ⟨_,rfl,HR.out.1,HR.out.2.2⟩
end
section
open Go.RowKit
structure JU (w : World) (d mp : Nat) (m : List Aa) (Fm : Nat -> Prop) : Prop where
 c2 : w.cell? ⟨d,2,none⟩ = some (.pointer (some ⟨mp,0,none⟩))
 mem : CN w mp m Fm
 dm : ¬ Fm d
 lt : ∀ k,Fm k -> k < w.heap.size
theorem JU.d {w : World} {d mp : Nat} {m : List Aa} {Fm : Nat -> Prop} (h : JU w d mp m Fm) : d < w.heap.size:=World.block_lt_of_cell? w ⟨d,2,none⟩ h.c2
theorem JU.below {w w' : World} {d mp : Nat} {m : List Aa} {Fm : Nat -> Prop} (h : JU w d mp m Fm) (t : Below w.heap.size w w') : JU w' d mp m Fm:=
 ⟨(t.cell h.d).trans h.c2,h.mem.kept (Ac.of_below (fun _ => False) t) (fun _ _ h => h),h.dm,fun k hk => Nat.lt_of_lt_of_le (h.lt k hk) t.size⟩
theorem JU.put {w w' : World} {d mp : Nat} {m m' : List Aa} {Fm : Nat -> Prop} (h : JU w d mp m Fm) (hm : CN w' mp m' (AN Fm w w')) (t : Ac Fm w w') : JU w' d mp m' (AN Fm w w'):=
 ⟨(World.cell?_of_block (w:=w) (a:=⟨d,2,none⟩) (t.block d h.d h.dm)).trans h.c2,hm,fun hk => by rcases hk with hk | hk; exact h.dm hk; have:=h.d; omega,fun k hk => by rcases hk with hk | hk; exact Nat.lt_of_lt_of_le (h.lt k hk) t.size; exact hk.2⟩
set_option maxHeartbeats 2000000 in
set_option maxRecDepth 100000 in
theorem FI {w : World} {d mp : Nat} {m : List Aa} {Fm : Nat -> Prop} (E : CP w) (hg : ∀ k,Fm k -> k ≠ 2) (h : JU w d mp m Fm) {a : Option Addr} {cc : Nat} {l : List Aa} (hR : Aj w (.slice a l.length cc) l) (hA : ∀ g o,a = some ⟨g,o,none⟩ -> l ≠ [] -> ¬ Fm g) (hf : Az l) (hl1 : m.length + l.length <= 3518437208000) (hl2 : At m + At l <= 36028797018963968) :
 Calls Tryz.prog 55 #[.pointer (some ⟨d,0,none⟩),.slice a l.length cc] w fun e w' => e = .returned (.bool true) /\ JU w' d mp (Bc l m) (AN Fm w w') /\ Ac Fm w w':=by
 have hmx : l.length <= 9223372036854775807:=by omega
 have HR:=hid hR
 have HA:=hid hA
 have HF:=hid hf
 have HE:=hid E
 have HG:=hid hg
 have HLT:=hid h.lt
 have hdw:=h.d
 have hdm:=h.dm
 have HD0 : Hid (JU w d mp (Bc (l.take 0) m) (AN Fm w w) /\ Ac Fm w w):=⟨⟨h.c2,h.mem.mono (fun k hk => .inl hk),fun hk => by rcases hk with hk | hk; exact h.dm hk; omega,fun k hk => by rcases hk with hk | hk; exact h.lt k hk; omega⟩,Ac.refl _ _⟩
 clear h hR hA hf E hg
 go_enter Tryz.func55,Tryz.ntmps55
 go_wp2
 go_loopw [9] (fun iv wr => ∃ i : Nat,i <= l.length /\ iv = .int .i64 (i : Int) /\ Hid (JU wr d mp (Bc (l.take i) m) (AN Fm w wr) /\ Ac Fm w wr)) (fun iv _ => l.length - (intOf iv).toNat)
 case atStart => exact ⟨0,Nat.zero_le _,rfl,HD0.out⟩
 case round =>
  clear HD0
  obtain ⟨i,hi,rfl,HI⟩:=hrel
  by_cases hlt : i < l.length
  · obtain ⟨hd,ht⟩:=HI.out
    have hrd:=Ki HR.out ht HA.out
    obtain ⟨gb,o,rfl,q0,q1,q2⟩:=hrd.at hlt
    have hxf:=HF.out l[i] (List.getElem_mem hlt)
    have HO:=hid (Nv m hlt)
    have hml:=overP_len (l.take i) m
    have hms:=size_over (l.take i) m
    have hts:=Ko l i
    have htl : (l.take i).length <= l.length:=by rw [List.length_take]; omega
    have hmeas : l.length - (intOf (.int .i64 ((i : Int) + 1))).toNat < l.length - (intOf (.int .i64 (i : Int))).toNat:=by simp [intOf]; omega
    generalize l[i] = X at *
    obtain ⟨xk,xv,xg⟩:=X
    simp only at q0 q1 q2
    have hbl : Below wr.heap.size wr (wr.alloc (.cells #[.string xk,.string xv,.bool xg] 57)):=(Below.refl _ wr).alloc (Nat.le_refl _) _
    have hd1:=hd.below hbl
    have ht1 : Ac Fm w (wr.alloc (.cells #[.string xk,.string xv,.bool xg] 57)):=ht.alloc _
    have hnw:=heap_alloc_new wr (.cells #[.string xk,.string xv,.bool xg] 57)
    have hmp:=hd1.c2
    have HD:=hid hd1
    have HT:=hid ht1
    have HN:=hid hnw
    have HX:=hid hxf
    have HSZ : Hid (wr.heap.size <= (wr.alloc (.cells #[.string xk,.string xv,.bool xg] 57)).heap.size):=hbl.size
    have HPB : Hid (¬ AN Fm w wr wr.heap.size):=fun hk => by
     have:=hd.lt _ hk
     omega
    clear hd ht hrd HI hbl hd1 ht1 hnw hxf
    go_upto_region 4 with (fail)
    generalize wr.alloc (.cells #[.string xk,.string xv,.bool xg] 57) = w4 at *
    have SS : Hid (∀ w',Ac (AN Fm w wr) w4.drew w' -> w'.cell? ⟨d,2,none⟩ = some (.pointer (some ⟨mp,0,none⟩)) /\ w'.cell? ⟨wr.heap.size,0,none⟩ = some (.string xk) /\ w'.cell? ⟨wr.heap.size,1,none⟩ = some (.string xv) /\ w'.cell? ⟨wr.heap.size,2,none⟩ = some (.bool xg)):=fun w' t => by
     have t' : Ac (AN Fm w wr) w4 w':=⟨t.os,t.tape,t.output,t.size,t.block⟩
     have h2:=t'.keeps HN.out HPB.out
     exact ⟨(World.cell?_of_block (w:=w4) (a:=⟨d,2,none⟩) (t'.block d HD.out.d HD.out.dm)).trans HD.out.c2,by rw [Ab h2]; rfl,by rw [Ab h2]; rfl,by rw [Ab h2]; rfl⟩
    have HPU : Hid (Calls Tryz.prog 86 #[.pointer (some ⟨mp,0,none⟩),.agg #[.string xk,.string xv,.bool xg]] w4.drew fun e w' => e = .returned (.int .i64 0) /\ (JU w' d mp (Bc (l.take (i + 1)) m) (AN Fm w w') /\ Ac Fm w w') /\ Ac (AN Fm w wr) w4.drew w'):=by
     have hdd:=HD.out.below (Ay w4)
     have e4 : CP w4:=HE.out.turn9 HT.out (fun hk => HG.out _ hk rfl)
     refine (Yv (F:=AN Fm w wr) (e4.turn9 (Ac.of_below (fun _ => False) (Ay w4)) (fun h => h)) ⟨xk,xv,xg⟩ HX.out hdd.mem (by show (Bc (l.take i) m).length < _; omega) (by show At (Bc (l.take i) m) <= _; omega)).mono ?_
     rintro e w' ⟨rfl,hm,tm⟩
     have e5 : C2 ⟨xk,xv,xg⟩ (Bc (l.take i) m) = Bc (l.take (i + 1)) m:=by rw [HO.out]; exact (if_pos HX.out).symm
     have h1:=hdd.put (m':=Bc (l.take (i + 1)) m) (by rw [<- e5]; exact hm) tm
     have hs1:=HT.out.size
     have hs2:=tm.size
     refine ⟨rfl,⟨⟨h1.c2,h1.mem.mono (fun k hk => ?_),fun hk => ?_,fun k hk => ?_⟩,(HT.out.trans (Ac.of_below Fm (Ay w4)) (fun i hi => .inl hi)).trans tm (fun j hj => ?_)⟩,tm⟩
     · rcases hk with (hk | hk) | hk
       · exact .inl hk
       · exact .inr ⟨hk.1,Nat.lt_of_lt_of_le hk.2 (Nat.le_trans HSZ.out hs2)⟩
       · exact .inr ⟨Nat.le_trans hs1 hk.1,hk.2⟩
     · rcases hk with hk | hk
       · exact hdm hk
       · omega
     · rcases hk with hk | hk
       · exact Nat.lt_of_lt_of_le (HLT.out k hk) (Nat.le_trans hs1 hs2)
       · exact hk.2
     · rcases hj with hj | hj
       · exact .inl hj
       · exact .inr hj.1
    clear HD HN HX HO HE
    go_region_held3 (fun w' => w'.cell? ⟨d,2,none⟩ = some (.pointer (some ⟨mp,0,none⟩)) /\ w'.cell? ⟨wr.heap.size,0,none⟩ = some (.string xk) /\ w'.cell? ⟨wr.heap.size,1,none⟩ = some (.string xv) /\ w'.cell? ⟨wr.heap.size,2,none⟩ = some (.bool xg)) (first | exact SS.out _ TM.out | exact SS.out _ (Ac.refl _ _))
     (first
       | (go_at_call 86; refine HPU.out.mono ?_; rintro e w5 ⟨rfl,h5,t5⟩; have H5:=hid h5; have TM:=hid t5; clear h5 t5))
    all_goals go_wp2
    all_goals go_roundw
    case rel => exact ⟨i + 1,by omega,by go_num,H5.out⟩
    case measure => exact hmeas
  · obtain rfl : i = l.length:=by omega
    rw [List.take_length] at HI
    go_wp2
    go_ret
    obtain ⟨h1,h2⟩:=HI.out
    exact ⟨rfl,h1,h2⟩
end
end Go.Proofs.YtnafjlhohbhcoaaGreatDoor
