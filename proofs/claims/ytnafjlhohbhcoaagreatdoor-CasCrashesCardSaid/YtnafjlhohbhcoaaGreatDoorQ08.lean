/- Parts of the proof. -/
import Derived.Test.YtnafjlhohbhcoaaGreatDoorQ01
import Derived.Test.YtnafjlhohbhcoaaGreatDoorQ07
import Derived.Deep.QuietTactic
import Derived.BigQuiet
import Derived.Lib.Hide
import Derived.Lib.LaidTab
import Derived.Lib.TrailingZeros
import Derived.Laws.StructEq
import Derived.Laws.ResultCell
import Derived.IntWalk
import Derived.WalkArith
import Derived.Sort.QuietIn
namespace Go.Proofs.YtnafjlhohbhcoaaGreatDoor
open Go.Lib (hid)
set_option linter.unusedVariables false
section
open Go.RowKit Go.Maps Go.WideMaps
section
variable {F G : Nat -> Prop} {w w' : World} {p : Nat} {v : Value} {l : List Aa}
end
theorem An {w : World} {base : Nat} {t : TypeId} {sz : Nat} {v : Value} {n : Nat} {xs : List Value} (h : w.ownsRow base t sz v n xs) : ∃ a c,v = .slice a n c:=by
 rcases h.2 with ⟨rfl,rfl⟩ | ⟨g,cap,cur,rfl,_⟩
 · exact ⟨none,0,rfl⟩
 · exact ⟨_,_,rfl⟩
theorem Hm {w : World} {base : Nat} {v : Value} {l : List Aa} (h : w.ownsRow base 57 3 v l.length (AA l)) {i : Nat} (hi : i < l.length) : ∃ g cap,v = .slice (some ⟨g,0,none⟩) l.length cap /\ l.length <= cap /\ cap <= maxLen /\
 w.cell? ⟨g,i * 3,none⟩ = some (.string l[i].key) /\ w.cell? ⟨g,i * 3 + 1,none⟩ = some (.string l[i].val) /\ w.cell? ⟨g,i * 3 + 2,none⟩ = some (.bool l[i].gone):=by
 rcases h.2 with ⟨_,h0⟩ | ⟨g,cap,cur,hv,_,hg,hle,hcm,_⟩
 · omega
 · obtain ⟨r0,r1,r2⟩:=rowP_at l i hi
   subst hv
   exact ⟨g,cap,rfl,hle,hcm,(h.cellAt _ (by omega)).trans r0,(h.cellAt _ (by omega)).trans r1,(h.cellAt _ (by omega)).trans r2⟩
theorem CH {k : ByteArray} : k.toList = [] ↔ k.size = 0:=by
 rw [ByteArray.toList_eq]
 show _ ↔ k.data.size = 0
 rw [<- Array.length_toList]
 exact List.length_eq_zero_iff.symm
theorem Od {k v : ByteArray} {g : Bool} (h : k.toList = []) : Aw ⟨k,v,g⟩ = 1:=by
 have:=CH.1 h
 simp [Aw,this]
theorem Mj {k v : ByteArray} (h : ¬ v.toList = []) : Aw ⟨k,v,true⟩ = 1:=by
 have : ¬ v.size = 0:=fun e => h (CH.2 e)
 simp [Aw,this]
theorem Jl {k v : ByteArray} {g : Bool} (h : ¬ k.toList = []) (hg : g = false \/ v.toList = []) (h2 : 64 < (k.size : Int) \/ 8192 < (v.size : Int)) : Aw ⟨k,v,g⟩ = 2:=by
 have h3 : ¬ k.size = 0:=fun e => h (CH.2 e)
 have h4 : ¬ (g = true /\ v.size ≠ 0):=by
  rintro ⟨rfl,h5⟩
  rcases hg with hg | hg
  · cases hg
  · exact h5 (CH.1 hg)
 unfold Aw
 rw [if_neg (by simp only [not_or]; exact ⟨h3,h4⟩),if_pos (by simp only; omega)]
theorem IG {k v : ByteArray} {g : Bool} (h : ¬ k.toList = []) (hg : g = false \/ v.toList = []) (h2 : ¬ (64 < (k.size : Int) \/ 8192 < (v.size : Int))) : Aw ⟨k,v,g⟩ = 0:=by
 have h3 : ¬ k.size = 0:=fun e => h (CH.2 e)
 have h4 : ¬ (g = true /\ v.size ≠ 0):=by
  rintro ⟨rfl,h5⟩
  rcases hg with hg | hg
  · cases hg
  · exact h5 (CH.1 hg)
 unfold Aw
 rw [if_neg (by simp only [not_or]; exact ⟨h3,h4⟩),if_neg (by simp only; omega)]
set_option maxHeartbeats 1000000 in
set_option maxRecDepth 100000 in
theorem Vw (x : Aa) (w : World) :
 Calls Tryz.prog 51 #[x.val'] w fun e w' => e = .returned (.int .i64 (Aw x : Nat)) /\ Below w.heap.size w w':=by
 obtain ⟨k,v,g⟩:=x
 show Calls Tryz.prog 51 #[.agg #[.string k,.string v,.bool g]] w _
 generalize hN : Aw ⟨k,v,g⟩ = N
 have HN:=hid hN
 clear hN
 by_cases hk : k.toList = []
 · have hb : k.toList.isEmpty = true:=by rw [hk]; rfl
   have HX:=HN.out.symm.trans (Od hk)
   subst HX
   go_enter Tryz.func51,Tryz.ntmps51
   go_wp2
   go_ret
   exact ⟨rfl,(Below.refl _ w).alloc (Nat.le_refl _) _⟩
 · have hb : k.toList.isEmpty = false:=by simpa using hk
   cases g
   · by_cases h2 : 64 < (k.size : Int) \/ 8192 < (v.size : Int)
     · have HX:=HN.out.symm.trans (Jl hk (.inl rfl) h2)
       subst HX
       go_enter Tryz.func51,Tryz.ntmps51
       go_wp2
       all_goals first
        | (exfalso; omega)
        | (go_ret; exact ⟨rfl,(Below.refl _ w).alloc (Nat.le_refl _) _⟩)
     · have HX:=HN.out.symm.trans (IG hk (.inl rfl) h2)
       subst HX
       go_enter Tryz.func51,Tryz.ntmps51
       go_wp2
       all_goals first
        | (exfalso; omega)
        | (go_ret; exact ⟨rfl,(Below.refl _ w).alloc (Nat.le_refl _) _⟩)
   · by_cases hv : v.toList = []
     · have hc : v.toList.isEmpty = true:=by rw [hv]; rfl
       by_cases h2 : 64 < (k.size : Int) \/ 8192 < (v.size : Int)
       · have HX:=HN.out.symm.trans (Jl hk (.inr hv) h2)
         subst HX
         go_enter Tryz.func51,Tryz.ntmps51
         go_wp2
         all_goals first
          | (exfalso; omega)
          | (go_ret; exact ⟨rfl,(Below.refl _ w).alloc (Nat.le_refl _) _⟩)
       · have HX:=HN.out.symm.trans (IG hk (.inr hv) h2)
         subst HX
         go_enter Tryz.func51,Tryz.ntmps51
         go_wp2
         all_goals first
          | (exfalso; omega)
          | (go_ret; exact ⟨rfl,(Below.refl _ w).alloc (Nat.le_refl _) _⟩)
     · have hc : v.toList.isEmpty = false:=by simpa using hv
       have HX:=HN.out.symm.trans (Mj hv)
       subst HX
       go_enter Tryz.func51,Tryz.ntmps51
       go_wp2
       go_ret
       exact ⟨rfl,(Below.refl _ w).alloc (Nat.le_refl _) _⟩
end
section
open Go.RowKit Go.Maps Go.WideMaps
theorem tab64_named : Tryz.prog.globalNamed "math/bits.deBruijn64tab" = some 2:=by kernel_rfl
def tab64 : List Int:=Lib.deBruijn64tab.map Int.ofNat
def CP (w : World) : Prop:=Lib.TabIs Tryz.prog w "math/bits.deBruijn64tab" .u8 tab64
theorem CP.below {w w' : World} (h : CP w) (hb : Below w.heap.size w w') : CP w':=by
 unfold CP Lib.TabIs World.var? at *
 rw [tab64_named] at h ⊢
 simp only [Option.bind_some] at h ⊢
 have hlt : 2 < w.heap.size:=by
  rcases Nat.lt_or_ge 2 w.heap.size with h' | h'
  · exact h'
  · rw [Array.getElem?_eq_none h'] at h; simp at h
 rw [hb.block _ hlt]
 exact h
theorem tab64_len : tab64.length = 64:=by decide
theorem tab64_each : ∀ j,j < 64 -> 0 <= tab64.getD j 0 /\ tab64.getD j 0 < 64:=by decide +kernel
theorem CP.cell {w : World} (h : CP w) {i : Nat} (hi : i < 64) : ∃ k : Nat,k < 64 /\ w.cell? ⟨2,i,none⟩ = some (.int .u8 (k : Int)):=by
 have h1:=Lib.TabIs.cell h tab64_named i (by rw [tab64_len]; exact hi)
 obtain ⟨e1,e2⟩:=tab64_each i hi
 obtain ⟨k,e⟩:=Int.eq_ofNat_of_zero_le e1
 exact ⟨k,by omega,by rw [h1,e]⟩
def FN (o : Option Nat) : Value:=.pointer (o.map fun b => (⟨b,0,none⟩ : Addr))
structure Al (w : World) (p : Nat) (N : List Aq) (c s : Int) (F : Nat -> Prop) (L : Nat -> Nat -> Option Nat) : Prop where
 head : ∃ cs : Array Value,w.heap[p]? = some (.cells cs 134 (0,0)) /\ cs.size = 17 /\ (∀ j,j < 12 -> cs[3 + j]? = some (FN (L 0 j))) /\ cs[15]? = some (.int .i64 c) /\ cs[16]? = some (.int .i64 s)
 node : ∀ i (h : i < N.length),∃ cs : Array Value,w.heap[N[i].blk]? = some (.cells cs 132 (0,0)) /\ cs.size = 15 /\ cs[0]? = some (.string N[i].pr.key) /\ cs[1]? = some (.string N[i].pr.val) /\ cs[2]? = some (.bool N[i].pr.gone) /\
  ∀ j,j < 12 -> cs[3 + j]? = some (FN (L (i + 1) j))
 fp : F p
 fn : ∀ x ∈ N,F x.blk
 apart : (p :: N.map Aq.blk).Nodup
def L7 (w : World) (p : Nat) (N : List Aq) (c s : Int) (F : Nat -> Prop) : Prop:=Al w p N c s F (Lo N)
section
variable {F G : Nat -> Prop} {w w' : World} {p q j : Nat} {N : List Aq} {c s : Int} {L L' : Nat -> Nat -> Option Nat}
theorem Al.kept (h : Al w p N c s F L) (t : ∀ k,F k -> w'.heap[k]? = w.heap[k]?) : Al w' p N c s F L:=by
 refine ⟨?_,fun i hi => ?_,h.fp,h.fn,h.apart⟩
 · rw [t p h.fp]; exact h.head
 · rw [t _ (h.fn _ (List.getElem_mem hi))]; exact h.node i hi
theorem Al.lt (h : Al w p N c s F L) : p < w.heap.size:=by obtain ⟨cs,h1,_⟩:=h.head; exact Ad h1
theorem Al.nlt (h : Al w p N c s F L) {x : Aq} (hx : x ∈ N) : x.blk < w.heap.size:=by
 obtain ⟨i,hi,rfl⟩:=List.mem_iff_getElem.1 hx
 obtain ⟨cs,h1,_⟩:=h.node i hi
 exact Ad h1
theorem Al.turn (h : Al w p N c s F L) (t : Ac G w w') (hd : ∀ k,F k -> ¬ G k) : Al w' p N c s F L:=by
 obtain ⟨cs,h1,h2⟩:=h.head
 refine ⟨⟨cs,t.keeps h1 (hd _ h.fp),h2⟩,fun i hi => ?_,h.fp,h.fn,h.apart⟩
 obtain ⟨cs,h1,h2⟩:=h.node i hi
 exact ⟨cs,t.keeps h1 (hd _ (h.fn _ (List.getElem_mem hi))),h2⟩
theorem Al.below (h : Al w p N c s F L) (t : Below w.heap.size w w') : Al w' p N c s F L:=h.turn (Ac.of_below (fun _ => False) t) (fun _ _ h => h)
theorem Al.mono (h : Al w p N c s F L) (hd : ∀ k,F k -> G k) : Al w p N c s G L:=⟨h.head,h.node,hd _ h.fp,fun x hx => hd _ (h.fn x hx),h.apart⟩
theorem Al.congr (h : Al w p N c s F L) (e : ∀ q,q <= N.length -> ∀ j,j < 12 -> L q j = L' q j) : Al w p N c s F L':=by
 obtain ⟨cs,h1,h2,h3,h4,h5⟩:=h.head
 refine ⟨⟨cs,h1,h2,fun j hj => by rw [h3 j hj,e 0 (by omega) j hj],h4,h5⟩,fun i hi => ?_,h.fp,h.fn,h.apart⟩
 obtain ⟨cs,h1,h2,h3,h4,h5,h6⟩:=h.node i hi
 exact ⟨cs,h1,h2,h3,h4,h5,fun j hj => by rw [h6 j hj,e (i + 1) (by omega) j hj]⟩
theorem Al.blk (h : Al w p N c s F L) (hq : q <= N.length) : ∃ cs t,w.heap[Cc p N q]? = some (.cells cs t (0,0)) /\ 15 <= cs.size /\ ∀ j,j < 12 -> cs[3 + j]? = some (FN (L q j)):=by
 cases q with
 | zero =>
   obtain ⟨cs,h1,h2,h3,_⟩:=h.head
   exact ⟨cs,_,h1,by omega,h3⟩
 | succ i =>
   obtain ⟨cs,h1,h2,_,_,_,h3⟩:=h.node i (by omega)
   rw [BN (show i < N.length by omega)]
   exact ⟨cs,_,h1,by omega,h3⟩
theorem Al.link (h : Al w p N c s F L) (hq : q <= N.length) (hj : j < 12) : w.cell? ⟨Cc p N q,3 + j,none⟩ = some (FN (L q j)):=by
 obtain ⟨cs,t,h1,_,h3⟩:=h.blk hq
 rw [Ab h1]; exact h3 j hj
theorem Al.free (h : Al w p N c s F L) (hq : q <= N.length) (i : Nat) : w.frozen? ⟨Cc p N q,i,none⟩ = false:=by
 obtain ⟨cs,t,h1,_⟩:=h.blk hq
 exact Ag h1 i
theorem Al.key (h : Al w p N c s F L) {i : Nat} (hi : i < N.length) : w.cell? ⟨N[i].blk,0,none⟩ = some (.string N[i].pr.key) /\ w.cell? ⟨N[i].blk,1,none⟩ = some (.string N[i].pr.val) /\ w.cell? ⟨N[i].blk,2,none⟩ = some (.bool N[i].pr.gone):=by
 obtain ⟨cs,h1,h2,h3,h4,h5,_⟩:=h.node i hi
 exact ⟨by rw [Ab h1]; exact h3,by rw [Ab h1]; exact h4,by rw [Ab h1]; exact h5⟩
theorem Al.counts (h : Al w p N c s F L) : w.cell? ⟨p,15,none⟩ = some (.int .i64 c) /\ w.cell? ⟨p,16,none⟩ = some (.int .i64 s):=by
 obtain ⟨cs,h1,h2,_,h4,h5⟩:=h.head
 exact ⟨by rw [Ab h1]; exact h4,by rw [Ab h1]; exact h5⟩
theorem Al.ne (h : Al w p N c s F L) {i k : Nat} (hi : i < N.length) (hk : k < N.length) (e : i ≠ k) : N[i].blk ≠ N[k].blk:=fun e2 => by
 have:=Hc (p:=p) h.apart (q:=i + 1) (r:=k + 1) (by omega) (by omega) (by rw [BN hi,BN hk,e2])
 omega
theorem Al.neP (h : Al w p N c s F L) {i : Nat} (hi : i < N.length) : N[i].blk ≠ p:=fun e2 => by
 have:=Hc (p:=p) h.apart (q:=i + 1) (r:=0) (by omega) (by omega) (by rw [BN hi,e2]; rfl)
 omega
theorem Bn {w : World} {b i k : Nat} {v : Value} (e : k ≠ b) : (w.setCell ⟨b,i,none⟩ v).heap[k]? = w.heap[k]?:=Below.heap_setCell _ _ _ _ (fun e2 => e (by first | exact e2 | exact e2.symm))
theorem Al.setCount (h : Al w p N c s F L) (c' : Int) : Al (w.setCell ⟨p,15,none⟩ (.int .i64 c')) p N c' s F L:=by
 obtain ⟨cs,h1,h2,h3,h4,h5⟩:=h.head
 refine ⟨⟨_,block_set h1 15 _,by simp [h2],fun j hj => ?_,?_,?_⟩,fun i hi => ?_,h.fp,h.fn,h.apart⟩
 · rw [Array.getElem?_setIfInBounds_ne (by omega)]; exact h3 j hj
 · rw [Array.getElem?_setIfInBounds_self_of_lt (by omega)]
 · rw [Array.getElem?_setIfInBounds_ne (by omega)]; exact h5
 · rw [Bn (h.neP hi)]; exact h.node i hi
theorem Al.setBytes (h : Al w p N c s F L) (s' : Int) : Al (w.setCell ⟨p,16,none⟩ (.int .i64 s')) p N c s' F L:=by
 obtain ⟨cs,h1,h2,h3,h4,h5⟩:=h.head
 refine ⟨⟨_,block_set h1 16 _,by simp [h2],fun j hj => ?_,?_,?_⟩,fun i hi => ?_,h.fp,h.fn,h.apart⟩
 · rw [Array.getElem?_setIfInBounds_ne (by omega)]; exact h3 j hj
 · rw [Array.getElem?_setIfInBounds_ne (by omega)]; exact h4
 · rw [Array.getElem?_setIfInBounds_self_of_lt (by omega)]
 · rw [Bn (h.neP hi)]; exact h.node i hi
theorem Al.setLink (h : Al w p N c s F L) (hq : q <= N.length) (hj : j < 12) (o : Option Nat) : Al (w.setCell ⟨Cc p N q,3 + j,none⟩ (FN o)) p N c s F (fun q' j' => if q' = q /\ j' = j then o else L q' j'):=by
 have other : ∀ k,k <= N.length -> k ≠ q -> (w.setCell ⟨Cc p N q,3 + j,none⟩ (FN o)).heap[Cc p N k]? = w.heap[Cc p N k]?:=fun k hk e => Bn (fun e2 => e (Hc h.apart hk hq e2))
 refine ⟨?_,fun i hi => ?_,h.fp,h.fn,h.apart⟩
 · obtain ⟨cs,h1,h2,h3,h4,h5⟩:=h.head
   by_cases e : q = 0
   · subst e
     refine ⟨_,block_set h1 (3 + j) _,by simp [h2],fun j' hj' => ?_,?_,?_⟩
     · by_cases e : j' = j
       · subst e
         rw [Array.getElem?_setIfInBounds_self_of_lt (by omega)]; simp
       · rw [Array.getElem?_setIfInBounds_ne (by omega),h3 j' hj',if_neg (fun c => e c.2)]
     · rw [Array.getElem?_setIfInBounds_ne (by omega)]; exact h4
     · rw [Array.getElem?_setIfInBounds_ne (by omega)]; exact h5
   · refine ⟨cs,(other 0 (by omega) (fun c => e c.symm)).trans h1,h2,fun j' hj' => ?_,h4,h5⟩
     rw [h3 j' hj',if_neg (fun c => e c.1.symm)]
 · obtain ⟨cs,h1,h2,h3,h4,h5,h6⟩:=h.node i hi
   by_cases e : q = i + 1
   · subst e
     have hb : Cc p N (i + 1) = N[i].blk:=BN hi
     rw [hb]
     refine ⟨_,block_set h1 (3 + j) _,by simp [h2],?_,?_,?_,fun j' hj' => ?_⟩
     · rw [Array.getElem?_setIfInBounds_ne (by omega)]; exact h3
     · rw [Array.getElem?_setIfInBounds_ne (by omega)]; exact h4
     · rw [Array.getElem?_setIfInBounds_ne (by omega)]; exact h5
     · by_cases e : j' = j
       · subst e
         rw [Array.getElem?_setIfInBounds_self_of_lt (by omega)]; simp
       · rw [Array.getElem?_setIfInBounds_ne (by omega),h6 j' hj',if_neg (fun c => e c.2)]
   · have ho:=other (i + 1) (by omega) (fun c => e c.symm)
     rw [BN hi] at ho
     refine ⟨cs,ho.trans h1,h2,h3,h4,h5,fun j' hj' => ?_⟩
     rw [h6 j' hj',if_neg (fun c => e c.1.symm)]
theorem Al.setPair (h : Al w p N c s F L) {i : Nat} (hi : i < N.length) (x : Aa) (k : Nat) (v : Value) (hk : k < 3)
 (e0 : (if k = 0 then some v else some (.string N[i].pr.key)) = some (.string x.key)) (e1 : (if k = 1 then some v else some (.string N[i].pr.val)) = some (.string x.val)) (e2 : (if k = 2 then some v else some (.bool N[i].pr.gone)) = some (.bool x.gone)) :
 Al (w.setCell ⟨N[i].blk,k,none⟩ v) p (N.set i { N[i] with pr:=x }) c s F L:=by
 have hm : (N.set i { N[i] with pr:=x }).map Aq.blk = N.map Aq.blk:=by
  rw [List.map_set]
  apply List.ext_getElem?
  intro a
  by_cases e : a = i
  · subst e; simp [hi]
  · rw [List.getElem?_set_ne (fun c => e c.symm)]
 have hl : (N.set i { N[i] with pr:=x }).length = N.length:=by simp
 obtain ⟨cs,h1,h2,h3⟩:=h.head
 refine ⟨⟨cs,(Bn (fun e => h.neP hi e.symm)).trans h1,h2,h3⟩,fun a ha => ?_,h.fp,fun y hy => ?_,by rw [hm]; exact h.apart⟩
 · rw [hl] at ha
   obtain ⟨cs,h1,h2,h3,h4,h5,h6⟩:=h.node a ha
   by_cases e : a = i
   · subst e
     simp only [List.getElem_set_self]
     have at' : ∀ m,m < 15 -> (cs.setIfInBounds k v)[m]? = if k = m then some v else cs[m]?:=fun m hm => by
      by_cases e : k = m
      · subst e; rw [if_pos rfl,Array.getElem?_setIfInBounds_self_of_lt (by omega)]
      · rw [if_neg e,Array.getElem?_setIfInBounds_ne e]
     refine ⟨_,block_set h1 k _,by simp [h2],?_,?_,?_,fun j hj => ?_⟩
     · rw [at' 0 (by omega),h3]; exact e0
     · rw [at' 1 (by omega),h4]; exact e1
     · rw [at' 2 (by omega),h5]; exact e2
     · rw [at' (3 + j) (by omega),if_neg (by omega)]; exact h6 j hj
   · simp only [List.getElem_set_ne (fun c => e c.symm)]
     exact ⟨cs,(Bn (h.ne ha hi e)).trans h1,h2,h3,h4,h5,h6⟩
 · obtain ⟨a,ha,rfl⟩:=List.mem_iff_getElem.1 hy
   rw [hl] at ha
   by_cases e : a = i
   · subst e
     simp only [List.getElem_set_self]
     exact h.fn N[a] (List.getElem_mem _)
   · rw [List.getElem_set_ne (fun c => e c.symm)]
     exact h.fn _ (List.getElem_mem _)
theorem Al.addNode (h : Al w p N c s F L) {pl : Nat} (hpl : pl <= N.length) {x : Aq} (hb : w.heap.size <= x.blk) {cs : Array Value} (hw : w'.heap[x.blk]? = some (.cells cs 132 (0,0))) (hlw : Below w.heap.size w w') (hG : ∀ k,F k -> G k) (hGb : G x.blk)
 (hs : cs.size = 15) (h0 : cs[0]? = some (.string x.pr.key)) (h1 : cs[1]? = some (.string x.pr.val)) (h2 : cs[2]? = some (.bool x.pr.gone)) (h3 : ∀ j,j < 12 -> cs[3 + j]? = some (FN none)) :
 Al w' p (Ap N pl x) c s G (fun q j => if q <= pl then L q j else if q = pl + 1 then none else L (q - 1) j):=by
 have h':=h.below hlw
 refine ⟨?_,fun i hi => ?_,hG _ h.fp,fun y hy => ?_,?_⟩
 · obtain ⟨cs,a1,a2,a3,a4,a5⟩:=h'.head
   exact ⟨cs,a1,a2,fun j hj => by rw [if_pos (Nat.zero_le _)]; exact a3 j hj,a4,a5⟩
 · have hi':=hi
   rw [EE hpl] at hi'
   have hat:=Cq hpl x i
   rw [List.getElem?_eq_getElem hi] at hat
   rcases Nat.lt_trichotomy i pl with e | e | e
   · rw [if_pos e,List.getElem?_eq_getElem (by omega),Option.some.injEq] at hat
     rw [hat]
     obtain ⟨cs,a1,a2,a3,a4,a5,a6⟩:=h'.node i (by omega)
     exact ⟨cs,a1,a2,a3,a4,a5,fun j hj => by rw [if_pos (show i + 1 <= pl by omega)]; exact a6 j hj⟩
   · rw [if_neg (by omega),if_pos e,Option.some.injEq] at hat
     rw [hat]
     exact ⟨cs,hw,hs,h0,h1,h2,fun j hj => by rw [if_neg (show ¬ i + 1 <= pl by omega),if_pos (show i + 1 = pl + 1 by omega)]; exact h3 j hj⟩
   · rw [if_neg (by omega),if_neg (by omega),List.getElem?_eq_getElem (by omega),Option.some.injEq] at hat
     rw [hat]
     obtain ⟨cs,a1,a2,a3,a4,a5,a6⟩:=h'.node (i - 1) (by omega)
     refine ⟨cs,a1,a2,a3,a4,a5,fun j hj => ?_⟩
     rw [if_neg (show ¬ i + 1 <= pl by omega),if_neg (show ¬ i + 1 = pl + 1 by omega),a6 j hj,show i - 1 + 1 = i + 1 - 1 by omega]
 · unfold Ap at hy
   rcases List.mem_append.1 hy with hy | hy
   · exact hG _ (h.fn _ (List.mem_of_mem_take hy))
   · rcases List.mem_cons.1 hy with rfl | hy
     · exact hGb
     · exact hG _ (h.fn _ (List.mem_of_mem_drop hy))
 · have e : (p :: (Ap N pl x).map Aq.blk).Perm (x.blk :: p :: N.map Aq.blk):=by
     unfold Ap
     rw [List.map_append,List.map_cons]
     have e1 : ((N.take pl).map Aq.blk ++ x.blk :: (N.drop pl).map Aq.blk).Perm (x.blk :: ((N.take pl).map Aq.blk ++ (N.drop pl).map Aq.blk)):=List.perm_middle
     rw [<- List.map_append,List.take_append_drop] at e1
     exact (e1.cons p).trans (List.Perm.swap _ _ _)
   refine e.nodup_iff.2 (List.nodup_cons.2 ⟨fun hm => ?_,h.apart⟩)
   rcases List.mem_cons.1 hm with e | hm
   · have:=h.lt; omega
   · obtain ⟨y,hy,e⟩:=List.mem_map.1 hm
     have:=h.nlt hy; omega
end
structure Fq (w : World) (p : Nat) (l : List Aa) (F : Nat -> Prop) (N : List Aq) : Prop where
 sk : L7 w p N (l.length : Nat) (At l : Nat) F
 prs : N.map Aq.pr = l
 hi : ∀ x ∈ N,1 <= x.high
 rising : Ak l
def CN (w : World) (p : Nat) (l : List Aa) (F : Nat -> Prop) : Prop:=∃ N,Fq w p l F N
section
variable {F G : Nat -> Prop} {w w' : World} {p : Nat} {l : List Aa} {N : List Aq}
theorem Fq.len (h : Fq w p l F N) : N.length = l.length:=by rw [<- h.prs,List.length_map]
theorem Fq.at (h : Fq w p l F N) {i : Nat} (hi : i < N.length) : N[i].pr = l[i]'(by rw [<- h.len]; exact hi):=by
 have:=h.prs
 subst this
 simp
theorem Fq.one (h : Fq w p l F N) {i : Nat} (hi : i < N.length) : 1 <= Es N i:=by rw [KG hi]; exact h.hi _ (List.getElem_mem hi)
theorem Fq.kept (h : Fq w p l F N) (t : Ac G w w') (hd : ∀ k,F k -> ¬ G k) : Fq w' p l F N:=⟨Al.turn h.sk t hd,h.prs,h.hi,h.rising⟩
theorem Fq.below (h : Fq w p l F N) (t : Below w.heap.size w w') : Fq w' p l F N:=h.kept (Ac.of_below (fun _ => False) t) (fun _ _ h => h)
theorem CN.kept (h : CN w p l F) (t : Ac G w w') (hd : ∀ k,F k -> ¬ G k) : CN w' p l F:=by
 obtain ⟨N,h⟩:=h
 exact ⟨N,h.kept t hd⟩
theorem CN.mono (h : CN w p l F) (hd : ∀ k,F k -> G k) : CN w p l G:=by
 obtain ⟨N,h⟩:=h
 exact ⟨N,Al.mono h.sk hd,h.prs,h.hi,h.rising⟩
theorem Q4 {k : ByteArray} {l : List Aa} (hr : Ak l) {i : Nat} (hi : i < l.length) (h : placeP k l <= i) : AO l[i].key k = false:=by
 by_cases e : placeP k l = i
 · subst e; exact Fd hi
 · have h1 : placeP k l < l.length:=by omega
   have h2:=Fd h1
   have h3:=List.pairwise_iff_getElem.1 hr _ _ h1 hi (by omega)
   cases hb : AO l[i].key k with
   | false => rfl
   | true => rw [Bq h3 hb] at h2; cases h2
end
end
section
open Go.RowKit Go.Maps Go.WideMaps
def Aj (w : World) (x : Value) (l : List Aa) : Prop:=
 l.length <= maxLen /\ ∃ a c,x = .slice a l.length c /\ (l = [] \/ ∃ b o,a = some ⟨b,o,none⟩ /\ ∀ i (h : i < l.length),w.cell? ⟨b,o + i * 3,none⟩ = some (.string l[i].key) /\ w.cell? ⟨b,o + i * 3 + 1,none⟩ = some (.string l[i].val) /\ w.cell? ⟨b,o + i * 3 + 2,none⟩ = some (.bool l[i].gone))
theorem Aj.below {w w' : World} {x : Value} {l : List Aa} (h : Aj w x l) (t : Below w.heap.size w w') : Aj w' x l:=by
 obtain ⟨hm,a,c,rfl,h1⟩:=h
 refine ⟨hm,a,c,rfl,?_⟩
 rcases h1 with h1 | ⟨b,o,rfl,h1⟩
 · exact .inl h1
 · refine .inr ⟨b,o,rfl,fun i hi => ?_⟩
   obtain ⟨q0,q1,q2⟩:=h1 i hi
   exact ⟨(t.cell (World.block_lt_of_cell? _ _ q0)).trans q0,(t.cell (World.block_lt_of_cell? _ _ q1)).trans q1,(t.cell (World.block_lt_of_cell? _ _ q2)).trans q2⟩
theorem Aj.own {w : World} {base : Nat} {v : Value} {l : List Aa} (h : w.ownsRow base 57 3 v l.length (AA l)) : Aj w v l:=by
 have hr:=h
 rcases h.2 with ⟨rfl,h0⟩ | ⟨g,cap,cur,rfl,_,hg,hle,hcm,_⟩
 · have : l = []:=List.eq_nil_of_length_eq_zero h0
   subst this
   exact ⟨by simp,none,0,rfl,.inl rfl⟩
 · refine ⟨by omega,some ⟨g,0,none⟩,cap,rfl,.inr ⟨g,0,rfl,fun i hi => ?_⟩⟩
   obtain ⟨g',cap',hv,_,_,q0,q1,q2⟩:=Hm hr hi
   injection hv with hv
   injection hv with hv
   injection hv with hv
   subst hv
   rw [Nat.zero_add]
   exact ⟨q0,q1,q2⟩
theorem Aj.slice {w : World} {x : Value} {l : List Aa} (h : Aj w x l) : ∃ a c,x = .slice a l.length c:=by
 obtain ⟨hm,a,c,rfl,h1⟩:=h
 exact ⟨a,c,rfl⟩
theorem Aj.at {w : World} {a : Option Addr} {n c : Nat} {l : List Aa} (h : Aj w (.slice a n c) l) {i : Nat} (hi : i < l.length) : ∃ b o,a = some ⟨b,o,none⟩ /\ w.cell? ⟨b,o + i * 3,none⟩ = some (.string l[i].key) /\ w.cell? ⟨b,o + i * 3 + 1,none⟩ = some (.string l[i].val) /\ w.cell? ⟨b,o + i * 3 + 2,none⟩ = some (.bool l[i].gone):=by
 obtain ⟨hm,a',c',hv,h1⟩:=h
 injection hv with h2 h3 h4
 subst h2
 rcases h1 with rfl | ⟨b,o,rfl,h1⟩
 · simp at hi
 · exact ⟨b,o,rfl,h1 i hi⟩
theorem toList_inj {a b : ByteArray} (h : a.toList = b.toList) : a = b:=by
 rw [ByteArray.toList_eq,ByteArray.toList_eq] at h
 exact ByteArray.ext (Array.toList_inj.1 h)
def IS (a b : List Aa) : Bool:=decide (a = b)
set_option maxHeartbeats 1000000 in
set_option maxRecDepth 100000 in
theorem Fo {w : World} {x y : Value} {a b : List Aa} (ha : Aj w x a) (hb : Aj w y b) :
 Calls Tryz.prog 15 #[x,y] w fun e w' => e = .returned (.bool (IS a b)) /\ ∃ n,w' = w.drewN n:=by
 have ma : a.length <= 9223372036854775807:=by have:=ha.1; unfold maxLen at this; omega
 have mb : b.length <= 9223372036854775807:=by have:=hb.1; unfold maxLen at this; omega
 obtain ⟨aa,ca,rfl⟩:=ha.slice
 obtain ⟨ab,cb,rfl⟩:=hb.slice
 have HA:=hid ha
 have HB:=hid hb
 clear ha hb
 by_cases hl : a.length = b.length
 · have hE : Hid (a.length = b.length):=hl
   have hne : ((a.length : Int) != (b.length : Int)) = false:=by simp [hl]
   go_enter Tryz.func15,Tryz.ntmps15
   clear hl
   go_wp2
   go_loopw [5] (fun iv wr => ∃ k : Nat,k <= a.length /\ iv = .int .i64 (k : Int) /\ Hid (a.take k = b.take k) /\ ∃ n,wr = w.drewN n) (fun iv _ => a.length - (intOf iv).toNat)
   case atStart => exact ⟨0,by omega,rfl,rfl,0,rfl⟩
   case round =>
    obtain ⟨k,hk,rfl,ht,n,rfl⟩:=hrel
    by_cases hlt : k < a.length
    · have hlt2 : k < b.length:=by have:=hE.out; omega
      obtain ⟨ba,oa,rfl,p0,p1,p2⟩:=HA.out.at hlt
      obtain ⟨bb,ob,rfl,q0,q1,q2⟩:=HB.out.at hlt2
      have HT : Hid (a[k] = b[k] -> a.take (k + 1) = b.take (k + 1)):=fun e => by
       rw [List.take_succ_eq_append_getElem hlt,List.take_succ_eq_append_getElem hlt2,ht.out,e]
      have HN : Hid (a[k] ≠ b[k] -> IS a b = false):=fun e => by
       simp only [IS,decide_eq_false_iff_not]
       intro e2
       subst e2
       exact e rfl
      generalize a[k] = x at *
      generalize b[k] = y at *
      obtain ⟨k1,v1,g1⟩:=x
      obtain ⟨k2,v2,g2⟩:=y
      by_cases h1 : k1.toList = k2.toList
      · by_cases h2 : v1.toList = v2.toList
        · by_cases hd : g1 = g2
          · obtain rfl:=toList_inj h1
            obtain rfl:=toList_inj h2
            subst hd
            have HT2:=hid (HT.out rfl)
            clear HT HN ht h1 h2
            go_wp2
            go_quiet (fail)
            go_wp2
            go_roundw
            case rel => exact ⟨k + 1,by omega,by go_num,HT2,_,rfl⟩
            case measure => simp [intOf]; omega
          · have hd':=hd
            have HS:=hid (HN.out (fun e => by cases e; simp at hd))
            clear HT HN ht
            go_wp2
            go_quiet (fail)
            go_wp2
            go_ret
            exact ⟨by rw [HS.out]; rfl,_,World.drewN_drewN _ _ _⟩
        · have hd:=h2
          have HS:=hid (HN.out (fun e => by cases e; simp at hd))
          clear HT HN ht
          go_wp2
          go_quiet (fail)
          go_wp2
          go_ret
          exact ⟨by rw [HS.out]; rfl,_,World.drewN_drewN _ _ _⟩
      · have hd:=h1
        have HS:=hid (HN.out (fun e => by cases e; simp at hd))
        clear HT HN ht
        go_wp2
        go_quiet (fail)
        go_wp2
        go_ret
        exact ⟨by rw [HS.out]; rfl,_,World.drewN_drewN _ _ _⟩
    · obtain rfl : k = a.length:=by omega
      have HS : Hid (IS a b = true):=by
       show _ = _
       have h1:=ht.out
       rw [List.take_length,hE.out,List.take_length] at h1
       simp [IS,h1]
      go_wp2
      go_ret
      exact ⟨by rw [HS.out]; rfl,_,rfl⟩
 · have hne : ((a.length : Int) != (b.length : Int)) = true:=by simp; omega
   have HS : Hid (IS a b = false):=by
    show _ = _
    simp only [IS,decide_eq_false_iff_not]
    exact fun e => hl (by rw [e])
   go_enter Tryz.func15,Tryz.ntmps15
   clear hl
   go_wp2
   go_ret
   exact ⟨by rw [HS.out]; rfl,0,rfl⟩
end
section
open Go.RowKit Go.Maps Go.WideMaps
def KO (F : Nat -> Prop) (w w' : World) (k : Nat) : Prop:=F k \/ (w.heap.size <= k /\ k < w'.heap.size)
theorem slPair : Tryz.prog.underlying 30 = some (.slice (Tryz.prog.elem 30)):=by kernel_rfl
theorem JR (w : World) : (sizeOf (Tryz.prog.elem 30)).run Tryz.prog w = .ok 3 w:=by kernel_rfl
end
section
open Go.RowKit Go.Shelf
structure AX (C : Nat -> Prop) (W W' : World) : Prop where
 os : W'.os = W.os
 tape : W'.tape = W.tape
 output : W'.output = W.output
 size : W.heap.size <= W'.heap.size
 block : ∀ k,C k -> W'.heap[k]? = W.heap[k]?
def Ba (C : Nat -> Prop) (W W' : World) : Nat -> Prop:=fun k => C k \/ (W.heap.size <= k /\ k < W'.heap.size)
def Ax {β : Type} (J : β -> (Nat -> Prop) -> World -> Prop) : Prop:=
 ∀ s C C' W W',J s C W -> AX C W W' -> (∀ k,C k -> C' k) -> J s C' W'
theorem AX.refl (C : Nat -> Prop) (W : World) : AX C W W:=⟨rfl,rfl,rfl,Nat.le_refl _,fun _ _ => rfl⟩
theorem AX.trans {C : Nat -> Prop} {a b c : World} (h : AX C a b) (k : AX C b c) : AX C a c:=
 ⟨k.os.trans h.os,k.tape.trans h.tape,k.output.trans h.output,Nat.le_trans h.size k.size,fun i hi => (k.block i hi).trans (h.block i hi)⟩
theorem AX.mono {C C' : Nat -> Prop} {a b : World} (h : AX C a b) (hc : ∀ k,C' k -> C k) : AX C' a b:=⟨h.os,h.tape,h.output,h.size,fun i hi => h.block i (hc i hi)⟩
theorem AX.of_below {C : Nat -> Prop} {n : Nat} {a b : World} (h : Below n a b) (hc : ∀ k,C k -> k < n) : AX C a b:=⟨h.os,h.tape,h.output,h.size,fun i hi => h.block i (hc i hi)⟩
theorem AX.of_turn {C F : Nat -> Prop} {a b : World} (h : Ac F a b) (hc : ∀ k,C k -> k < a.heap.size /\ ¬ F k) : AX C a b:=⟨h.os,h.tape,h.output,h.size,fun i hi => h.block i (hc i hi).1 (hc i hi).2⟩
theorem AX.putObj {C : Nat -> Prop} (W : World) {l : Nat} (o : Obj) (hc : ¬ C l) : AX C W (W.putObj l o):=
 have hg:=grownBy_putObj' W l o
 ⟨hg.os,hg.tape,hg.output,hg.size,fun i hi => World.putObj_heap_other (fun e => hc (e ▸ hi))⟩
theorem M4 {F : Nat -> Prop} (W : World) {l : Nat} (o : Obj) (hc : F l) : Ac F W (W.putObj l o):=
 (Ac.refl F W).grown (grownBy_putObj' W l o) (fun k e => .inl (by cases e; exact hc))
theorem Ax.later {β : Type} {J : β -> (Nat -> Prop) -> World -> Prop} (h : Ax J) {s : β} {C : Nat -> Prop} {W W' : World} (hs : J s C W) (t : AX C W W') : J s C W':=h s C C W W' hs t fun _ h => h
theorem Ax.and {β : Type} {J J' : β -> (Nat -> Prop) -> World -> Prop} (h : Ax J) (h' : Ax J') : Ax (fun s C W => J s C W /\ J' s C W):=fun s C C' W W' hs t hc => ⟨h s C C' W W' hs.1 t hc,h' s C C' W W' hs.2 t hc⟩
theorem DW {β : Type} (p : β -> Prop) : Ax (fun s (_ : Nat -> Prop) (_ : World) => p s):=fun _ _ _ _ _ hs _ _ => hs
def FO (g : Nat) (lb : Array Value) (G : Nat -> Prop) (ps : List Aa) (W : World) : Prop:=
 ∀ (y : Nat) (J Jx : List Aa -> (Nat -> Prop) -> World -> Prop) (C : Nat -> Prop),Ax J -> Ax Jx -> (∀ k,C k -> k < W.heap.size) ->
  (∀ pre x C1 W1,J pre C1 W1 -> (∀ k,C1 k -> k < W1.heap.size) -> W.heap.size <= W1.heap.size -> pre ++ [x] <+: ps -> ∀ m,YieldAt Fence.wide m Tryz.prog y #[x.val'] W1 fun e W' => Ac C1 W1 W' /\
    ((e = .returned (.bool true) /\ J (pre ++ [x]) (Ba C1 W1 W') W' /\ A8 G W1 W') \/ (e = .returned (.bool false) /\ Jx (pre ++ [x]) (Ba C1 W1 W') W'))) ->
  J [] C W ->
  Calls Tryz.prog g (#[.func (.yield y) #[] #[]] ++ lb) W fun e W' => (∃ v,e = .returned v) /\ ∃ C',(∀ k,C' k -> k < W'.heap.size) /\ (J ps C' W' \/ ∃ pre,pre <+: ps /\ Jx pre C' W')
def Abu (C : Nat -> Prop) (G : Nat -> Prop) (I : List Aa -> (Nat -> Prop) -> World -> Prop) (Ix : Code -> List Aa -> (Nat -> Prop) -> World -> Prop) (xs : List Aa) (W : World) : Exit -> Act -> World -> Prop
 | .normal,_,W' => Ac C W W' /\ A8 G W W' /\ I xs (Ba C W W') W'
 | .ret,_,W' => Ac C W W' /\ Ix .ret xs (Ba C W W') W'
 | .exit id,_,W' => Ac C W W' /\ Ix (.exit id) xs (Ba C W W') W'
 | .goto t,_,W' => Ac C W W' /\ Ix (.goto t) xs (Ba C W W') W'
 | .panic _,_,_ => False
 | .outgrown,_,_ => False
def Tb (ps : List Aa) (I : List Aa -> (Nat -> Prop) -> World -> Prop) (Ix : Code -> List Aa -> (Nat -> Prop) -> World -> Prop) (w : World) (Q : Exit -> Act -> World -> Prop) (a : Act) : Prop:=
 (∀ (D : Nat) (C : Nat -> Prop) (W : World),w.heap.size <= D -> ¬ C D -> (∀ k,C k -> k < W.heap.size) -> I ps C W -> W.heap[D]? = some (.deferred (some [])) -> Q .normal { a with defers:={ target:=.collected D,args:=#[] } :: a.defers } W) /\
 ∀ (D : Nat) (c : Code) (pre : List Aa) (C : Nat -> Prop) (W : World),w.heap.size <= D -> ¬ C D -> (∀ k,C k -> k < W.heap.size) -> pre <+: ps -> Ix c pre C W -> W.heap[D]? = some (.deferred (some [])) -> c.wp Tryz.prog Q { a with defers:={ target:=.collected D,args:=#[] } :: a.defers } W
theorem Tb.block {ps : List Aa} {I : List Aa -> (Nat -> Prop) -> World -> Prop} {Ix : Code -> List Aa -> (Nat -> Prop) -> World -> Prop} {w : World} {b : Nat} {R : Exit -> Act -> World -> Prop} {a : Act} (J : (Nat -> Prop) -> World -> Prop) (hI : ∀ C W,(∀ k,C k -> k < W.heap.size) -> I ps C W -> J C W) (hIx : ∀ c pre C W,(∀ k,C k -> k < W.heap.size) -> pre <+: ps -> Ix c pre C W -> c = .exit b /\ J C W)
 (hrest : ∀ (D : Nat) (C : Nat -> Prop) (W : World),w.heap.size <= D -> ¬ C D -> (∀ k,C k -> k < W.heap.size) -> J C W -> W.heap[D]? = some (.deferred (some [])) -> R .normal { a with defers:={ target:=.collected D,args:=#[] } :: a.defers } W) : Tb ps I Ix w (Exit.inBlock b R) a:=by
 refine ⟨fun D C W hD hn hc hi hK => hrest D C W hD hn hc (hI C W hc hi) hK,fun D c pre C W hD hn hc hp hi hK => ?_⟩
 obtain ⟨rfl,hj⟩:=hIx c pre C W hc hp hi
 refine wp_exit ?_
 have:=hrest D C W hD hn hc hj hK
 simpa [Exit.inBlock] using this
theorem NG (k : Nat) : Fence.wide.room k:=fun d h => by cases h
theorem Sr {m m' : Nat} {P : Program} {l : Nat} {args : Array Value} {W : World} {R : Ending -> World -> Prop} (h : YieldAt Fence.wide m P l args W R) : YieldAt Fence.wide m' P l args W R:=by
 obtain ⟨fn,tmps,assign,body,hy,h1,h2⟩:=h
 exact ⟨fn,tmps,assign,body,hy,h1,fun c cs _ => h2 c cs (NG _)⟩
set_option maxHeartbeats 2000000 in
theorem Ka (n : Nat) {g : Operand} {pa : Array Tmp} {assign body : Code} {Q : Exit -> Act -> World -> Prop} {a : Act} {w : World} (sx sb : Nat) {gf : Nat} {lb : Array Value} {G : Nat -> Prop} {ps : List Aa}
 (hg : a.eval g = .func (.func gf) #[] lb) (eg : ∀ args w,(callFunc gf args).run Tryz.prog w = .ok (.enter gf args) w)
 (hseq : ∀ W,A8 G w W -> w.heap.size <= W.heap.size -> FO gf lb G ps W) (hG : ∀ k,G k -> k < w.heap.size) (hpa : pa.size = 1)
 (I : List Aa -> (Nat -> Prop) -> World -> Prop) (Ix : Code -> List Aa -> (Nat -> Prop) -> World -> Prop) (hI : Ax I) (hIx : ∀ c,Ax (Ix c))
 (C0 : Nat -> Prop) (hC0 : ∀ k,C0 k -> k < w.heap.size) (h0 : I [] C0 w)
 (hassign : ∀ (l : Nat) (x : Aa) (W : World) (K : Act -> World -> Prop),
   (∀ Bx W',W.heap.size <= Bx -> AF W' Bx x -> Below W.heap.size W W' -> K { tmps:=(a.tmps.setIfInBounds sx x.val').setIfInBounds sb (.pointer (some ⟨Bx,0,none⟩)),defers:=[] } W') ->
   assign.wpIn (Fence.wide.inRound l) n Tryz.prog (Exit.then K (fun _ _ _ => False)) { tmps:=(pa.zip #[x.val']).foldl (fun t (p,v) => t.setIfInBounds p v) a.tmps,defers:=[] } W)
 (hbody : ∀ (l : Nat) (pre : List Aa) (x : Aa) (Bx : Nat) (C : Nat -> Prop) (W : World),I pre C W -> (∀ k,C k -> k < W.heap.size) -> w.heap.size <= W.heap.size -> pre ++ [x] <+: ps -> ¬ C Bx -> w.heap.size <= Bx -> AF W Bx x ->
   body.wpIn (Fence.wide.inRound l) n Tryz.prog (Abu (fun k => C k \/ k = Bx) G I Ix (pre ++ [x]) W) { tmps:=(a.tmps.setIfInBounds sx x.val').setIfInBounds sb (.pointer (some ⟨Bx,0,none⟩)),defers:=[] } W)
 (hend : Tb ps I Ix w Q a) :
 (Code.rangeFunc g pa assign body).wp Tryz.prog Q a w:=by
 refine (wpIn_wide (n:=n)).1 ?_
 refine wpIn_rangeFunc ?_
 intro fn hfn
 obtain ⟨rec,hrec⟩ : ∃ rec : LoopState -> Option Code -> Loop,rec = fun st pe => { state:=st,pending:=pe,fn,tmps:=a.tmps,params:=pa,assign,body,defers:=w.heap.size }:=⟨_,rfl⟩
 obtain ⟨W1,hW1⟩ : ∃ W1,(w.alloc (.deferred (some []))).alloc (.loop (rec .ready none)) = W1:=⟨_,rfl⟩
 have hL1 : W1.heap[w.heap.size + 1]? = some (.loop (rec .ready none)):=by
  rw [<- hW1]; have:=World.alloc_heap_new (w.alloc (.deferred (some []))) (.loop (rec .ready none)); rwa [World.size_alloc] at this
 have hK1 : W1.heap[w.heap.size]? = some (.deferred (some [])):=by
  rw [<- hW1]; exact (Below.heap_alloc _ _ _ (by simp)).trans (World.alloc_heap_new w _)
 have hb1 : Below w.heap.size w W1:=by
  rw [<- hW1]; exact ((Below.refl _ w).alloc (Nat.le_refl _) _).alloc (by simp) _
 have hs1 : W1.heap.size = w.heap.size + 2:=by rw [<- hW1]; simp
 have hI1 : I [] C0 W1:=hI.later h0 (AX.of_below hb1 hC0)
 refine ⟨w.heap.size + 1,[{ target:=.collected w.heap.size,args:=#[] }],W1,{ target:=.fn (.func gf) lb,args:=#[.func (.yield (w.heap.size + 1)) #[] #[]] },W1,gf,
  #[.func (.yield (w.heap.size + 1)) #[] #[]] ++ lb,W1,?_,?_,fun _ _ => trivial,?_,fun h => (by cases h),?_⟩
 · rw [<- hW1,hrec]; exact run_enterLoop_outer _ _ _ _ _
 · simp only [resolve,hg]
   simp [go_sem]
 · simp [invoke,go_sem,eg]
 · refine callsIn_wide.2 ((hseq W1 (A8.of_below hb1 hG) hb1.size (w.heap.size + 1)
     (fun pre Cl W => ∃ C,I pre C W /\ (∀ k,C k -> Cl k) /\ (∀ k,C k -> k < W.heap.size) /\ ¬ C (w.heap.size + 1) /\ ¬ C w.heap.size /\ Cl (w.heap.size + 1) /\ Cl w.heap.size /\ W.heap[w.heap.size + 1]? = some (.loop (rec .ready none)) /\ W.heap[w.heap.size]? = some (.deferred (some [])))
     (fun pre Cl W => ∃ c C,Ix c pre C W /\ (∀ k,C k -> Cl k) /\ (∀ k,C k -> k < W.heap.size) /\ ¬ C (w.heap.size + 1) /\ ¬ C w.heap.size /\ Cl (w.heap.size + 1) /\ Cl w.heap.size /\ W.heap[w.heap.size + 1]? = some (.loop (rec .done (some c))) /\ W.heap[w.heap.size]? = some (.deferred (some [])))
     (fun k => C0 k \/ k = w.heap.size + 1 \/ k = w.heap.size) ?ab ?abx ?lt ?round ?start).mono ?post)
   case ab =>
    rintro s Cl Cl' W W' ⟨C,q1,q2,q3,q4,q5,q6,q7,q8,q9⟩ t hc
    exact ⟨C,hI.later q1 (t.mono q2),fun k hk => hc k (q2 k hk),fun k hk => Nat.lt_of_lt_of_le (q3 k hk) t.size,q4,q5,hc _ q6,hc _ q7,(t.block _ q6).trans q8,(t.block _ q7).trans q9⟩
   case abx =>
    rintro s Cl Cl' W W' ⟨c,C,q1,q2,q3,q4,q5,q6,q7,q8,q9⟩ t hc
    exact ⟨c,C,(hIx c).later q1 (t.mono q2),fun k hk => hc k (q2 k hk),fun k hk => Nat.lt_of_lt_of_le (q3 k hk) t.size,q4,q5,hc _ q6,hc _ q7,(t.block _ q6).trans q8,(t.block _ q7).trans q9⟩
   case lt =>
    rintro k (hk | rfl | rfl)
    · have:=hC0 k hk; omega
    · omega
    · omega
   case start =>
    exact ⟨C0,hI1,fun k hk => .inl hk,fun k hk => by have:=hC0 k hk; omega,fun h => by have:=hC0 _ h; omega,fun h => by have:=hC0 _ h; omega,.inr (.inl rfl),.inr (.inr rfl),hL1,hK1⟩
   case round =>
    rintro pre x Cl W ⟨C,hi,q2,q3,q4,q5,q6,q7,hl,hk⟩ hCl hWs hp m
    have hlt : w.heap.size + 1 < W.heap.size:=(Array.getElem?_eq_some_iff.1 hl).1
    have hy:=run_yield (P:=Tryz.prog) (args:=#[x.val']) hl (by rw [hrec]; exact hpa.symm)
    rw [hrec] at hy
    refine Sr (m:=n) ⟨fn,_,assign,body,hy,roundIn_of_wpIn hfn (hassign _ x W _ ?_)⟩
    clear hy
    intro Bx Wa hBx hpx hba
    have hla:=(hba.block _ hlt).trans hl
    have hka:=(hba.block _ (show w.heap.size < W.heap.size by omega)).trans hk
    refine ⟨_,run_beginRound hla (by rw [hrec]),?_⟩
    have hsa:=hba.size
    obtain ⟨W2,hW2⟩ : ∃ W2,Wa.putObj (w.heap.size + 1) (.loop { rec .ready none with state:=.busy }) = W2:=⟨_,rfl⟩
    rw [hW2]
    have hl2 : W2.heap[w.heap.size + 1]? = some (.loop { rec .ready none with state:=.busy }):=by rw [<- hW2]; exact World.putObj_heap_same (by omega)
    have hk2 : W2.heap[w.heap.size]? = some (.deferred (some [])):=by rw [<- hW2]; exact (World.putObj_heap_other (by omega)).trans hka
    have hs2 : W2.heap.size = Wa.heap.size:=by rw [<- hW2]; simp
    obtain ⟨Cx,hCx⟩ : ∃ Cx : Nat -> Prop,(fun k => C k \/ k = Bx) = Cx:=⟨_,rfl⟩
    have hCx1 : ∀ k,Cx k -> C k \/ k = Bx:=fun k hk => by rw [<- hCx] at hk; exact hk
    have hBxl:=Ad hpx
    have hn2 : ¬ Cx (w.heap.size + 1):=fun h => by rcases hCx1 _ h with h | h; exact q4 h; omega
    have hn3 : ¬ Cx w.heap.size:=fun h => by rcases hCx1 _ h with h | h; exact q5 h; omega
    have hst : AX C W W2:=(AX.of_below hba q3).trans (by rw [<- hW2]; exact AX.putObj Wa _ q4)
    have hi2 : I pre C W2:=hI.later hi hst
    have hc2 : ∀ k,C k -> k < W2.heap.size:=fun k h => by have:=q3 k h; omega
    have hpx2 : AF W2 Bx x:=by
     rw [<- hW2]
     exact (World.putObj_heap_other (by omega)).trans hpx
    have ht2 : Ac Cl W W2:=(Ac.of_below Cl hba).trans (by rw [<- hW2]; exact M4 Wa _ q6) (fun i hi => .inl hi)
    have hg2 : A8 G W W2:=fun k hk => by
     have:=hG k hk
     rw [<- hW2]
     exact (World.putObj_heap_other (by omega)).trans (hba.block k (by omega))
    refine wpIn_mono (hbody _ pre x Bx C W2 hi2 hc2 (by omega) hp (fun h => by have:=q3 _ h; omega) (by omega) hpx2) ?_
    rw [hCx]
    have fin : ∀ (jump : Option Code) (W3 : World),Ac Cx W2 W3 ->
        (Instr.endRound (w.heap.size + 1) jump).run Tryz.prog W3 = .ok (.bool jump.isNone) (W3.putObj (w.heap.size + 1) (.loop (rec (if jump.isNone then .ready else .done) jump))) /\
        (W3.putObj (w.heap.size + 1) (.loop (rec (if jump.isNone then .ready else .done) jump))).heap[w.heap.size + 1]? = some (.loop (rec (if jump.isNone then .ready else .done) jump)) /\
        (W3.putObj (w.heap.size + 1) (.loop (rec (if jump.isNone then .ready else .done) jump))).heap[w.heap.size]? = some (.deferred (some [])) /\
        Ac Cl W (W3.putObj (w.heap.size + 1) (.loop (rec (if jump.isNone then .ready else .done) jump))) /\
        (∀ k,Ba Cx W2 W3 k -> Ba Cl W (W3.putObj (w.heap.size + 1) (.loop (rec (if jump.isNone then .ready else .done) jump))) k) /\
        (∀ k,Ba Cx W2 W3 k -> k < (W3.putObj (w.heap.size + 1) (.loop (rec (if jump.isNone then .ready else .done) jump))).heap.size) /\
        ¬ Ba Cx W2 W3 (w.heap.size + 1) /\ ¬ Ba Cx W2 W3 w.heap.size /\
        AX (Ba Cx W2 W3) W3 (W3.putObj (w.heap.size + 1) (.loop (rec (if jump.isNone then .ready else .done) jump))):=fun jump W3 hk3 => by
     have hs3:=hk3.size
     have hl3:=(hk3.block _ (by omega) hn2).trans hl2
     have hd3:=(hk3.block _ (by omega) hn3).trans hk2
     have:=run_endRound (P:=Tryz.prog) jump hl3
     rw [hrec] at this ⊢
     have hnl : ¬ Ba Cx W2 W3 (w.heap.size + 1):=by rintro (h | h); exact hn2 h; omega
     refine ⟨this,World.putObj_heap_same (by omega),(World.putObj_heap_other (by omega)).trans hd3,?_,?_,?_,hnl,by rintro (h | h); exact hn3 h; omega,AX.putObj W3 _ hnl⟩
     · refine (ht2.trans hk3 ?_).trans (M4 W3 _ q6) (fun i hi => .inl hi)
       intro i h
       rcases hCx1 i h with h | rfl
       · exact .inl (q2 i h)
       · exact .inr hBx
     · rintro k (h | h)
       · rcases hCx1 k h with h | rfl
         · exact .inl (q2 k h)
         · refine .inr ⟨hBx,?_⟩
           simp
           omega
       · refine .inr ⟨by omega,?_⟩
         simp
         omega
     · rintro k (h | h)
       · rcases hCx1 k h with h | rfl
         · have:=q3 k h
           simp
           omega
         · simp
           omega
       · simp
         omega
    rintro e a3 W3 hp3
    cases e with
    | normal =>
      obtain ⟨hk3,hkg,hi3⟩:=hp3
      obtain ⟨hr,r1,r2,r3,r4,r5,r6,r7,r8⟩:=fin none W3 hk3
      refine ⟨_,_,hr,r3,.inl ⟨rfl,⟨_,hI.later hi3 r8,r4,r5,r6,r7,.inl q6,.inl q7,r1,r2⟩,?_⟩⟩
      refine (hg2.trans hkg).trans fun k hk => ?_
      have:=hG k hk
      exact World.putObj_heap_other (by omega)
    | ret =>
      obtain ⟨hk3,hi3⟩:=hp3
      obtain ⟨hr,r1,r2,r3,r4,r5,r6,r7,r8⟩:=fin (some .ret) W3 hk3
      exact ⟨_,_,hr,r3,.inr ⟨rfl,.ret,_,(hIx _).later hi3 r8,r4,r5,r6,r7,.inl q6,.inl q7,r1,r2⟩⟩
    | exit id =>
      obtain ⟨hk3,hi3⟩:=hp3
      obtain ⟨hr,r1,r2,r3,r4,r5,r6,r7,r8⟩:=fin (some (.exit id)) W3 hk3
      exact ⟨_,_,hr,r3,.inr ⟨rfl,.exit id,_,(hIx _).later hi3 r8,r4,r5,r6,r7,.inl q6,.inl q7,r1,r2⟩⟩
    | goto t =>
      obtain ⟨hk3,hi3⟩:=hp3
      obtain ⟨hr,r1,r2,r3,r4,r5,r6,r7,r8⟩:=fin (some (.goto t)) W3 hk3
      exact ⟨_,_,hr,r3,.inr ⟨rfl,.goto t,_,(hIx _).later hi3 r8,r4,r5,r6,r7,.inl q6,.inl q7,r1,r2⟩⟩
    | panic ch => exact hp3.elim
    | outgrown => exact hp3.elim
   case post =>
    rintro e W2 ⟨⟨v,rfl⟩,Cl,hcl,(⟨C,hi,q2,q3,q4,q5,q6,q7,hl,hk⟩ | ⟨pre,hpre,c,C,hi,q2,q3,q4,q5,q6,q7,hl,hk⟩)⟩
    · exact ⟨none,_,by have:=run_endLoop (P:=Tryz.prog) hl (by rw [hrec]; simp); rw [hrec] at this; exact this,hend.1 _ C _ (Nat.le_refl _) q5 (fun k hk => by have:=q3 k hk; simpa using this) (hI.later hi (AX.putObj _ _ q4)) ((World.putObj_heap_other (by omega)).trans hk)⟩
    · exact ⟨some c,_,by have:=run_endLoop (P:=Tryz.prog) hl (by rw [hrec]; simp); rw [hrec] at this; exact this,wpIn_wide.2 (hend.2 _ c pre C _ (Nat.le_refl _) q5 (fun k hk => by have:=q3 k hk; simpa using this) hpre ((hIx c).later hi (AX.putObj _ _ q4)) ((World.putObj_heap_other (by omega)).trans hk))⟩
theorem Im (n : Nat) {g : Operand} {pa : Array Tmp} {assign body : Code} {Q : Exit -> Act -> World -> Prop} {a : Act} {w : World} (sx sb : Nat) {gf : Nat} {lb : Array Value} {G : Nat -> Prop} {ps : List Aa}
 (hg : a.eval g = .func (.func gf) #[] lb) (eg : ∀ args w,(callFunc gf args).run Tryz.prog w = .ok (.enter gf args) w)
 (hseq : ∀ W,A8 G w W -> w.heap.size <= W.heap.size -> FO gf lb G ps W) (hG : ∀ k,G k -> k < w.heap.size) (hpa : pa.size = 1)
 (I : List Aa -> (Nat -> Prop) -> World -> Prop) (Ix : Code -> List Aa -> (Nat -> Prop) -> World -> Prop) (hI : Ax I) (hIx : ∀ c,Ax (Ix c))
 (C0 : Nat -> Prop) (hC0 : ∀ k,C0 k -> k < w.heap.size) (h0 : I [] C0 w)
 (hassign : ∀ (l : Nat) (x : Aa) (W : World) (K : Act -> World -> Prop),
   (∀ Bx W',W.heap.size <= Bx -> AF W' Bx x -> Below W.heap.size W W' -> K { tmps:=(a.tmps.setIfInBounds sx x.val').setIfInBounds sb (.pointer (some ⟨Bx,0,none⟩)),defers:=[] } W') ->
   assign.wpIn (Fence.wide.inRound l) n Tryz.prog (Exit.then K (fun _ _ _ => False)) { tmps:=(pa.zip #[x.val']).foldl (fun t (p,v) => t.setIfInBounds p v) a.tmps,defers:=[] } W)
 (hbody : ∀ (l : Nat) (pre : List Aa) (x : Aa) (Bx : Nat) (C : Nat -> Prop) (W : World),I pre C W -> (∀ k,C k -> k < W.heap.size) -> w.heap.size <= W.heap.size -> pre ++ [x] <+: ps -> C Bx -> w.heap.size <= Bx -> AF W Bx x ->
   body.wpIn (Fence.wide.inRound l) n Tryz.prog (Abu C G I Ix (pre ++ [x]) W) { tmps:=(a.tmps.setIfInBounds sx x.val').setIfInBounds sb (.pointer (some ⟨Bx,0,none⟩)),defers:=[] } W)
 (hend : Tb ps I Ix w Q a) :
 (Code.rangeFunc g pa assign body).wp Tryz.prog Q a w:=
 Ka n sx sb hg eg hseq hG hpa I Ix hI hIx C0 hC0 h0 hassign (fun l pre x Bx C W hi hc hs hp _ hb hx => hbody l pre x Bx (fun k => C k \/ k = Bx) W (hI _ _ _ _ _ hi (AX.refl _ _) (fun k hk => .inl hk)) (fun k hk => by rcases hk with hk | rfl; exact hc k hk; exact Ad hx) hs hp (.inr rfl) hb hx) hend
end
section
open Go.RowKit Go.Maps Go.WideMaps
theorem Db (w : World) : Below w.heap.size w w.drew:=(Below.refl _ w).drew
theorem Aj.in {w wr : World} {a : Option Addr} {n c : Nat} {l : List Aa} (h : Aj w (.slice a n c) l) (t : Below w.heap.size w wr) {i : Nat} (hi : i < l.length) : ∃ b o,a = some ⟨b,o,none⟩ /\ wr.cell? ⟨b,o + i * 3,none⟩ = some (.string l[i].key) /\ wr.cell? ⟨b,o + i * 3 + 1,none⟩ = some (.string l[i].val) /\ wr.cell? ⟨b,o + i * 3 + 2,none⟩ = some (.bool l[i].gone):=(h.below t).at hi
theorem V9 (a b : ByteArray) (w : World) : (binOp BinOp.leq 9 (.string a) (.string b)).run Tryz.prog w = .ok (.bool (!AO b a)) w:=by
 have e : (Op.bytesLess a.toList b.toList || a.toList == b.toList) = !Op.bytesLess b.toList a.toList:=by
  show (AO a b || a.toList == b.toList) = !AO b a
  rw [JC]
  by_cases h : a = b
  · subst h; rw [Bt]; simp
  · cases h1 : AO a b with
    | true => rw [Ns h1]; simp
    | false =>
      have:=Fv h h1
      rw [this]; simp [h]
 simp [binOp,Op.stringOp,e,AO]
end
section
open Go.RowKit Go.Shelf Go.Maps Go.WideMaps
attribute [local go_sem] Oper.semAt_some
theorem Jo {w w' : World} (h : Below w.heap.size w w') (row : Option Nat) : w.grownBy w' row:=⟨h.os,h.tape,h.output,h.size,fun k hk _ => h.block k hk⟩
end
section
open Go.RowKit
def By (l : List Aa) : List Aa:=l.filter fun x => !x.gone
theorem Jn (l : List Aa) : (By l).length <= l.length:=List.length_filter_le _ _
def Bi (to : ByteArray) (x : Aa) : Bool:=decide (to.size = 0) || AO x.key to
def CU (l : List Aa) (to : ByteArray) (most : Int) : List Aa:=(l.takeWhile (Bi to)).take most.toNat
theorem Sz {k : ByteArray} (h : k.size = 0) : k.toList.isEmpty = true:=by rw [CH.2 h]; rfl
theorem Ss {k : ByteArray} (h : ¬ k.size = 0) : k.toList.isEmpty = false:=by
 have : ¬ k.toList = []:=fun e => h (CH.1 e)
 simpa using this
theorem J6 {l : List Aa} {to : ByteArray} {most : Int} {i : Nat} (hi : i <= l.length) (hb : ∀ x ∈ l.take i,Bi to x = true) (hm : (i : Int) <= max 0 most)
 (hs : i = l.length \/ most <= (i : Int) \/ ∃ h : i < l.length,Bi to l[i] = false) : CU l to most = l.take i:=by
 have e1 : ∀ k,(∀ x ∈ l.take k,Bi to x = true) -> k <= l.length -> (l.takeWhile (Bi to)).take k = l.take k:=by
  intro k hk hkl
  have : l.takeWhile (Bi to) = l.take k ++ (l.drop k).takeWhile (Bi to):=by
   conv => lhs; rw [<- List.take_append_drop k l]
   rw [List.takeWhile_append_of_pos hk]
  rw [this,List.take_append_of_le_length (by rw [List.length_take]; omega),List.take_take]
  congr 1; omega
 unfold CU
 rcases hs with hs | hs | ⟨h,hs⟩
 · subst hs
   rw [List.take_length] at hb
   have e2 : l.takeWhile (Bi to) = l:=by
    have:=e1 l.length (by rw [List.take_length]; exact hb) (Nat.le_refl _)
    rw [List.take_length] at this
    have h3 : (l.takeWhile (Bi to)).length <= l.length:=(List.takeWhile_prefix _).length_le
    rwa [List.take_of_length_le h3] at this
   rw [e2,List.take_length,List.take_of_length_le (by omega)]
 · have : most.toNat = i:=by omega
   rw [this,e1 i hb hi]
 · have e2 : l.takeWhile (Bi to) = l.take i:=by
     conv => lhs; rw [<- List.take_append_drop i l]
     rw [List.takeWhile_append_of_pos hb,List.drop_eq_getElem_cons h,List.takeWhile_cons,hs]
     simp
   rw [e2,List.take_take]
   congr 1
   omega
end
section
open Go.RowKit Go.Shelf
def Qt (ops : List Oper) : Bool:=ops.all fun o => match o.op with | .defer _ => false | _ => true
theorem UR {ops : List Oper} (h : Qt ops = true) {i : Nat} {o : Oper} (ho : ops[i]? = some o) : ∀ c,o.op ≠ .defer c:=fun c e => by
 have:=List.all_eq_true.1 h o (List.mem_of_getElem? ho)
 rw [e] at this
 cases this
theorem ZQ {l n : Nat} {P : Program} {o : Oper} {a : Act} {w : World} {K : Act -> World -> Prop} {Q : Exit -> Act -> World -> Prop} (hd : ∀ c,o.op ≠ .defer c) (h : o.wpIn Fence.wide n P a w K Q) : o.wpIn (Fence.wide.inRound l) n P a w K Q:=by
 unfold Oper.wpIn at *
 refine ⟨fun _ _ => trivial,?_⟩
 rw [Oper.semAt_plain _ _ _ hd]
 have h2:=h.2
 rw [Oper.semAt_plain _ _ _ hd] at h2
 exact h2
theorem J0 {l n : Nat} {P : Program} {md : Region.Mode} {ops : List Oper} {Q : Exit -> Act -> World -> Prop} (hd : Qt ops = true) : ∀ (fuel : Nat) (listed : Array Bool) (a : Act) (w : World),wpAnyIn Fence.wide n P md ops.toArray Q fuel listed a w -> wpAnyIn (Fence.wide.inRound l) n P md ops.toArray Q fuel listed a w
 | 0,_,_,_,h => h
 | fuel + 1,listed,a,w,h => by
   refine ⟨h.1,fun i hi => ?_⟩
   have h2:=h.2 i hi
   unfold wpOpIn at h2 ⊢
   cases ho : ops.toArray[i]? with
   | none =>
     rw [ho] at h2
     exact J0 hd fuel _ a w h2
   | some o =>
     rw [ho] at h2
     simp only at h2 ⊢
     split
     · rename_i hw
       rw [if_pos hw] at h2
       exact Oper.wpIn_mono (fun a' w' h3 => J0 hd fuel _ a' w' h3) (ZQ (UR hd (by simpa using ho)) h2)
     · rename_i hw
       rw [if_neg hw] at h2
       exact ⟨fun _ _ => trivial,J0 hd fuel _ _ _ h2.2⟩
theorem DE {l n : Nat} {P : Program} {id : Nat} {Q : Exit -> Act -> World -> Prop} {a : Act} {w : World} {ops : List Oper} (hm : P.follows .mixedOrders = true) (hB : Region.lexB .any ops.toArray = true) (hd : Qt ops = true)
 (h : wpQuietIn Fence.wide n P ops.toArray (fun w' => ∃ n,w' = w.drewN n) (fun a' => ∀ w',(∃ n,w' = w.drewN n) -> Q .normal a' w') ops a) : (Code.region id ops.toArray true).wpIn (Fence.wide.inRound l) n P Q a w:=by
 simp only [Region.lexB,Bool.and_eq_true] at hB
 refine wpIn_region_any hm (J0 hd _ _ _ _ ?_)
 refine wpAnyIn_of_quiet (C:=fun w' => ∃ n,w' = w.drewN n) (Q:=fun a' => ∀ w',(∃ n,w' = w.drewN n) -> Q .normal a' w') rfl (fun _ w' hw' h => h w' hw') _ _ _ _ ⟨1,rfl⟩ ?_
 have:=wpAnyQIn_lex (F:=Fence.wide) (n:=n) (C:=fun w' => ∃ n,w' = w.drewN n) (md:=.any) hB.1 ops 0 (Array.replicate ops.toArray.size false) a (by simp) (by simpa using hB.2) (by simpa using h)
 simpa using this
end
end Go.Proofs.YtnafjlhohbhcoaaGreatDoor
