/- Parts of the proof. -/
import Derived.Test.YtnafjlhohbhcoaaGreatDoorQ38
import Derived.WalkSpells
import Derived.WalkLawsBesides
import Derived.Deep.QuietTactic
import Derived.BigQuiet
namespace Go.Proofs.YtnafjlhohbhcoaaGreatDoor
open Go.Lib (hid)
set_option linter.unusedVariables false
section
open Go.RowKit Go.Maps Go.WideMaps
structure Eo (F : Nat -> Prop) (w : World) (v : Value) (ks : List Int) : Prop where
 ex : ∃ a cap,v = .slice a ks.length cap /\ (ks.length = 0 \/ ∃ b off,a = some ⟨b,off,none⟩ /\ b < w.heap.size /\ ¬ F b /\ ∀ i,i < ks.length -> w.cell? ⟨b,off + i,none⟩ = some (.int .i64 (ks.getD i 0)))
 max : ks.length <= 9223372036854775807
 lo : ∀ k ∈ ks,-9223372036854775808 <= k /\ k <= 9223372036854775807
theorem Eo.turn {F G : Nat -> Prop} {w w' : World} {v : Value} {ks : List Int} (h : Eo F w v ks) (t : Ac G w w') (hG : ∀ k,G k -> F k) : Eo F w' v ks:=by
 obtain ⟨⟨a,cap,hv,hr⟩,h1,h2⟩:=h
 refine ⟨⟨a,cap,hv,?_⟩,h1,h2⟩
 rcases hr with h0 | ⟨b,off,ha,hlt,hf,hc⟩
 · exact .inl h0
 · exact .inr ⟨b,off,ha,by have:=t.size; omega,hf,fun i hi => (World.cell?_of_block (w:=w) (t.block b hlt (fun g => hf (hG b g)))).trans (hc i hi)⟩
theorem Eo.fit {F G : Nat -> Prop} {w : World} {v : Value} {ks : List Int} (h : Eo F w v ks) (hG : ∀ k,G k -> F k \/ w.heap.size <= k) : Eo G w v ks:=by
 obtain ⟨⟨a,cap,hv,hr⟩,h1,h2⟩:=h
 refine ⟨⟨a,cap,hv,?_⟩,h1,h2⟩
 rcases hr with h0 | ⟨b,off,ha,hlt,hf,hc⟩
 · exact .inl h0
 · exact .inr ⟨b,off,ha,hlt,fun g => by rcases hG b g with h | h; exact hf h; omega,hc⟩
set_option maxHeartbeats 400000 in
set_option maxRecDepth 100000 in
theorem Yt {F : Nat -> Prop} {w : World} {v : Value} {ks : List Int} (h : Eo F w v ks) (k : Nat) (hk : (k : Int) <= 9223372036854775807) :
 Calls Tryz.prog 41 #[v,.int .i64 (k : Int)] w fun e w' => e = .returned (.int .i64 (VM ks k : Int)) /\ w = w':=by
 obtain ⟨⟨a,cap,rfl,hr⟩,hm,hlo⟩:=h
 unfold VM
 by_cases hlt : k < ks.length
 · obtain ⟨b,off,rfl,hb,_,hc0⟩:=hr.resolve_left (by omega)
   have hc:=hc0 k hlt
   clear hc0
   have hg : ks.getD k 0 = ks[k]:=by simp [List.getD,hlt]
   have hx:=hlo ks[k] (List.getElem_mem hlt)
   rw [hg] at hc ⊢
   generalize ks[k] = x at *
   clear hr hlo hg
   go_enter Tryz.func41,Tryz.ntmps41
   go_wp2
   go_ret
   exact ⟨by simp,rfl⟩
 · have hg : ks.getD k 0 = 0:=by simp [List.getD,List.getElem?_eq_none (by omega : ks.length <= k)]
   rw [hg]
   clear hg hlo hr
   go_enter Tryz.func41,Tryz.ntmps41
   go_wp2
   go_ret
   exact ⟨rfl,rfl⟩
set_option maxHeartbeats 400000 in
set_option maxRecDepth 100000 in
theorem SQ {w : World} {g cap : Nat} {l : List UInt8} (hl : 0 < l.length) (hz : l.length <= 140737488355328) (hc : ∀ j (h : j < l.length),w.cell? ⟨g,j,none⟩ = some (bv l[j])) :
 Calls Tryz.prog 42 #[.slice (some ⟨g,0,none⟩) l.length cap] w fun e w' => ∃ v,e = .returned v /\ w'.ownsRow w.heap.size 5 1 v l.length (l.map bv) /\ Below w.heap.size w w':=by
 obtain ⟨i0,hi,hz0,hz1,hz2⟩:=info_parts infoU8
 have hq:=fun (w : World) (a : Option Addr) (n c : Nat) => Lib.run_eql_slice_nil (P:=Tryz.prog) w 55 5 a n c 0 0 Tryz.underlying55
 go_enter Tryz.func42,Tryz.ntmps42
 have hown:=World.ownsRow_made (base:=w.heap.size) (e:=5) (size:=1) w #[] 0 (Nat.le_refl _) (by unfold maxLen; omega) rfl
 have hcell : ∀ j u,(l.map bv)[j]? = some u -> (w.alloc (.cells #[] 5)).cell? ((⟨g,0,none⟩ : Addr).add j) = some u:=by
  intro j u hu
  have hj : j < l.length:=by
   have:=(List.getElem?_eq_some_iff.1 hu).1
   simpa using this
  rw [List.getElem?_map,List.getElem?_eq_getElem hj] at hu
  simp at hu
  subst hu
  have h0:=hc j hj
  rw [Addr.add_lit,Nat.zero_add,World.cell?_of_block (w:=w) (Below.heap_alloc _ _ _ (World.block_lt_of_cell? _ _ h0))]
  exact h0
 have HC:=hid hcell
 clear hcell hc
 go_wp2_with (at_builtin; refine wpList_append_own _ rfl (.tmp 5) (.tmp 6) 55 rfl w.heap.size 5 i0 (.int .u8 0) 1 1 Tryz.underlying55 hi hz0 hz1 hz2 rfl (by decide) _ _ _ rfl hown ⟨g,0,none⟩ l.length cap (l.map bv) rfl ?c0 ?c1 ?c2 ?c3 ?c4 ?c5 ?_)
 case c0 => simp
 case c1 => exact HC.out
 case c2 =>
  intro u hu
  obtain ⟨x,_,rfl⟩:=List.mem_map.1 hu
  rfl
 case c3 => unfold maxLen; omega
 case c4 => omega
 case c5 => simp
 intro v' w1 ho hg _
 have hb : Below w.heap.size w w1:=((Below.refl _ w).alloc (Nat.le_refl _) _).grown hg (by simp) (fun k hk => by simp [Value.ownBlock] at hk; omega)
 clear hown hg hi
 go_wp2
 go_ret
 exact ⟨v',rfl,by simpa using ho,hb⟩
theorem Nw {w : World} {g cap : Nat} {l : List UInt8} {n : Nat} (h0 : 0 < n) (hn : n <= l.length) (hz : n <= 140737488355328) (hc : ∀ j (h : j < (l.take n).length),w.cell? ⟨g,j,none⟩ = some (bv (l.take n)[j])) :
 Calls Tryz.prog 42 #[.slice (some ⟨g,0,none⟩) n cap] w fun e w' => ∃ a c,e = .returned (.slice a n c) /\ w'.ownsRow w.heap.size 5 1 (.slice a n c) n ((l.take n).map bv) /\ Below w.heap.size w w':=by
 have hl : (l.take n).length = n:=by rw [List.length_take]; omega
 have:=SQ (w:=w) (g:=g) (cap:=cap) (l:=l.take n) (by omega) (by omega) hc
 rw [hl] at this
 refine this.mono ?_
 rintro e w' ⟨v,rfl,ho,hb⟩
 obtain ⟨a,c,rfl⟩:=CK ho
 exact ⟨a,c,rfl,ho,hb⟩
end
section
open Go.RowKit Go.Maps Go.WideMaps
theorem AM.lay {G : Nat -> Prop} {w wC w3 : World} {q m : Nat} {es : List (Key × Bm)} {S : Bx} (h : AM w q m es S G) {s : ByteArray} (hs : s.size <= maxLen) (hn : Cp s.data.toList = true) (hf : Am s.data.toList es = none) (hl : es.length < maxLen)
 (hC : Below w.heap.size w wC) {v : Value} {l : List UInt8} {n : Nat} (hln : l.length = n) (ho : wC.ownsRow w.heap.size 5 1 v n (l.map bv)) (h3 : w3 = wC.alloc (.cells #[v,.int .i64 (n : Int)] 87)) :
 ∃ wB,(Instr.mapUpdate 66 (.map (some m)) (.string s) (.pointer (some ⟨wC.heap.size,0,none⟩))).run Tryz.prog w3 = .ok () wB /\
  AM wB q m (Bh (s.data.toList,⟨⟨l,n⟩,wC.heap.size,v⟩) es) ⟨Bh (s.data.toList,⟨l,n⟩) S.files,S.fuel,S.down⟩ (AN G w wB) /\ Ac (fun k => k = m) w wB:=by
 subst hln
 have hCs:=hC.size
 have hb3 : Below w.heap.size w w3:=by rw [h3]; exact hC.alloc hCs _
 have hB3:=h.below hb3
 have hnew : w3.heap[wC.heap.size]? = some (.cells #[v,.int .i64 (l.length : Int)] 87 (0,0)):=by rw [h3]; exact heap_alloc_new _ _
 have ho3 : w3.ownsRow w.heap.size 5 1 v l.length (l.map bv):=by rw [h3]; exact ho.alloc _
 obtain ⟨wB,hrun,hown,hg⟩:=World.ownsMap.update hB3.map (string_keyed Tryz.underlying9) Tryz.underlying66 hl (keyOf_string_mk Tryz.underlying9 hs) (val:=.pointer (some ⟨wC.heap.size,0,none⟩)) (d:=.lit (.int .i64 (wC.heap.size : Int))) (ps:=[]) rfl
 have t : Ac (fun k => k = m) w3 wB:=(Ac.refl (fun k => k = m) w3).grown hg (fun k hk => by injection hk with hk; exact .inl hk.symm)
 have hlm:=h.lm
 have hts:=t.size
 have h3s : w3.heap.size = wC.heap.size + 1:=by rw [h3]; simp
 have hoL:=ho.lt
 have hoB : wB.ownsRow 0 5 1 v l.length (l.map bv):=by
  have:=t.row ho3 (fun k hk e => by have:=(hoL k hk).1; omega)
  refine ⟨this.1,?_⟩
  rcases this.2 with h1 | ⟨g,cap,cur,h1,h2,h3⟩
  · exact .inl h1
  · exact .inr ⟨g,cap,cur,h1,Nat.zero_le _,h3⟩
 have he : BG wB (AN G w wB) ⟨⟨l,l.length⟩,wC.heap.size,v⟩:=
  ⟨t.keeps hnew (show wC.heap.size ≠ m by omega),hoB,Nat.le_refl _,.inr ⟨hCs,by show wC.heap.size < _; omega⟩,fun k hk => .inr ⟨(hoL k hk).1,by have:=(hoL k hk).2; omega⟩⟩
 refine ⟨wB,hrun,hB3.ins hf hn (e:=⟨⟨l,l.length⟩,wC.heap.size,v⟩) he hown t (fun k hk => .inl hk) (fun x hx e1 => ?_) (fun x hx k hk e1 => ?_),?_⟩
 · have:=(h.mem.each x hx).1.lt
   have e2 : wC.heap.size = x.2.blk:=e1
   omega
 · have:=(h.mem.each x hx).1.rowLt k e1
   have:=(hoL k hk).1
   omega
 · exact (Ac.of_below _ hb3).trans t (fun i hi => .inl hi)
theorem Us {w : World} {g cap : Nat} {l : List UInt8} (h : w.ownsRow 0 5 1 (.slice (some ⟨g,0,none⟩) l.length cap) l.length (l.map bv)) (n : Nat) (hn : n <= l.length) : ∀ j (hj : j < (l.take n).length),w.cell? ⟨g,j,none⟩ = some (bv (l.take n)[j]):=by
 intro j hj
 rw [List.length_take] at hj
 rw [h.cellAt j (by omega)]
 simp [List.getElem?_map,List.getElem?_eq_getElem (by omega : j < l.length)]
theorem AM.tight {F : Nat -> Prop} {w : World} {p m : Nat} {es : List (Key × Bm)} {S : Bx} (h : AM w p m es S F) : AM w p m es S (fun k => F k /\ k < w.heap.size):=
 ⟨h.head,h.map,h.files,⟨fun x hx => ⟨⟨(h.mem.each x hx).1.head,(h.mem.each x hx).1.row,(h.mem.each x hx).1.dur,⟨(h.mem.each x hx).1.fblk,(h.mem.each x hx).1.lt⟩,fun k hk => ⟨(h.mem.each x hx).1.frow k hk,(h.mem.each x hx).1.rowLt k hk⟩⟩,(h.mem.each x hx).2⟩,h.mem.apart⟩,⟨h.fp,h.head.lt⟩,⟨h.fm,h.lm⟩,h.lo,h.hi⟩
end
section
open Go.RowKit Go.Maps Go.WideMaps
structure Dx (w wr : World) (p m q : Nat) (v : Value) (es : List (Key × Bm)) (S : Bx) (F : Nat -> Prop) (ks : List Int) (k : Nat) : Prop where
 old : AM wr p m es S.fall F
 left : ∃ G,AH wr q ⟨(AY ks (S.files.take k)).1,-1,false⟩ G /\ ∀ j,G j -> w.heap.size <= j /\ j < wr.heap.size /\ v.ownBlock ≠ some j
 names : wr.ownsRow w.heap.size 9 1 v es.length (es.map fun x => tx x.1)
 turn : Ac (fun k => k = p) w wr
theorem Dx.below {w wr wr' : World} {p m q : Nat} {v : Value} {es : List (Key × Bm)} {S : Bx} {F : Nat -> Prop} {ks : List Int} {k : Nat} (h : Dx w wr p m q v es S F ks k) (hb : Below wr.heap.size wr wr') : Dx w wr' p m q v es S F ks k:=by
 obtain ⟨G,h1,h2⟩:=h.left
 have:=hb.size
 exact ⟨h.old.below hb,⟨G,h1.below hb,fun j hj => ⟨(h2 j hj).1,by have:=(h2 j hj).2.1; omega,(h2 j hj).2.2⟩⟩,Ah h.names hb,h.turn.trans (Ac.of_below (fun _ => False) hb) (fun i hi => hi.elim)⟩
theorem IP {w : World} {b i : Nat} {v : Value} (h : w.cell? ⟨b,i,none⟩ = some v) : ∀ o,(w.alloc o).cell? ⟨b,i,none⟩ = some v:=fun o => by
 rw [World.cell?_of_block (w:=w) (Below.heap_alloc _ _ _ (World.block_lt_of_cell? _ _ h))]; exact h
theorem G9 (w : World) : Below w.heap.size w w.drew.drew:=(Below.refl _ w).drew.drew
theorem Ay (w : World) : Below w.heap.size w w.drew:=(Below.refl _ w).drew
theorem Dx.same {w wr : World} {p m q : Nat} {v : Value} {es : List (Key × Bm)} {S : Bx} {F : Nat -> Prop} {ks : List Int} {k : Nat} (h : Dx w wr p m q v es S F ks k) (he : (AY ks (S.files.take (k + 1))).1 = (AY ks (S.files.take k)).1) : Dx w wr p m q v es S F ks (k + 1):=
 ⟨h.old,by rw [he]; exact h.left,h.names,h.turn⟩
theorem Dx.next {w wr wB : World} {p m q m2 : Nat} {v : Value} {es es2 : List (Key × Bm)} {S S2 : Bx} {F G : Nat -> Prop} {ks : List Int} {k : Nat} (h : Dx w wr p m q v es S F ks k) (hF : ∀ j,F j -> j < w.heap.size) (hG : ∀ j,G j -> w.heap.size <= j /\ j < wr.heap.size /\ v.ownBlock ≠ some j)
 (hB : AM wB q m2 es2 S2 (AN G wr wB)) (h2 : G m2) (t : Ac (fun k => k = m2) wr wB) (hS : S2 = ⟨(AY ks (S.files.take (k + 1))).1,-1,false⟩) : Dx w wB p m q v es S F ks (k + 1):=by
 subst hS
 have hm:=hG m2 h2
 have ht:=t.size
 refine ⟨h.old.kept t (fun j hj e => by have:=hF j hj; omega),⟨_,⟨m2,es2,hB⟩,fun j hj => ?_⟩,t.row h.names (fun j hj e => hm.2.2 (by rw [hj,e])),h.turn.trans t (fun i hi => by subst hi; exact .inr hm.1)⟩
 rcases hj with hj | hj
 · exact ⟨(hG j hj).1,by have:=(hG j hj).2.1; omega,(hG j hj).2.2⟩
 · refine ⟨by have:=h.turn.size; omega,hj.2,fun e => ?_⟩
   have:=(h.names.lt j e).2
   omega
set_option maxHeartbeats 2000000 in
set_option maxRecDepth 100000 in
theorem XG {w : World} {p : Nat} {S : Bx} {F : Nat -> Prop} (h : AH w p S F) {v : Value} {ks : List Int} (hks : Eo F w v ks) (hl : weigh S.files <= 8796093022208) :
 Calls Tryz.prog 20 #[.pointer (some ⟨p,0,none⟩),v] w fun r w' => ∃ q,r = .returned (.pointer (some ⟨q,0,none⟩)) /\ AH w' p S.fall F /\ AH w' q (S.crash ks) (fun k => w.heap.size <= k /\ k < w'.heap.size) /\ Ac (fun k => k = p) w w':=by
 obtain ⟨m,es,hbig⟩:=h
 have h:=hbig.tight
 have hF0:=hid (show ∀ k,F k /\ k < w.heap.size -> F k from fun k hk => hk.1)
 have hks:=hks.fit (G:=fun k => F k /\ k < w.heap.size) (fun k hk => .inl hk.1)
 have hFb:=hid (show ∀ k,(F k /\ k < w.heap.size) -> k < w.heap.size from fun k hk => hk.2)
 generalize hFF : (fun k => F k /\ k < w.heap.size) = F1 at *
 have hFb : Hid (∀ k,F1 k -> k < w.heap.size):=by subst hFF; exact hFb
 have hF0 : Hid (∀ k,F1 k -> F k):=by subst hFF; exact hF0
 clear hFF hbig
 have hle : es.length <= weigh S.files:=by
  have:=Fp S.files
  rwa [h.files,Dn,<- h.files] at this
 have hh:=h.head
 have c2:=hh.c2
 have f2:=hh.free 2
 have t0 : Ac (fun k => k = p) w (w.setCell ⟨p,2,none⟩ (.bool true)):=(Ac.refl (fun k => k = p) w).setCell (p:=⟨p,2,none⟩) (.inl rfl) (.bool true)
 have h0 : AM (w.setCell ⟨p,2,none⟩ (.bool true)) p m es S.fall F1:=h.reHead (hh.setDown true) t0 h.lo h.hi
 have T0:=hid t0
 have H0:=hid h0
 have H:=hid h
 clear hh h t0 h0
 go_enter Tryz.func20,Tryz.ntmps20
 go_wp2_with fail
 refine (GN _).mono ?_
 rintro r w1 ⟨q,rfl,hq,hbx,hb1⟩
 have h1:=H0.out.below hb1
 go_wp2_with fail
 refine (Pv h1 (by omega)).mono ?_
 rintro r w2 ⟨nv,rfl,ho,hb2⟩
 have h2:=h1.below hb2
 have hA : (w.setCell ⟨p,2,none⟩ (.bool true)).heap.size = w.heap.size:=by simp [World.setCell]
 rw [hA] at hbx hb1
 have hs1:=hb1.size
 rw [hA] at hs1
 have hs2:=hb2.size
 have hn2 : w2.ownsRow w.heap.size 9 1 nv es.length (es.map fun x => tx x.1):=ownsRow_base_a ho hs1
 have hst : Dx w w2 p m q nv es S F1 ks 0:=by
  refine ⟨h2,⟨_,hbx.below hb2,fun j hj => ⟨hj.1,by have:=hj.2; omega,fun e => by have:=(ho.lt j e).1; have:=hj.2; omega⟩⟩,hn2,?_⟩
  exact ((T0.out.trans (Ac.of_below (fun _ => False) (by rw [hA]; exact hb1)) (fun i hi => hi.elim)).trans (Ac.of_below (fun _ => False) hb2) (fun i hi => hi.elim))
 obtain ⟨na,nc,rfl⟩:=CK ho
 have hrs:=hid h2.rising
 have HL:=hid hle
 have hlen : es.length <= 8796093022208:=by omega
 clear hbx hb1 h1 ho hb2 h2 hn2 hA hs1 hs2 hle c2 f2
 go_wp2
 go_loopw [6,21] (fun u i wr => ∃ k : Nat,k <= es.length /\ i = .int .i64 (k : Int) /\ u = .int .i64 ((AY ks (S.files.take k)).2 : Int) /\ Dx w wr p m q (.slice na es.length nc) es S F1 ks k) (fun _ i _ => es.length - (intOf i).toNat)
 case atStart => exact ⟨0,by omega,rfl,rfl,hst⟩
 case round =>
  clear hst
  obtain ⟨k,hk,rfl,rfl,hrel⟩:=hrel
  by_cases hlt : k < es.length
  · have hmem : es[k] ∈ es:=List.getElem_mem hlt
    obtain ⟨hfa,hnm⟩:=hrel.old.mem.each _ hmem
    have hN : Cp es[k].1 = true:=hnm
    have hcl : (⟨es[k].1.toArray⟩ : ByteArray).size <= 32:=by
     unfold Cp at hN
     have:=(of_decide_eq_true hN).2
     exact this
    have hlk:=hrel.old.map.look ⟨es[k].1.toArray⟩ (by unfold maxLen; omega)
    have hat : Am es[k].1 es = some es[k].2:=Ri hrs.out hlt
    have hf2 : S.files.length = es.length:=by rw [H.out.files,Dn]
    have hfk : S.files[k]'(by omega) = (es[k].1,es[k].2.file):=by
     have : S.files[k]? = some (es[k].1,es[k].2.file):=by rw [H.out.files]; simp [EX,hlt]
     rw [List.getElem?_eq_getElem (by omega)] at this
     injection this
    have hwl : es[k].2.file.bytes.length <= 8796093022208:=by
     have h1 : Am es[k].1 S.files = some es[k].2.file:=by rw [H.out.files,BP,hat]; rfl
     have:=PV h1
     omega
    have hstep:=GH (keep:=ks) (l:=S.files) (i:=k) (by omega)
    have hfresh:=Qv (keep:=ks) (l:=S.files) (by rw [H.out.files]; exact (Kd _).2 hrs.out) (k:=k) (by omega)
    have hclen:=Kl (keep:=ks) (l:=S.files) k (by omega)
    rw [hfk] at hstep hfresh
    have hnc : ∃ g,na = some ⟨g,0,none⟩:=by
     rcases hrel.names.2 with ⟨h1,h2⟩ | ⟨g,cap,cur,h1,_⟩
     · omega
     · injection h1 with h1; exact ⟨g,h1⟩
    obtain ⟨g,rfl⟩:=hnc
    have hnc : wr.cell? ⟨g,k,none⟩ = some (tx es[k].1):=by
     rw [hrel.names.cellAt k (by omega)]
     simp [hlt]
    unfold tx at hnc
    have hlk2 : (Instr.lookup 66 (.map (some m)) (.string ⟨es[k].1.toArray⟩) false).run Tryz.prog wr = .ok (.pointer (some ⟨es[k].2.blk,0,none⟩)) wr:=by
     rw [hlk]
     show Result.ok (Value.pointer ((Am es[k].1 es).map _)) wr = _
     rw [hat]; rfl
    have c0:=hrel.old.head.c0
    have HR:=hid hrel
    have HN:=hid hN
    have HST:=hid hstep
    have HFR:=hid hfresh
    generalize es[k].1 = N at *
    generalize es[k].2 = e at *
    have e0 : wr.cell? ⟨e.blk,0,none⟩ = some e.row:=by rw [Ab hfa.head]; rfl
    have e1 : wr.cell? ⟨e.blk,1,none⟩ = some (.int .i64 (e.file.dur : Int)):=by rw [Ab hfa.head]; rfl
    generalize hC : AY ks (List.take k S.files) = C at *
    have HC:=hid hC
    clear hrel hlk hat hfk hstep hfresh hN hmem hnm hC
    rcases hfa.row.2 with ⟨hr,hl0⟩ | ⟨gr,rc,cur,hr,_,hgr,hrc,hrcm,hrs2,_⟩
    · have hd0 : e.file.dur = 0:=by have:=hfa.dur; omega
      rw [hr] at e0
      rw [hd0] at e1
      have HC1 : Hid (AY ks (S.files.take (k + 1)) = C):=by
       show _ = _
       rw [HST.out]
       unfold C7 CM
       simp [hl0,hd0]
      clear hfa hr hl0 hd0 HST HFR HN hcl hf2
      go_wp2
      go_region
      go_wp2
      go_roundw
      case rel => exact ⟨k + 1,by omega,by go_num,by rw [HC1.out],(HR.out.same (by rw [HC1.out,HC.out])).below (Ay _)⟩
      case measure => simp [intOf]; omega
    · have hdl:=hfa.dur
      have hlm : e.file.bytes.length <= 9223372036854775807:=by unfold maxLen at hrcm; omega
      have hcells:=Us (by have:=hfa.row; rw [hr] at this; exact this)
      have HCL:=hid hcells
      rw [hr] at e0
      clear hfa hr hgr hrs2 hcells
      by_cases hv : e.file.dur < e.file.bytes.length
      · go_wp2
        go_region
        go_wp2_with fail
        have hkk : Eo F1 wr.drew v ks:=(hks.turn HR.out.turn (fun i hi => by subst hi; exact H.out.fp)).turn (Ac.of_below (fun _ => False) (Ay _)) (fun i hi => hi.elim)
        refine (Yt hkk C.2 (by omega)).mono ?_
        rintro r wk ⟨rfl,rfl⟩
        clear hkk
        go_upto_region 15 with (fail)
        have hsum : (e.file.dur : Int) + min (VM ks C.2 : Int) ((e.file.bytes.length : Int) - (e.file.dur : Int)) = ((CM ks C.2 e.file : Nat) : Int):=by
         unfold CM
         rw [if_pos hv]
         omega
        rw [hsum]
        have hSZ : CM ks C.2 e.file <= e.file.bytes.length:=by
         unfold CM
         rw [if_pos hv]
         omega
        have HS2 : Hid (AY ks (S.files.take (k + 1)) = (if 0 < CM ks C.2 e.file then Bh (N,⟨e.file.bytes.take (CM ks C.2 e.file),CM ks C.2 e.file⟩) C.1 else C.1,C.2 + 1)):=by
         show _ = _
         rw [HST.out]
         unfold C7
         rw [if_pos hv]
        generalize CM ks C.2 e.file = SZ at *
        clear hsum
        have hnr : Hid (SZ <= e.file.bytes.length):=hSZ
        by_cases hs : 0 < SZ
        · obtain ⟨G,⟨m2,es2,hx2⟩,hG⟩:=HR.out.left
          have q0:=hx2.head.c0
          have hes2 : es2.length <= k:=by
           have h1:=congrArg List.length hx2.files
           rw [Dn] at h1
           have h2:=(Kl (keep:=ks) (l:=S.files) k (by rw [H.out.files,Dn]; omega)).1
           rw [h1] at h2
           exact h2
          have hfr2 : Am N es2 = none:=by
           have h1:=HFR.out
           have h2 : (AY ks (S.files.take k)).1 = EX Bm.file es2:=hx2.files
           rw [<- HC.out,h2,BP] at h1
           cases h3 : Am N es2 with
           | none => rfl
           | some x => rw [h3] at h1; cases h1
          have HX:=hid hx2
          have HG:=hid hG
          have HF2:=hid hfr2
          have hzz : SZ <= 140737488355328:=by have:=hnr.out; omega
          have hsi : (0 : Int) < (SZ : Int):=by omega
          have hsc : SZ <= rc:=by have:=hnr.out; omega
          have hsci : (SZ : Int) <= (rc : Int):=by omega
          clear hx2 hG hfr2 HFR
          go_wp2_with fail
          go_region_with (go_at_call 42; refine (Nw hs hnr.out hzz (by first | exact HCL.out _ hnr.out | exact HCL.out _ hnr.out)).mono ?_; rintro r wC ⟨aC,cC,rfl,hoC,hbC⟩; have qC : wC.cell? ⟨q,0,none⟩ = some (.map (some m2)):=(hbC.cell (p:=⟨q,0,none⟩) HX.out.head.lt).trans q0; have qD:=IP qC; obtain ⟨wB,hrun,hB,tB⟩:=(HX.out.below (w':=wr.drew.drew) (G9 _)).lay (s:=⟨N.toArray⟩) (by unfold maxLen; omega) HN.out HF2.out (by unfold maxLen; omega) hbC (l:=e.file.bytes.take SZ) (n:=SZ) (by rw [List.length_take]; have:=hnr.out; omega) hoC rfl)
          all_goals
           go_wp2
           go_roundw
           case rel => exact ⟨k + 1,by omega,by go_num,by rw [HS2.out]; go_num,(HR.out.below (G9 _)).next hFb.out HG.out hB HX.out.fm tB (by show Bx.mk (Bh (N,_) (AY ks (List.take k S.files)).1) (-1) false = _; rw [HS2.out,if_pos hs,HC.out])⟩
           case measure => simp [intOf]; omega
        · have hs0 : SZ = 0:=by omega
          have hsi : ¬ ((0 : Int) < (SZ : Int)):=by omega
          go_wp2
          go_roundw
          case rel => exact ⟨k + 1,by omega,by go_num,by rw [HS2.out]; go_num,(HR.out.same (by rw [HS2.out,if_neg (by omega),HC.out])).below (Ay _)⟩
          case measure => simp [intOf]; omega
      · have hv2 : e.file.dur = e.file.bytes.length:=by omega
        have HS2 : Hid (AY ks (S.files.take (k + 1)) = (if 0 < e.file.dur then Bh (N,⟨e.file.bytes.take e.file.dur,e.file.dur⟩) C.1 else C.1,C.2)):=by
         show _ = _
         rw [HST.out]
         unfold C7 CM
         rw [if_neg hv]
         simp only [if_neg hv]
        have hSZ : e.file.dur <= e.file.bytes.length:=by omega
        have hvi : ¬ (0 : Int) < (e.file.bytes.length : Int) - (e.file.dur : Int):=by omega
        clear hv2 HST
        generalize e.file.dur = SZ at *
        go_wp2
        go_region
        go_upto_region 15 with (fail)
        have hnr : Hid (SZ <= e.file.bytes.length):=hSZ
        by_cases hs : 0 < SZ
        · obtain ⟨G,⟨m2,es2,hx2⟩,hG⟩:=HR.out.left
          have q0:=hx2.head.c0
          have hes2 : es2.length <= k:=by
           have h1:=congrArg List.length hx2.files
           rw [Dn] at h1
           have h2:=(Kl (keep:=ks) (l:=S.files) k (by rw [H.out.files,Dn]; omega)).1
           rw [h1] at h2
           exact h2
          have hfr2 : Am N es2 = none:=by
           have h1:=HFR.out
           have h2 : (AY ks (S.files.take k)).1 = EX Bm.file es2:=hx2.files
           rw [<- HC.out,h2,BP] at h1
           cases h3 : Am N es2 with
           | none => rfl
           | some x => rw [h3] at h1; cases h1
          have HX:=hid hx2
          have HG:=hid hG
          have HF2:=hid hfr2
          have hzz : SZ <= 140737488355328:=by have:=hnr.out; omega
          have hsi : (0 : Int) < (SZ : Int):=by omega
          have hsc : SZ <= rc:=by have:=hnr.out; omega
          have hsci : (SZ : Int) <= (rc : Int):=by omega
          clear hx2 hG hfr2 HFR
          go_wp2_with fail
          go_region_with (go_at_call 42; refine (Nw hs hnr.out hzz (by first | exact HCL.out _ hnr.out | exact HCL.out _ hnr.out)).mono ?_; rintro r wC ⟨aC,cC,rfl,hoC,hbC⟩; have qC : wC.cell? ⟨q,0,none⟩ = some (.map (some m2)):=(hbC.cell (p:=⟨q,0,none⟩) HX.out.head.lt).trans q0; have qD:=IP qC; obtain ⟨wB,hrun,hB,tB⟩:=(HX.out.below (w':=wr.drew.drew) (G9 _)).lay (s:=⟨N.toArray⟩) (by unfold maxLen; omega) HN.out HF2.out (by unfold maxLen; omega) hbC (l:=e.file.bytes.take SZ) (n:=SZ) (by rw [List.length_take]; have:=hnr.out; omega) hoC rfl)
          all_goals
           go_wp2
           go_roundw
           case rel => exact ⟨k + 1,by omega,by go_num,by rw [HS2.out],(HR.out.below (G9 _)).next hFb.out HG.out hB HX.out.fm tB (by show Bx.mk (Bh (N,_) (AY ks (List.take k S.files)).1) (-1) false = _; rw [HS2.out,if_pos hs,HC.out])⟩
           case measure => simp [intOf]; omega
        · have hs0 : SZ = 0:=by omega
          have hsi : ¬ ((0 : Int) < (SZ : Int)):=by omega
          go_wp2
          go_roundw
          case rel => exact ⟨k + 1,by omega,by go_num,by rw [HS2.out],(HR.out.same (by rw [HS2.out,if_neg (by omega),HC.out])).below (Ay _)⟩
          case measure => simp [intOf]; omega
  · obtain rfl : k = es.length:=by omega
    have hf2 : S.files.length = es.length:=by rw [H.out.files,Dn]
    have htk : S.files.take es.length = S.files:=by rw [<- hf2,List.take_length]
    have HT:=hid htk
    have HR:=hid hrel
    clear hrel htk hf2
    go_wp2
    go_ret
    have hr:=HR.out
    obtain ⟨G,hg,hG⟩:=hr.left
    rw [HT.out] at hg
    exact ⟨q,rfl,⟨m,es,hr.old.mono hF0.out⟩,hg.mono (fun j hj => ⟨(hG j hj).1,(hG j hj).2.1⟩),hr.turn⟩
end
section
open Go.RowKit Go.Maps Go.WideMaps
theorem AH.tight {F : Nat -> Prop} {w : World} {p : Nat} {S : Bx} (h : AH w p S F) : AH w p S (fun k => F k /\ k < w.heap.size):=by
 obtain ⟨m,es,h⟩:=h
 exact ⟨m,es,h.tight⟩
end
section
open Go.RowKit Go.Maps Go.WideMaps
end
section
open Go.RowKit Go.Maps Go.WideMaps
end
end Go.Proofs.YtnafjlhohbhcoaaGreatDoor
