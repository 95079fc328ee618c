/- Parts of the proof. -/
import Derived.Test.YtnafjlhohbhcoaaGreatDoorQ10
import Derived.Test.YtnafjlhohbhcoaaGreatDoorQ34
import Derived.Deep.RegionWith
namespace Go.Proofs.YtnafjlhohbhcoaaGreatDoor
open Go.Lib (hid)
set_option linter.unusedVariables false
section
open Go.RowKit Go.Maps Go.WideMaps
theorem Ac.toF {F : Nat -> Prop} {p : Nat} {w w' : World} (h : Ac (fun k => k = p) w w') (hp : F p) : Ac F w w':=h.mono (fun i hi => by subst hi; exact .inl hp)
set_option maxHeartbeats 400000 in
set_option maxRecDepth 100000 in
theorem Kh {w : World} {p : Nat} {S : Bx} {F : Nat -> Prop} (h : AH w p S F) (s : ByteArray) (hs : s.size <= maxLen) :
 Calls Tryz.prog 82 #[.pointer (some ⟨p,0,none⟩),.string s] w fun r w' => r = .returned (.int .i64 (S.delete s.data.toList).2) /\ AH w' p (S.delete s.data.toList).1 F /\ Ac F w w':=by
 obtain ⟨m,es,h⟩:=h
 by_cases hd : S.down = true
 · rw [Bx.delete_down hd]
   have hc:=Ti h hd s
   have H:=hid h
   clear hd h
   go_enter Tryz.func82,Tryz.ntmps82
   go_wp2_with fail
   refine hc.mono ?_
   rintro e w' ⟨rfl,rfl⟩
   go_wp2
   go_ret
   exact ⟨rfl,⟨m,es,H.out⟩,Ac.refl _ _⟩
 · have hd' : S.down = false:=by simpa using hd
   cases hf : Am s.data.toList es with
   | none =>
     rw [Bx.delete_none hd' (by rw [h.files,BP,hf]; rfl)]
     have hc:=Sq h hd' s hs hf
     have H:=hid h
     clear hd hd' hf h
     go_enter Tryz.func82,Tryz.ntmps82
     go_wp2_with fail
     refine hc.mono ?_
     rintro e w' ⟨rfl,rfl⟩
     go_wp2
     go_ret
     exact ⟨rfl,⟨m,es,H.out⟩,Ac.refl _ _⟩
   | some e =>
     rw [Bx.delete_some hd' (f:=e.file) (by rw [h.files,BP,hf]; rfl)]
     by_cases h0 : S.fuel = 0
     · rw [Bx.change_no h0]
       have hc:=Za h hd' s hs hf h0
       have hfp:=h.fp
       clear hd hd' hf h h0
       go_enter Tryz.func82,Tryz.ntmps82
       go_wp2_with fail
       refine hc.mono ?_
       rintro e w' ⟨rfl,h1,t1⟩
       go_wp2
       go_ret
       exact ⟨rfl,⟨m,es,h1⟩,t1.toF hfp⟩
     · rw [Bx.change_yes h0]
       have hc:=Zs h hd' s hs hf h0
       have hfp:=h.fp
       have hfm:=h.fm
       have hfs : S.burnt.files = S.files:=by unfold Bx.burnt; rfl
       have HS:=hid hfs
       have hkey:=keyOf_string_mk Tryz.underlying9 hs
       have HK:=hid hkey
       clear hd hd' hf h h0 hfs hkey
       go_enter Tryz.func82,Tryz.ntmps82
       go_wp2_with fail
       refine hc.mono ?_
       rintro r w1 ⟨rfl,h1,t1⟩
       have c0:=h1.head.c0
       have hmap:=h1.map
       unfold IJ at hmap
       have T1:=hid t1
       have H1:=hid h1
       clear h1 t1
       go_wp2_with (at_delete; refine wpList_delete_own _ rfl _ _ 66 9 rfl 85 (string_keyed Tryz.underlying9) Tryz.underlying66 Qw m _ _ rfl hmap _ _ rfl HK.out ?_; intro w2 hown2 hturn2)
       have t2 : Ac (fun k => k = m) w1 w2:=(Ac.refl (fun k => k = m) w1).grown hturn2.grown (fun k hk => by injection hk with hk; exact .inl hk.symm)
       have h2:=H1.out.del hown2 t2
       rw [HS.out] at h2
       have H2:=hid h2
       have T2:=hid t2
       clear hown2 hturn2 hmap c0 h2 t2
       go_wp2
       go_ret
       exact ⟨rfl,⟨m,_,H2.out⟩,(T1.out.toF hfp).trans (T2.out.toF hfm) (fun i hi => .inl hi)⟩
theorem JB (s : ByteArray) (w : World) (hs : s.size <= 281474976710656) :
 Calls Tryz.prog 70 #[.string s] w fun e w' => e = .returned (.string s) /\ Below w.heap.size w w':=by
 go_enter Tryz.func70,Tryz.ntmps70
 go_wp2_with fail
 refine (Sh.stringslite_Clone s _ hs).mono ?_
 rintro e w' ⟨rfl,hb⟩
 go_wp2
 go_ret
 exact ⟨rfl,hb⟩
theorem AM.added {F : Nat -> Prop} {w w1 : World} {p m : Nat} {es : List (Key × Bm)} {S : Bx} (h : AM w p m es S F) {n : Key} {e : Bm} (hf : Am n es = some e) {v : Value} {d : List UInt8} {base : Nat}
 (ho : w1.ownsRow base 5 1 v (e.file.bytes.length + d.length) ((e.file.bytes ++ d).map bv)) (hg : w.grownBy w1 e.row.ownBlock) (hv : ∀ k,v.ownBlock = some k -> e.row.ownBlock = some k \/ w.heap.size <= k) :
 AH (w1.setCell ⟨e.blk,0,none⟩ v) p ⟨Bf n (G8 d e.file) S.files,S.fuel,S.down⟩ (AN F w (w1.setCell ⟨e.blk,0,none⟩ v)) /\ Ac F w (w1.setCell ⟨e.blk,0,none⟩ v):=by
 obtain ⟨hfa,hnm⟩:=h.mem.each _ (CB hf)
 have hfa : BG w F e:=hfa
 have hsz : (w1.setCell ⟨e.blk,0,none⟩ v).heap.size = w1.heap.size:=by simp [World.setCell]
 have t1 : Ac (fun k => e.row.ownBlock = some k) w w1:=(Ac.refl _ w).grown hg (fun k hk => .inl hk)
 have hd1 : w1.heap[e.blk]? = some (.cells #[e.row,.int .i64 (e.file.dur : Int)] 87 (0,0)):=t1.keeps hfa.head (fun e1 => hfa.blkNotRow hfa e1 rfl)
 have t : Ac (fun k => k = e.blk \/ e.row.ownBlock = some k) w (w1.setCell ⟨e.blk,0,none⟩ v):=
  (t1.mono (fun i hi => .inl (.inr hi))).setCell (p:=⟨e.blk,0,none⟩) (.inl (.inl rfl)) v
 have hvl : ∀ k,v.ownBlock = some k -> k < w1.heap.size:=fun k hk => (ho.lt k hk).2
 have he : BG (w1.setCell ⟨e.blk,0,none⟩ v) (AN F w (w1.setCell ⟨e.blk,0,none⟩ v)) ⟨G8 d e.file,e.blk,v⟩:=by
  refine ⟨block_set hd1 0 _,?_,?_,.inl hfa.fblk,fun k hk => ?_⟩
  · have t3 : Ac (fun k => k = e.blk) w1 (w1.setCell ⟨e.blk,0,none⟩ v):=(Ac.refl (fun k => k = e.blk) w1).setCell (p:=⟨e.blk,0,none⟩) (.inl rfl) v
    have ho0 : w1.ownsRow 0 5 1 v (G8 d e.file).bytes.length ((G8 d e.file).bytes.map bv):=by
     show w1.ownsRow 0 5 1 v (e.file.bytes ++ d).length ((e.file.bytes ++ d).map bv)
     rw [List.length_append]
     refine ⟨ho.1,?_⟩
     rcases ho.2 with h1 | ⟨g,cap,cur,hv,hb,r⟩
     · exact .inl h1
     · exact .inr ⟨g,cap,cur,hv,Nat.zero_le _,r⟩
    refine t3.row ho0 (fun k hk e1 => ?_)
    rcases ho0.2 with ⟨h1,_⟩ | ⟨g,cap,cur,h1,_,h2,_⟩
    · rw [h1] at hk; simp [Value.ownBlock] at hk
    · rw [h1] at hk
      simp [Value.ownBlock] at hk
      rw [hk,e1,hd1] at h2
      simp at h2
  · have:=hfa.dur
    show e.file.dur <= (e.file.bytes ++ d).length
    rw [List.length_append]; omega
  · rcases hv k hk with h1 | h1
    · exact .inl (hfa.frow k h1)
    · exact .inr ⟨h1,by rw [hsz]; exact hvl k hk⟩
 exact ⟨⟨m,_,h.upd hf (e':=⟨G8 d e.file,e.blk,v⟩) rfl he t (fun k hk => .inl hk) hv⟩,t.mono (fun i hi => by rcases hi with rfl | hi; exact .inl hfa.fblk; exact .inl (hfa.frow i hi))⟩
end
section
open Go.RowKit Go.Maps Go.WideMaps
theorem AM.newFile {w w2 wA : World} {p m : Nat} {es : List (Key × Bm)} {S : Bx} {F : Nat -> Prop} (h : AM w p m es S F) (s : ByteArray) (hs : s.size <= maxLen) (hn : Cp s.data.toList = true) (hf : Am s.data.toList es = none) (hl : es.length < maxLen)
 (h2 : w2 = w.alloc (.cells #[.slice none 0 0,.int .i64 0] 87)) (hA : Below w2.heap.size w2 wA) :
 wA.cell? ⟨p,0,none⟩ = some (.map (some m)) /\ ∃ wB,(Instr.mapUpdate 66 (.map (some m)) (.string s) (.pointer (some ⟨w.heap.size,0,none⟩))).run Tryz.prog wA = .ok () wB /\
  AM wB p m (Bh (s.data.toList,⟨⟨[],0⟩,w.heap.size,.slice none 0 0⟩) es) ⟨Bh (s.data.toList,⟨[],0⟩) S.files,S.fuel,S.down⟩ (AN F w wB) /\ Ac F w wB /\ wB.cell? ⟨w.heap.size,0,none⟩ = some (.slice none 0 0):=by
 have hb2 : Below w.heap.size w w2:=by rw [h2]; exact (Below.refl _ w).alloc (Nat.le_refl _) _
 have hs2 : w2.heap.size = w.heap.size + 1:=by rw [h2]; simp
 have hbA : Below w.heap.size w wA:=hb2.trans (hA.mono (by omega))
 have hBA:=h.below hbA
 have hnew : wA.heap[w.heap.size]? = some (.cells #[.slice none 0 0,.int .i64 0] 87 (0,0)):=by
  rw [hA.block _ (by omega),h2]; exact heap_alloc_new _ _
 refine ⟨hBA.head.c0,?_⟩
 obtain ⟨wB,hrun,ho,hg⟩:=World.ownsMap.update hBA.map (string_keyed Tryz.underlying9) Tryz.underlying66 hl (keyOf_string_mk Tryz.underlying9 hs) (val:=.pointer (some ⟨w.heap.size,0,none⟩)) (d:=.lit (.int .i64 (w.heap.size : Int))) (ps:=[]) rfl
 have t : Ac (fun k => k = m) wA wB:=(Ac.refl (fun k => k = m) wA).grown hg (fun k hk => by injection hk with hk; exact .inl hk.symm)
 have hmn : w.heap.size ≠ m:=by
  have:=h.lm; omega
 have hBs:=t.size
 have hAs:=hA.size
 have tB : Ac F w wB:=(Ac.of_below F hbA).trans t (fun i hi => by subst hi; exact .inl h.fm)
 have he : BG wB (AN F w wB) ⟨⟨[],0⟩,w.heap.size,.slice none 0 0⟩:=
  ⟨t.keeps hnew hmn,World.ownsRow_nil _ _ _ _,Nat.le_refl _,.inr ⟨Nat.le_refl _,by show w.heap.size < _; omega⟩,fun k hk => by simp [Value.ownBlock] at hk⟩
 have hi:=hBA.ins hf hn (e:=⟨⟨[],0⟩,w.heap.size,.slice none 0 0⟩) he ho t (fun k hk => .inl hk) (fun x hx e1 => by have:=(h.mem.each x hx).1.lt; simp only at e1; omega) (fun x hx k hk => by simp [Value.ownBlock] at hk)
 exact ⟨wB,hrun,hi,tB,by rw [Ab (t.keeps hnew hmn)]; rfl⟩
theorem UV {w : World} (ty : TypeId) {v : Value} {l : List UInt8} (h : w.ownsRow 0 5 1 v l.length (l.map bv)) (d : ByteArray) (hz : l.length + d.size <= 140737488355328) :
 ∃ v' w',(Builtin.append_ #[55,9] ty #[v,.string d]).run Tryz.prog w = .ok v' w' /\ w'.ownsRow 0 5 1 v' (l.length + d.data.toList.length) ((l ++ d.data.toList).map bv) /\ w.grownBy w' v.ownBlock /\ ∀ k,v'.ownBlock = some k -> v.ownBlock = some k \/ w.heap.size <= k:=by
 obtain ⟨i0,hi,hz0,hz1,hz2⟩:=info_parts infoU8
 have hd : d.data.toList.length = d.size:=by simp
 have hc : l.map bv ++ Lib.strCells d = (l ++ d.data.toList).map bv:=by rw [List.map_append]; rfl
 obtain ⟨v',w',hr,ho,hg,hnil⟩:=Lib.run_append_own_string (P:=Tryz.prog) w 0 55 9 ty 5 i0 Tryz.underlying55 Tryz.underlying9 hi hz0 hz1 hz2 v l.length (l.map bv) h d (by unfold maxLen; omega) hz (Nat.zero_le _)
 rw [hc] at ho
 refine ⟨v',w',hr,by rw [hd]; exact ho,hg,fun k hk => ?_⟩
 rcases h.2 with ⟨rfl,h0⟩ | ⟨g,cap,cur,rfl,_,hgg,hle,hcm,hcs,htake⟩
 · -- nil: as from the world's end on
   obtain ⟨v2,w2,hr2,ho2,_⟩:=Lib.run_append_own_string (P:=Tryz.prog) w w.heap.size 55 9 ty 5 i0 Tryz.underlying55 Tryz.underlying9 hi hz0 hz1 hz2 (.slice none 0 0) 0 [] (World.ownsRow_nil _ _ _ _) d (by unfold maxLen; omega) (by omega) (Nat.le_refl _)
   rw [hr] at hr2
   injection hr2 with e1 e2
   subst e1
   exact .inr (ho2.lt k hk).1
 · by_cases hroom : l.length + d.size <= cap
   · have hr2:=Lib.run_append_room_string (P:=Tryz.prog) w 55 9 ty 5 i0 Tryz.underlying55 Tryz.underlying9 hi hz1 g l.length cap cur hgg d hroom (by omega)
     rw [hr] at hr2
     injection hr2 with e1 e2
     subst e1
     exact .inl hk
   · have hr2:=Lib.run_append_grow_string (P:=Tryz.prog) w 55 9 ty 5 i0 _ Tryz.underlying55 Tryz.underlying9 hi hz0 ⟨g,0,none⟩ l.length cap (l.map bv) (by rw [hz1]; simp) (h.cells (g:=g) rfl) d (by omega) (by omega) (by rw [hz2]; exact growslice_fits (by omega) (by omega))
     rw [hr] at hr2
     injection hr2 with e1 e2
     subst e1
     right
     simp [Value.ownBlock] at hk
     omega
theorem CK {w : World} {base : Nat} {e : TypeId} {size : Nat} {v : Value} {n : Nat} {xs : List Value} (h : w.ownsRow base e size v n xs) : ∃ a c,v = .slice a n c:=by
 rcases h.2 with ⟨h1,h2⟩ | ⟨g,cap,cur,h1,_⟩
 · exact ⟨none,0,by rw [h1,h2]⟩
 · exact ⟨_,_,h1⟩
theorem JG (w : World) {ops : Array Oper} {rest : List Oper} {o : Oper} {a : Act} {Q : Exit -> Act -> World -> Prop} (hgd : o.guard = none) (sl x : Operand)
 (ho : o.op = .call { callee:=.builtin .append,args:=#[sl,x],argTypes:=#[55,9] }) {v : Value} {l : List UInt8} (hs : a.eval sl = v) (h : w.ownsRow 0 5 1 v l.length (l.map bv)) (d : ByteArray) (hx : a.eval x = .string d) (hz : l.length + d.size <= 140737488355328)
 (hK : ∀ v' w',w'.ownsRow 0 5 1 v' (l.length + d.data.toList.length) ((l ++ d.data.toList).map bv) -> w.grownBy w' v.ownBlock -> (∀ k,v'.ownBlock = some k -> v.ownBlock = some k \/ w.heap.size <= k) -> wpList Tryz.prog ops Q rest (a.put o.dst v') w') : wpList Tryz.prog ops Q (o :: rest) a w:=by
 refine wpList_plain hgd fun K hK' => ?_
 obtain ⟨v',w',hr,h1,h2,h3⟩:=UV o.type h d hz
 unfold Oper.wp execOp
 simp only [ho,resolve,invoke,builtin,Sem.run_bind,Sem.run_pure,Result.andThen_ok,List.map_toArray,List.map_cons,List.map_nil,hs,hx,hr]
 exact hK' _ _ (hK v' w' h1 h2 h3)
theorem AM.laid {F G : Nat -> Prop} {w wB w3 : World} {p m : Nat} {es : List (Key × Bm)} {S : Bx} (h : AM wB p m es S G) (t : Ac F w wB) (hG : ∀ k,G k -> AN F w wB k) {n : Key} {e : Bm} (hf : Am n es = some e) {v : Value} {d : List UInt8}
 (ho : w3.ownsRow 0 5 1 v (e.file.bytes.length + d.length) ((e.file.bytes ++ d).map bv)) (hg : wB.grownBy w3 e.row.ownBlock) (hv : ∀ k,v.ownBlock = some k -> e.row.ownBlock = some k \/ wB.heap.size <= k) :
 AH (w3.setCell ⟨e.blk,0,none⟩ v) p ⟨Bf n (G8 d e.file) S.files,S.fuel,S.down⟩ (AN F w (w3.setCell ⟨e.blk,0,none⟩ v)) /\ Ac F w (w3.setCell ⟨e.blk,0,none⟩ v):=by
 obtain ⟨h1,h2⟩:=h.added hf ho hg hv
 refine ⟨h1.mono fun k hk => ?_,t.trans h2 fun k hk => ?_⟩
 · rcases hk with hk | hk
   · rcases hG k hk with h3 | h3
     · exact .inl h3
     · exact .inr ⟨h3.1,by have:=h2.size; omega⟩
   · exact .inr ⟨by have:=t.size; omega,hk.2⟩
 · rcases hG k hk with h3 | h3
   · exact .inl h3
   · exact .inr h3.1
set_option maxHeartbeats 1000000 in
set_option maxRecDepth 100000 in
theorem UD {w : World} {p m : Nat} {es : List (Key × Bm)} {S : Bx} {F : Nat -> Prop} (h : AM w p m es S F) (hd : S.down = false) (s d : ByteArray) (hn : Cp s.data.toList = true) (hf : Am s.data.toList es = none) (h0 : S.fuel ≠ 0)
 (hl : es.length < 4611686018427387904) (hz : d.size <= 140737488355328) :
 Calls Tryz.prog 97 #[.pointer (some ⟨p,0,none⟩),.string s,.string d] w fun r w' => r = .returned (.int .i64 0) /\ AH w' p ⟨Bh (s.data.toList,⟨d.data.toList,0⟩) S.files,S.burnt.fuel,S.burnt.down⟩ (AN F w w') /\ Ac F w w':=by
 have hsz : s.size <= 32:=by
  have:=Lp s
  rw [hn] at this
  simpa using (of_decide_eq_true this.symm).2
 have hdn:=Df (d:=false) (by have:=h.head; rw [hd] at this; exact this)
 have hnm:=H9 s (by unfold maxLen; omega)
 rw [hn] at hnm
 have hb:=QB h h0
 have HN:=hid hn
 have HF:=hid hf
 clear hd hn hf h0
 go_enter Tryz.func97,Tryz.ntmps97
 go_wp2_with fail
 refine hdn.mono ?_
 rintro r w1 ⟨rfl,rfl⟩
 go_wp2_with fail
 refine (hnm w).mono ?_
 rintro r w1 ⟨rfl,rfl⟩
 go_wp2_with fail
 refine hb.mono ?_
 rintro r w1 ⟨rfl,h1,t1⟩
 have hlk:=h1.map.look s (by unfold maxLen; omega)
 rw [HF.out] at hlk
 have c0:=h1.head.c0
 have T1:=hid t1
 have H1:=hid h1
 clear h1 t1 hb hdn hnm
 go_upto_region 10 with (fail)
 generalize hw2 : w1.alloc (.cells #[.slice none 0 0,.int .i64 0] 87) = w2 at *
 have c2 : w2.cell? ⟨p,0,none⟩ = some (.map (some m)):=by
  rw [<- hw2,World.cell?_of_block (w:=w1) (Below.heap_alloc _ _ _ H1.out.head.lt)]; exact c0
 have HW:=hid hw2
 clear c0 hlk hw2
 have hfs : S.burnt.files = S.files:=by unfold Bx.burnt; rfl
 have HS:=hid hfs
 clear hfs
 go_region_with (go_at_call 70; refine (JB _ _ (by omega)).mono ?_; rintro e wA ⟨rfl,hA⟩; obtain ⟨cA,wB,hrun,hB,tB,cB⟩:=H1.out.newFile s (by unfold maxLen; omega) HN.out HF.out (by unfold maxLen; omega) HW.out.symm (Co hA))
 all_goals
  have fB : wB.frozen? ⟨w1.heap.size,0,none⟩ = false:=Ag (hB.mem.each _ ((Dp _ _).mem_iff.2 (List.mem_cons_self))).1.head 0
  have hdB : C5 wB p m S.burnt.fuel S.burnt.down:=hB.head
  have LB:=hid (show w1.heap.size < wB.heap.size from (hB.mem.each _ ((Dp _ _).mem_iff.2 (List.mem_cons_self))).1.lt)
  have HB:=hid hB
  have TB:=hid tB
  clear hB tB hA cA hrun hdB c2
  have hnr : wB.ownsRow 0 5 1 (.slice none 0 0) ([] : List UInt8).length (([] : List UInt8).map bv):=World.ownsRow_nil _ _ _ _
  have hz2 : ([] : List UInt8).length + d.size <= 140737488355328:=by simpa using hz
  go_wp2_with (at_builtin; refine JG _ rfl (.tmp 37) (.tmp 38) rfl rfl hnr d rfl hz2 ?_)
  intro v' w3 ho hg hv
  have c3 : w3.cell? ⟨w1.heap.size,0,none⟩ = some (.slice none 0 0):=hg.cell cB (by simp [Value.ownBlock])
  have f3 : w3.frozen? ⟨w1.heap.size,0,none⟩ = false:=(World.frozen?_of_block (w:=wB) (hg.block _ LB.out (by simp [Value.ownBlock]))).trans fB
  have HL:=hid (HB.out.laid (T1.out.toF h.fp |>.trans TB.out (fun k hk => .inl hk)) (fun k hk => by
   rcases hk with hk | hk
   · exact .inl hk
   · exact .inr ⟨by have:=T1.out.size; omega,hk.2⟩) (n:=s.data.toList) (e:=⟨⟨[],0⟩,w1.heap.size,.slice none 0 0⟩) (by rw [J3 HF.out,if_pos rfl]) (d:=d.data.toList) (v:=v') (by simpa using ho) hg hv)
  obtain ⟨a3,k3,rfl⟩:=CK ho
  clear ho hg hv cB fB
  go_wp2
  go_ret
  have hL:=HL.out
  rw [HS.out] at hL
  have hup : Bf s.data.toList (G8 d.data.toList ⟨[],0⟩) (Bh (s.data.toList,(⟨[],0⟩ : Ae)) S.files) = Bh (s.data.toList,⟨d.data.toList,0⟩) S.files:=VN (by rw [h.files,BP,HF.out]; rfl)
  rw [hup] at hL
  exact ⟨rfl,hL.1,hL.2⟩
set_option maxHeartbeats 1000000 in
set_option maxRecDepth 100000 in
theorem UE {w : World} {p m : Nat} {es : List (Key × Bm)} {S : Bx} {F : Nat -> Prop} (h : AM w p m es S F) (hd : S.down = false) (s d : ByteArray) (hn : Cp s.data.toList = true) {e : Bm} (hf : Am s.data.toList es = some e) (h0 : S.fuel ≠ 0)
 (hz : e.file.bytes.length + d.size <= 140737488355328) :
 Calls Tryz.prog 97 #[.pointer (some ⟨p,0,none⟩),.string s,.string d] w fun r w' => r = .returned (.int .i64 0) /\ AH w' p ⟨Bf s.data.toList (G8 d.data.toList e.file) S.files,S.burnt.fuel,S.burnt.down⟩ (AN F w w') /\ Ac F w w':=by
 have hsz : s.size <= 32:=by
  have:=Lp s
  rw [hn] at this
  simpa using (of_decide_eq_true this.symm).2
 have hdn:=Df (d:=false) (by have:=h.head; rw [hd] at this; exact this)
 have hnm:=H9 s (by unfold maxLen; omega)
 rw [hn] at hnm
 have hb:=QB h h0
 have HF:=hid hf
 have hfs : S.burnt.files = S.files:=by unfold Bx.burnt; rfl
 have HS:=hid hfs
 clear hd hn hf h0 hfs
 go_enter Tryz.func97,Tryz.ntmps97
 go_wp2_with fail
 refine hdn.mono ?_
 rintro r w1 ⟨rfl,rfl⟩
 go_wp2_with fail
 refine (hnm w).mono ?_
 rintro r w1 ⟨rfl,rfl⟩
 go_wp2_with fail
 refine hb.mono ?_
 rintro r w1 ⟨rfl,h1,t1⟩
 have hlk:=h1.map.look s (by unfold maxLen; omega)
 rw [HF.out] at hlk
 have c0:=h1.head.c0
 obtain ⟨hfa,_⟩:=h1.mem.each _ (CB HF.out)
 have cB : w1.cell? ⟨e.blk,0,none⟩ = some e.row:=by rw [Ab hfa.head]; rfl
 have fB:=Ag hfa.head 0
 have LB:=hid hfa.lt
 have hrow:=hfa.row
 have HNR:=hid (show ∀ k,e.row.ownBlock = some k -> e.blk ≠ k from fun k hk => hfa.blkNotRow hfa hk)
 have T1:=hid t1
 have H1:=hid h1
 clear h1 t1 hb hdn hnm hfa
 go_wp2_with (at_builtin; refine JG _ rfl (.tmp 37) (.tmp 38) rfl rfl hrow d rfl hz ?_)
 intro v' w3 ho hg hv
 have hne : some e.blk ≠ e.row.ownBlock:=fun h => HNR.out _ h.symm rfl
 have c3 : w3.cell? ⟨e.blk,0,none⟩ = some e.row:=hg.cell cB hne
 have f3 : w3.frozen? ⟨e.blk,0,none⟩ = false:=(World.frozen?_of_block (w:=w1) (hg.block _ LB.out hne)).trans fB
 have HL:=hid (H1.out.laid (T1.out.toF h.fp) (fun k hk => .inl hk) HF.out (d:=d.data.toList) (v:=v') (by simpa using ho) hg hv)
 obtain ⟨a3,k3,rfl⟩:=CK ho
 clear ho hg hv cB fB hrow hlk c0 hne
 go_wp2
 go_ret
 have hL:=HL.out
 rw [HS.out] at hL
 exact ⟨rfl,hL.1,hL.2⟩
theorem PV {n : Key} {f : Ae} {l : List (Key × Ae)} (h : Am n l = some f) : f.bytes.length <= weigh l:=by
 induction l with
 | nil => cases h
 | cons y r ih =>
   rw [BO] at h
   unfold weigh
   rw [List.map_cons,List.sum_cons]
   split at h
   · injection h with h
     subst h
     omega
   · have:=ih h
     unfold weigh at this
     omega
theorem Fp (l : List (Key × Ae)) : l.length <= weigh l:=by
 induction l with
 | nil => simp [weigh]
 | cons y r ih =>
   unfold weigh at *
   rw [List.map_cons,List.sum_cons,List.length_cons]
   omega
set_option maxHeartbeats 400000 in
set_option maxRecDepth 100000 in
theorem Kp {w : World} {p : Nat} {S : Bx} {F : Nat -> Prop} (h : AH w p S F) (s d : ByteArray) (hs : s.size <= maxLen) (hz : weigh S.files + d.size <= 140737488355328) :
 Calls Tryz.prog 97 #[.pointer (some ⟨p,0,none⟩),.string s,.string d] w fun r w' => r = .returned (.int .i64 (S.append s.data.toList d.data.toList).2) /\ AH w' p (S.append s.data.toList d.data.toList).1 (AN F w w') /\ Ac F w w':=by
 obtain ⟨m,es,h⟩:=h
 have hle : es.length <= weigh S.files:=by
  have:=Fp S.files
  rwa [h.files,Dn,<- h.files] at this
 by_cases hd : S.down = true
 · rw [Bx.append_down hd]
   have hdn:=Df (d:=true) (by have:=h.head; rw [hd] at this; exact this)
   have H:=hid h
   clear hd h
   go_enter Tryz.func97,Tryz.ntmps97
   go_wp2_with fail
   refine hdn.mono ?_
   rintro r w1 ⟨rfl,rfl⟩
   go_wp2
   go_ret
   exact ⟨rfl,AH.mono ⟨m,es,H.out⟩ (fun k hk => .inl hk),Ac.refl _ _⟩
 · have hd' : S.down = false:=by simpa using hd
   have hdn:=Df (d:=false) (by have:=h.head; rw [hd'] at this; exact this)
   by_cases hn : Cp s.data.toList = true
   · rw [Bx.append_ok hd' hn]
     by_cases h0 : S.fuel = 0
     · rw [Bx.change_no h0]
       have hnm:=H9 s hs
       rw [hn] at hnm
       have hb:=V7 h h0
       have hfp:=h.fp
       clear hd hd' hn h0 h
       go_enter Tryz.func97,Tryz.ntmps97
       go_wp2_with fail
       refine hdn.mono ?_
       rintro r w1 ⟨rfl,rfl⟩
       go_wp2_with fail
       refine (hnm w).mono ?_
       rintro r w1 ⟨rfl,rfl⟩
       go_wp2_with fail
       refine hb.mono ?_
       rintro r w1 ⟨rfl,h1,t1⟩
       go_wp2
       go_ret
       exact ⟨rfl,AH.mono ⟨m,es,h1⟩ (fun k hk => .inl hk),t1.toF hfp⟩
     · rw [Bx.change_yes h0]
       cases hf : Am s.data.toList es with
       | none =>
         have e : Eq s.data.toList d.data.toList S.files = Bh (s.data.toList,⟨d.data.toList,0⟩) S.files:=by unfold Eq; rw [h.files,BP,hf]; rfl
         rw [e]
         exact UD h hd' s d hn hf h0 (by omega) (by omega)
       | some e0 =>
         have hf2 : Am s.data.toList S.files = some e0.file:=by rw [h.files,BP,hf]; rfl
         have e : Eq s.data.toList d.data.toList S.files = Bf s.data.toList (G8 d.data.toList e0.file) S.files:=by unfold Eq; rw [hf2]
         rw [e]
         have:=PV hf2
         exact UE h hd' s d hn hf h0 (by omega)
   · have hn' : Cp s.data.toList = false:=by simpa using hn
     rw [Bx.append_bad hd' hn']
     have hnm:=H9 s hs
     rw [hn'] at hnm
     have H:=hid h
     clear hd hd' hn hn' h
     go_enter Tryz.func97,Tryz.ntmps97
     go_wp2_with fail
     refine hdn.mono ?_
     rintro r w1 ⟨rfl,rfl⟩
     go_wp2_with fail
     refine (hnm w).mono ?_
     rintro r w1 ⟨rfl,rfl⟩
     go_wp2
     go_ret
     exact ⟨rfl,AH.mono ⟨m,es,H.out⟩ (fun k hk => .inl hk),Ac.refl _ _⟩
end
section
open Go.RowKit Go.Maps Go.WideMaps Go.Sort Go.Shelf
theorem YI {α : Type} (l : List (Key × α)) : (l.map (·.1)).map encStr = l.map fun x => tx x.1:=by
 rw [List.map_map]; rfl
set_option maxHeartbeats 1000000 in
set_option maxRecDepth 100000 in
theorem Pv {w : World} {p m : Nat} {es : List (Key × Bm)} {S : Bx} {F : Nat -> Prop} (h : AM w p m es S F) (hl : es.length <= 8796093022208) :
 Calls Tryz.prog 40 #[.pointer (some ⟨p,0,none⟩)] w fun e w' => ∃ v,e = .returned v /\ w'.ownsRow w.heap.size 9 1 v es.length (es.map fun x => tx x.1) /\ Below w.heap.size w w':=by
 have c0:=h.head.c0
 have hown:=h.map
 unfold IJ at hown
 have hsz : Maps.size (toD (EX Bm.blk es)) = es.length:=by rw [RX,Dn]
 have hmax : Maps.size (toD (EX Bm.blk es)) <= maxLen:=by rw [hsz]; unfold maxLen; omega
 have hbytes : Maps.size (toD (EX Bm.blk es)) * 16 <= 140737488355328:=by rw [hsz]; omega
 have hris:=h.rising
 have H:=hid hris
 clear hris hsz h
 refine (callsIn_wide (n:=6)).1 ?_
 have hfK : Fence.wide.fn 68:=trivial
 have hfS : Fence.wide.fn 67:=trivial
 refine callsIn_of_wp Tryz.func40 rfl trivial ?_ rfl
 simp only [Tryz.ntmps40,List.size_toArray,List.length_cons,List.length_nil,Nat.reduceAdd,Nat.reduceSub,Array.replicate_succ,Array.replicate_zero,List.push_toArray,List.append_toArray,List.nil_append,List.cons_append]
 gi_wp2_with (first
  | (gi_at_call 68; refine (Sh.maps_Keys_68 _ _).mono ?_; rintro e w' ⟨rfl,rfl⟩)
  | (gi_at_call 67; refine (Sh.slices_Sorted_keys_67_68 m _ _ Qw w hown hmax hbytes).mono ?_; rintro e w' ⟨v,ss,rfl,hS,hrow,hnil,hb⟩))
 go_ret
 rw [Z9,XY] at hS
 rw [QR H.out hS,YI] at hrow
 have hlen : ss.length = es.length:=by have:=hS.length_eq; simpa using this
 rw [hlen] at hrow
 exact ⟨v,rfl,ownsRow_base_a hrow (by simp),((Below.refl _ w).alloc (Nat.le_refl _) _).trans (hb.mono (by simp))⟩
set_option maxHeartbeats 400000 in
set_option maxRecDepth 100000 in
theorem Oq {w : World} {p : Nat} {S : Bx} {F : Nat -> Prop} (h : AH w p S F) (hl : S.files.length <= 8796093022208) :
 Calls Tryz.prog 43 #[.pointer (some ⟨p,0,none⟩)] w fun r w' => ∃ v,r = .returned (.tuple #[v,.int .i64 (if S.down then 30 else 0)]) /\ w'.ownsRow w.heap.size 9 1 v (if S.down then 0 else S.files.length) (if S.down then [] else S.files.map fun x => tx x.1) /\ Below w.heap.size w w':=by
 obtain ⟨m,es,h⟩:=h
 by_cases hd : S.down = true
 · rw [if_pos hd,if_pos hd,if_pos hd]
   have hdn:=Df (d:=true) (by have:=h.head; rw [hd] at this; exact this)
   clear hd h
   go_enter Tryz.func43,Tryz.ntmps43
   go_wp2_with fail
   refine hdn.mono ?_
   rintro r w1 ⟨rfl,rfl⟩
   go_wp2
   go_ret2
   exact ⟨_,rfl,World.ownsRow_nil _ _ _ _,Below.refl _ _⟩
 · rw [if_neg hd,if_neg hd,if_neg hd]
   have hd' : S.down = false:=by simpa using hd
   have hdn:=Df (d:=false) (by have:=h.head; rw [hd'] at this; exact this)
   rw [h.files,Dn] at hl
   have hnm:=Pv h hl
   have hk : (S.files.map fun x => tx x.1) = es.map fun x => tx x.1:=by rw [h.files]; simp [EX]
   have hk2 : S.files.length = es.length:=by rw [h.files,Dn]
   rw [hk,hk2]
   clear hd hd' h hk hk2
   go_enter Tryz.func43,Tryz.ntmps43
   go_wp2_with fail
   refine hdn.mono ?_
   rintro r w1 ⟨rfl,rfl⟩
   go_wp2_with fail
   refine hnm.mono ?_
   rintro r w1 ⟨v,rfl,ho,hb⟩
   go_wp2
   go_ret2
   exact ⟨v,rfl,ho,hb⟩
end
end Go.Proofs.YtnafjlhohbhcoaaGreatDoor
