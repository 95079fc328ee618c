/- Parts of the proof. -/
import Derived.Test.YtnafjlhohbhcoaaGreatDoorChecked
import Derived.Test.YtnafjlhohbhcoaaGreatDoorQ02
import Derived.Laws.IdiomStrings
import Derived.Outline
import Derived.WalkSmall
import Derived.OneCell
import Derived.Lib.AppendStr
import Derived.Maps.AppendAt
import Derived.RegionTactic
namespace Go.Proofs.YtnafjlhohbhcoaaGreatDoor
set_option linter.unusedVariables false
section
open Go.RowKit Go.Maps Go.WideMaps
structure Ac (F : Nat -> Prop) (w w' : World) : Prop where
 os : w'.os = w.os
 tape : w'.tape = w.tape
 output : w'.output = w.output
 size : w.heap.size <= w'.heap.size
 block : ∀ k,k < w.heap.size -> ¬ F k -> w'.heap[k]? = w.heap[k]?
section
variable {F G : Nat -> Prop} {a b c w w' : World} {B : Nat}
theorem Ac.refl (F : Nat -> Prop) (w : World) : Ac F w w:=⟨rfl,rfl,rfl,Nat.le_refl _,fun _ _ _ => rfl⟩
theorem Ac.trans (h : Ac F a b) (k : Ac G b c) (hg : ∀ i,G i -> F i \/ a.heap.size <= i) : Ac F a c:=
 ⟨k.os.trans h.os,k.tape.trans h.tape,k.output.trans h.output,Nat.le_trans h.size k.size,fun i hi hf =>
   (k.block i (Nat.lt_of_lt_of_le hi h.size) (fun g => by rcases hg i g with h1 | h1; exact hf h1; omega)).trans (h.block i hi hf)⟩
theorem Ac.mono (h : Ac F a b) (hg : ∀ i,F i -> G i \/ a.heap.size <= i) : Ac G a b:=
 ⟨h.os,h.tape,h.output,h.size,fun i hi hf => h.block i hi (fun g => by rcases hg i g with h1 | h1; exact hf h1; omega)⟩
theorem Ac.of_below (F : Nat -> Prop) (h : Below a.heap.size a b) : Ac F a b:=⟨h.os,h.tape,h.output,h.size,fun i hi _ => h.block i hi⟩
theorem Ac.below (h : Ac F a b) (hF : ∀ i,F i -> B <= i) (hB : B <= a.heap.size) : Below B a b:=
 ⟨h.os,h.tape,h.output,h.size,fun i hi => h.block i (by omega) (fun g => by have:=hF i g; omega)⟩
theorem Ac.drew (h : Ac F a w) : Ac F a w.drew:=⟨h.os,h.tape,h.output,h.size,h.block⟩
theorem Ac.alloc (h : Ac F a w) (o : Obj) : Ac F a (w.alloc o):=
 ⟨h.os,h.tape,h.output,by have:=h.size; simp; omega,fun i hi hf => (Below.heap_alloc _ _ _ (by have:=h.size; omega)).trans (h.block i hi hf)⟩
theorem Ac.setCell (h : Ac F a w) {p : Addr} (hp : F p.block \/ a.heap.size <= p.block) (v : Value) : Ac F a (w.setCell p v):=
 ⟨h.os,h.tape,h.output,by have:=h.size; simpa [World.setCell] using this,fun i hi hf => (Below.heap_setCell _ _ _ _ (fun e => by subst e; rcases hp with h1 | h1; exact hf h1; omega)).trans (h.block i hi hf)⟩
theorem Ac.grown (h : Ac F a w) {row : Option Nat} (hg : w.grownBy w' row) (hr : ∀ k,row = some k -> F k \/ a.heap.size <= k) : Ac F a w':=
 ⟨hg.os.trans h.os,hg.tape.trans h.tape,hg.output.trans h.output,Nat.le_trans h.size hg.size,fun i hi hf =>
   (hg.block i (by have:=h.size; omega) (fun e => by rcases hr i e.symm with h1 | h1; exact hf h1; omega)).trans (h.block i hi hf)⟩
theorem Co {w w' : World} (h : Below w.drew.heap.size w.drew w') : Below w.heap.size w w':=⟨h.os,h.tape,h.output,h.size,h.block⟩
theorem Ad {w : World} {k : Nat} {o : Obj} (h : w.heap[k]? = some o) : k < w.heap.size:=lt_of_block h
theorem Ac.keeps (h : Ac G w w') {k : Nat} {o : Obj} (hk : w.heap[k]? = some o) (hg : ¬ G k) : w'.heap[k]? = some o:=(h.block k (Ad hk) hg).trans hk
theorem Ac.row (h : Ac G w w') {base : Nat} {e : TypeId} {size : Nat} {v : Value} {n : Nat} {xs : List Value} (hr : w.ownsRow base e size v n xs) (hg : ∀ k,v.ownBlock = some k -> ¬ G k) : w'.ownsRow base e size v n xs:=by
 refine ⟨hr.1,?_⟩
 rcases hr.2 with h1 | ⟨g,cap,cur,hv,hb,hgg,rest⟩
 · exact .inl h1
 · subst hv
   exact .inr ⟨g,cap,cur,rfl,hb,h.keeps hgg (hg g rfl),rest⟩
theorem Ac.map (h : Ac G w w') {P : Program} {k : TypeId} {R : Value -> Option (DU × List MemPlace)} {b n : Nat} {D : DU} (hm : w.ownsMap P k R b n D) (hg : ¬ G b) : w'.ownsMap P k R b n D:=by
 obtain ⟨es,clock,hb,r⟩:=hm
 exact ⟨es,clock,h.keeps hb hg,r⟩
end
theorem block_set {w : World} {b : Nat} {c : Array Value} {t : TypeId} {f : Nat × Nat} (h : w.heap[b]? = some (.cells c t f)) (i : Nat) (v : Value) : (w.setCell ⟨b,i,none⟩ v).heap[b]? = some (.cells (c.setIfInBounds i v) t f):=by
 have hlt:=Ad h
 have h' : w.heap[b] = .cells c t f:=by simpa [Array.getElem?_eq_getElem hlt] using h
 show (w.heap.modify b _)[b]? = _
 rw [Array.getElem?_eq_getElem (by simpa using hlt),Array.getElem_modify_self,h']
 rfl
theorem Ab {w : World} {b : Nat} {c : Array Value} {t : TypeId} {f : Nat × Nat} (h : w.heap[b]? = some (.cells c t f)) (i : Nat) : w.cell? ⟨b,i,none⟩ = c[i]?:=by simp [World.cell?,h]
theorem Ag {w : World} {b : Nat} {c : Array Value} {t : TypeId} (h : w.heap[b]? = some (.cells c t (0,0))) (i : Nat) : w.frozen? ⟨b,i,none⟩ = false:=by simp [World.frozen?,h]
end
section
open Go.RowKit Go.Maps Go.WideMaps
structure IC (w : World) (x : Value) (m sz : Nat) (news : List Value) : Prop where
 len : news.length = m * sz
 one : ∀ u ∈ news,u.oneCell' = true
 row : (x = .slice none 0 0 /\ m = 0) \/ ∃ ad c,x = .slice (some ad) m c /\ ∀ j u,news[j]? = some u -> w.cell? (ad.add j) = some u
abbrev NoF : Nat -> Prop:=fun _ => False
section
variable {T E : TypeId} {sz : Nat} {w : World} {v : Value} {n : Nat} {xs : List Value}
theorem Aah (ht : Tryz.prog.underlying T = some (.slice (Tryz.prog.elem T))) (hs : ∀ w,(sizeOf (Tryz.prog.elem T)).run Tryz.prog w = .ok sz w) (h : w.ownsRow 0 E sz v n xs) (h1 : ∀ u ∈ xs,u.oneCell' = true) {k : Nat} (hk : k <= n) :
 ∃ x,(∀ wx,(Instr.slice T v none (some (.int .i64 (k : Int))) none).run Tryz.prog wx = .ok x wx) /\ ∀ wx,Ac NoF w wx -> IC wx x k sz (xs.take (k * sz)):=by
 have hl:=h.1
 have hkn : k * sz <= n * sz:=Nat.mul_le_mul_right _ hk
 rcases h.2 with ⟨rfl,h0⟩ | ⟨g,cap,cur,rfl,_,hg,hle,hcm,_,htake⟩
 · obtain rfl : k = 0:=by omega
   refine ⟨.slice none 0 0,fun wx => ?_,fun wx t => ⟨by simp,by simp,.inl ⟨rfl,rfl⟩⟩⟩
   have:=run_slice_h (P:=Tryz.prog) (w:=wx) T none 0 0 ht .i64 0 (by omega) (by omega)
   rw [hs] at this
   exact this
 · refine ⟨.slice (some ⟨g,0,none⟩) k cap,fun wx => ?_,fun wx t => ⟨by rw [List.length_take]; omega,fun u hu => h1 u (List.mem_of_mem_take hu),.inr ⟨⟨g,0,none⟩,cap,rfl,fun j u hu => ?_⟩⟩⟩
   · have:=run_slice_h (P:=Tryz.prog) (w:=wx) T (some ⟨g,0,none⟩) n cap ht .i64 (k : Int) (by omega) (by omega)
     rw [hs] at this
     rw [this]
     show Result.ok (sliced (some ⟨g,0,none⟩) 0 ((k : Int).toNat) cap sz) wx = _
     unfold sliced
     simp [Addr.add]
   · have hj : j < k * sz:=by
       have:=(List.getElem?_eq_some_iff.1 hu).1
       rw [List.length_take] at this; omega
     rw [Addr.add_lit,Nat.zero_add]
     rw [List.getElem?_take,if_pos hj] at hu
     have hc : w.cell? ⟨g,j,none⟩ = some u:=(h.cellAt j (by omega)).trans hu
     exact (World.cell?_of_block (w:=w) (t.block g (World.block_lt_of_cell? _ _ hc) (fun h => h))).trans hc
theorem Zt (ht : Tryz.prog.underlying T = some (.slice (Tryz.prog.elem T))) (hs : ∀ w,(sizeOf (Tryz.prog.elem T)).run Tryz.prog w = .ok sz w) (h : w.ownsRow 0 E sz v n xs) (h1 : ∀ u ∈ xs,u.oneCell' = true) {k : Nat} (hk : k <= n) :
 ∃ x,(∀ wx,(Instr.slice T v (some (.int .i64 (k : Int))) none none).run Tryz.prog wx = .ok x wx) /\ ∀ wx,Ac NoF w wx -> IC wx x (n - k) sz (xs.drop (k * sz)):=by
 have hl:=h.1
 have hkn : k * sz <= n * sz:=Nat.mul_le_mul_right _ hk
 rcases h.2 with ⟨rfl,h0⟩ | ⟨g,cap,cur,rfl,_,hg,hle,hcm,_,htake⟩
 · subst h0
   obtain rfl : k = 0:=by omega
   refine ⟨.slice none 0 0,fun wx => ?_,fun wx t => ⟨by simp at hl; simp [hl],fun u hu => h1 u (List.mem_of_mem_drop hu),.inl ⟨rfl,rfl⟩⟩⟩
   have:=run_slice_l (P:=Tryz.prog) (w:=wx) T none 0 0 ht .i64 0 (by omega) (by omega)
   rw [hs] at this
   exact this
 · refine ⟨.slice (if cap = k then some ⟨g,0,none⟩ else some ⟨g,k * sz,none⟩) (n - k) (cap - k),fun wx => ?_,fun wx t => ⟨by rw [List.length_drop,hl,Nat.sub_mul],fun u hu => h1 u (List.mem_of_mem_drop hu),.inr ?_⟩⟩
   · have:=run_slice_l (P:=Tryz.prog) (w:=wx) T (some ⟨g,0,none⟩) n cap ht .i64 (k : Int) (by omega) (by omega)
     rw [hs] at this
     rw [this]
     show Result.ok (sliced (some ⟨g,0,none⟩) ((k : Int).toNat) n cap sz) wx = _
     have e : (if k * sz = 0 then (⟨g,0,none⟩ : Addr) else ⟨g,k * sz,none⟩) = ⟨g,k * sz,none⟩:=by
      split
      · rename_i h; rw [h]
      · rfl
     unfold sliced
     simp [Addr.add,e]
   · by_cases hc : cap = k
     · rw [if_pos hc]
       refine ⟨_,_,rfl,fun j u hu => ?_⟩
       have:=(List.getElem?_eq_some_iff.1 hu).1
       rw [List.length_drop,hl,<- Nat.sub_mul,show n - k = 0 by omega] at this
       omega
     · rw [if_neg hc]
       refine ⟨_,_,rfl,fun j u hu => ?_⟩
       have hj : j < (n - k) * sz:=by
        have:=(List.getElem?_eq_some_iff.1 hu).1
        rw [List.length_drop,hl,<- Nat.sub_mul] at this; omega
       have hjk : k * sz + j < n * sz:=by rw [Nat.sub_mul] at hj; omega
       rw [Addr.add_lit]
       rw [List.getElem?_drop] at hu
       have hc : w.cell? ⟨g,k * sz + j,none⟩ = some u:=(h.cellAt _ hjk).trans hu
       exact (World.cell?_of_block (w:=w) (t.block g (World.block_lt_of_cell? _ _ hc) (fun h => h))).trans hc
theorem K8 (w : World) (cs : Array Value) (E : TypeId) (hsz : cs.size = sz) (h1 : ∀ u ∈ cs.toList,u.oneCell' = true) : IC (w.alloc (.cells cs E)) (.slice (some ⟨w.heap.size,0,none⟩) 1 1) 1 sz cs.toList:=
 ⟨by simp [hsz],h1,.inr ⟨_,_,rfl,fun j u hu => by
   rw [Addr.add_lit,Nat.zero_add,Ab (heap_alloc_new _ _),<- Array.getElem?_toList]; exact hu⟩⟩
end
theorem V1 (w : World) {T E : TypeId} (ty : TypeId) {i : TypeInfo} {z : Value} {sz bytes : Nat} (ht : Tryz.prog.underlying T = some (.slice E)) (hi : Tryz.prog.info? E = some i) (hz : i.zero = some z) (hsize : i.size = sz) (hby : i.bytes = bytes) (hzs : z.cells.size = sz) (hsz : 0 < sz)
 {v : Value} {n : Nat} {xs : List Value} (hown : w.ownsRow 0 E sz v n xs) {x : Value} {m : Nat} {news : List Value} (hx : IC w x m sz news) (hb : (n + m) * bytes <= 140737488355328) (h63 : n + m <= maxLen) :
 ∃ v' w',(Builtin.append_ #[T,T] ty #[v,x]).run Tryz.prog w = .ok v' w' /\ w'.ownsRow 0 E sz v' (n + m) (xs ++ news) /\ w.grownBy w' v.ownBlock /\ ∀ k,v'.ownBlock = some k -> v.ownBlock = some k \/ w.heap.size <= k:=by
 rcases hx.row with ⟨rfl,rfl⟩ | ⟨ad,c,rfl,hc⟩
 · have hr:=run_append_owned_none (P:=Tryz.prog) (w:=w) 0 T ty E i sz ht hi v n xs hown
   have hn : news = []:=List.eq_nil_of_length_eq_zero (by rw [hx.len]; simp)
   subst hn
   exact ⟨v,w,hr,by simpa using hown,⟨rfl,rfl,rfl,Nat.le_refl _,fun _ _ _ => rfl⟩,fun k hk => .inl hk⟩
 · obtain ⟨v',w',hr,h2,h3,_,h5⟩:=run_append_own_at (P:=Tryz.prog) w 0 T ty E i z sz bytes ht hi hz hsize hby hzs hsz v n xs hown ad m c news hx.len hc hx.one h63 hb (Nat.zero_le _)
   refine ⟨v',w',hr,h2,h3,fun k hk => ?_⟩
   rcases h5 with h5 | h5
   · exact .inl (h5 ▸ hk)
   · rw [h5] at hk
     injection hk with hk
     exact .inr (by omega)
theorem Bp (w : World) {ops : Array Oper} {rest : List Oper} {o : Oper} {a : Act} {Q : Exit -> Act -> World -> Prop} (hgd : o.guard = none) (sl x : Operand) {T E : TypeId}
 (ho : o.op = .call { callee:=.builtin .append,args:=#[sl,x],argTypes:=#[T,T] }) {i : TypeInfo} {z : Value} {sz bytes : Nat} (ht : Tryz.prog.underlying T = some (.slice E)) (hi : Tryz.prog.info? E = some i) (hz : i.zero = some z) (hsize : i.size = sz) (hby : i.bytes = bytes) (hzs : z.cells.size = sz) (hsz : 0 < sz)
 {v : Value} {n : Nat} {xs : List Value} (hs : a.eval sl = v) (hown : w.ownsRow 0 E sz v n xs) {xv : Value} {m : Nat} {news : List Value} (hx : a.eval x = xv) (hsrc : IC w xv m sz news) (hb : (n + m) * bytes <= 140737488355328) (h63 : n + m <= maxLen)
 (hK : ∀ v' w',w'.ownsRow 0 E sz v' (n + m) (xs ++ news) -> w.grownBy w' v.ownBlock -> (∀ k,v'.ownBlock = some k -> v.ownBlock = some k \/ w.heap.size <= k) -> wpList Tryz.prog ops Q rest (a.put o.dst v') w') : wpList Tryz.prog ops Q (o :: rest) a w:=by
 refine wpList_plain hgd fun K hK' => ?_
 obtain ⟨v',w',hr,h1,h2,h3⟩:=V1 w o.type ht hi hz hsize hby hzs hsz hown hsrc hb h63
 unfold Oper.wp execOp
 simp only [ho,resolve,invoke,builtin,Sem.run_bind,Sem.run_pure,Result.andThen_ok,List.map_toArray,List.map_cons,List.map_nil,hs,hx,hr]
 exact hK' _ _ (hK v' w' h1 h2 h3)
theorem Yz (w : World) {ops : Array Oper} {o : Oper} {a : Act} {K : Act -> World -> Prop} {Q : Exit -> Act -> World -> Prop} {Z : Prop} (hgd : o.guard = none) (sl x : Operand) {T E : TypeId}
 (ho : o.op = .call { callee:=.builtin .append,args:=#[sl,x],argTypes:=#[T,T] }) {i : TypeInfo} {z : Value} {sz bytes : Nat} (ht : Tryz.prog.underlying T = some (.slice E)) (hi : Tryz.prog.info? E = some i) (hz : i.zero = some z) (hsize : i.size = sz) (hby : i.bytes = bytes) (hzs : z.cells.size = sz) (hsz : 0 < sz)
 {v : Value} {n : Nat} {xs : List Value} (hs : a.eval sl = v) (hown : w.ownsRow 0 E sz v n xs) {xv : Value} {m : Nat} {news : List Value} (hx : a.eval x = xv) (hsrc : IC w xv m sz news) (hb : (n + m) * bytes <= 140737488355328) (h63 : n + m <= maxLen)
 (hK : ∀ b c w',w'.ownsRow 0 E sz (.slice b (n + m) c) (n + m) (xs ++ news) -> w.grownBy w' v.ownBlock -> (∀ k,(Value.slice b (n + m) c).ownBlock = some k -> v.ownBlock = some k \/ w.heap.size <= k) -> K (a.put o.dst (.slice b (n + m) c)) w') :
 if Region.wanted o (yielded ops a.tmps) = true then Oper.wp Tryz.prog o a w K Q else Z:=by
 have hw : Region.wanted o (yielded ops a.tmps) = true:=by simp [Region.wanted,hgd]
 rw [if_pos hw]
 obtain ⟨v',w',hr,h1,h2,h3⟩:=V1 w o.type ht hi hz hsize hby hzs hsz hown hsrc hb h63
 obtain ⟨b,c,rfl⟩ : ∃ b c,v' = .slice b (n + m) c:=by
  rcases h1.2 with ⟨e1,e2⟩ | ⟨g,cap,cur,e1,_⟩
  · exact ⟨none,0,by rw [e1,e2]⟩
  · exact ⟨_,_,e1⟩
 unfold Oper.wp execOp
 simp only [ho,resolve,invoke,builtin,Sem.run_bind,Sem.run_pure,Result.andThen_ok,List.map_toArray,List.map_cons,List.map_nil,hs,hx,hr]
 exact hK b c w' h1 h2 h3
theorem V4 {w : World} {base : Nat} {E : TypeId} {sz : Nat} {v : Value} {n : Nat} {xs : List Value} (h : w.ownsRow base E sz v n xs) (h1 : ∀ u ∈ xs,u.oneCell' = true) : IC w v n sz xs:=by
 refine ⟨h.1,h1,?_⟩
 rcases h.2 with ⟨rfl,h0⟩ | ⟨g,cap,cur,rfl,_⟩
 · exact .inl ⟨rfl,h0⟩
 · refine .inr ⟨⟨g,0,none⟩,cap,rfl,fun j u hu => ?_⟩
   have hj:=(List.getElem?_eq_some_iff.1 hu).1
   rw [Addr.add_lit,Nat.zero_add]
   exact (h.cellAt j (by rw [<- h.1]; exact hj)).trans hu
theorem JW {w : World} {base base' : Nat} {E : TypeId} {sz : Nat} {v : Value} {n : Nat} {xs : List Value} (h : w.ownsRow base E sz v n xs) (hb : ∀ k,v.ownBlock = some k -> base' <= k) : w.ownsRow base' E sz v n xs:=by
 refine ⟨h.1,?_⟩
 rcases h.2 with h1 | ⟨g,cap,cur,rfl,h2,h3⟩
 · exact .inl h1
 · exact .inr ⟨g,cap,cur,rfl,hb g rfl,h3⟩
theorem Au {w : World} {base base' : Nat} {e : TypeId} {size : Nat} {v : Value} {n : Nat} {xs : List Value} (h : w.ownsRow base e size v n xs) (hb : base' <= base) : w.ownsRow base' e size v n xs:=by
 refine ⟨h.1,?_⟩
 rcases h.2 with h1 | ⟨g,cap,cur,h1,h2,h3⟩
 · exact .inl h1
 · exact .inr ⟨g,cap,cur,h1,Nat.le_trans hb h2,h3⟩
end
end Go.Proofs.YtnafjlhohbhcoaaGreatDoor
