/- Parts of the proof. -/
import Derived.Test.YtlkefgngefpkiaaGreatDoorQ40
namespace Go.Proofs.YtlkefgngefpkiaaGreatDoor
set_option linter.unusedVariables false
open Go.RowKit
structure Gt where
 kind : Int
 bv : Value
 batch : List Aa
 key : ByteArray
 tu : ByteArray
 most : Int
 keep : Value
 ks : List Int
structure KP (w : World) (c : Gt) : Prop where
 read : Ao w c.bv c.batch
 kind : (Lit.int .i64 c.kind).wf = true
 key : c.key.size <= 281474976710656
 most : (Lit.int .i64 c.most).wf = true
 ks : Cm (fun k => w.heap.size <= k) w c.keep c.ks
def JS (w : World) (x : Value) (cs : List Gt) : Prop:=
 cs.length <= 9223372036854775807 /\ ∃ a c,x = .slice a cs.length c /\ (cs = [] \/ ∃ b o,a = some ⟨b,o,none⟩ /\ ∀ i (h : i < cs.length),
  w.cell? ⟨b,o + i * 6,none⟩ = some (.int .i64 cs[i].kind) /\ w.cell? ⟨b,o + i * 6 + 1,none⟩ = some cs[i].bv /\ w.cell? ⟨b,o + i * 6 + 2,none⟩ = some (.string cs[i].key) /\ w.cell? ⟨b,o + i * 6 + 3,none⟩ = some (.string cs[i].tu) /\
  w.cell? ⟨b,o + i * 6 + 4,none⟩ = some (.int .i64 cs[i].most) /\ w.cell? ⟨b,o + i * 6 + 5,none⟩ = some cs[i].keep /\ KP w cs[i])
theorem KY {w : World} {a : Option Addr} {n c : Nat} {l : List Aa} (h : Ao w (.slice a n c) l) {g o : Nat} (ha : a = some ⟨g,o,none⟩) (hl : l ≠ []) : g < w.heap.size:=by
 have hp : 0 < l.length:=List.length_pos_iff.2 hl
 obtain ⟨b,o2,e,q,-⟩:=h.at hp
 rw [ha] at e
 injection e with e
 injection e with e1
 subst e1
 exact World.block_lt_of_cell? w _ q
theorem JS.at {w0 w : World} {a : Option Addr} {n c : Nat} {cs : List Gt} (h : JS w0 (.slice a n c) cs) (t : Below w0.heap.size w0 w) {i : Nat} (hi : i < cs.length) : ∃ b o,a = some ⟨b,o,none⟩ /\
 w.cell? ⟨b,o + i * 6,none⟩ = some (.int .i64 cs[i].kind) /\ w.cell? ⟨b,o + i * 6 + 1,none⟩ = some cs[i].bv /\ w.cell? ⟨b,o + i * 6 + 2,none⟩ = some (.string cs[i].key) /\ w.cell? ⟨b,o + i * 6 + 3,none⟩ = some (.string cs[i].tu) /\
 w.cell? ⟨b,o + i * 6 + 4,none⟩ = some (.int .i64 cs[i].most) /\ w.cell? ⟨b,o + i * 6 + 5,none⟩ = some cs[i].keep /\ KP w0 cs[i]:=by
 obtain ⟨hm,a',c',hv,h1⟩:=h
 injection hv with e1 e2 e3
 subst e1
 rcases h1 with h1 | ⟨b,o,rfl,h1⟩
 · subst h1; cases hi
 · obtain ⟨q0,q1,q2,q3,q4,q5,ok⟩:=h1 i hi
   have hb : b < w0.heap.size:=World.block_lt_of_cell? w0 ⟨b,_,none⟩ q0
   exact ⟨b,o,rfl,(t.cell (p:=⟨b,_,none⟩) hb).trans q0,(t.cell (p:=⟨b,_,none⟩) hb).trans q1,(t.cell (p:=⟨b,_,none⟩) hb).trans q2,(t.cell (p:=⟨b,_,none⟩) hb).trans q3,(t.cell (p:=⟨b,_,none⟩) hb).trans q4,(t.cell (p:=⟨b,_,none⟩) hb).trans q5,ok⟩
def Bt (W : World) (b : Nat) (c : Gt) : Prop:=W.heap[b]? = some (.cells #[.int .i64 c.kind,c.bv,.string c.key,.string c.tu,.int .i64 c.most,c.keep] 35 (0,0))
section
variable {W : World} {b : Nat} {c : Gt}
theorem Bt.new (W : World) (c : Gt) : Bt (W.alloc (.cells #[.int .i64 c.kind,c.bv,.string c.key,.string c.tu,.int .i64 c.most,c.keep] 35)) W.heap.size c:=World.alloc_heap_new W _
theorem Bt.c0 (h : Bt W b c) : W.cell? ⟨b,0,none⟩ = some (.int .i64 c.kind):=by rw [World.cell?,show W.heap[b]? = _ from h]; rfl
theorem Bt.c1 (h : Bt W b c) : W.cell? ⟨b,1,none⟩ = some c.bv:=by rw [World.cell?,show W.heap[b]? = _ from h]; rfl
theorem Bt.c2 (h : Bt W b c) : W.cell? ⟨b,2,none⟩ = some (.string c.key):=by rw [World.cell?,show W.heap[b]? = _ from h]; rfl
theorem Bt.c3 (h : Bt W b c) : W.cell? ⟨b,3,none⟩ = some (.string c.tu):=by rw [World.cell?,show W.heap[b]? = _ from h]; rfl
theorem Bt.c4 (h : Bt W b c) : W.cell? ⟨b,4,none⟩ = some (.int .i64 c.most):=by rw [World.cell?,show W.heap[b]? = _ from h]; rfl
theorem Bt.c5 (h : Bt W b c) : W.cell? ⟨b,5,none⟩ = some c.keep:=by rw [World.cell?,show W.heap[b]? = _ from h]; rfl
end
section
variable {E : Nat -> World -> Prop} {St : World -> Nat -> Nat -> Dd -> (Nat -> Prop) -> Prop} {Op : Bx -> List Aa -> Nat -> Prop} (K : Kf E St Op) {B : Nat} {w0 w w' : World} {X Y : Nat -> Prop} {d b : Nat} {s s' : Dd}
include K
theorem Ups.forget (h : Ups E St B w0 X w d b s) (hY : ∀ k,Y k -> X k) : Ups E St B w0 Y w d b s:=
 ⟨h.e,K.mono h.st (fun k hk => ⟨hk.1,fun hx => hk.2 (hY k hx)⟩),fun k hk => h.x k (hY k hk),h.fuel,h.bel⟩
theorem Ups.grown (h : Ups E St B w0 X w d b s) {row : Option Nat} (hg : w.grownBy w' row) (hr : ∀ k,row = some k -> X k /\ B <= k) : Ups E St B w0 (fun k => X k \/ (w.heap.size <= k /\ k < w'.heap.size)) w' d b s:=by
 have hs:=K.e_size h.e
 have t : Ac (fun k => row = some k) w w':=(Ac.refl _ w).grown hg (fun k hk => .inl hk)
 refine ⟨K.e_turn h.e t (fun k hk => (hr k hk).2),K.mono (K.turn (K.tight h.st) t (fun k hk g => hk.1.2 (hr k g).1)) fun i hi => ⟨hi.1.1,fun hx => ?_⟩,fun i hi => ?_,h.fuel,h.bel.trans (t.below (fun i hi => (hr i hi).2) hs)⟩
 · rcases hx with hx | hx
   · exact hi.1.2 hx
   · have:=hi.2; omega
 · rcases hi with hi | hi
   · exact Nat.lt_of_lt_of_le (h.x i hi) t.size
   · exact hi.2
theorem NT (h : Ups E St w0.heap.size w0 X w d b s) {c : Gt} (hc : KP w0 c) (hn : s.n <= limN) :
 Calls Tryz.prog 13 #[.pointer (some ⟨d,0,none⟩),c.bv] w fun e w' => e = .returned (.int .i64 (A4 c.batch : Nat)) /\ Ac (Ox w0.heap.size X) w w' /\ ∃ s',Ups E St w0.heap.size w0 X w' d b s' /\ s'.map = (if A4 c.batch = 0 then AS s.map c.batch else s.map) /\ s'.n <= s.n + 1 /\ AE s'.box = AE s.box /\ s'.mem = (if A4 c.batch = 0 then (if 4096 <= F5 (KZ s.mem c.batch) then [] else KZ s.mem c.batch) else s.mem):=by
 have hr:=hc.read
 obtain ⟨a,cap,e⟩:=hr.slice
 rw [e] at hr ⊢
 exact Hi K h (hr.below h.bel) (fun g o e hl => .inr (KY hr e hl)) hn
end
end Go.Proofs.YtlkefgngefpkiaaGreatDoor
