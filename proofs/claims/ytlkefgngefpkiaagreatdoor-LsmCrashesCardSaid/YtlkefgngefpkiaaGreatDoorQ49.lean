/- Parts of the proof. -/
import Derived.Test.YtlkefgngefpkiaaGreatDoorQ48
namespace Go.Proofs.YtlkefgngefpkiaaGreatDoor
set_option linter.unusedVariables false
section
open Go.RowKit
structure CH (E : Nat -> World -> Prop) (St : World -> Nat -> Nat -> Dd -> (Nat -> Prop) -> Prop) (B : Nat) (w0 : World) (X : Nat -> Prop) (w : World) (d b : Nat) (s : Dd) : Prop where
 e : E B w
 st : St w d b s (Ox B X)
 x : ∀ k,X k -> k < w.heap.size
 bel : Below B w0 w
structure I9 (E : Nat -> World -> Prop) (Op : Bx -> List Aa -> Nat -> Prop) (B : Nat) (w0 : World) (X : Nat -> Prop) (w : World) (b : Nat) (ms : List (List Aa)) (n : Nat) : Prop where
 e : E B w
 box : ∃ S,AD w b S (Ox B X) /\ weigh S.files <= limW /\ ∀ keep,∃ m ∈ ms,Op (S.crash keep) m n
 x : ∀ k,X k -> k < w.heap.size
 bel : Below B w0 w
structure Is9 (E : Nat -> World -> Prop) (Op : Bx -> List Aa -> Nat -> Prop) (B : Nat) (w0 : World) (X : Nat -> Prop) (w : World) (b : Nat) (S : Bx) (m : List Aa) (n : Nat) : Prop where
 e : E B w
 box : AD w b S (Ox B X)
 down : S.down = false
 op : Op S m n
 x : ∀ k,X k -> k < w.heap.size
 bel : Below B w0 w
section
variable {E : Nat -> World -> Prop} {St : World -> Nat -> Nat -> Dd -> (Nat -> Prop) -> Prop} {Op : Bx -> List Aa -> Nat -> Prop} (K : Kf E St Op) {B : Nat} {w0 w w' : World} {X Y : Nat -> Prop} {d b n : Nat} {s s' : Dd} {F F' : Nat -> Prop} {S : Bx} {m : List Aa} {ms : List (List Aa)}
theorem Ups.any (h : Ups E St B w0 X w d b s) : CH E St B w0 X w d b s:=⟨h.e,h.st,h.x,h.bel⟩
include K
theorem CH.was (h : CH E St B w0 X w d b s) : I9 E Op B w0 X w b [s.map] s.n:=
 ⟨h.e,⟨s.box,(K.box h.st).1,(K.good h.st).2.2.2.2,fun keep => ⟨s.map,by simp,K.hold h.st keep⟩⟩,h.x,h.bel⟩
theorem CH.fresh (h : CH E St B w0 X w d b s) (t : Ac (Ox B X) w w') {d' b' : Nat} (k : St w' d' b' s' F') (f : By (Ox B X) w F') : CH E St B w0 X w' d' b' s':=by
 have hs:=K.e_size h.e
 refine ⟨K.e_turn h.e t (fun k hk => hk.1),K.mono k fun i hi => ?_,fun i hi => Nat.lt_of_lt_of_le (h.x i hi) t.size,h.bel.trans (t.below (fun i hi => hi.1) hs)⟩
 rcases f i hi with h1 | h1
 · exact h1
 · exact ⟨by omega,fun hx => by have:=h.x i hx; omega⟩
theorem CH.fallen (h : CH E St B w0 X w d b s) (t : Ac (Ox B X) w w') {S' : Bx} (k : Fu Op w' b S' F' ms n) (f : By (Ox B X) w F') : I9 E Op B w0 X w' b ms n:=by
 have hs:=K.e_size h.e
 obtain ⟨k1,k2,k3,k4⟩:=k
 refine ⟨K.e_turn h.e t (fun k hk => hk.1),⟨S',k1.mono fun i hi => ?_,k3,k4⟩,fun i hi => Nat.lt_of_lt_of_le (h.x i hi) t.size,h.bel.trans (t.below (fun i hi => hi.1) hs)⟩
 rcases f i hi with h1 | h1
 · exact h1
 · exact ⟨by omega,fun hx => by have:=h.x i hx; omega⟩
theorem CH.laid (h : CH E St B w0 X w d b s) (t : Below w.heap.size w w') : CH E St B w0 (fun k => X k \/ (w.heap.size <= k /\ k < w'.heap.size)) w' d b s:=by
 have hs:=K.e_size h.e
 have t0:=Ac.of_below (fun _ => False) t
 refine ⟨K.e_turn h.e t0 (fun _ h => h.elim),K.mono (K.turn (K.tight h.st) t0 (fun _ _ h => h)) fun i hi => ⟨hi.1.1,fun hx => ?_⟩,fun i hi => ?_,h.bel.trans (t.mono hs)⟩
 · rcases hx with hx | hx
   · exact hi.1.2 hx
   · have:=hi.2; omega
 · rcases hi with hi | hi
   · exact Nat.lt_of_lt_of_le (h.x i hi) t.size
   · exact hi.2
theorem CH.below (h : CH E St B w0 X w d b s) (t : Below w.heap.size w w') : CH E St B w0 X w' d b s:=by
 have h1:=h.laid K t
 exact ⟨h1.e,K.mono h1.st (fun i hi => ⟨hi.1,fun hx => hi.2 (.inl hx)⟩),fun i hi => Nat.lt_of_lt_of_le (h.x i hi) t.size,h1.bel⟩
theorem CH.own (h : CH E St B w0 X w d b s) {G : Nat -> Prop} (t : Ac G w w') (hG : ∀ k,G k -> X k /\ B <= k) : CH E St B w0 (fun k => X k \/ (w.heap.size <= k /\ k < w'.heap.size)) w' d b s:=by
 have hs:=K.e_size h.e
 refine ⟨K.e_turn h.e t (fun k hk => (hG k hk).2),K.mono (K.turn (K.tight h.st) t (fun k hk g => hk.1.2 (hG k g).1)) fun i hi => ⟨hi.1.1,fun hx => ?_⟩,fun i hi => ?_,h.bel.trans (t.below (fun i hi => (hG i hi).2) hs)⟩
 · rcases hx with hx | hx
   · exact hi.1.2 hx
   · have:=hi.2; omega
 · rcases hi with hi | hi
   · exact Nat.lt_of_lt_of_le (h.x i hi) t.size
   · exact hi.2
omit K in
theorem AD.grow9 (hk : AD w b S (Ox B X)) {G : Nat -> Prop} (t : Ac G w w') (hG : ∀ k,G k -> X k) : AD w' b S (Ox B (fun k => X k \/ (w.heap.size <= k /\ k < w'.heap.size))):=by
 refine ((AD.tight hk).kept t (fun k hk g => hk.1.2 (hG k g))).mono fun i hi => ⟨hi.1.1,fun hx => ?_⟩
 rcases hx with hx | hx
 · exact hi.1.2 hx
 · have:=hi.2; omega
theorem I9.own (h : I9 E Op B w0 X w b ms n) {G : Nat -> Prop} (t : Ac G w w') (hG : ∀ k,G k -> X k /\ B <= k) : I9 E Op B w0 (fun k => X k \/ (w.heap.size <= k /\ k < w'.heap.size)) w' b ms n:=by
 have hs:=K.e_size h.e
 obtain ⟨S,h1,h2⟩:=h.box
 refine ⟨K.e_turn h.e t (fun k hk => (hG k hk).2),⟨S,h1.grow9 t (fun k hk => (hG k hk).1),h2⟩,fun i hi => ?_,h.bel.trans (t.below (fun i hi => (hG i hi).2) hs)⟩
 rcases hi with hi | hi
 · exact Nat.lt_of_lt_of_le (h.x i hi) t.size
 · exact hi.2
theorem YE (h : CH E St B w0 X w d b s) (f : Int) (hf : (Lit.int .i64 f).wf = true) :
 Calls Tryz.prog 27 #[.pointer (some ⟨b,0,none⟩),.int .i64 f] w fun e w' => e = .returned (.tuple #[]) /\ Ac (Ox B X) w w' /\ CH E St B w0 X w' d b { s with box:=⟨s.box.files,f,s.box.down⟩ }:=by
 refine (K.fuel h.st f hf).mono ?_
 rintro e w1 ⟨rfl,t,st⟩
 exact ⟨rfl,t,h.fresh K t st (fun k hk => .inl hk)⟩
theorem OY (h : CH E St w0.heap.size w0 X w d b s) {c : Gt} (hc : KP w0 c) (h0 : A4 c.batch = 0) (hn : s.n <= limN) :
 Calls Tryz.prog 13 #[.pointer (some ⟨d,0,none⟩),c.bv] w fun e w' => Ac (Ox w0.heap.size X) w w' /\
  ((e = .returned (.int .i64 0) /\ ∃ s',CH E St w0.heap.size w0 X w' d b s' /\ s'.map = AS s.map c.batch /\ s'.n = s.n + 1) \/ (e = .returned (.int .i64 30) /\ I9 E Op w0.heap.size w0 X w' b [s.map,AS s.map c.batch] (s.n + 1))):=by
 have hr:=hc.read
 obtain ⟨a,cap,e⟩:=hr.slice
 rw [e] at hr ⊢
 refine (K.write h.e h.st (fun k hk => hk.1) (hr.below h.bel) (fun g o e hl hk => by have h1:=KY hr e hl; have h2:=hk.1; omega) hn).mono ?_
 rintro e w1 ⟨t,⟨hc,-⟩ | ⟨-,rfl,s',F',st,fr,em,en,-⟩ | ⟨-,-,rfl,S',F',fa,fr⟩⟩
 · exact absurd h0 hc
 · exact ⟨t,.inl ⟨rfl,s',h.fresh K t st fr,em,en⟩⟩
 · exact ⟨t,.inr ⟨rfl,h.fallen K t fa fr⟩⟩
theorem XD (h : CH E St B w0 X w d b s) (hn : s.n <= limN) :
 Calls Tryz.prog 22 #[.pointer (some ⟨d,0,none⟩)] w fun e w' => Ac (Ox B X) w w' /\
  ((e = .returned (.int .i64 0) /\ ∃ s',CH E St B w0 X w' d b s' /\ s'.map = s.map /\ s'.n = s.n + 1) \/ (e = .returned (.int .i64 30) /\ I9 E Op B w0 X w' b [s.map] (s.n + 1))):=by
 refine (K.flush h.e h.st (fun k hk => hk.1) hn).mono ?_
 rintro e w1 ⟨t,⟨rfl,s',F',st,fr,em,en,-⟩ | ⟨-,rfl,S',F',fa,fr⟩⟩
 · exact ⟨t,.inl ⟨rfl,s',h.fresh K t st fr,em,en⟩⟩
 · exact ⟨t,.inr ⟨rfl,h.fallen K t fa fr⟩⟩
theorem Ts (h : CH E St B w0 X w d b s) (hn : s.n <= limN) :
 Calls Tryz.prog 24 #[.pointer (some ⟨d,0,none⟩)] w fun e w' => Ac (Ox B X) w w' /\
  ((e = .returned (.int .i64 0) /\ ∃ s',CH E St B w0 X w' d b s' /\ s'.map = s.map /\ s'.n = s.n + 1) \/ (e = .returned (.int .i64 30) /\ I9 E Op B w0 X w' b [s.map] (s.n + 1))):=by
 refine (K.compact h.e h.st (fun k hk => hk.1) hn).mono ?_
 rintro e w1 ⟨t,⟨rfl,s',F',st,fr,em,en,-⟩ | ⟨-,rfl,S',F',fa,fr⟩⟩
 · exact ⟨t,.inl ⟨rfl,s',h.fresh K t st fr,em,en⟩⟩
 · exact ⟨t,.inr ⟨rfl,h.fallen K t fa fr⟩⟩
theorem LV (h : I9 E Op B w0 X w b ms n) {v : Value} {ks : List Int} (hks : Cm (Ox B X) w v ks) :
 Calls Tryz.prog 25 #[.pointer (some ⟨b,0,none⟩),v] w fun e w' => Ac (Ox B X) w w' /\ ∃ q S m,e = .returned (.pointer (some ⟨q,0,none⟩)) /\ m ∈ ms /\ S.fuel < 0 /\ Is9 E Op B w0 X w' q S m n:=by
 obtain ⟨S,h1,h2,h3⟩:=h.box
 have hs:=K.e_size h.e
 have hbF : Ox B X b:=by obtain ⟨m,es,hh⟩:=h1; exact hh.fp
 refine (Lr h1 hks (by unfold limW at h2; omega)).mono ?_
 rintro e w1 ⟨q,rfl,-,hq,t⟩
 have t1 : Ac (Ox B X) w w1:=t.mono (fun i hi => .inl (by subst hi; exact hbF))
 obtain ⟨m,hm,ho⟩:=h3 ks
 exact ⟨t1,q,_,m,rfl,hm,by show (-1 : Int) < 0; decide,K.e_turn h.e t1 (fun k hk => hk.1),hq.mono (fun k hk => ⟨by omega,fun hx => by have:=h.x k hx; omega⟩),rfl,ho,fun k hk => Nat.lt_of_lt_of_le (h.x k hk) t1.size,h.bel.trans (t1.below (fun i hi => hi.1) hs)⟩
theorem Abp (h : Is9 E Op B w0 X w b S m n) (f : Int) (hf : (Lit.int .i64 f).wf = true) :
 Calls Tryz.prog 27 #[.pointer (some ⟨b,0,none⟩),.int .i64 f] w fun e w' => e = .returned (.tuple #[]) /\ Ac (Ox B X) w w' /\ Is9 E Op B w0 X w' b ⟨S.files,f,S.down⟩ m n:=by
 have hs:=K.e_size h.e
 refine (So h.box f hf).mono ?_
 rintro e w1 ⟨rfl,hb,t⟩
 exact ⟨rfl,t,K.e_turn h.e t (fun k hk => hk.1),hb,h.down,K.refuel f h.op,fun k hk => Nat.lt_of_lt_of_le (h.x k hk) t.size,h.bel.trans (t.below (fun i hi => hi.1) hs)⟩
theorem VT (h : Is9 E Op B w0 X w b S m n) (hn : n <= limN) :
 Calls Tryz.prog 12 #[.pointer (some ⟨b,0,none⟩)] w fun e w' => Ac (Ox B X) w w' /\
  ((∃ d s,e = .returned (.tuple #[.pointer (some ⟨d,0,none⟩),.int .i64 0]) /\ CH E St B w0 X w' d b s /\ s.map = m /\ s.n = n + 1) \/ (0 <= S.fuel /\ (∃ p,e = .returned (.tuple #[.pointer p,.int .i64 30])) /\ I9 E Op B w0 X w' b [m] (n + 1))):=by
 have hs:=K.e_size h.e
 refine (K.opens h.e h.box (fun k hk => hk.1) h.down h.op hn).mono ?_
 rintro e w1 ⟨t,⟨d,s,F',rfl,st,fr,em,en,-⟩ | ⟨h0,p,S',F',rfl,fa,fr⟩⟩
 · refine ⟨t,.inl ⟨d,s,rfl,⟨K.e_turn h.e t (fun k hk => hk.1),K.mono st fun i hi => ?_,fun i hi => Nat.lt_of_lt_of_le (h.x i hi) t.size,h.bel.trans (t.below (fun i hi => hi.1) hs)⟩,em,en⟩⟩
   rcases fr i hi with h1 | h1
   · exact h1
   · exact ⟨by omega,fun hx => by have:=h.x i hx; omega⟩
 · obtain ⟨k1,k2,k3,k4⟩:=fa
   refine ⟨t,.inr ⟨h0,⟨p,rfl⟩,K.e_turn h.e t (fun k hk => hk.1),⟨S',k1.mono fun i hi => ?_,k3,k4⟩,fun i hi => Nat.lt_of_lt_of_le (h.x i hi) t.size,h.bel.trans (t.below (fun i hi => hi.1) hs)⟩⟩
   rcases fr i hi with h1 | h1
   · exact h1
   · exact ⟨by omega,fun hx => by have:=h.x i hx; omega⟩
theorem Uj (h : Is9 E Op B w0 X w b S m n) (hf : S.fuel < 0) (hn : n <= limN) :
 Calls Tryz.prog 12 #[.pointer (some ⟨b,0,none⟩)] w fun e w' => Ac (Ox B X) w w' /\
  ∃ d s,e = .returned (.tuple #[.pointer (some ⟨d,0,none⟩),.int .i64 0]) /\ CH E St B w0 X w' d b s /\ s.map = m /\ s.n = n + 1:=by
 refine (VT K h hn).mono ?_
 rintro e w1 ⟨t,h1 | ⟨h0,-⟩⟩
 · exact ⟨t,h1⟩
 · omega
theorem Z9 (h : CH E St B w0 X w d b s) (hn : s.n <= limN) {v : Value} {M : List Aa} (hM : w.ownsRow 0 61 3 v M.length (AH M)) (hA : ∀ k,v.ownBlock = some k -> X k) :
 Calls Tryz.prog 26 #[.pointer (some ⟨d,0,none⟩),.agg #[v]] w fun e w' => e = .returned (.bool (decide (s.map = M))) /\ Ac (Ox B X) w w' /\ CH E St B w0 X w' d b s:=by
 refine (Rq K h.e h.st (fun k hk => hk.1) hn hM (fun k hk g => g.2 (hA k hk))).mono ?_
 rintro e w1 ⟨rfl,t,F',st,fr⟩
 exact ⟨rfl,t,h.fresh K t st fr⟩
end
end
section
open Go.RowKit
structure I1 where
 fuel : Int
 keep : Value
 ks : List Int
 more : Int
 again : Value
 ag : List Int
structure LA (w : World) (c : I1) : Prop where
 fuel : (Lit.int .i64 c.fuel).wf = true
 more : (Lit.int .i64 c.more).wf = true
 ks : Cm (fun k => w.heap.size <= k) w c.keep c.ks
 ag : Cm (fun k => w.heap.size <= k) w c.again c.ag
def Qc (w : World) (x : Value) (cs : List I1) : Prop:=
 cs.length <= 9223372036854775807 /\ ∃ a c,x = .slice a cs.length c /\ (cs = [] \/ ∃ b o,a = some ⟨b,o,none⟩ /\ ∀ i (h : i < cs.length),
  w.cell? ⟨b,o + i * 4,none⟩ = some (.int .i64 cs[i].fuel) /\ w.cell? ⟨b,o + i * 4 + 1,none⟩ = some cs[i].keep /\ w.cell? ⟨b,o + i * 4 + 2,none⟩ = some (.int .i64 cs[i].more) /\ w.cell? ⟨b,o + i * 4 + 3,none⟩ = some cs[i].again /\ LA w cs[i])
theorem Qc.at {w0 w : World} {a : Option Addr} {n c : Nat} {cs : List I1} (h : Qc w0 (.slice a n c) cs) (t : Below w0.heap.size w0 w) {i : Nat} (hi : i < cs.length) : ∃ b o,a = some ⟨b,o,none⟩ /\
 w.cell? ⟨b,o + i * 4,none⟩ = some (.int .i64 cs[i].fuel) /\ w.cell? ⟨b,o + i * 4 + 1,none⟩ = some cs[i].keep /\ w.cell? ⟨b,o + i * 4 + 2,none⟩ = some (.int .i64 cs[i].more) /\ w.cell? ⟨b,o + i * 4 + 3,none⟩ = some cs[i].again /\ LA w0 cs[i]:=by
 obtain ⟨hm,a',c',hv,h1⟩:=h
 injection hv with e1 e2 e3
 subst e1
 rcases h1 with h1 | ⟨b,o,rfl,h1⟩
 · subst h1; cases hi
 · obtain ⟨q0,q1,q2,q3,ok⟩:=h1 i hi
   have hb : b < w0.heap.size:=World.block_lt_of_cell? w0 ⟨b,_,none⟩ q0
   exact ⟨b,o,rfl,(t.cell (p:=⟨b,_,none⟩) hb).trans q0,(t.cell (p:=⟨b,_,none⟩) hb).trans q1,(t.cell (p:=⟨b,_,none⟩) hb).trans q2,(t.cell (p:=⟨b,_,none⟩) hb).trans q3,ok⟩
end
section
open Go.RowKit
def DY (w : World) (X : Nat -> Prop) (v : Value) (M : List Aa) : Prop:=∃ a c,v = .slice a M.length c /\ w.ownsRow 0 61 3 v M.length (AH M) /\ ∀ k,v.ownBlock = some k -> X k
theorem DY.turn {w w' : World} {X : Nat -> Prop} {v : Value} {M : List Aa} (h : DY w X v M) {G : Nat -> Prop} (t : Ac G w w') (hG : ∀ k,X k -> ¬ G k) : DY w' X v M:=by
 obtain ⟨a,c,h1,h2,h3⟩:=h
 exact ⟨a,c,h1,t.row h2 (fun k hk => hG k (h3 k hk)),h3⟩
theorem DY.more {w : World} {X Y : Nat -> Prop} {v : Value} {M : List Aa} (h : DY w X v M) (hY : ∀ k,X k -> Y k) : DY w Y v M:=by
 obtain ⟨a,c,h1,h2,h3⟩:=h
 exact ⟨a,c,h1,h2,fun k hk => hY k (h3 k hk)⟩
theorem DY.but {w w' : World} {X : Nat -> Prop} {v : Value} {M : List Aa} (h : DY w X v M) {mb : Nat} {c : Array Value} {T : TypeId} (hT : T ≠ 61) (hm : w.heap[mb]? = some (.cells c T (0,0))) (t : Ac (fun k => k = mb) w w') : DY w' X v M:=by
 obtain ⟨a,cc,h1,h2,h3⟩:=h
 refine ⟨a,cc,h1,t.row h2 (fun k hk e => ?_),h3⟩
 have e : k = mb:=e
 subst e
 rcases h2.2 with ⟨hv,_⟩ | ⟨g,cap,cur,hv,_,hg,_⟩
 · rw [hv] at hk; simp [Value.ownBlock] at hk
 · rw [hv] at hk
   injection hk with hk
   have hk : g = k:=hk
   subst hk
   rw [hm] at hg
   injection hg with hg
   injection hg with _ hg
   exact hT hg
structure Cr9 (B : Nat) (X : Nat -> Prop) (w : World) (mb : Nat) (mv : Value) (M : List Aa) (ms : List (List Aa)) : Prop where
 xm : X mb
 lo : B <= mb
 m : ∃ v,DY w X v M /\ w.heap[mb]? = some (.cells #[v] 32 (0,0))
 may : ∃ vs,w.ownsRow 0 32 1 mv ms.length vs /\ (∀ k,mv.ownBlock = some k -> X k /\ B <= k /\ k ≠ mb) /\ ∀ i (h : i < ms.length),DY w X (vs.getD i undef) ms[i]
section
variable {B mb : Nat} {X Y : Nat -> Prop} {w w' : World} {mv : Value} {M : List Aa} {ms : List (List Aa)}
theorem Cr9.turn (h : Cr9 B X w mb mv M ms) {G : Nat -> Prop} (t : Ac G w w') (hG : ∀ k,X k -> ¬ G k) : Cr9 B X w' mb mv M ms:=by
 obtain ⟨v,h1,h2⟩:=h.m
 obtain ⟨vs,h3,h4,h5⟩:=h.may
 exact ⟨h.xm,h.lo,⟨v,h1.turn t hG,(t.block _ (Ad h2) (hG _ h.xm)).trans h2⟩,vs,t.row h3 (fun k hk => hG k (h4 k hk).1),h4,fun i hi => (h5 i hi).turn t hG⟩
theorem Cr9.below (h : Cr9 B X w mb mv M ms) (t : Below w.heap.size w w') : Cr9 B X w' mb mv M ms:=h.turn (Ac.of_below (fun _ => False) t) (fun _ _ h => h)
theorem Cr9.more (h : Cr9 B X w mb mv M ms) (hY : ∀ k,X k -> Y k) : Cr9 B Y w mb mv M ms:=by
 obtain ⟨v,h1,h2⟩:=h.m
 obtain ⟨vs,h3,h4,h5⟩:=h.may
 exact ⟨hY _ h.xm,h.lo,⟨v,h1.more hY,h2⟩,vs,h3,fun k hk => ⟨hY _ (h4 k hk).1,(h4 k hk).2⟩,fun i hi => (h5 i hi).more hY⟩
theorem map_ne : (32 : TypeId) ≠ 61:=by decide
theorem Cr9.at {g n c : Nat} (h : Cr9 B X w mb (.slice (some ⟨g,0,none⟩) n c) M ms) {i : Nat} (hi : i < ms.length) : ∃ v,w.cell? ⟨g,i,none⟩ = some v /\ DY w X v ms[i]:=by
 obtain ⟨vs,h3,h4,h5⟩:=h.may
 have hvl : vs.length = ms.length:=by have:=h3.1; omega
 refine ⟨vs.getD i undef,?_,h5 i hi⟩
 rcases h3.2 with ⟨e1,_⟩ | ⟨g2,cap,cur,e1,_,hg,hle,hcm,hcs,htk⟩
 · cases e1
 · injection e1 with e1
   injection e1 with e1
   injection e1 with e1
   subst e1
   rw [Ab hg]
   have h9 : (cur.toList.take (ms.length * 1))[i]? = vs[i]?:=by rw [htk]
   rw [List.getElem?_take,if_pos (by omega)] at h9
   rw [<- Array.getElem?_toList,h9]
   simp [List.getD,hvl,hi]
theorem Cr9.store (h : Cr9 B X w mb mv M ms) {v2 : Value} {M2 : List Aa} (hv : DY w X v2 M2) : Cr9 B X (w.setCell ⟨mb,0,none⟩ v2) mb mv M2 ms /\ Ac (fun k => k = mb) w (w.setCell ⟨mb,0,none⟩ v2):=by
 obtain ⟨v,h1,h2⟩:=h.m
 obtain ⟨vs,h3,h4,h5⟩:=h.may
 have t : Ac (fun k => k = mb) w (w.setCell ⟨mb,0,none⟩ v2):=(Ac.refl (fun k => k = mb) w).setCell (p:=⟨mb,0,none⟩) (.inl rfl) _
 exact ⟨⟨h.xm,h.lo,⟨v2,hv.but map_ne h2 t,(block_set h2 0 v2).trans rfl⟩,vs,t.row h3 (fun k hk e => (h4 k hk).2.2 e),h4,fun i hi => (h5 i hi).but map_ne h2 t⟩,t⟩
theorem Cr9.alone (h : Cr9 B X w mb mv M ms) {v : Value} (hv : DY w X v M) (hB : B <= w.heap.size) : Cr9 B (fun k => X k \/ (w.heap.size <= k /\ k < (w.alloc (.cells #[v] 32)).heap.size)) (w.alloc (.cells #[v] 32)) mb (.slice (some ⟨w.heap.size,0,none⟩) 1 1) M [M]:=by
 have hb : Below w.heap.size w (w.alloc (.cells #[v] 32)):=(Below.refl _ w).alloc (Nat.le_refl _) _
 have h1:=(h.below hb).more (Y:=fun k => X k \/ (w.heap.size <= k /\ k < (w.alloc (.cells #[v] 32)).heap.size)) (fun k hk => .inl hk)
 obtain ⟨v0,h2,h3⟩:=h.m
 have hml:=Ad h3
 refine ⟨h1.xm,h.lo,h1.m,[v],⟨rfl,.inr ⟨w.heap.size,1,_,rfl,Nat.zero_le _,heap_alloc_new w _,Nat.le_refl _,by decide,rfl,rfl⟩⟩,fun k hk => ?_,fun i hi => ?_⟩
 · injection hk with hk
   have hk : w.heap.size = k:=hk
   subst hk
   exact ⟨.inr ⟨Nat.le_refl _,by simp⟩,hB,by omega⟩
 · obtain rfl : i = 0:=by simp only [List.length_cons,List.length_nil] at hi; omega
   exact (hv.turn (Ac.of_below (fun _ => False) hb) (fun _ _ h => h)).more (fun k hk => .inl hk)
theorem Cr9.add (h : Cr9 B X w mb mv M ms) {v2 mv2 : Value} {M2 : List Aa} {vs : List Value} (hv : DY w X v2 M2) (hvs : w.ownsRow 0 32 1 mv ms.length vs) (he : ∀ i (h : i < ms.length),DY w X (vs.getD i undef) ms[i]) (ho : w'.ownsRow 0 32 1 mv2 (ms.length + 1) (vs ++ [v2])) (hg : w.grownBy w' mv.ownBlock) (hl : ∀ k,mv2.ownBlock = some k -> mv.ownBlock = some k \/ w.heap.size <= k) (hB : B <= w.heap.size) :
 Cr9 B (fun k => X k \/ (w.heap.size <= k /\ k < w'.heap.size)) w' mb mv2 M (ms ++ [M2]) /\ Ac (fun k => mv.ownBlock = some k) w w':=by
 obtain ⟨v0,h1,h2⟩:=h.m
 obtain ⟨vs0,h3,h4,h5⟩:=h.may
 have t : Ac (fun k => mv.ownBlock = some k) w w':=(Ac.refl _ w).grown hg (fun k hk => .inl hk)
 have hml:=Ad h2
 have hvl : vs.length = ms.length:=by have:=hvs.1; omega
 have hkeep : ∀ {u : Value} {L : List Aa},DY w X u L -> DY w' (fun k => X k \/ (w.heap.size <= k /\ k < w'.heap.size)) u L:=fun {u L} hu => by
  obtain ⟨a,cc,k1,k2,k3⟩:=hu
  refine ⟨a,cc,k1,t.row k2 (fun k hk e => ?_),fun k hk => .inl (k3 k hk)⟩
  rcases hvs.2 with ⟨e1,_⟩ | ⟨g,cap,cur,e1,_,hgm,_⟩
  · rw [e1] at e; simp [Value.ownBlock] at e
  · rw [e1] at e
    injection e with e
    have e : g = k:=e
    subst e
    rcases k2.2 with ⟨e2,_⟩ | ⟨g2,cap2,cur2,e2,_,hgp,_⟩
    · rw [e2] at hk; simp [Value.ownBlock] at hk
    · rw [e2] at hk
      injection hk with hk
      have hk : g2 = g:=hk
      subst hk
      rw [hgm] at hgp
      injection hgp with hgp
      injection hgp with _ hgp
      exact map_ne hgp
 refine ⟨⟨.inl h.xm,h.lo,⟨v0,hkeep h1,(t.block _ hml (fun e => (h4 mb e).2.2 rfl)).trans h2⟩,vs ++ [v2],by rw [List.length_append]; exact ho,fun k hk => ?_,fun i hi => ?_⟩,t⟩
 · rcases hl k hk with h9 | h9
   · exact ⟨.inl (h4 k h9).1,(h4 k h9).2⟩
   · exact ⟨.inr ⟨h9,(ho.lt k hk).2⟩,by omega,by omega⟩
 · rw [List.length_append,List.length_singleton] at hi
   by_cases hlt : i < ms.length
   · rw [List.getElem_append_left hlt]
     have e9 : (vs ++ [v2]).getD i undef = vs.getD i undef:=by simp [List.getD,List.getElem?_append,show i < vs.length by omega]
     rw [e9]
     exact hkeep (he i hlt)
   · obtain rfl : i = ms.length:=by omega
     have e9 : (vs ++ [v2]).getD ms.length undef = v2:=by simp [List.getD,hvl]
     rw [e9,List.getElem_append_right (Nat.le_refl _)]
     simp only [Nat.sub_self,List.getElem_cons_zero]
     exact hkeep hv
end
end
section
open Go.RowKit Go.Maps Go.WideMaps Go.Shelf
attribute [local go_sem] Oper.semAt_some
theorem infoMap9 : (Tryz.prog.info? 32).map (fun i => (i.zero,i.size,i.bytes)) = some (some (.agg #[.slice none 0 0]),1,24):=by kernel_rfl
theorem Aad {f : Int} (h : (Lit.int .i64 f).wf = true) : (Lit.int .i64 (max f 0)).wf = true:=by
 rcases (by omega : max f 0 = f \/ max f 0 = 0) with e | e
 · rw [e]; exact h
 · rw [e]; decide
section
variable {E : Nat -> World -> Prop} {St : World -> Nat -> Nat -> Dd -> (Nat -> Prop) -> Prop} {Op : Bx -> List Aa -> Nat -> Prop} (K : Kf E St Op)
include K
set_option maxHeartbeats 16000000 in
set_option maxRecDepth 100000 in
theorem OB {w : World} (hE : E w.heap.size w) (a0 : Option Addr) (c0 : Nat) (cs : List Gt) (hC : JS w (.slice a0 cs.length c0) cs) (a1 : Option Addr) (c1 : Nat) (bs : List I1) (hD : Qc w (.slice a1 bs.length c1) bs) :
 Calls Tryz.prog 4 #[.slice a0 cs.length c0,.slice a1 bs.length c1] w fun e w' => e = .returned (.bool true) /\ Below w.heap.size w w':=by
 have haw:=Es K hE
 have hcm:=hC.1
 have hdm:=hD.1
 have HC:=Lib.hid hC
 have HD:=Lib.hid hD
 clear hC hD
 go_enter Tryz.func4,Tryz.ntmps4
 go_wp2_with fail
 refine haw.mono ?_
 rintro e w1 ⟨rfl,B1⟩
 have E1:=K.e_turn hE (Ac.of_below (fun _ => False) B1) (fun _ h => h.elim)
 clear haw hE
 by_cases hbig : 150 < cs.length
 · have hbg : (150 : Int) < cs.length:=by omega
   go_wp2
   go_ret
   exact ⟨rfl,B1⟩
 by_cases hbig2 : 8 < bs.length
 · have hbg : ¬ (150 : Int) < cs.length:=by omega
   have hbg2 : (8 : Int) < bs.length:=by omega
   go_wp2
   go_ret
   exact ⟨rfl,B1⟩
 have hbg : ¬ (150 : Int) < cs.length:=by omega
 have hbg2 : ¬ (8 : Int) < bs.length:=by omega
 go_wp2_with fail
 refine (Ge w1).mono ?_
 rintro e w2 ⟨p,rfl,hp,hbx,b2⟩
 have hs1:=B1.size
 have hop:=Gf K (B:=w.heap.size) (w0:=w) (X:=fun _ => False) (K.e_below E1 b2) (B1.trans (b2.mono hs1)) (hbx.mono fun k hk => ⟨by omega,fun h => h⟩) (fun k hk => hk.elim) rfl (by decide) (K.empty (S:=Bx.new) (fun x hx => by cases hx) rfl (by decide) List.Pairwise.nil) (by decide)
 clear hbx E1 b2 B1 hs1 hp
 go_wp2_with fail
 refine hop.mono ?_
 rintro e w3 ⟨d,s0,rfl,u3,-,em,en,-,-⟩
 have hs3:=u3.bel.size
 have b4 : Below w3.heap.size w3 (w3.alloc (.cells #[.slice none 0 0] 32)):=(Below.refl _ w3).alloc (Nat.le_refl _) _
 have b5 : Below w3.heap.size w3 ((w3.alloc (.cells #[.slice none 0 0] 32)).alloc (.cells #[.slice none 0 0] 32)):=b4.alloc b4.size _
 have hz4 : (w3.alloc (.cells #[.slice none 0 0] 32)).heap.size = w3.heap.size + 1:=by simp
 have hz5 : ((w3.alloc (.cells #[.slice none 0 0] 32)).alloc (.cells #[.slice none 0 0] 32)).heap.size = w3.heap.size + 1 + 1:=by simp
 have hmb:=b5.trans (Below.refl _ _)
 have HST : Hid (∃ X s,CH E St w.heap.size w X ((w3.alloc (.cells #[.slice none 0 0] 32)).alloc (.cells #[.slice none 0 0] 32)) d p s /\ Cr9 w.heap.size X ((w3.alloc (.cells #[.slice none 0 0] 32)).alloc (.cells #[.slice none 0 0] 32)) w3.heap.size (.slice (some ⟨w3.heap.size + 1,0,none⟩) 1 1) s.map [s.map] /\ s.n <= 1):=by
  have hu:=u3.any.laid K b5
  have hv : ∀ W,DY W (fun k => False \/ (w3.heap.size <= k /\ k < ((w3.alloc (.cells #[.slice none 0 0] 32)).alloc (.cells #[.slice none 0 0] 32)).heap.size)) (.slice none 0 0) ([] : List Aa):=fun W => ⟨none,0,rfl,World.ownsRow_nil _ _ _ _,fun k hk => by simp [Value.ownBlock] at hk⟩
  refine ⟨_,s0,hu,⟨.inr ⟨Nat.le_refl _,by omega⟩,hs3,⟨.slice none 0 0,by rw [em]; exact hv _,?_⟩,[.slice none 0 0],⟨rfl,.inr ⟨w3.heap.size + 1,1,#[.slice none 0 0],rfl,Nat.zero_le _,?_,Nat.le_refl _,by decide,rfl,rfl⟩⟩,fun k hk => ?_,fun i hi => ?_⟩,by omega⟩
  · exact ((Below.refl _ (w3.alloc (.cells #[.slice none 0 0] 32))).alloc (Nat.le_refl _) _).block _ (by omega) |>.trans (heap_alloc_new w3 _)
  · have h9:=heap_alloc_new (w3.alloc (.cells #[.slice none 0 0] 32)) (.cells #[.slice none 0 0] 32)
    rwa [hz4] at h9
  · injection hk with hk
    have hk : w3.heap.size + 1 = k:=hk
    subst hk
    exact ⟨.inr ⟨by omega,by omega⟩,by omega,by omega⟩
  · obtain rfl : i = 0:=by simp only [List.length_cons,List.length_nil] at hi; omega
    show DY _ _ (.slice none 0 0) s0.map
    rw [em]; exact hv _
 clear hop u3 em en b4 b5 hz4 hz5 hmb hs3
 go_wp2
 generalize hW : (w3.alloc (.cells #[.slice none 0 0] 32)).alloc (.cells #[.slice none 0 0] 32) = W5 at *
 clear hW
 generalize w3.heap.size = mb at *
 go_loopw [5,6,9,10,11] (fun bv dv mv av kv wr => ∃ (k i p d mg mc : Nat),k <= bs.length + 1 /\ i <= cs.length /\ mv = .slice (some ⟨mg,0,none⟩) 1 mc /\ bv = .pointer (some ⟨p,0,none⟩) /\ dv = .pointer (some ⟨d,0,none⟩) /\ av = .int .i64 (i : Int) /\ kv = .int .i64 (k : Int) /\ Hid (∃ X s,CH E St w.heap.size w X wr d p s /\ Cr9 w.heap.size X wr mb (.slice (some ⟨mg,0,none⟩) 1 mc) s.map [s.map] /\ s.n <= 1 + i + 4 * k)) (fun _ _ _ _ kv _ => bs.length + 1 - (intOf kv).toNat)
 case atStart => exact ⟨0,0,p,d,mb + 1,1,by omega,Nat.zero_le _,rfl,rfl,rfl,rfl,rfl,by obtain ⟨X,s,h1,h2,h3⟩:=HST.out; exact ⟨X,s,h1,h2,by omega⟩⟩
 case round =>
  clear HST
  obtain ⟨k,i,p,d,mg,mc,hkl,hil,rfl,rfl,rfl,rfl,rfl,HI⟩:=hrel
  by_cases hk : k <= bs.length
  · have hmes : bs.length + 1 - (intOf (.int .i64 ((k : Int) + 1))).toNat < bs.length + 1 - (intOf (.int .i64 (k : Int))).toNat:=by simp [intOf]; omega
    have hkI : (k : Int) <= (bs.length : Int):=by omega
    go_upto_if 50 with (fail)
    go_cut [] from 41 to 177 (fun wx => Hid (∃ X s,CH E St w.heap.size w X wx d p s /\ Cr9 w.heap.size X wx mb (.slice (some ⟨mg,0,none⟩) 1 mc) s.map [s.map] /\ s.n <= 1 + i + 4 * k))
    case first =>
     obtain ⟨X,s,hu,hcr,hn⟩:=HI.out
     by_cases hk2 : k < bs.length
     · have hk2I : (k : Int) < (bs.length : Int):=by omega
       have hk0I : (0 : Int) <= (k : Int):=by omega
       obtain ⟨g,o,rfl,q0,q1,q2,q3,ok⟩:=HD.out.at hu.bel hk2
       have hwf:=Aad ok.fuel
       have F1:=Lib.hid (YE K hu _ hwf)
       have HCR:=Lib.hid hcr
       clear hu hcr HI q1 q2 q3 ok hwf
       generalize bs[k].fuel = fu at *
       go_wp2_with fail
       refine F1.out.mono ?_
       rintro e w6 ⟨rfl,t6,u6⟩
       have HG : Hid (∃ X s,CH E St w.heap.size w X w6 d p s /\ Cr9 w.heap.size X w6 mb (.slice (some ⟨mg,0,none⟩) 1 mc) s.map [s.map] /\ s.n <= 1 + i + 4 * k):=⟨X,_,u6,HCR.out.turn t6 (fun k hk g => g.2 hk),hn⟩
       clear t6 u6
       go_wp2_with fail
       go_meet
       exact HG
     · have hk2I : ¬ (k : Int) < (bs.length : Int):=by omega
       have HG : Hid (∃ X s,CH E St w.heap.size w X wr d p s /\ Cr9 w.heap.size X wr mb (.slice (some ⟨mg,0,none⟩) 1 mc) s.map [s.map] /\ s.n <= 1 + i + 4 * k):=⟨X,s,hu,hcr,hn⟩
       clear hu hcr HI
       go_wp2_with fail
       go_meet
       exact HG
    case rest =>
     clear HI
     have HI:=hcut
     clear hcut
     go_upto_block 2 with (fail)
     go_cut [9,10] from 41 to 177 (fun mv av wx => ∃ (i2 g l c : Nat),i2 <= cs.length /\ mv = .slice (some ⟨g,0,none⟩) l c /\ av = .int .i64 (i2 : Int) /\ Hid (∃ X ms n M,I9 E Op w.heap.size w X wx p ms n /\ Cr9 w.heap.size X wx mb (.slice (some ⟨g,0,none⟩) l c) M ms /\ l = ms.length /\ n <= 2 + i2 + 4 * k))
     case first =>
      go_wp2_with fail
      go_loopw [9,10] (fun mv av wr => ∃ (i2 g c : Nat),i2 <= cs.length /\ mv = .slice (some ⟨g,0,none⟩) 1 c /\ av = .int .i64 (i2 : Int) /\ Hid (∃ X s,CH E St w.heap.size w X wr d p s /\ Cr9 w.heap.size X wr mb (.slice (some ⟨g,0,none⟩) 1 c) s.map [s.map] /\ s.n <= 1 + i2 + 4 * k)) (fun _ av _ => cs.length - (intOf av).toNat)
      case atStart => exact ⟨i,mg,mc,hil,rfl,rfl,HI.out⟩
      case round =>
       clear HI
       obtain ⟨i2,g,c,hi2,rfl,rfl,HJ⟩:=hrel
       obtain ⟨X,s,hu,hcr,hn⟩:=HJ.out
       by_cases hlt : i2 < cs.length
       · have hmes2 : cs.length - (intOf (.int .i64 ((i2 : Int) + 1))).toNat < cs.length - (intOf (.int .i64 (i2 : Int))).toNat:=by simp [intOf]; omega
         have hltI : (i2 : Int) < (cs.length : Int):=by omega
         have hlt0 : (0 : Int) <= (i2 : Int):=by omega
         obtain ⟨g0,o0,rfl,q0,q1,q2,q3,q4,q5,ok⟩:=HC.out.at hu.bel hlt
         generalize cs[i2] = C at *
         obtain ⟨ck,cbv,cb,ckey,cto,cmost,ckeep,cks⟩:=C
         obtain ⟨ba,bc,ebv⟩:=ok.read.slice
         obtain ⟨ka,kc,ekp,-⟩:=ok.ks.ex
         simp only at q0 q1 q2 q3 q4 q5 ebv ekp
         subst ebv
         subst ekp
         have hkb:=bounds_i64 ok.kind
         have hbl : Below wr.heap.size wr (wr.alloc (.cells #[.int .i64 ck,.slice ba cb.length bc,.string ckey,.string cto,.int .i64 cmost,.slice ka cks.length kc] 35)):=(Below.refl _ wr).alloc (Nat.le_refl _) _
         have hcb:=Bt.new wr ⟨ck,.slice ba cb.length bc,cb,ckey,cto,cmost,.slice ka cks.length kc,cks⟩
         have y0:=hcb.c0
         have y1:=hcb.c1
         simp only at y0 y1
         have hu2:=hu.laid K hbl
         have hcr2:=(hcr.below hbl).more (Y:=fun k => X k \/ (wr.heap.size <= k /\ k < (wr.alloc (.cells #[.int .i64 ck,.slice ba cb.length bc,.string ckey,.string cto,.int .i64 cmost,.slice ka cks.length kc] 35)).heap.size)) (fun k hk => .inl hk)
         have hxl : X wr.heap.size \/ (wr.heap.size <= wr.heap.size /\ wr.heap.size < (wr.alloc (.cells #[.int .i64 ck,.slice ba cb.length bc,.string ckey,.string cto,.int .i64 cmost,.slice ka cks.length kc] 35)).heap.size):=.inr ⟨Nat.le_refl _,by simp⟩
         have HNX:=Lib.hid hn
         have HOK:=Lib.hid ok
         clear hu hcr hn HJ ok
         have hnl : s.n <= limN:=by have:=HNX.out; unfold limN; omega
         go_upto_region 20 with (fail)
         clear q0 q1 q2 q3 q4 q5 hbl
         generalize wr.alloc (.cells #[.int .i64 ck,.slice ba cb.length bc,.string ckey,.string cto,.int .i64 cmost,.slice ka cks.length kc] 35) = wl at *
         generalize hX2 : (fun k => X k \/ (wr.heap.size <= k /\ k < wl.heap.size)) = X2 at *
         have hxl : X2 wr.heap.size:=by subst hX2; exact hxl
         clear hX2
         generalize wr.heap.size = lb at *
         have HU:=Lib.hid hu2
         have HCR:=Lib.hid hcr2
         have HXL:=Lib.hid hxl
         have HCB:=Lib.hid hcb
         clear hu2 hcr2 hxl hcb
         by_cases k0 : ck = 0
         · subst k0
           have hrc:=Mr (l:=cb) (HOK.out.read.below HU.out.bel)
           have HWR:=fun (h0 : A4 cb = 0) (w' : World) (u' : CH E St w.heap.size w X2 w' d p s) => OY K u' HOK.out h0 hnl
           have HWH:=Lib.hid HWR
           have HGD:=Lib.hid (K.good HU.out.st)
           have HC0 : Hid (A4 cb = 0 -> s.map.length + cb.length <= 3518437208780):=fun h0 => by have:=HGD.out.2.2.1; have:=(GH h0).2.1; have:=HNX.out; omega
           clear HWR
           generalize hcn : A4 cb = cn at *
           go_wp2_with fail
           refine hrc.mono ?_
           rintro e w5 ⟨rfl,b5⟩
           have U5:=Lib.hid (HU.out.below K b5)
           have C5:=Lib.hid (HCR.out.below b5)
           have cb5 : Bt w5 lb _:=(b5.block _ (Ad HCB.out)).trans HCB.out
           have z1:=cb5.c1
           simp only at z1
           have CB5:=Lib.hid cb5
           clear hrc b5 y0 y1 cb5
           by_cases hz : cn = 0
           · subst hz
             obtain ⟨vm,⟨va,vc,rfl,hvm2,hvm3⟩,hmh⟩:=C5.out.m
             have zm : w5.cell? ⟨mb,0,none⟩ = some (.slice va s.map.length vc):=(Ab hmh 0).trans rfl
             have hrw:=Ml hvm2 (HOK.out.read.below U5.out.bel) (HC0.out rfl)
             have HVX:=Lib.hid hvm3
             clear hvm2 hvm3 hmh
             go_wp2_with fail
             refine hrw.mono ?_
             rintro e w6 ⟨v6,rfl,hr6,b6,hl6⟩
             obtain ⟨MW,hMW⟩ : ∃ MW,AS s.map cb = MW:=⟨_,rfl⟩
             rw [hMW] at hr6
             have b7 : Below w5.heap.size w5 (w6.alloc (.cells #[v6] 32)):=b6.alloc b6.size _
             have hnb:=heap_alloc_new w6 (.cells #[v6] 32)
             have hnlt : w6.heap.size < (w6.alloc (.cells #[v6] 32)).heap.size:=by simp
             have h66:=b6.size
             obtain ⟨va6,vc6,rfl⟩:=Ar hr6
             have hr7:=Ah hr6 ((Below.refl w6.heap.size w6).alloc (Nat.le_refl _) (.cells #[.slice va6 MW.length vc6] 32))
             have hu7:=U5.out.laid K b7
             obtain ⟨X7,hX7⟩ : ∃ X7 : Nat -> Prop,(fun k => X2 k \/ (w5.heap.size <= k /\ k < (w6.alloc (.cells #[.slice va6 MW.length vc6] 32)).heap.size)) = X7:=⟨_,rfl⟩
             rw [hX7] at hu7
             have hc7:=(C5.out.below b7).more (Y:=X7) (fun k hk => by rw [<- hX7]; exact .inl hk)
             have hv7 : DY (w6.alloc (.cells #[.slice va6 MW.length vc6] 32)) X7 (.slice va6 MW.length vc6) MW:=⟨va6,vc6,rfl,hr7,fun k hk => by
              rw [<- hX7]
              rcases hl6 k hk with h9 | h9
              · exact .inl (HVX.out k h9)
              · exact .inr ⟨h9,(hr7.lt k hk).2⟩⟩
             have hcb7:=(b7.block _ (Ad CB5.out)).trans CB5.out
             have hxn : X7 w6.heap.size:=by rw [<- hX7]; exact .inr ⟨h66,hnlt⟩
             have hxl7 : X7 lb:=by rw [<- hX7]; exact .inl HXL.out
             clear hrw hr6 b6 hl6 b7 hr7 hnlt h66 z1 zm hX7
             go_upto_region 25 with (fail)
             generalize (w6.alloc (.cells #[.slice va6 MW.length vc6] 32)) = w7 at *
             generalize w6.heap.size = nb at *
             have z1 : w7.cell? ⟨lb,1,none⟩ = some (.slice ba cb.length bc):=(Ab hcb7 1).trans rfl
             have hw7:=OY K hu7 HOK.out hcn hnl
             simp only at hw7
             rw [hMW] at hw7
             have HMW:=Lib.hid hMW
             clear hMW
             have HC7:=Lib.hid hc7
             have HV7:=Lib.hid hv7
             have HNB:=Lib.hid hnb
             have HXN:=Lib.hid hxn
             clear hc7 hv7 hnb hxn hcb7 hu7 hxl7
             go_wp2_with fail
             refine hw7.mono ?_
             rintro e w8 ⟨t8,⟨rfl,s8,u8,m8,n8⟩ | ⟨rfl,ws8⟩⟩
             · have hnb8:=(t8.block _ (Ad HNB.out) (fun h => h.2 HXN.out)).trans HNB.out
               have hc8:=HC7.out.turn t8 (fun k hk h => h.2 hk)
               have hv8:=HV7.out.turn t8 (fun k hk h => h.2 hk)
               obtain ⟨vm8,-,hmh8⟩:=hc8.m
               have z14 : w8.cell? ⟨nb,0,none⟩ = some (.slice va6 MW.length vc6):=(Ab hnb8 0).trans rfl
               have zm8 : w8.cell? ⟨mb,0,none⟩ = some vm8:=(Ab hmh8 0).trans rfl
               have zf8 : w8.frozen? ⟨mb,0,none⟩ = false:=Ag hmh8 0
               have hs8:=hc8.store hv8
               have hv9:=hv8.but map_ne hmh8 hs8.2
               have hu9:=u8.own K hs8.2 (fun k hk => by have hk : k = mb:=hk; subst hk; exact ⟨hc8.xm,hc8.lo⟩)
               have hbB : w.heap.size <= (w8.setCell ⟨mb,0,none⟩ (.slice va6 MW.length vc6)).heap.size:=hu9.bel.size
               have hb9 : Below (w8.setCell ⟨mb,0,none⟩ (.slice va6 MW.length vc6)).heap.size (w8.setCell ⟨mb,0,none⟩ (.slice va6 MW.length vc6)) ((w8.setCell ⟨mb,0,none⟩ (.slice va6 MW.length vc6)).alloc (.cells #[.slice va6 MW.length vc6] 32)):=(Below.refl _ _).alloc (Nat.le_refl _) _
               have hal:=(hs8.1.more (Y:=fun k => X7 k \/ (w8.heap.size <= k /\ k < (w8.setCell ⟨mb,0,none⟩ (.slice va6 MW.length vc6)).heap.size)) (fun k hk => .inl hk)).alone (hv9.more (fun k hk => .inl hk)) hbB
               have hua:=hu9.laid K hb9
               have hsz8 : (w8.setCell ⟨mb,0,none⟩ (.slice va6 MW.length vc6)).heap.size = w8.heap.size:=by simp
               have HG : Hid (∃ X s,CH E St w.heap.size w X ((w8.setCell ⟨mb,0,none⟩ (.slice va6 MW.length vc6)).alloc (.cells #[.slice va6 MW.length vc6] 32)) d p s /\ Cr9 w.heap.size X ((w8.setCell ⟨mb,0,none⟩ (.slice va6 MW.length vc6)).alloc (.cells #[.slice va6 MW.length vc6] 32)) mb (.slice (some ⟨w8.heap.size,0,none⟩) 1 1) s.map [s.map] /\ s.n <= 1 + (i2 + 1) + 4 * k):=⟨_,s8,hua,by rw [m8]; rw [hsz8] at hal; rw [hsz8]; exact hal,by have:=HNX.out; omega⟩
               clear t8 u8 m8 n8 hnb8 hc8 hv8 hmh8 hs8 hv9 hu9 hbB hb9 hal hua hsz8 hw7
               go_wp2
               go_roundw
               case rel => exact ⟨i2 + 1,w8.heap.size,1,by omega,rfl,by go_num,HG⟩
               case measure => exact hmes2
             · have hnb8:=(t8.block _ (Ad HNB.out) (fun h => h.2 HXN.out)).trans HNB.out
               have hc8:=HC7.out.turn t8 (fun k hk h => h.2 hk)
               have hv8:=HV7.out.turn t8 (fun k hk h => h.2 hk)
               have z14 : w8.cell? ⟨nb,0,none⟩ = some (.slice va6 MW.length vc6):=(Ab hnb8 0).trans rfl
               have hb9 : Below w8.heap.size w8 (w8.alloc (.cells #[.slice va6 MW.length vc6] 32)):=(Below.refl _ _).alloc (Nat.le_refl _) _
               have hsrc:=Ju (sz:=1) w8 #[.slice va6 MW.length vc6] 32 rfl (fun u hu => by simp at hu; subst hu; rfl)
               have hc9:=(hc8.below hb9).more (Y:=fun k => X7 k \/ (w8.heap.size <= k /\ k < (w8.alloc (.cells #[.slice va6 MW.length vc6] 32)).heap.size)) (fun k hk => .inl hk)
               have hv9:=(hv8.turn (Ac.of_below (fun _ => False) hb9) (fun _ _ h => h)).more (Y:=fun k => X7 k \/ (w8.heap.size <= k /\ k < (w8.alloc (.cells #[.slice va6 MW.length vc6] 32)).heap.size)) (fun k hk => .inl hk)
               have hw9:=ws8.own K (Ac.of_below (fun _ => False) hb9) (fun _ h => h.elim)
               obtain ⟨vs9,hvs9,hap9,hel9⟩:=hc9.may
               have hvs9' : (w8.alloc (.cells #[.slice va6 MW.length vc6] 32)).ownsRow 0 32 1 (.slice (some ⟨g,0,none⟩) 1 c) 1 vs9:=hvs9
               obtain ⟨j0,hi,hj0,hj1,hj2⟩:=info_parts infoMap9
               have HW9:=Lib.hid hw9
               have HC9:=Lib.hid hc9
               have HV9:=Lib.hid hv9
               have HEL:=Lib.hid (And.intro hap9 hel9)
               have HVS:=Lib.hid hvs9'
               clear t8 hnb8 hc8 hv8 hb9 ws8 hw7 hc9 hv9 hw9 hvs9 hap9 hel9
               go_wp2_with (at_builtin; go_loud (refine Bq _ rfl (.tmp 94) (.tmp 96) rfl Tryz.underlying54 hi hj0 hj1 hj2 rfl (by decide) rfl HVS.out rfl hsrc ?a1 ?a2 ?_))
               case a1 => decide
               case a2 => decide
               intro v9 w9 o9 g9 l9
               obtain ⟨g10,c10,rfl⟩:=ownsRow_succ o9
               have hB9 : w.heap.size <= (w8.alloc (.cells #[.slice va6 MW.length vc6] 32)).heap.size:=HW9.out.bel.size
               obtain ⟨hca,hta⟩:=HC9.out.add HV9.out HVS.out HEL.out.2 o9 g9 (fun k hk => (l9 k hk).imp id (fun h9 => by simpa using h9)) hB9
               have hwa:=HW9.out.own K hta (fun k hk => ⟨(HEL.out.1 k hk).1,(HEL.out.1 k hk).2.1⟩)
               have HG : Hid (∃ X ms n M,I9 E Op w.heap.size w X w9 p ms n /\ Cr9 w.heap.size X w9 mb (.slice (some ⟨g10,0,none⟩) 2 c10) M ms /\ 2 = ms.length /\ n <= 2 + i2 + 4 * k):=⟨_,_,_,s.map,hwa,hca,rfl,by have:=HNX.out; omega⟩
               clear o9 g9 l9 hB9 hca hta hwa HW9 HC9 HV9 HEL HVS hsrc
               go_wp2
               go_meet
               exact ⟨i2,g10,2,c10,by omega,rfl,rfl,HG⟩
           · have hzi : ((cn : Int) == 0) = false:=by rw [beq_eq_false_iff_ne]; omega
             have HG : Hid (∃ X s,CH E St w.heap.size w X w5 d p s /\ Cr9 w.heap.size X w5 mb (.slice (some ⟨g,0,none⟩) 1 c) s.map [s.map] /\ s.n <= 1 + (i2 + 1) + 4 * k):=⟨X2,s,U5.out,C5.out,by have:=HNX.out; omega⟩
             go_wp2
             go_roundw
             case rel => exact ⟨i2 + 1,g,c,by omega,rfl,by go_num,HG⟩
             case measure => exact hmes2
         have k0' : (ck == 0) = false:=by simpa using k0
         by_cases k3 : ck = 3
         · subst k3
           have hfl:=XD K HU.out hnl
           go_wp2_with fail
           refine hfl.mono ?_
           rintro e w5 ⟨t5,⟨rfl,s5,u5,m5,n5⟩ | ⟨rfl,ws5⟩⟩
           · have HG : Hid (∃ X s,CH E St w.heap.size w X w5 d p s /\ Cr9 w.heap.size X w5 mb (.slice (some ⟨g,0,none⟩) 1 c) s.map [s.map] /\ s.n <= 1 + (i2 + 1) + 4 * k):=⟨X2,s5,u5,by rw [m5]; exact HCR.out.turn t5 (fun k hk g => g.2 hk),by have:=HNX.out; omega⟩
             clear hfl t5 u5 m5 n5
             go_wp2
             go_roundw
             case rel => exact ⟨i2 + 1,g,c,by omega,rfl,by go_num,HG⟩
             case measure => exact hmes2
           · have HG : Hid (∃ X ms n M,I9 E Op w.heap.size w X w5 p ms n /\ Cr9 w.heap.size X w5 mb (.slice (some ⟨g,0,none⟩) 1 c) M ms /\ 1 = ms.length /\ n <= 2 + i2 + 4 * k):=⟨X2,_,_,s.map,ws5,HCR.out.turn t5 (fun k hk g => g.2 hk),rfl,by have:=HNX.out; omega⟩
             clear hfl t5 ws5
             go_wp2
             go_meet
             exact ⟨i2,g,1,c,by omega,rfl,rfl,HG⟩
         have k3' : (ck == 3) = false:=by simpa using k3
         by_cases k4 : ck = 4
         · subst k4
           have hfl:=Ts K HU.out hnl
           go_wp2_with fail
           refine hfl.mono ?_
           rintro e w5 ⟨t5,⟨rfl,s5,u5,m5,n5⟩ | ⟨rfl,ws5⟩⟩
           · have HG : Hid (∃ X s,CH E St w.heap.size w X w5 d p s /\ Cr9 w.heap.size X w5 mb (.slice (some ⟨g,0,none⟩) 1 c) s.map [s.map] /\ s.n <= 1 + (i2 + 1) + 4 * k):=⟨X2,s5,u5,by rw [m5]; exact HCR.out.turn t5 (fun k hk g => g.2 hk),by have:=HNX.out; omega⟩
             clear hfl t5 u5 m5 n5
             go_wp2
             go_roundw
             case rel => exact ⟨i2 + 1,g,c,by omega,rfl,by go_num,HG⟩
             case measure => exact hmes2
           · have HG : Hid (∃ X ms n M,I9 E Op w.heap.size w X w5 p ms n /\ Cr9 w.heap.size X w5 mb (.slice (some ⟨g,0,none⟩) 1 c) M ms /\ 1 = ms.length /\ n <= 2 + i2 + 4 * k):=⟨X2,_,_,s.map,ws5,HCR.out.turn t5 (fun k hk g => g.2 hk),rfl,by have:=HNX.out; omega⟩
             clear hfl t5 ws5
             go_wp2
             go_meet
             exact ⟨i2,g,1,c,by omega,rfl,rfl,HG⟩
         · have k4' : (ck == 4) = false:=by simpa using k4
           have HG : Hid (∃ X s,CH E St w.heap.size w X wl d p s /\ Cr9 w.heap.size X wl mb (.slice (some ⟨g,0,none⟩) 1 c) s.map [s.map] /\ s.n <= 1 + (i2 + 1) + 4 * k):=⟨X2,s,HU.out,HCR.out,by have:=HNX.out; omega⟩
           go_wp2
           go_roundw
           case rel => exact ⟨i2 + 1,g,c,by omega,rfl,by go_num,HG⟩
           case measure => exact hmes2
       · have hltI : ¬ (i2 : Int) < (cs.length : Int):=by omega
         have HG : Hid (∃ X ms n M,I9 E Op w.heap.size w X wr p ms n /\ Cr9 w.heap.size X wr mb (.slice (some ⟨g,0,none⟩) 1 c) M ms /\ 1 = ms.length /\ n <= 2 + i2 + 4 * k):=⟨X,_,_,s.map,hu.was K,hcr,rfl,by omega⟩
         clear hu hcr HJ
         go_wp2
         go_meet
         exact ⟨i2,g,1,c,by omega,rfl,rfl,HG⟩
     case rest =>
      obtain ⟨i2,g,l,c,hi2,rfl,rfl,HW⟩:=hcut
      clear HI
      go_upto_if 117 with (fail)
      go_cut [15] from 41 to 177 (fun kv wx => ∃ (ka : Option Addr) (kn kc : Nat),kv = .slice ka kn kc /\ Hid (∃ X ms n M ks,I9 E Op w.heap.size w X wx p ms n /\ Cr9 w.heap.size X wx mb (.slice (some ⟨g,0,none⟩) l c) M ms /\ l = ms.length /\ n <= 2 + i2 + 4 * k /\ Cm (Ox w.heap.size X) wx (.slice ka kn kc) ks))
      case first =>
       obtain ⟨X,ms,n,M,hwa,hcr,hl,hn⟩:=HW.out
       by_cases hk2 : k < bs.length
       · have hk2I : (k : Int) < (bs.length : Int):=by omega
         have hk0I : (0 : Int) <= (k : Int):=by omega
         obtain ⟨g0,o0,rfl,q0,q1,q2,q3,ok⟩:=HD.out.at hwa.bel hk2
         have hks:=ok.ks
         obtain ⟨ka,kc,eka,-⟩:=hks.ex
         rw [eka] at q1 hks
         have hks2 : Cm (Ox w.heap.size X) wc (.slice ka (bs[k].ks).length kc) bs[k].ks:=(hks.turn (Ac.of_below (fun _ => False) hwa.bel) (fun _ h => h.elim)).fit (fun k hk => .inl hk.1)
         have HG : Hid (∃ X ms n M ks,I9 E Op w.heap.size w X wc p ms n /\ Cr9 w.heap.size X wc mb (.slice (some ⟨g,0,none⟩) l c) M ms /\ l = ms.length /\ n <= 2 + i2 + 4 * k /\ Cm (Ox w.heap.size X) wc (.slice ka (bs[k].ks).length kc) ks):=⟨X,ms,n,M,_,hwa,hcr,hl,hn,hks2⟩
         clear hwa hcr hl hn hks hks2 q0 q2 q3 ok eka HW
         generalize (bs[k].ks).length = kn at *
         go_wp2_with fail
         go_meet
         exact ⟨ka,kn,kc,rfl,HG⟩
       · have hk2I : ¬ (k : Int) < (bs.length : Int):=by omega
         have HG : Hid (∃ X ms n M ks,I9 E Op w.heap.size w X wc p ms n /\ Cr9 w.heap.size X wc mb (.slice (some ⟨g,0,none⟩) l c) M ms /\ l = ms.length /\ n <= 2 + i2 + 4 * k /\ Cm (Ox w.heap.size X) wc (.slice none 0 0) ks):=⟨X,ms,n,M,[],hwa,hcr,hl,hn,L6 _ _⟩
         clear hwa hcr hl hn HW
         go_wp2_with fail
         go_meet
         exact ⟨none,0,0,rfl,HG⟩
      case rest =>
       obtain ⟨ka,kn,kc,rfl,HK⟩:=hcut
       obtain ⟨X,ms,n,M,ks,hwa,hcr,hl,hn,hks⟩:=HK.out
       have HCH:=Lib.hid (LV K hwa hks)
       have HCR:=Lib.hid hcr
       have HLN:=Lib.hid (And.intro hl hn)
       clear HW HK hwa hcr hl hn hks
       go_wp2_with fail
       refine HCH.out.mono ?_
       rintro e w6 ⟨t6,q,S,m0,rfl,hm0,hf0,his⟩
       have HW6 : Hid (m0 ∈ ms /\ S.fuel < 0 /\ Is9 E Op w.heap.size w X w6 q S m0 n /\ Cr9 w.heap.size X w6 mb (.slice (some ⟨g,0,none⟩) l c) M ms):=⟨hm0,hf0,his,HCR.out.turn t6 (fun k hk h => h.2 hk)⟩
       clear HCH HCR t6 hm0 hf0 his
       go_upto_if 129 with (fail)
       go_cut [5] from 41 to 177 (fun bv wx => ∃ q2 : Nat,bv = .pointer (some ⟨q2,0,none⟩) /\ Hid (∃ S n2,n2 <= 3 + i2 + 4 * k /\ S.fuel < 0 /\ Is9 E Op w.heap.size w X wx q2 S m0 n2 /\ Cr9 w.heap.size X wx mb (.slice (some ⟨g,0,none⟩) l c) M ms))
       case first =>
        obtain ⟨hm0,hf0,his,hcr⟩:=HW6.out
        by_cases hk2 : k < bs.length
        · have hk2I : (k : Int) < (bs.length : Int):=by omega
          have hk0I : (0 : Int) <= (k : Int):=by omega
          obtain ⟨g0,o0,rfl,q0,q1,q2,q3,ok⟩:=HD.out.at his.bel hk2
          have HAT:=Lib.hid (fun (W : World) (hb : Below w.heap.size w W) => HD.out.at hb hk2)
          have hwf:=Aad ok.more
          have F1:=Lib.hid (Abp K his _ hwf)
          have HKS:=Lib.hid ok.ag
          obtain ⟨ga,gc,ega,-⟩:=ok.ag.ex
          have HCR:=Lib.hid hcr
          have HN9 : Hid (n <= 2 + i2 + 4 * k /\ i2 <= 150 /\ k <= 8):=⟨HLN.out.2,by omega,by omega⟩
          have HEG:=Lib.hid ega
          clear hcr his HW6 q0 q1 q3 ok hwf ega
          generalize bs[k].more = fu at *
          go_wp2_with fail
          refine F1.out.mono ?_
          rintro e w7 ⟨rfl,t7,i7⟩
          have C7:=Lib.hid (HCR.out.turn t7 (fun k hk h => h.2 hk))
          have hop:=VT K i7 (by have:=HN9.out; unfold limN; omega)
          clear F1 t7 HCR i7
          go_wp2_with fail
          refine hop.mono ?_
          rintro e w8 ⟨t8,⟨d8,s8,rfl,u8,m8,n8⟩ | ⟨-,⟨p8,rfl⟩,ws8⟩⟩
          · have hws:=u8.was K
            rw [m8,n8] at hws
            have hks8 : Cm (Ox w.heap.size X) w8 (bs[k].again) bs[k].ag:=(HKS.out.turn (Ac.of_below (fun _ => False) hws.bel) (fun _ h => h.elim)).fit (fun k hk => .inl hk.1)
            obtain ⟨g1,o1,e1,-,-,-,q3,-⟩:=HAT.out w8 hws.bel
            injection e1 with e1
            injection e1 with e1 e2 _
            subst e1
            subst e2
            have HCH:=Lib.hid (LV K hws hks8)
            rw [HEG.out] at q3 HCH
            have C8:=Lib.hid (C7.out.turn t8 (fun k hk h => h.2 hk))
            clear hop t8 u8 m8 n8 hws hks8 C7
            generalize bs[k].ag = ag at *
            go_wp2_with fail
            refine HCH.out.mono ?_
            rintro e w9 ⟨t9,q9,S9,m9,rfl,hm9,hf9,i9⟩
            have e9:=List.mem_singleton.1 hm9
            subst e9
            have HG : Hid (∃ S n2,n2 <= 3 + i2 + 4 * k /\ S.fuel < 0 /\ Is9 E Op w.heap.size w X w9 q9 S m9 n2 /\ Cr9 w.heap.size X w9 mb (.slice (some ⟨g,0,none⟩) l c) M ms):=⟨S9,_,by have:=HN9.out; omega,hf9,i9,C8.out.turn t9 (fun k hk h => h.2 hk)⟩
            clear t9 hm9 hf9 i9 HCH C8
            go_wp2_with fail
            go_meet
            exact ⟨q9,rfl,HG⟩
          · have hws:=ws8
            have hks8 : Cm (Ox w.heap.size X) w8 (bs[k].again) bs[k].ag:=(HKS.out.turn (Ac.of_below (fun _ => False) hws.bel) (fun _ h => h.elim)).fit (fun k hk => .inl hk.1)
            obtain ⟨g1,o1,e1,-,-,-,q3,-⟩:=HAT.out w8 hws.bel
            injection e1 with e1
            injection e1 with e1 e2 _
            subst e1
            subst e2
            have HCH:=Lib.hid (LV K hws hks8)
            rw [HEG.out] at q3 HCH
            have C8:=Lib.hid (C7.out.turn t8 (fun k hk h => h.2 hk))
            clear hop t8 ws8 hws hks8 C7
            generalize bs[k].ag = ag at *
            go_wp2_with fail
            refine HCH.out.mono ?_
            rintro e w9 ⟨t9,q9,S9,m9,rfl,hm9,hf9,i9⟩
            have e9:=List.mem_singleton.1 hm9
            subst e9
            have HG : Hid (∃ S n2,n2 <= 3 + i2 + 4 * k /\ S.fuel < 0 /\ Is9 E Op w.heap.size w X w9 q9 S m9 n2 /\ Cr9 w.heap.size X w9 mb (.slice (some ⟨g,0,none⟩) l c) M ms):=⟨S9,_,by have:=HN9.out; omega,hf9,i9,C8.out.turn t9 (fun k hk h => h.2 hk)⟩
            clear t9 hm9 hf9 i9 HCH C8
            go_wp2_with fail
            go_meet
            exact ⟨q9,rfl,HG⟩
        · have hk2I : ¬ (k : Int) < (bs.length : Int):=by omega
          have HG : Hid (∃ S n2,n2 <= 3 + i2 + 4 * k /\ S.fuel < 0 /\ Is9 E Op w.heap.size w X w6 q S m0 n2 /\ Cr9 w.heap.size X w6 mb (.slice (some ⟨g,0,none⟩) l c) M ms):=⟨S,n,by have:=HLN.out.2; omega,hf0,his,hcr⟩
          clear hf0 his hcr HW6
          go_wp2_with fail
          go_meet
          exact ⟨q,rfl,HG⟩
       case rest =>
        obtain ⟨q2,rfl,HQ⟩:=hcut
        obtain ⟨S2,n2,hn2,hf2,is2,cr2⟩:=HQ.out
        have HM0:=Lib.hid HW6.out.1
        have HOP:=Lib.hid (Uj K is2 hf2 (by unfold limN; omega))
        have C2:=Lib.hid cr2
        clear HQ HW6 hf2 is2 cr2
        go_wp2_with fail
        refine HOP.out.mono ?_
        rintro e w7 ⟨t7,d7,s7,rfl,u7,m7,n7⟩
        have HST : Hid (CH E St w.heap.size w X w7 d7 q2 s7 /\ Cr9 w.heap.size X w7 mb (.slice (some ⟨g,0,none⟩) l c) M ms):=⟨u7,C2.out.turn t7 (fun k hk h => h.2 hk)⟩
        have hl:=HLN.out.1
        subst hl
        have hsn : s7.n <= limN:=by unfold limN; omega
        have HS7:=Lib.hid (And.intro m7 n7)
        have hmsl : ms.length <= 9223372036854775807:=by
         obtain ⟨vs,h9,-,-⟩:=HST.out.2.may
         rcases h9.2 with ⟨e9,_⟩ | ⟨_,cap,_,e9,_,_,hle,hcm,_⟩
         · cases e9
         · unfold maxLen at hcm; omega
        clear t7 u7 m7 n7 HOP C2
        go_wp2
        go_loopw [18,165] (fun fv jv wr => ∃ j : Nat,j <= ms.length /\ fv = .bool (decide (m0 ∈ ms.take j)) /\ jv = .int .i64 (j : Int) /\ Hid (∃ X M,CH E St w.heap.size w X wr d7 q2 s7 /\ Cr9 w.heap.size X wr mb (.slice (some ⟨g,0,none⟩) ms.length c) M ms /\ (m0 ∈ ms.take j -> M = m0))) (fun _ jv _ => ms.length - (intOf jv).toNat)
        case atStart => exact ⟨0,Nat.zero_le _,by simp,rfl,X,M,HST.out.1,HST.out.2,fun h => by simp at h⟩
        case round =>
         clear HST
         obtain ⟨j,hj,rfl,rfl,HJ⟩:=hrel
         obtain ⟨X3,M3,hu,hcr,hMm⟩:=HJ.out
         by_cases hlt : j < ms.length
         · have hmes3 : ms.length - (intOf (.int .i64 ((j : Int) + 1))).toNat < ms.length - (intOf (.int .i64 (j : Int))).toNat:=by simp [intOf]; omega
           obtain ⟨v,hcell,hmv⟩:=hcr.at hlt
           obtain ⟨va,vc,rfl,hrv,hxv⟩:=hmv
           have hbl : Below wr.heap.size wr (wr.alloc (.cells #[.slice va (ms[j]).length vc] 32)):=(Below.refl _ wr).alloc (Nat.le_refl _) _
           have hnb:=heap_alloc_new wr (.cells #[.slice va (ms[j]).length vc] 32)
           have hu2:=hu.laid K hbl
           have hc2:=(hcr.below hbl).more (Y:=fun k => X3 k \/ (wr.heap.size <= k /\ k < (wr.alloc (.cells #[.slice va (ms[j]).length vc] 32)).heap.size)) (fun k hk => .inl hk)
           have hr2:=Ah hrv hbl
           have hto:=Z9 K hu2 hsn hr2 (fun k hk => .inl (hxv k hk))
           rw [HS7.out.1] at hto
           have hxl : (fun k => X3 k \/ (wr.heap.size <= k /\ k < (wr.alloc (.cells #[.slice va (ms[j]).length vc] 32)).heap.size)) wr.heap.size:=.inr ⟨Nat.le_refl _,by simp⟩
           have HTO:=Lib.hid hto
           have HC2:=Lib.hid hc2
           have HNB:=Lib.hid hnb
           have HXL:=Lib.hid hxl
           have HR2:=Lib.hid (And.intro hr2 hxv)
           have HMM:=Lib.hid hMm
           have HTK : Hid (m0 ∈ ms.take (j + 1) ↔ m0 ∈ ms.take j \/ m0 = ms[j]):=by
            show _ ↔ _
            rw [List.take_succ_eq_append_getElem hlt,List.mem_append,List.mem_singleton]
           clear hu hcr hMm HJ hrv hxv hbl hnb hu2 hc2 hr2 hto hxl
           generalize hMJ : ms[j] = MJ at *
           clear hMJ
           go_wp2_with fail
           refine HTO.out.mono ?_
           rintro e w8 ⟨rfl,t8,u8⟩
           have hnb8:=(t8.block _ (Ad HNB.out) (fun h => h.2 HXL.out)).trans HNB.out
           have z20 : w8.cell? ⟨wr.heap.size,0,none⟩ = some (.slice va MJ.length vc):=(Ab hnb8 0).trans rfl
           have hc8:=HC2.out.turn t8 (fun k hk h => h.2 hk)
           by_cases hmj : m0 = MJ
           · have hde : decide (m0 = MJ) = true:=decide_eq_true hmj
             obtain ⟨vm8,-,hmh8⟩:=hc8.m
             have zm8 : w8.cell? ⟨mb,0,none⟩ = some vm8:=(Ab hmh8 0).trans rfl
             have zf8 : w8.frozen? ⟨mb,0,none⟩ = false:=Ag hmh8 0
             have hv8 : DY w8 (fun k => X3 k \/ (wr.heap.size <= k /\ k < (wr.alloc (.cells #[.slice va MJ.length vc] 32)).heap.size)) (.slice va MJ.length vc) MJ:=⟨va,vc,rfl,t8.row HR2.out.1 (fun k hk h => h.2 (.inl (HR2.out.2 k hk))),fun k hk => .inl (HR2.out.2 k hk)⟩
             have hs8:=hc8.store hv8
             have hu9:=u8.own K hs8.2 (fun k hk => by have hk : k = mb:=hk; subst hk; exact ⟨hc8.xm,hc8.lo⟩)
             have HG : Hid (∃ X M,CH E St w.heap.size w X (w8.setCell ⟨mb,0,none⟩ (.slice va MJ.length vc)) d7 q2 s7 /\ Cr9 w.heap.size X (w8.setCell ⟨mb,0,none⟩ (.slice va MJ.length vc)) mb (.slice (some ⟨g,0,none⟩) ms.length c) M ms /\ (m0 ∈ ms.take (j + 1) -> M = m0)):=⟨_,MJ,hu9,hs8.1.more (fun k hk => .inl hk),fun _ => hmj.symm⟩
             have hdt : decide (m0 ∈ ms.take (j + 1)) = true:=decide_eq_true (HTK.out.2 (.inr hmj))
             have HDT:=Lib.hid hdt
             clear t8 u8 hnb8 hc8 hmh8 hv8 hs8 hu9 hmj hdt HTO
             go_wp2
             go_roundw
             case rel => exact ⟨j + 1,by omega,by rw [HDT.out],by go_num,HG⟩
             case measure => exact hmes3
           · have hde : decide (m0 = MJ) = false:=decide_eq_false hmj
             have HG : Hid (∃ X M,CH E St w.heap.size w X w8 d7 q2 s7 /\ Cr9 w.heap.size X w8 mb (.slice (some ⟨g,0,none⟩) ms.length c) M ms /\ (m0 ∈ ms.take (j + 1) -> M = m0)):=⟨_,M3,u8,hc8,fun h => by rcases HTK.out.1 h with h9 | h9; exact HMM.out h9; exact absurd h9 hmj⟩
             have HDT : Hid (decide (m0 ∈ ms.take j) = decide (m0 ∈ ms.take (j + 1))):=by
              show _ = _
              rw [decide_eq_decide]
              exact ⟨fun h => HTK.out.2 (.inl h),fun h => by rcases HTK.out.1 h with h9 | h9; exact h9; exact absurd h9 hmj⟩
             clear t8 u8 hnb8 hc8 hmj HTO z20
             go_wp2
             go_roundw
             case rel => exact ⟨j + 1,by omega,by rw [HDT.out],by go_num,HG⟩
             case measure => exact hmes3
         · obtain rfl : j = ms.length:=by omega
           rw [List.take_length] at hMm ⊢
           have hMe:=hMm HM0.out
           subst hMe
           have hdt : decide (M3 ∈ ms) = true:=decide_eq_true HM0.out
           obtain ⟨vm8,hmv8,hmh8⟩:=hcr.m
           obtain ⟨va,vc,rfl,hrv,hxv⟩:=hmv8
           have zm8 : wr.cell? ⟨mb,0,none⟩ = some (.slice va M3.length vc):=(Ab hmh8 0).trans rfl
           have hal:=hcr.alone ⟨va,vc,rfl,hrv,hxv⟩ hu.bel.size
           have hua:=hu.laid K ((Below.refl _ wr).alloc (Nat.le_refl _) (.cells #[.slice va M3.length vc] 32))
           have HG : Hid (∃ X s,CH E St w.heap.size w X (wr.alloc (.cells #[.slice va M3.length vc] 32)) d7 q2 s /\ Cr9 w.heap.size X (wr.alloc (.cells #[.slice va M3.length vc] 32)) mb (.slice (some ⟨wr.heap.size,0,none⟩) 1 1) s.map [s.map] /\ s.n <= 1 + i2 + 4 * (k + 1)):=⟨_,s7,hua,by rw [HS7.out.1]; exact hal,by have:=HS7.out.2; omega⟩
           rw [hdt]
           clear hu hcr hMm hmh8 hrv hxv hal hua HJ hdt
           go_wp2
           go_roundw
           case rel => exact ⟨k + 1,i2,q2,d7,wr.heap.size,1,by omega,hi2,rfl,rfl,rfl,rfl,by go_num,HG⟩
           case measure => exact hmes
  · obtain ⟨X,s,hu,-,-⟩:=HI.out
    have HB:=Lib.hid hu.bel
    have hkI : ¬ (k : Int) <= (bs.length : Int):=by omega
    clear HI hu
    go_wp2
    go_ret
    exact ⟨rfl,HB.out⟩
end
end
end Go.Proofs.YtlkefgngefpkiaaGreatDoor
