/- Parts of the proof. -/
import Derived.Test.YtnafjlhohbhcoaaGreatDoorQ40
import Derived.Test.YtnafjlhohbhcoaaGreatDoorQ37
import Derived.Test.YtnafjlhohbhcoaaGreatDoorQ43
import Derived.Stop.LaidErr
import Derived.Lay
import Derived.Shelf.Strings.SlTrimAscii
import Derived.Lib.Atoi
namespace Go.Proofs.YtnafjlhohbhcoaaGreatDoor
open Go.Lib (hid)
set_option linter.unusedVariables false
section
open Go.RowKit Go.Maps Go.WideMaps Go.Shelf
def JX : ByteArray:=⟨#[108,111,103]⟩
theorem JX.key : JX.data.toList = LOG:=rfl
structure EY (B : Nat) (w : World) : Prop where
 size : B <= w.heap.size
 gt : 3 < B
 gb : 2 < B
 ge : 0 < B
 tab : Tab w
 tab64 : CP w
 err : ∃ te pe,w.cell? ⟨0,0,none⟩ = some (.iface te pe)
theorem CP.turn9 {w w' : World} {G : Nat -> Prop} (h : CP w) (t : Ac G w w') (hg : ¬ G 2) : CP w':=by
 unfold CP Lib.TabIs World.var? at *
 rw [tab64_named] at h ⊢
 simp only [Option.bind_some] at h ⊢
 have hlt : 2 < w.heap.size:=by
  rcases Nat.lt_or_ge 2 w.heap.size with h' | h'
  · exact h'
  · rw [Array.getElem?_eq_none h'] at h; simp at h
 rw [t.block _ hlt hg]
 exact h
theorem EY.turn {B : Nat} {w w' : World} {G : Nat -> Prop} (h : EY B w) (t : Ac G w w') (hG : ∀ k,G k -> B <= k) : EY B w':=by
 have n1 : ∀ k,k < B -> ¬ G k:=fun k hk hg => by have:=hG k hg; omega
 obtain ⟨te,pe,he⟩:=h.err
 refine ⟨Nat.le_trans h.size t.size,h.gt,h.gb,h.ge,h.tab.turn t (n1 _ h.gt),h.tab64.turn9 t (n1 _ h.gb),te,pe,?_⟩
 exact (World.cell?_of_block (w:=w) (a:=⟨0,0,none⟩) (t.block _ (World.block_lt_of_cell? w ⟨_,_,none⟩ he) (n1 _ h.ge))).trans he
theorem EY.below {B : Nat} {w w' : World} (h : EY B w) (t : Below w.heap.size w w') : EY B w':=h.turn (Ac.of_below (fun _ => False) t) (fun _ h => h.elim)
def CQ (w : World) (rv : Value) (l : List Aa) (F : Nat -> Prop) : Prop:=
 ∃ g c p,rv = .slice (some ⟨g,0,none⟩) 1 c /\ F g /\ w.cell? ⟨g,0,none⟩ = some (.pointer (some ⟨p,0,none⟩)) /\ Lc w p l F
def Dr (w : World) (tv : Value) (runs : List (List Aa)) (F : Nat -> Prop) : Prop:=
 ∃ vs : List Value,w.ownsRow 0 115 1 tv runs.length vs /\ vs.length = runs.length /\ (∀ k,tv.ownBlock = some k -> F k) /\ ∀ i (h : i < runs.length),CQ w (vs.getD i undef) runs[i] F
theorem CQ.mono {w : World} {rv : Value} {l : List Aa} {F G : Nat -> Prop} (h : CQ w rv l F) (hd : ∀ k,F k -> G k) : CQ w rv l G:=by
 obtain ⟨g,c,p,h1,h2,h3,h4⟩:=h
 exact ⟨g,c,p,h1,hd _ h2,h3,h4.mono hd⟩
theorem CQ.kept {w w' : World} {rv : Value} {l : List Aa} {F G : Nat -> Prop} (h : CQ w rv l F) (t : Ac G w w') (hd : ∀ k,F k -> ¬ G k) : CQ w' rv l F:=by
 obtain ⟨g,c,p,h1,h2,h3,h4⟩:=h
 exact ⟨g,c,p,h1,h2,(World.cell?_of_block (w:=w) (a:=⟨g,0,none⟩) (t.block _ (World.block_lt_of_cell? w ⟨g,0,none⟩ h3) (hd _ h2))).trans h3,h4.kept t hd⟩
theorem CQ.tight {w : World} {rv : Value} {l : List Aa} {F : Nat -> Prop} (h : CQ w rv l F) : CQ w rv l (fun k => F k /\ k < w.heap.size):=by
 obtain ⟨g,c,p,h1,h2,h3,h4⟩:=h
 exact ⟨g,c,p,h1,⟨h2,World.block_lt_of_cell? w ⟨g,0,none⟩ h3⟩,h3,h4.tight⟩
theorem Dr.kept {w w' : World} {tv : Value} {runs : List (List Aa)} {F G : Nat -> Prop} (h : Dr w tv runs F) (t : Ac G w w') (hd : ∀ k,F k -> ¬ G k) : Dr w' tv runs F:=by
 obtain ⟨vs,h1,h2,h3,h4⟩:=h
 exact ⟨vs,t.row h1 (fun k hk => hd _ (h3 k hk)),h2,h3,fun i hi => (h4 i hi).kept t hd⟩
theorem Dr.below {w w' : World} {tv : Value} {runs : List (List Aa)} {F : Nat -> Prop} (h : Dr w tv runs F) (t : Below w.heap.size w w') : Dr w' tv runs F:=h.kept (Ac.of_below (fun _ => False) t) (fun _ _ h => h)
theorem Dr.nil (w : World) (F : Nat -> Prop) : Dr w (.slice none 0 0) [] F:=⟨[],World.ownsRow_nil _ _ _ _,rfl,fun k hk => by simp [Value.ownBlock] at hk,fun i hi => by simp at hi⟩
theorem Dr.read {w : World} {tv : Value} {runs : List (List Aa)} {F : Nat -> Prop} (h : Dr w tv runs F) : ∃ a c,tv = .slice a runs.length c /\ runs.length <= c /\ c <= maxLen /\ ∀ i (hi : i < runs.length),∃ g rv,a = some ⟨g,0,none⟩ /\ F g /\ w.cell? ⟨g,i,none⟩ = some rv /\ CQ w rv runs[i] F:=by
 obtain ⟨vs,h1,h2,h3,h4⟩:=h
 rcases h1.2 with ⟨hv,h0⟩ | ⟨g,cap,cur,hv,_,hg,hle,hcm,hcs,htake⟩
 · refine ⟨none,0,by rw [hv,h0],by omega,by decide,fun i hi => by omega⟩
 · refine ⟨some ⟨g,0,none⟩,cap,hv,hle,hcm,fun i hi => ⟨g,vs.getD i undef,rfl,h3 g (by rw [hv]; rfl),?_,h4 i hi⟩⟩
   rw [cell_of_row w g _ cur _ _ hg]
   have : (cur.toList.take (runs.length * 1))[i]? = vs[i]?:=by rw [htake]
   rw [List.getElem?_take,if_pos (by omega)] at this
   rw [<- Array.getElem?_toList,this]
   simp [List.getD,h2,hi]
def Bl (w : World) (d b q mp : Nat) (tv : Value) (newest last logged : Nat) (dn : Bool) : Prop:=
 w.heap[d]? = some (.cells #[.pointer (some ⟨b,0,none⟩),.pointer (some ⟨q,0,none⟩),.pointer (some ⟨mp,0,none⟩),tv,.int .i64 (newest : Int),.int .i64 (last : Int),.int .i64 (logged : Int),.bool dn] 99 (0,0))
section
variable {w w' : World} {d b q mp newest last logged : Nat} {tv : Value} {dn : Bool}
theorem Bl.lt (h : Bl w d b q mp tv newest last logged dn) : d < w.heap.size:=Ad h
theorem Bl.c0 (h : Bl w d b q mp tv newest last logged dn) : w.cell? ⟨d,0,none⟩ = some (.pointer (some ⟨b,0,none⟩)):=by rw [Ab h]; rfl
theorem Bl.c1 (h : Bl w d b q mp tv newest last logged dn) : w.cell? ⟨d,1,none⟩ = some (.pointer (some ⟨q,0,none⟩)):=by rw [Ab h]; rfl
theorem Bl.c2 (h : Bl w d b q mp tv newest last logged dn) : w.cell? ⟨d,2,none⟩ = some (.pointer (some ⟨mp,0,none⟩)):=by rw [Ab h]; rfl
theorem Bl.c3 (h : Bl w d b q mp tv newest last logged dn) : w.cell? ⟨d,3,none⟩ = some tv:=by rw [Ab h]; rfl
theorem Bl.c4 (h : Bl w d b q mp tv newest last logged dn) : w.cell? ⟨d,4,none⟩ = some (.int .i64 (newest : Int)):=by rw [Ab h]; rfl
theorem Bl.c5 (h : Bl w d b q mp tv newest last logged dn) : w.cell? ⟨d,5,none⟩ = some (.int .i64 (last : Int)):=by rw [Ab h]; rfl
theorem Bl.c6 (h : Bl w d b q mp tv newest last logged dn) : w.cell? ⟨d,6,none⟩ = some (.int .i64 (logged : Int)):=by rw [Ab h]; rfl
theorem Bl.c7 (h : Bl w d b q mp tv newest last logged dn) : w.cell? ⟨d,7,none⟩ = some (.bool dn):=by rw [Ab h]; rfl
theorem Bl.free (h : Bl w d b q mp tv newest last logged dn) (i : Nat) : w.frozen? ⟨d,i,none⟩ = false:=Ag h i
theorem Bl.setMem (h : Bl w d b q mp tv newest last logged dn) (mp' : Nat) : Bl (w.setCell ⟨d,2,none⟩ (.pointer (some ⟨mp',0,none⟩))) d b q mp' tv newest last logged dn:=block_set h 2 _
theorem Bl.setTabs (h : Bl w d b q mp tv newest last logged dn) (tv' : Value) : Bl (w.setCell ⟨d,3,none⟩ tv') d b q mp tv' newest last logged dn:=block_set h 3 _
theorem Bl.setNewest (h : Bl w d b q mp tv newest last logged dn) (n : Nat) : Bl (w.setCell ⟨d,4,none⟩ (.int .i64 (n : Int))) d b q mp tv n last logged dn:=block_set h 4 _
theorem Bl.setLast (h : Bl w d b q mp tv newest last logged dn) (n : Nat) : Bl (w.setCell ⟨d,5,none⟩ (.int .i64 (n : Int))) d b q mp tv newest n logged dn:=block_set h 5 _
theorem Bl.setLogged (h : Bl w d b q mp tv newest last logged dn) (n : Nat) : Bl (w.setCell ⟨d,6,none⟩ (.int .i64 (n : Int))) d b q mp tv newest last n dn:=block_set h 6 _
end
structure AU (w : World) (d b q mp : Nat) (tv : Value) (st : AQ) (dn : Bool) (c : Nat) (ap : Bool) (S : Bx) (F Fb Fm Fr : Nat -> Prop) : Prop where
 head : Bl w d b q mp tv st.newest st.last st.logged dn
 log : Bb w q b JX c ap
 box : AH w b S Fb
 mem : CN w mp st.mem Fm
 runs : Dr w tv st.runs Fr
 fd : F d
 fq : F q
 fb : ∀ k,Fb k -> F k
 fm : ∀ k,Fm k -> F k
 fr : ∀ k,Fr k -> F k
 dq : d ≠ q
 db : ¬ Fb d
 dm : ¬ Fm d
 dr : ¬ Fr d
 qb : ¬ Fb q
 qm : ¬ Fm q
 qr : ¬ Fr q
 bm : ∀ k,Fb k -> ¬ Fm k
 br : ∀ k,Fb k -> ¬ Fr k
 mr : ∀ k,Fm k -> ¬ Fr k
 lt : ∀ k,F k -> k < w.heap.size
 c1 : 1 <= c
 c8 : c <= 99999999
section
variable {w w' : World} {d b q mp c : Nat} {tv : Value} {st : AQ} {dn ap : Bool} {S : Bx} {F Fb Fm Fr : Nat -> Prop}
theorem AU.below (h : AU w d b q mp tv st dn c ap S F Fb Fm Fr) (t : Below w.heap.size w w') : AU w' d b q mp tv st dn c ap S F Fb Fm Fr:=
 { h with
   head:=(t.block d h.head.lt).trans h.head
   log:=h.log.below t
   box:=h.box.below t
   mem:=h.mem.kept (Ac.of_below (fun _ => False) t) (fun _ _ h => h)
   runs:=h.runs.below t
   lt:=fun k hk => Nat.lt_of_lt_of_le (h.lt k hk) t.size }
theorem AU.kept (h : AU w d b q mp tv st dn c ap S F Fb Fm Fr) {G : Nat -> Prop} (t : Ac G w w') (hd : ∀ k,F k -> ¬ G k) : AU w' d b q mp tv st dn c ap S F Fb Fm Fr:=
 { h with
   head:=t.keeps h.head (hd _ h.fd)
   log:=t.keeps h.log (hd _ h.fq)
   box:=h.box.kept t (fun k hk => hd k (h.fb k hk))
   mem:=h.mem.kept t (fun k hk => hd k (h.fm k hk))
   runs:=h.runs.kept t (fun k hk => hd k (h.fr k hk))
   lt:=fun k hk => Nat.lt_of_lt_of_le (h.lt k hk) t.size }
theorem AU.mono (h : AU w d b q mp tv st dn c ap S F Fb Fm Fr) {G : Nat -> Prop} (hg : ∀ k,F k -> G k) (hl : ∀ k,G k -> k < w.heap.size) : AU w d b q mp tv st dn c ap S G Fb Fm Fr:=
 { h with fd:=hg _ h.fd,fq:=hg _ h.fq,fb:=fun k hk => hg _ (h.fb k hk),fm:=fun k hk => hg _ (h.fm k hk),fr:=fun k hk => hg _ (h.fr k hk),lt:=hl }
theorem AU.logIn {B : Nat} (h : AU w d b q mp tv st dn c ap S F Fb Fm Fr) (e : EY B w) (hB : ∀ k,F k -> B <= k) : AW w q b JX c ap S Fb:=
 ⟨h.box,h.log,h.qb,by decide,by decide,h.c1,h.c8,e.tab,fun hk => by have:=hB _ (h.fb _ hk); have:=e.gt; omega,fun hk => by have:=hB _ h.fq; have:=e.gt; omega⟩
theorem AU.onLog (h : AU w d b q mp tv st dn c ap S F Fb Fm Fr) {c' : Nat} {ap' : Bool} {S' : Bx} (hl : AW w' q b JX c' ap' S' (AN Fb w w')) (t : Ac (Na Fb q) w w') : AU w' d b q mp tv st dn c' ap' S' (AN F w w') (AN Fb w w') Fm Fr /\ Ac F w w':=by
 have hs:=t.size
 have old : ∀ k,F k -> k < w.heap.size:=h.lt
 have n1 : ∀ k,k < w.heap.size -> AN Fb w w' k -> Fb k:=fun k hk hg => by rcases hg with hg | hg; exact hg; omega
 refine ⟨{ head:=t.keeps h.head (fun e => by rcases e with e | e; exact h.db e; exact h.dq e)
           log:=hl.head
           box:=hl.box
           mem:=h.mem.kept t (fun k hk e => by rcases e with e | e; exact h.bm k e hk; exact h.qm (e ▸ hk))
           runs:=h.runs.kept t (fun k hk e => by rcases e with e | e; exact h.br k e hk; exact h.qr (e ▸ hk))
           fd:=.inl h.fd,fq:=.inl h.fq
           fb:=fun k hk => by rcases hk with hk | hk; exact .inl (h.fb k hk); exact .inr hk
           fm:=fun k hk => .inl (h.fm k hk),fr:=fun k hk => .inl (h.fr k hk)
           dq:=h.dq,db:=fun e => h.db (n1 _ (old _ h.fd) e),dm:=h.dm,dr:=h.dr
           qb:=fun e => h.qb (n1 _ (old _ h.fq) e),qm:=h.qm,qr:=h.qr
           bm:=fun k hk hm => h.bm k (n1 k (old k (h.fm k hm)) hk) hm
           br:=fun k hk hm => h.br k (n1 k (old k (h.fr k hm)) hk) hm
           mr:=h.mr
           lt:=fun k hk => by rcases hk with hk | hk; exact Nat.lt_of_lt_of_le (old k hk) hs; exact hk.2
           c1:=hl.cur1,c8:=hl.cur8 },?_⟩
 exact t.mono fun k hk => by rcases hk with hk | hk; exact .inl (h.fb k hk); exact .inl (hk ▸ h.fq)
theorem AU.onBox (h : AU w d b q mp tv st dn c ap S F Fb Fm Fr) {S' : Bx} (hb : AH w' b S' (AN Fb w w')) (t : Ac Fb w w') : AU w' d b q mp tv st dn c ap S' (AN F w w') (AN Fb w w') Fm Fr /\ Ac F w w':=by
 have hs:=t.size
 have old : ∀ k,F k -> k < w.heap.size:=h.lt
 have n1 : ∀ k,k < w.heap.size -> AN Fb w w' k -> Fb k:=fun k hk hg => by rcases hg with hg | hg; exact hg; omega
 refine ⟨{ head:=t.keeps h.head h.db
           log:=t.keeps h.log h.qb
           box:=hb
           mem:=h.mem.kept t (fun k hk e => h.bm k e hk)
           runs:=h.runs.kept t (fun k hk e => h.br k e hk)
           fd:=.inl h.fd,fq:=.inl h.fq
           fb:=fun k hk => by rcases hk with hk | hk; exact .inl (h.fb k hk); exact .inr hk
           fm:=fun k hk => .inl (h.fm k hk),fr:=fun k hk => .inl (h.fr k hk)
           dq:=h.dq,db:=fun e => h.db (n1 _ (old _ h.fd) e),dm:=h.dm,dr:=h.dr
           qb:=fun e => h.qb (n1 _ (old _ h.fq) e),qm:=h.qm,qr:=h.qr
           bm:=fun k hk hm => h.bm k (n1 k (old k (h.fm k hm)) hk) hm
           br:=fun k hk hm => h.br k (n1 k (old k (h.fr k hm)) hk) hm
           mr:=h.mr
           lt:=fun k hk => by rcases hk with hk | hk; exact Nat.lt_of_lt_of_le (old k hk) hs; exact hk.2
           c1:=h.c1,c8:=h.c8 },?_⟩
 exact t.mono fun k hk => .inl (h.fb k hk)
theorem AU.onMem (h : AU w d b q mp tv st dn c ap S F Fb Fm Fr) {m : List Aa} (hm : CN w' mp m (AN Fm w w')) (t : Ac Fm w w') : AU w' d b q mp tv { st with mem:=m } dn c ap S (AN F w w') Fb (AN Fm w w') Fr /\ Ac F w w':=by
 have hs:=t.size
 have old : ∀ k,F k -> k < w.heap.size:=h.lt
 have n1 : ∀ k,k < w.heap.size -> AN Fm w w' k -> Fm k:=fun k hk hg => by rcases hg with hg | hg; exact hg; omega
 refine ⟨{ head:=t.keeps h.head h.dm
           log:=t.keeps h.log h.qm
           box:=h.box.kept t (fun k hk e => h.bm k hk e)
           mem:=hm
           runs:=h.runs.kept t (fun k hk e => h.mr k e hk)
           fd:=.inl h.fd,fq:=.inl h.fq
           fb:=fun k hk => .inl (h.fb k hk)
           fm:=fun k hk => by rcases hk with hk | hk; exact .inl (h.fm k hk); exact .inr hk
           fr:=fun k hk => .inl (h.fr k hk)
           dq:=h.dq,db:=h.db,dm:=fun e => h.dm (n1 _ (old _ h.fd) e),dr:=h.dr
           qb:=h.qb,qm:=fun e => h.qm (n1 _ (old _ h.fq) e),qr:=h.qr
           bm:=fun k hk hm => h.bm k hk (n1 k (old k (h.fb k hk)) hm)
           br:=h.br
           mr:=fun k hk hr => h.mr k (n1 k (old k (h.fr k hr)) hk) hr
           lt:=fun k hk => by rcases hk with hk | hk; exact Nat.lt_of_lt_of_le (old k hk) hs; exact hk.2
           c1:=h.c1,c8:=h.c8 },?_⟩
 exact t.mono fun k hk => .inl (h.fm k hk)
theorem AbC {v : Value} {i : Nat} : Ac (fun k => k = d) w (w.setCell ⟨d,i,none⟩ v):=(Ac.refl (fun k => k = d) w).setCell (p:=⟨d,i,none⟩) (.inl rfl) v
theorem AU.setD (h : AU w d b q mp tv st dn c ap S F Fb Fm Fr) {i : Nat} {v : Value} {st' : AQ} {dn' : Bool} (hh : Bl (w.setCell ⟨d,i,none⟩ v) d b q mp tv st'.newest st'.last st'.logged dn') (hm : st'.mem = st.mem) (hr : st'.runs = st.runs) : AU (w.setCell ⟨d,i,none⟩ v) d b q mp tv st' dn' c ap S F Fb Fm Fr /\ Ac F w (w.setCell ⟨d,i,none⟩ v):=by
 have t : Ac (fun k => k = d) w (w.setCell ⟨d,i,none⟩ v):=AbC
 refine ⟨{ h with
           head:=hh
           log:=t.keeps h.log (fun e => h.dq e.symm)
           box:=h.box.kept t (fun k hk e => by have e : k = d:=e; subst e; exact h.db hk)
           mem:=by rw [hm]; exact h.mem.kept t (fun k hk e => by have e : k = d:=e; subst e; exact h.dm hk)
           runs:=by rw [hr]; exact h.runs.kept t (fun k hk e => by have e : k = d:=e; subst e; exact h.dr hk)
           lt:=fun k hk => Nat.lt_of_lt_of_le (h.lt k hk) t.size },?_⟩
 exact t.mono fun k hk => .inl (by have hk : k = d:=hk; subst hk; exact h.fd)
theorem Jm {F : Nat -> Prop} {a b c : World} (h1 : a.heap.size <= b.heap.size) (h2 : b.heap.size <= c.heap.size) : ∀ k,AN (AN F a b) b c k -> AN F a c k:=fun k hk => by
 rcases hk with (hk | hk) | hk
 · exact .inl hk
 · exact .inr ⟨hk.1,by omega⟩
 · exact .inr ⟨by omega,hk.2⟩
theorem C9 {F : Nat -> Prop} {a b c : World} (h : Ac F a b) (k : Ac (AN F a b) b c) : Ac F a c:=h.trans k fun i hi => by
 rcases hi with hi | hi
 · exact .inl hi
 · exact .inr hi.1
end
end
section
open Go.RowKit
theorem cellsTab : Tryz.prog.cellsOf 285 = 20:=by kernel_rfl
theorem cellsU64 : Tryz.prog.cellsOf 184 = 1:=by kernel_rfl
theorem tabType : (Tryz.prog.globals[3]?).map (·.type) = some 285:=by kernel_rfl
theorem cellsTab64 : Tryz.prog.cellsOf 274 = 64:=by kernel_rfl
theorem cellsU8 : Tryz.prog.cellsOf 5 = 1:=by kernel_rfl
theorem tab64Type : (Tryz.prog.globals[2]?).map (·.type) = some 274:=by kernel_rfl
theorem syn_named : Tryz.prog.globalNamed "strconv.ErrSyntax" = some 0:=by kernel_rfl
theorem synType : (Tryz.prog.globals[0]?).map (·.type) = some 170:=by kernel_rfl
abbrev laid9 : List (String × DataW Unit):=[("math/bits.deBruijn32tab",Rows.laid_math_bits_deBruijn32tab),("math/bits.deBruijn64tab",Rows.laid_math_bits_deBruijn64tab),("internal/strconv.uint64pow10",Rows.laid_internal_strconv_uint64pow10),("unicode/utf8.acceptRanges",Rows.laid_unicode_utf8_acceptRanges),("strconv.ErrRange",Rows.laid_strconv_ErrRange),("strconv.ErrSyntax",Rows.laid_strconv_ErrSyntax),("unicode/utf8.first",Rows.laid_unicode_utf8_first)]
def UA (W : World) : Prop:=EY W.heap.size W
theorem Lm {W : World} {n : String} {g : Nat} {cs : Array Value} (hg : Tryz.prog.globalNamed n = some g) (h : W.var? Tryz.prog n = some cs) : g < W.heap.size:=by
 unfold World.var? at h
 rw [hg] at h
 simp only [Option.bind_some] at h
 rcases Nat.lt_or_ge g W.heap.size with h' | h'
 · exact h'
 · rw [Array.getElem?_eq_none h'] at h; simp at h
theorem Ey {W : World} (h : laidMet Tryz.prog laid9 W) : UA W:=by
 have h64 : CP W:=Lib.tabIs_of_head tab64_named tab64Type Tryz.underlying274 Tryz.underlying5 cellsU8 cellsTab64 h.tail
 have h10 : Tab W:=Lib.tabIs_of_head tab_named tabType Tryz.underlying285 Tryz.underlying184 cellsU64 cellsTab h.tail.tail
 obtain ⟨ps,⟨g0,t0,cs0,f0,p0,q0,hg0,ht0,hv0,hd0,_,e0⟩,_,hrows⟩:=h.tail.tail.tail.tail.tail
 obtain rfl:=Option.some.inj (syn_named.symm.trans hg0)
 obtain rfl:=Option.some.inj (synType.symm.trans ht0)
 obtain ⟨f1,u,v,hcs,_⟩:=iface_of_trod Tryz.underlying170 hd0
 refine ⟨Nat.le_refl _,Lm tab_named h10,Lm tab64_named h64,Lm syn_named hv0,h10,h64,u,v,?_⟩
 have:=World.var?_cell syn_named hv0 0
 rw [this]
 have e : cs0[0]? = cs0.toList[0]?:=by simp
 rw [e,hcs]
 rfl
noncomputable def Bj (os : Os) : World:=World.laidAll Tryz.prog os laid9
set_option maxRecDepth 100000 in
theorem DK (os : Os) (args : Array Value) : laidMet Tryz.prog laid9 ((Bj os).forCall (fun _ _ => 0) ⟨#[],args,[]⟩).memory:=laidMet_laidAll _ (by kernel_rfl) (by kernel_rfl)
end
section
open Go.RowKit Go.Lib
set_option maxRecDepth 100000 in
theorem YQ (b : Bool) (w : World) :
 Calls Tryz.prog 125 #[.bool b] w fun e w' => e = .returned (.string ⟨(Ej b).toArray⟩) /\ Below w.heap.size w w':=by
 have h1:=hid (F2 1 (AK (by omega)) w)
 have h0:=hid (F2 0 (AK (by omega)) w)
 cases b with
 | true =>
   go_enter Tryz.func125,Tryz.ntmps125
   go_wp2_with fail
   refine h1.out.mono ?_
   rintro e w1 ⟨rfl,b1⟩
   have B1:=hid b1
   have HE : Hid ((⟨(As 1).toArray⟩ : ByteArray) = ⟨(Ej true).toArray⟩):=rfl
   clear b1 h0 h1
   generalize (⟨(As 1).toArray⟩ : ByteArray) = X at *
   go_wp2
   go_ret
   exact ⟨by rw [<- HE.out]; rfl,B1.out⟩
 | false =>
   go_enter Tryz.func125,Tryz.ntmps125
   go_wp2_with fail
   refine h0.out.mono ?_
   rintro e w1 ⟨rfl,b1⟩
   have B1:=hid b1
   have HE : Hid ((⟨(As 0).toArray⟩ : ByteArray) = ⟨(Ej false).toArray⟩):=rfl
   clear b1 h0 h1
   generalize (⟨(As 0).toArray⟩ : ByteArray) = X at *
   go_wp2
   go_ret
   exact ⟨by rw [<- HE.out]; rfl,B1.out⟩
@[irreducible] def EV (n : Nat) : ByteArray:=⟨(As n).toArray⟩
@[irreducible] def Eu (b : Bool) : ByteArray:=⟨(Ej b).toArray⟩
@[irreducible] def EC (s : ByteArray) : ByteArray:=⟨(As s.size ++ s.data.toList).toArray⟩
theorem LQ (n : Nat) : (EV n).data.toList = As n:=by unfold EV; rfl
theorem MR (b : Bool) : (Eu b).data.toList = Ej b:=by unfold Eu; rfl
theorem Ne (s : ByteArray) : (EC s).data.toList = As s.size ++ s.data.toList:=by unfold EC; rfl
theorem LI {n : Nat} (h : n <= 140737488355328) : (EV n).size <= 10:=by unfold EV; rw [A0]; exact Av (AK h)
theorem NX (b : Bool) : (Eu b).size = 1:=by unfold Eu; rw [A0,Hk]
theorem MV {s : ByteArray} (h : s.size <= 140737488355328) : (EC s).size <= s.size + 10:=by
 have h1:=Av (AK h)
 have h2 : s.data.toList.length = s.size:=by simp
 unfold EC
 rw [A0,List.length_append]
 omega
theorem Sv (n : Nat) (h : n <= 140737488355328) (w : World) : Calls Tryz.prog 124 #[.int .u64 (n : Int)] w fun e w' => e = .returned (.string (EV n)) /\ Below w.heap.size w w':=by
 unfold EV; exact F2 n (AK h) w
theorem Pf (b : Bool) (w : World) : Calls Tryz.prog 125 #[.bool b] w fun e w' => e = .returned (.string (Eu b)) /\ Below w.heap.size w w':=by
 unfold Eu; exact YQ b w
theorem Pi (s : ByteArray) (h : s.size <= 140737488355328) (w : World) : Calls Tryz.prog 126 #[.string s] w fun e w' => e = .returned (.string (EC s)) /\ Below w.heap.size w w':=by
 unfold EC; exact IZ s h w
theorem Ky (a b : ByteArray) : (a ++ b).data.toList = a.data.toList ++ b.data.toList:=by simp
def AaG (r : A9) (pv : Value) : Array Value:=#[.int .i64 (r.num : Int),.bool r.base.isSome,.int .i64 ((r.base.getD (0,0)).1 : Int),.int .i64 ((r.base.getD (0,0)).2 : Int),pv]
def Qf (r : A9) (pv : Value) : Value:=.agg (AaG r pv)
theorem Xi {l : List Aa} {i : Nat} (h : i < l.length) : EQ (l.take (i + 1)) = EQ (l.take i) ++ pr9 l[i]:=by
 rw [List.take_succ_eq_append_getElem h,Xq]
theorem OR {l : List Aa} (hf : Az l) (i : Nat) : (EQ (l.take i)).length <= At l + 21 * l.length:=by
 have h1:=prs9_len (l:=l.take i) fun x hx => hf x (List.mem_of_mem_take hx)
 have h2:=Ko l i
 have h3 : (l.take i).length <= l.length:=by rw [List.length_take]; omega
 omega
set_option maxHeartbeats 4000000 in
set_option maxRecDepth 100000 in
theorem Pp {w : World} {a : Option Addr} {c : Nat} {r : A9} (h : Aj w (.slice a r.ps.length c) r.ps) (hok : ER r) :
 Calls Tryz.prog 84 #[Qf r (.slice a r.ps.length c)] w fun e w' => e = .returned (.string ⟨r.bytes.toArray⟩) /\ Below w.heap.size w w':=by
 obtain ⟨num,base,ps⟩:=r
 have hmx : ps.length <= 4096:=hok.few
 have hnum : num <= limC:=hok.num
 have hsz : At ps <= 530000:=hok.size
 have hfi : Az ps:=hok.fine
 have hba : ∀ a k,base = some (a,k) -> a <= limC /\ k <= 3 /\ k <= a:=hok.base
 have hrl : (A9.bytes ⟨num,base,ps⟩).length <= 1048576:=A9.len hok
 simp only at h
 obtain ⟨bs,hbs0⟩ : ∃ bs,base.isSome = bs:=⟨_,rfl⟩
 obtain ⟨va,vk,hva,hvk⟩ : ∃ va vk,(base.getD (0,0)).1 = va /\ (base.getD (0,0)).2 = vk:=⟨_,_,rfl,rfl⟩
 have hva1 : va <= limC /\ vk <= 3:=by
  cases base with
  | none => rw [<- hva,<- hvk]; exact ⟨Nat.zero_le _,Nat.zero_le _⟩
  | some x => obtain ⟨a,k⟩:=x; rw [<- hva,<- hvk]; exact ⟨(hba a k rfl).1,(hba a k rfl).2.1⟩
 obtain ⟨hd,hhd⟩ : ∃ hd : List UInt8,As num ++ (Ej bs ++ base9 base) = hd:=⟨_,rfl⟩
 have hbytes : Hid ((⟨num,base,ps⟩ : A9).bytes = hd ++ EQ ps):=by
  show _ = _
  unfold A9.bytes
  rw [<- hhd,<- hbs0]
  simp only [List.append_assoc]
 obtain ⟨w0,hw0⟩ : ∃ w0,w.alloc (.cells #[.int .i64 (num : Int),.bool bs,.int .i64 (va : Int),.int .i64 (vk : Int),.slice a ps.length c] 136) = w0:=⟨_,rfl⟩
 have hb0 : Below w.heap.size w w0:=by rw [<- hw0]; exact (Below.refl _ w).alloc (Nat.le_refl _) _
 have hs0 : w0.heap.size = w.heap.size + 1:=by rw [<- hw0]; simp
 have hx0 : w0.heap[w.heap.size]? = some (.cells #[.int .i64 (num : Int),.bool bs,.int .i64 (va : Int),.int .i64 (vk : Int),.slice a ps.length c] 136 (0,0)):=by rw [<- hw0]; exact heap_alloc_new _ _
 have hB1:=AR.new w0
 have hb1 : Below w.heap.size w (w0.alloc (.cells #[.pointer none,.slice none 0 0] 182)):=hb0.alloc (by omega) _
 have hx1 : (w0.alloc (.cells #[.pointer none,.slice none 0 0] 182)).heap[w.heap.size]? = _:=(((Below.refl _ w0).alloc (Nat.le_refl _) (.cells #[.pointer none,.slice none 0 0] 182)).block w.heap.size (by omega)).trans hx0
 have H:=hid h
 have HF:=hid hfi
 have HB1:=hid hB1
 have Hb1:=hid hb1
 have HX1:=hid hx1
 have HS0:=hid hs0
 have SX : Hid (∀ w' w'' : World,w'.heap[w.heap.size]? = some (.cells #[.int .i64 (num : Int),.bool bs,.int .i64 (va : Int),.int .i64 (vk : Int),.slice a ps.length c] 136 (0,0)) -> BV w' w'' -> w''.heap[w.heap.size]? = some (.cells #[.int .i64 (num : Int),.bool bs,.int .i64 (va : Int),.int .i64 (vk : Int),.slice a ps.length c] 136 (0,0))):=fun w' w'' h t => t.cells h (by decide) (by decide)
 have zTN : (EV num).size <= 10:=LI (by unfold limC at hnum; omega)
 have zTF : (Eu bs).size <= 1:=Nat.le_of_eq (NX _)
 have zTA : (EV va).size <= 10:=LI (by have:=hva1.1; unfold limC at this; omega)
 have zTK : (EV vk).size <= 10:=LI (by have:=hva1.2; omega)
 have hNF : Hid ((EV num ++ Eu bs).data.toList = As num ++ Ej bs /\ (EV num ++ Eu bs).size <= 11):=by
  constructor
  · rw [Ky,LQ,MR]
  · rw [ByteArray.size_append]; omega
 have hAK : Hid ((EV va ++ EV vk).data.toList = As va ++ As vk /\ (EV va ++ EV vk).size <= 20):=by
  constructor
  · rw [Ky,LQ,LQ]
  · rw [ByteArray.size_append]; omega
 have e0 : Qf ⟨num,base,ps⟩ (.slice a ps.length c) = .agg #[.int .i64 (num : Int),.bool bs,.int .i64 (va : Int),.int .i64 (vk : Int),.slice a ps.length c]:=by unfold Qf AaG; rw [<- hva,<- hvk,<- hbs0]
 rw [e0]
 clear h hfi hB1 hb1 hx1 hs0 hb0 hx0 e0
 go_enter Tryz.func84,Tryz.ntmps84
 go_wp2_with fail
 generalize w0.alloc (.cells #[.pointer none,.slice none 0 0] 182) = w1 at *
 have hnumz : num <= 140737488355328:=by unfold limC at hnum; omega
 have hxaz : va <= 140737488355328:=by have:=hva1.1; unfold limC at this; omega
 have hxkz : vk <= 140737488355328:=by have:=hva1.2; omega
 have hwn : IntKind.u64.wrap (num : Int) = (num : Int):=by rw [IntKind.wrap_u64]; unfold limC at hnum; omega
 have hwa : IntKind.u64.wrap (va : Int) = (va : Int):=by rw [IntKind.wrap_u64]; have:=hva1.1; unfold limC at this; omega
 have hwk : IntKind.u64.wrap (vk : Int) = (vk : Int):=by rw [IntKind.wrap_u64]; have:=hva1.2; omega
 have hrbb : w.heap.size <= w0.heap.size:=by have:=HS0.out; omega
 have hsm1 : ¬ 9223372036854775807 < (EV num).size + (Eu bs).size:=by omega
 have hsm2 : ¬ 9223372036854775807 < (EV va).size + (EV vk).size:=by omega
 have c0 : w1.cell? ⟨w.heap.size,0,none⟩ = some (.int .i64 (num : Int)):=by rw [Ab HX1.out]; rfl
 have c1 : w1.cell? ⟨w.heap.size,1,none⟩ = some (.bool bs):=by rw [Ab HX1.out]; rfl
 have SB : Hid (∀ w',Below w1.heap.size w1 w' -> w'.cell? ⟨w.heap.size,0,none⟩ = some (.int .i64 (num : Int)) /\ w'.cell? ⟨w.heap.size,1,none⟩ = some (.bool bs)):=fun w' t =>
  ⟨(t.cell (World.block_lt_of_cell? w1 ⟨w.heap.size,0,none⟩ c0)).trans c0,(t.cell (World.block_lt_of_cell? w1 ⟨w.heap.size,1,none⟩ c1)).trans c1⟩
 have W1 : Hid (∀ w',Below w1.heap.size w1 w' -> Calls Tryz.prog 123 #[.pointer (some ⟨w0.heap.size,0,none⟩),.string (EV num ++ Eu bs)] w' fun e w'' => e = .returned (.tuple #[.int .i64 (EV num ++ Eu bs).size,.nilIface]) /\ (AR w'' w0.heap.size w0.heap.size (As num ++ Ej bs) /\ Below w.heap.size w w'' /\ w''.heap[w.heap.size]? = some (.cells #[.int .i64 (num : Int),.bool bs,.int .i64 (va : Int),.int .i64 (vk : Int),.slice a ps.length c] 136 (0,0)))):=fun w' t => by
  have hlt1:=HB1.out.lt
  have hrb:=Ad HX1.out
  have hts:=t.size
  refine (Cf (HB1.out.kept2 t) (EV num ++ Eu bs) (by have:=hNF.out.2; simp; omega) (by have:=t.size; omega)).mono ?_
  rintro e w3 ⟨rfl,t3,b3,k3⟩
  refine ⟨rfl,by rw [<- hNF.out.1]; exact t3,(Hb1.out.trans (t.mono (by omega))).trans (b3.mono hrbb),SX.out _ _ ((t.block w.heap.size (Ad HX1.out)).trans HX1.out) k3⟩
 go_region_held3 (fun w' => w'.cell? ⟨w.heap.size,0,none⟩ = some (.int .i64 (num : Int)) /\ w'.cell? ⟨w.heap.size,1,none⟩ = some (.bool bs)) (first | exact ⟨by rw [Ab h3.2.2]; rfl,by rw [Ab h3.2.2]; rfl⟩ | exact SB.out _ (by repeat (first | exact BB.out | exact BA.out | exact Below.refl _ _ | apply Below.drew)))
  (first
    | (go_at_call 124; refine (Sv num hnumz _).mono ?_; rintro e wA ⟨rfl,bA⟩; have BA : Hid (Below w1.heap.size w1 wA):=A4 (by repeat (first | exact BB.out | exact Below.refl _ _ | apply Below.drew)) (Nat.le_refl _) bA; clear bA)
    | (go_at_call 125; refine (Pf _ _).mono ?_; rintro e wB ⟨rfl,bB⟩; have BB : Hid (Below w1.heap.size w1 wB):=A4 (by repeat (first | exact BA.out | exact Below.refl _ _ | apply Below.drew)) (Nat.le_refl _) bB; clear bB)
    | (go_at_call 123; refine (W1.out _ (by repeat (first | exact BB.out | exact BA.out | exact Below.refl _ _ | apply Below.drew))).mono ?_; rintro e w3 ⟨rfl,h3⟩))
 obtain ⟨t3,b3,x3⟩:=h3
 have T3:=hid t3
 have B3:=hid b3
 have X3:=hid x3
 clear t3 b3 x3 SB W1 c0 c1
 have c1 : w3.cell? ⟨w.heap.size,1,none⟩ = some (.bool bs):=by rw [Ab X3.out]; rfl
 go_upto_if 16 with (fail)
 go_cut [] from 17 to 26 (fun wx => Hid (AR wx w0.heap.size w0.heap.size hd /\ Below w.heap.size w wx /\ wx.heap[w.heap.size]? = some (.cells #[.int .i64 (num : Int),.bool bs,.int .i64 (va : Int),.int .i64 (vk : Int),.slice a ps.length c] 136 (0,0))))
 case first =>
  go_wp2_with fail
  · rename_i hbt
    obtain ⟨⟨xa,xk⟩,hbs⟩ : ∃ x,base = some x:=by rw [hbt] at hbs0; exact Option.isSome_iff_exists.1 hbs0
    have ha : va = xa /\ vk = xk:=by rw [hbs] at hva hvk; exact ⟨hva.symm,hvk.symm⟩
    obtain ⟨rfl,rfl⟩:=ha
    have HZ : Hid (As num ++ Ej bs ++ (EV va ++ EV vk).data.toList = hd):=by
     show _ = _
     rw [hAK.out.1,<- hhd,hbs]
     simp [base9]
    have c2 : w3.cell? ⟨w.heap.size,2,none⟩ = some (.int .i64 (va : Int)):=by rw [Ab X3.out]; rfl
    have c3 : w3.cell? ⟨w.heap.size,3,none⟩ = some (.int .i64 (vk : Int)):=by rw [Ab X3.out]; rfl
    have SB : Hid (∀ w',Below w3.heap.size w3 w' -> w'.cell? ⟨w.heap.size,2,none⟩ = some (.int .i64 (va : Int)) /\ w'.cell? ⟨w.heap.size,3,none⟩ = some (.int .i64 (vk : Int))):=fun w' t =>
     ⟨(t.cell (World.block_lt_of_cell? w3 ⟨w.heap.size,2,none⟩ c2)).trans c2,(t.cell (World.block_lt_of_cell? w3 ⟨w.heap.size,3,none⟩ c3)).trans c3⟩
    have hlf : (As num ++ Ej bs).length <= 11:=by
     have h1:=Av (AK (n:=num) (by unfold limC at hnum; omega))
     have h2:=Hk bs
     rw [List.length_append]; omega
    have W4 : Hid (∀ w',Below w3.heap.size w3 w' -> Calls Tryz.prog 123 #[.pointer (some ⟨w0.heap.size,0,none⟩),.string (EV va ++ EV vk)] w' fun e w'' => e = .returned (.tuple #[.int .i64 (EV va ++ EV vk).size,.nilIface]) /\ (AR w'' w0.heap.size w0.heap.size hd /\ Below w.heap.size w w'' /\ w''.heap[w.heap.size]? = some (.cells #[.int .i64 (num : Int),.bool bs,.int .i64 (va : Int),.int .i64 (vk : Int),.slice a ps.length c] 136 (0,0)))):=fun w' t => by
     have hlt1:=T3.out.lt
     have hrb:=Ad X3.out
     have hts:=t.size
     refine (Cf (T3.out.kept2 t) (EV va ++ EV vk) (by have:=hAK.out.2; omega) (by omega)).mono ?_
     rintro e w5 ⟨rfl,t5,b5,k5⟩
     refine ⟨rfl,by rw [<- HZ.out]; exact t5,(B3.out.trans (t.mono (by omega))).trans (b5.mono hrbb),SX.out _ _ ((t.block w.heap.size (Ad X3.out)).trans X3.out) k5⟩
    clear H HF HX1 HB1 Hb1 HS0 hbytes hba hok SX HZ T3 B3 c1 hNF hAK hlf hsm1 hwn hva hvk hhd hrl hbs hbs0 hbt
    go_region_held3 (fun w' => w'.cell? ⟨w.heap.size,2,none⟩ = some (.int .i64 (va : Int)) /\ w'.cell? ⟨w.heap.size,3,none⟩ = some (.int .i64 (vk : Int))) (first | exact ⟨by rw [Ab h5.2.2]; rfl,by rw [Ab h5.2.2]; rfl⟩ | exact SB.out _ (by repeat (first | exact BA.out | exact Below.refl _ _ | apply Below.drew)))
     (first
       | (go_at_call 124; refine (Sv _ (by first | exact hxaz | exact hxkz) _).mono ?_; rintro e wA ⟨rfl,bA⟩; have BA:=hid (A4 (show Below w3.heap.size w3 _ by repeat (first | exact BA.out | exact Below.refl _ _ | apply Below.drew)) (Nat.le_refl _) bA); clear bA)
       | (go_at_call 123; refine (W4.out _ (by repeat (first | exact BB.out | exact BA.out | exact Below.refl _ _ | apply Below.drew))).mono ?_; rintro e w5 ⟨rfl,h5⟩))
    all_goals go_wp2
    all_goals go_meet
    all_goals exact h5
  · rename_i hbt
    have hbt : bs = false:=by simpa using hbt
    have hbs : base = none:=by rw [hbt] at hbs0; simpa using hbs0
    have HZ : Hid (As num ++ Ej bs = hd):=by
     show _ = _
     rw [<- hhd,hbs]
     simp [base9]
    rw [HZ.out] at T3
    clear hbs0 hbs hhd hva hvk
    clear H HF HX1 HB1 Hb1 HS0 hbytes hba hok SX
    go_meet
    exact ⟨T3.out,B3.out,X3.out⟩
 case rest =>
  clear T3 B3 X3 c1 SX hsm1 hsm2 hwn hwa hwk HX1 HB1 Hb1 hNF hAK HS0
  have X3:=hcut.out.2.2
  have c4 : wc.cell? ⟨w.heap.size,4,none⟩ = some (.slice a ps.length c):=by rw [Ab X3]; rfl
  have hhl : hd.length <= 40:=by
   have h1:=Av (AK (n:=num) (by unfold limC at hnum; omega))
   have h2:=Hk bs
   have h3 : (base9 base).length <= 20:=by
    cases hb : base with
    | none => simp [base9]
    | some x =>
      obtain ⟨a,k⟩:=x
      obtain ⟨b1,b2,b3⟩:=hba a k hb
      have f1:=Av (AK (n:=a) (by unfold limC at b1; omega))
      have f2:=Av (AK (n:=k) (by omega))
      show (As a ++ As k).length <= 20
      rw [List.length_append]; omega
   rw [<- hhd]
   simp only [List.length_append]
   omega
  go_wp2
  go_loopw [30] (fun iv wr => ∃ i : Nat,i <= ps.length /\ iv = .int .i64 (i : Int) /\ Hid (AR wr w0.heap.size w0.heap.size (hd ++ EQ (ps.take i)) /\ Below w.heap.size w wr)) (fun iv _ => ps.length - (intOf iv).toNat)
  case atStart => exact ⟨0,Nat.zero_le _,rfl,by rw [List.take_zero]; show AR _ _ _ (hd ++ []) /\ _; rw [List.append_nil]; exact ⟨hcut.out.1,hcut.out.2.1⟩⟩
  case round =>
   obtain ⟨i,hi,rfl,HR⟩:=hrel
   by_cases hlt : i < ps.length
   · obtain ⟨b,o,rfl,q0,q1,q2⟩:=H.out.in HR.out.2 hlt
     have hxf:=HF.out ps[i] (List.getElem_mem hlt)
     have HN:=hid (Xi hlt)
     have hz:=OR HF.out i
     have hmeas : ps.length - (intOf (.int .i64 ((i : Int) + 1))).toNat < ps.length - (intOf (.int .i64 (i : Int))).toNat:=by simp [intOf]; omega
     generalize ps[i] = X at *
     obtain ⟨k1,k2,v1,_⟩:=(Cj X).1 hxf
     obtain ⟨xk,xv,xg⟩:=X
     simp only at q0 q1 q2 k1 k2 v1
     clear hxf
     have hbt:=HR.out.1.alloc (.cells #[.string xk,.string xv,.bool xg] 57)
     have hbb:=HR.out.2.alloc HR.out.2.size (.cells #[.string xk,.string xv,.bool xg] 57)
     have hnew:=heap_alloc_new wr (.cells #[.string xk,.string xv,.bool xg] 57)
     have hsz9 : (wr.alloc (.cells #[.string xk,.string xv,.bool xg] 57)).heap.size = wr.heap.size + 1:=by simp
     have HT:=hid hbt
     have HBB:=hid hbb
     have HNW:=hid hnew
     have HSZ:=hid hsz9
     have hrb:=HR.out.2.size
     have hblt:=HR.out.1.lt
     have z1:=MV (s:=xk) (by omega)
     have z2:=MV (s:=xv) (by omega)
     have z3 : (Eu xg).size <= 1:=Nat.le_of_eq (NX _)
     have hPR : Hid ((EC xk ++ EC xv ++ Eu xg).data.toList = pr9 ⟨xk,xv,xg⟩ /\ (EC xk ++ EC xv ++ Eu xg).size <= 8300):=by
      constructor
      · rw [Ky,Ky,Ne,Ne,MR]
        unfold pr9
        simp only [List.append_assoc]
      · rw [ByteArray.size_append,ByteArray.size_append]; omega
     have hs1 : ¬ 9223372036854775807 < (EC xk).size + (EC xv).size:=by omega
     have hs2 : ¬ 9223372036854775807 < (EC xk).size + (EC xv).size + (Eu xg).size:=by omega
     have hkz : xk.size <= 140737488355328:=by omega
     have hvz : xv.size <= 140737488355328:=by omega
     have hll : (hd ++ EQ (ps.take i)).length <= 1000000:=by rw [List.length_append]; omega
     clear hbt hbb hnew hsz9 HR
     go_wp2_with fail
     clear q0 q1 q2
     generalize wr.alloc (.cells #[.string xk,.string xv,.bool xg] 57) = w4 at *
     generalize wr.heap.size = pb at *
     have c0 : w4.cell? ⟨pb,0,none⟩ = some (.string xk):=by rw [Ab HNW.out]; rfl
     have c1 : w4.cell? ⟨pb,1,none⟩ = some (.string xv):=by rw [Ab HNW.out]; rfl
     have c2 : w4.cell? ⟨pb,2,none⟩ = some (.bool xg):=by rw [Ab HNW.out]; rfl
     have SB : Hid (∀ w',Below w4.heap.size w4 w' -> w'.cell? ⟨pb,0,none⟩ = some (.string xk) /\ w'.cell? ⟨pb,1,none⟩ = some (.string xv) /\ w'.cell? ⟨pb,2,none⟩ = some (.bool xg)):=fun w' t =>
      ⟨(t.cell (World.block_lt_of_cell? w4 ⟨pb,0,none⟩ c0)).trans c0,(t.cell (World.block_lt_of_cell? w4 ⟨pb,1,none⟩ c1)).trans c1,(t.cell (World.block_lt_of_cell? w4 ⟨pb,2,none⟩ c2)).trans c2⟩
     have W5 : Hid (∀ w',Below w4.heap.size w4 w' -> Calls Tryz.prog 123 #[.pointer (some ⟨w0.heap.size,0,none⟩),.string (EC xk ++ EC xv ++ Eu xg)] w' fun e w'' => e = .returned (.tuple #[.int .i64 (EC xk ++ EC xv ++ Eu xg).size,.nilIface]) /\ (AR w'' w0.heap.size w0.heap.size (hd ++ EQ (ps.take (i + 1))) /\ Below w.heap.size w w'' /\ w''.heap[pb]? = some (.cells #[.string xk,.string xv,.bool xg] 57 (0,0)))):=fun w' t => by
      have hlt1:=HT.out.lt
      have hts:=t.size
      have hs4:=HSZ.out
      have hbs:=HBB.out.size
      refine (Cf (HT.out.kept2 t) (EC xk ++ EC xv ++ Eu xg) (by have:=hPR.out.2; omega) (by omega)).mono ?_
      rintro e w6 ⟨rfl,t6,b6,k6⟩
      refine ⟨rfl,?_,(HBB.out.trans (t.mono hbs)).trans (b6.mono hrbb),k6.cells ((t.block pb (Ad HNW.out)).trans HNW.out) (by decide) (by decide)⟩
      rw [HN.out,<- hPR.out.1,<- List.append_assoc]
      exact t6
     clear HT HBB HNW HSZ hPR HN
     go_region_held3 (fun w' => w'.cell? ⟨pb,0,none⟩ = some (.string xk) /\ w'.cell? ⟨pb,1,none⟩ = some (.string xv) /\ w'.cell? ⟨pb,2,none⟩ = some (.bool xg)) (first | exact ⟨by rw [Ab h5.2.2]; rfl,by rw [Ab h5.2.2]; rfl,by rw [Ab h5.2.2]; rfl⟩ | exact SB.out _ (by repeat (first | exact BC.out | exact BB.out | exact BA.out | exact Below.refl _ _ | apply Below.drew)))
      (first
        | (go_at_call 126; refine (Pi xk hkz _).mono ?_; rintro e wA ⟨rfl,bA⟩; have BA:=hid (A4 (show Below w4.heap.size w4 _ by repeat (first | exact BC.out | exact BB.out | exact Below.refl _ _ | apply Below.drew)) (Nat.le_refl _) bA); clear bA)
        | (go_at_call 126; refine (Pi xv hvz _).mono ?_; rintro e wB ⟨rfl,bB⟩; have BB:=hid (A4 (show Below w4.heap.size w4 _ by repeat (first | exact BC.out | exact BA.out | exact Below.refl _ _ | apply Below.drew)) (Nat.le_refl _) bB); clear bB)
        | (go_at_call 125; refine (Pf xg _).mono ?_; rintro e wC ⟨rfl,bC⟩; have BC:=hid (A4 (show Below w4.heap.size w4 _ by repeat (first | exact BB.out | exact BA.out | exact Below.refl _ _ | apply Below.drew)) (Nat.le_refl _) bC); clear bC)
        | (go_at_call 123; refine (W5.out _ (by repeat (first | exact BC.out | exact BB.out | exact BA.out | exact Below.refl _ _ | apply Below.drew))).mono ?_; rintro e w5 ⟨rfl,h5⟩))
     all_goals go_wp2
     all_goals go_roundw
     case rel => exact ⟨i + 1,by omega,by go_num,h5.1,h5.2.1⟩
     case measure => exact hmeas
   · obtain rfl : i = ps.length:=by omega
     rw [List.take_length] at HR
     have hrb:=HR.out.2.size
     have hblt:=HR.out.1.lt
     have HBT:=hid HR.out.1
     have HBB:=hid HR.out.2
     clear HR
     go_wp2_with fail
     refine (F6 HBT.out (by omega)).mono ?_
     rintro e w6 ⟨rfl,b6,_⟩
     have B6:=hid (HBB.out.trans (b6.mono hrbb))
     have HE : Hid ((⟨(hd ++ EQ ps).toArray⟩ : ByteArray) = ⟨((⟨num,base,ps⟩ : A9).bytes).toArray⟩):=by show _ = _; rw [hbytes.out]
     clear b6
     generalize (⟨(hd ++ EQ ps).toArray⟩ : ByteArray) = T at *
     go_wp2
     go_ret
     exact ⟨by rw [<- HE.out]; rfl,B6.out⟩
end
section
open Go.RowKit
set_option maxRecDepth 100000 in
theorem FG {w : World} {d b q mp newest last logged : Nat} {tv : Value} {dn : Bool} (h : Bl w d b q mp tv newest last logged dn) :
 Calls Tryz.prog 52 #[.pointer (some ⟨d,0,none⟩)] w fun e w' => e = .returned (.bool dn) /\ w = w':=by
 have c7:=h.c7
 clear h
 go_enter Tryz.func52,Tryz.ntmps52
 go_wp2
 go_ret
 exact ⟨rfl,rfl⟩
set_option maxRecDepth 100000 in
theorem Qd (d : Nat) (w : World) : Calls Tryz.prog 54 #[.pointer (some ⟨d,0,none⟩),.int .i64 0] w fun e w' => e = .returned (.int .i64 0) /\ w = w':=by
 go_enter Tryz.func54,Tryz.ntmps54
 go_wp2
 go_ret
 exact ⟨rfl,rfl⟩
set_option maxRecDepth 100000 in
theorem Aau {w : World} {d b q mp newest last logged : Nat} {tv : Value} {dn : Bool} (h : Bl w d b q mp tv newest last logged dn) :
 Calls Tryz.prog 54 #[.pointer (some ⟨d,0,none⟩),.int .i64 30] w fun e w' => e = .returned (.int .i64 30) /\ w' = w.setCell ⟨d,7,none⟩ (.bool true):=by
 have c7:=h.c7
 have f7:=h.free 7
 clear h
 go_enter Tryz.func54,Tryz.ntmps54
 go_wp2
 go_ret
 exact ⟨rfl,rfl⟩
theorem Vm {w w' : World} {q p c : Nat} {nm : ByteArray} {a : Bool} {S : Bx} {F : Nat -> Prop} (h : AW w' q p nm c a S F) (hq : q < w.heap.size) (hg : 3 < w.heap.size) : AW w' q p nm c a S (AN F w w'):=
 ⟨h.box.mono (fun k hk => .inl hk),h.head,fun hk => by rcases hk with hk | hk; exact h.nq hk; omega,h.nm1,h.nm8,h.cur1,h.cur8,h.tab,fun hk => by rcases hk with hk | hk; exact h.ng hk; omega,h.qg⟩
inductive Iz (S : Bx) (X : Key) (d : List UInt8) : Int -> Bx -> Prop
 | none (h0 : S.fuel = 0) : Iz S X d 30 S.fall
 | part (S1 : Bx) (hf : S1.files = Eq X d S.files) (hd : S1.down = false) (hr : BR S S1) (h0 : S1.fuel = 0) : Iz S X d 30 S1.fall
 | all (S3 : Bx) (hf : S3.files = Cg X d S.files) (hd : S3.down = false) (hr : BR S S3) : Iz S X d 0 S3
theorem Xv {S : Bx} {X : Key} {d : List UInt8} (hd : S.down = false) (hn : Cp X = true) (hne : d ≠ []) :
 ((S.append X d).2 = 30 /\ Iz S X d 30 (S.append X d).1) \/ ((S.append X d).2 = 0 /\ (S.append X d).1.down = false /\ (S.append X d).1.files = Eq X d S.files /\ (((S.append X d).1.sync X).2 = 30 \/ ((S.append X d).1.sync X).2 = 0) /\ Iz S X d ((S.append X d).1.sync X).2 ((S.append X d).1.sync X).1):=by
 cases OB (S:=S) (n:=X) (d:=d) hd hn with
 | no h0 e => rw [e]; exact .inl ⟨rfl,.none h0⟩
 | yes S1 e hf hd1 hr =>
   rw [e]
   right
   obtain ⟨f,h1,h2⟩:=P1 (k:=X) (l:=S.files) hne
   cases Nj (S:=S1) (n:=X) (f:=f) hd1 (by rw [hf]; exact h1) with
   | no h0 e2 => simp only; rw [e2]; exact ⟨trivial,hd1,hf,.inl rfl,.part S1 hf hd1 hr h0⟩
   | yes S3 e2 hf3 hd3 hr3 => simp only; rw [e2]; exact ⟨trivial,hd1,hf,.inr rfl,.all S3 (by rw [hf3,hf,h2]) hd3 (hr.trans hr3)⟩
set_option maxHeartbeats 1000000 in
set_option maxRecDepth 100000 in
theorem Mo {B : Nat} {w : World} {d b q mp c : Nat} {tv : Value} {st : AQ} {dn ap : Bool} {S : Bx} {F Fb Fm Fr : Nat -> Prop} (E : EY B w) (hB : ∀ k,F k -> B <= k) (h : AU w d b q mp tv st dn c ap S F Fb Fm Fr) (s : ByteArray) (hs : s.size <= 1048576) (hd : S.down = false) (hc : c <= limC) (hz : weigh S.files <= 70368744177664) (hl : st.last <= 1000000000000) :
 Calls Tryz.prog 85 #[.pointer (some ⟨d,0,none⟩),.string s] w fun e w' => ∃ i ap' S' Fb',e = .returned (.int .i64 i) /\ Iz S (Af LOG c) (Ai s.data.toList) i S' /\ (i = 0 \/ i = 30) /\ (i = 0 -> ap' = true) /\ AU w' d b q mp tv { st with last:=st.last + 1 } dn c ap' S' (AN F w w') Fb' Fm Fr /\ Ac F w w':=by
 have hne : Ai s.data.toList ≠ []:=fun e => by have:=Fh s.data.toList; rw [e] at this; simp at this
 have hlg:=Xv (S:=S) (X:=Af LOG c) (d:=Ai s.data.toList) hd (Uk c (by decide)) hne
 have c1:=h.head.c1
 have c5:=h.head.c5
 have f5:=h.head.free 5
 have hnx : ((st.last + 1 : Nat) : Int) = (st.last : Int) + 1:=by omega
 obtain ⟨h1,t1⟩:=h.setD (i:=5) (v:=.int .i64 ((st.last + 1 : Nat) : Int)) (st':={ st with last:=st.last + 1 }) (h.head.setLast (st.last + 1)) rfl rfl
 rw [hnx] at h1 t1
 have hwr : IntKind.i64.wrap ((st.last : Int) + 1) = (st.last : Int) + 1:=by rw [IntKind.wrap_i64]; omega
 have e1:=E.turn t1 hB
 have H1:=hid h1
 have T1:=hid t1
 have E1:=hid e1
 have HB:=hid hB
 have HLT:=hid h.lt
 have hap:=UZ (h1.logIn e1 hB) s hs hz
 have HAP:=hid hap
 have hsz : (w.setCell ⟨d,5,none⟩ (.int .i64 ((st.last : Int) + 1))).heap.size = w.heap.size:=by simp [World.setCell]
 have HSZ:=hid hsz
 have c1' : (w.setCell ⟨d,5,none⟩ (.int .i64 ((st.last : Int) + 1))).cell? ⟨d,1,none⟩ = some (.pointer (some ⟨q,0,none⟩)):=H1.out.head.c1
 clear h h1 t1 e1 E hB hap hsz
 go_enter Tryz.func85,Tryz.ntmps85
 go_wp2_with fail
 generalize w.setCell ⟨d,5,none⟩ (.int .i64 ((st.last : Int) + 1)) = w1 at *
 refine HAP.out.mono ?_
 rintro e w2 ⟨rfl,l2,t2⟩
 have D2:=hid (H1.out.onLog l2 t2)
 rw [JX.key] at D2
 clear HAP l2 t2
 rw [JX.key]
 have GR : Hid (∀ (wx : World) (st' : AQ) (c' : Nat) (ap' : Bool) (S' : Bx) (Fb' : Nat -> Prop),AU wx d b q mp tv st' dn c' ap' S' (AN F w1 wx) Fb' Fm Fr -> Ac F w1 wx -> AU wx d b q mp tv st' dn c' ap' S' (AN F w wx) Fb' Fm Fr /\ Ac F w wx):=fun wx st' c' ap' S' Fb' h t => by
  refine ⟨h.mono (fun k hk => ?_) (fun k hk => ?_),T1.out.trans t fun i hi => .inl hi⟩
  · rcases hk with hk | hk
    · exact .inl hk
    · exact .inr ⟨by have:=HSZ.out; omega,hk.2⟩
  · rcases hk with hk | hk
    · exact h.lt k (.inl hk)
    · exact hk.2
 rcases hlg with ⟨g1,g2⟩ | ⟨g1,g2,g3,g4,g5⟩
 · have hne2 : ((S.append (Af LOG c) (Ai s.data.toList)).2 != 0) = true:=by rw [g1]; rfl
   obtain ⟨g6,g7⟩:=GR.out _ _ _ _ _ _ D2.out.1 D2.out.2
   have G6:=hid g6
   have G7:=hid g7
   have G2:=hid g2
   rw [g1]
   clear g6 g7 g2 D2 hne2
   go_wp2
   go_ret
   exact ⟨30,_,_,_,rfl,G2.out,.inr rfl,fun h => absurd h (by decide),G6.out,G7.out⟩
 · rw [g1] at D2 ⊢
   rw [if_pos rfl] at D2
   have E2:=hid (E1.out.turn D2.out.2 HB.out)
   have c1'':=D2.out.1.head.c1
   have D2B : Hid (∀ k,AN F w1 w2 k -> B <= k):=fun k hk => by
    rcases hk with hk | hk
    · exact HB.out k hk
    · have:=E1.out.size; omega
   have hsy:=Nm (D2.out.1.logIn E2.out D2B.out)
   rw [JX.key] at hsy
   have HSY:=hid hsy
   have G5:=hid g5
   clear hsy g5 g3 g1
   obtain ⟨R,hR⟩ : ∃ R,(S.append (Af LOG c) (Ai s.data.toList)).1.sync (Af LOG c) = R:=⟨_,rfl⟩
   rw [hR] at HSY G5 g4
   obtain ⟨S3,i⟩:=R
   simp only at HSY G5 g4
   clear hR
   go_wp2_with fail
   refine HSY.out.mono ?_
   rintro e w3 ⟨rfl,l3,t3⟩
   have hq2:=D2.out.1.log.lt
   have hsz2:=D2.out.2.size
   have D3:=hid (D2.out.1.onLog (Vm l3 hq2 (by have:=E1.out.size; have:=E1.out.gt; omega)) (t3.mono (fun k hk => .inl (.inl hk))))
   have D4:=hid (GR.out w3 _ _ _ _ _ (D3.out.1.mono (Jm hsz2 D3.out.2.size) (fun k hk => by
    rcases hk with hk | hk
    · exact D3.out.1.lt k (.inl (.inl hk))
    · exact hk.2)) (C9 D2.out.2 D3.out.2))
   clear D3 D2 l3 t3 HSY
   rcases g4 with rfl | rfl
   · go_wp2
     go_ret
     exact ⟨30,_,_,_,rfl,G5.out,.inr rfl,fun h => absurd h (by decide),D4.out.1,D4.out.2⟩
   · go_wp2
     go_ret
     exact ⟨0,_,_,_,rfl,G5.out,.inl rfl,fun _ => rfl,D4.out.1,D4.out.2⟩
end
section
open Go.RowKit
theorem Nv {l : List Aa} (T : List Aa) {i : Nat} (h : i < l.length) : Bc (l.take (i + 1)) T = Et l[i] (Bc (l.take i) T):=by
 rw [List.take_succ_eq_append_getElem h]
 unfold Bc
 rw [List.foldl_append]
 rfl
theorem Ki {W W' : World} {G : Nat -> Prop} {a : Option Addr} {c : Nat} {l : List Aa} (h : Aj W (.slice a l.length c) l) (t : Ac G W W') (hG : ∀ g o,a = some ⟨g,o,none⟩ -> l ≠ [] -> ¬ G g) : Aj W' (.slice a l.length c) l:=by
 obtain ⟨hm,a',c',hv,h1⟩:=h
 injection hv with e1 e2 e3
 subst e1
 subst e3
 rcases h1 with h1 | ⟨b,o,rfl,h1⟩
 · exact ⟨hm,_,_,rfl,.inl h1⟩
 · by_cases hl : l = []
   · exact ⟨hm,_,_,rfl,.inl hl⟩
   refine ⟨hm,_,_,rfl,.inr ⟨b,o,rfl,fun i hi => ?_⟩⟩
   obtain ⟨q0,q1,q2⟩:=h1 i hi
   have hb:=t.block b (World.block_lt_of_cell? W ⟨b,o + i * 3,none⟩ q0) (hG b o rfl hl)
   exact ⟨(World.cell?_of_block (w:=W) (a:=⟨b,o + i * 3,none⟩) hb).trans q0,(World.cell?_of_block (w:=W) (a:=⟨b,o + i * 3 + 1,none⟩) hb).trans q1,(World.cell?_of_block (w:=W) (a:=⟨b,o + i * 3 + 2,none⟩) hb).trans q2⟩
set_option maxHeartbeats 2000000 in
set_option maxRecDepth 100000 in
theorem Y2 {B : Nat} {w : World} {d b q mp c : Nat} {tv : Value} {st : AQ} {dn ap : Bool} {S : Bx} {F Fb Fm Fr : Nat -> Prop} (E : EY B w) (hB : ∀ k,F k -> B <= k) (h : AU w d b q mp tv st dn c ap S F Fb Fm Fr) {a : Option Addr} {cc : Nat} {l : List Aa} (hR : Aj w (.slice a l.length cc) l) (hA : ∀ g o,a = some ⟨g,o,none⟩ -> l ≠ [] -> ¬ F g) (hf : Az l) (hl1 : st.mem.length + l.length <= 3518437208000) (hl2 : At st.mem + At l <= 36028797018963968) :
 Calls Tryz.prog 55 #[.pointer (some ⟨d,0,none⟩),.slice a l.length cc] w fun e w' => ∃ Fm',e = .returned (.bool true) /\ AU w' d b q mp tv { st with mem:=Bc l st.mem } dn c ap S (AN F w w') Fb Fm' Fr /\ Ac F w w':=by
 have hmx : l.length <= 9223372036854775807:=by omega
 have HR:=hid hR
 have HA:=hid hA
 have HF:=hid hf
 have HE:=hid E
 have HB:=hid hB
 have HLT:=hid h.lt
 have HD0 : Hid (∃ Fm',AU w d b q mp tv { st with mem:=Bc (l.take 0) st.mem } dn c ap S (AN F w w) Fb Fm' Fr /\ Ac F w w):=⟨Fm,h.mono (fun k hk => .inl hk) (fun k hk => by rcases hk with hk | hk; exact h.lt k hk; omega),Ac.refl _ _⟩
 clear h hR hA hf E hB
 go_enter Tryz.func55,Tryz.ntmps55
 go_wp2
 go_loopw [9] (fun iv wr => ∃ i : Nat,i <= l.length /\ iv = .int .i64 (i : Int) /\ Hid (∃ Fm',AU wr d b q mp tv { st with mem:=Bc (l.take i) st.mem } dn c ap S (AN F w wr) Fb Fm' Fr /\ Ac F w wr)) (fun iv _ => l.length - (intOf iv).toNat)
 case atStart => exact ⟨0,Nat.zero_le _,rfl,HD0.out⟩
 case round =>
  clear HD0
  obtain ⟨i,hi,rfl,HI⟩:=hrel
  by_cases hlt : i < l.length
  · obtain ⟨Fm',hd,ht⟩:=HI.out
    have hrd:=Ki HR.out ht HA.out
    obtain ⟨gb,o,rfl,q0,q1,q2⟩:=hrd.at hlt
    have hxf:=HF.out l[i] (List.getElem_mem hlt)
    have HO:=hid (Nv st.mem hlt)
    have hml:=overP_len (l.take i) st.mem
    have hms:=size_over (l.take i) st.mem
    have hts:=Ko l i
    have htl : (l.take i).length <= l.length:=by rw [List.length_take]; omega
    have hmeas : l.length - (intOf (.int .i64 ((i : Int) + 1))).toNat < l.length - (intOf (.int .i64 (i : Int))).toNat:=by simp [intOf]; omega
    generalize l[i] = X at *
    obtain ⟨xk,xv,xg⟩:=X
    simp only at q0 q1 q2
    have hbl : Below wr.heap.size wr (wr.alloc (.cells #[.string xk,.string xv,.bool xg] 57)):=(Below.refl _ wr).alloc (Nat.le_refl _) _
    have hd1:=hd.below hbl
    have ht1 : Ac F w (wr.alloc (.cells #[.string xk,.string xv,.bool xg] 57)):=ht.alloc _
    have hnw:=heap_alloc_new wr (.cells #[.string xk,.string xv,.bool xg] 57)
    have hmp:=hd1.head.c2
    have HD:=hid hd1
    have HT:=hid ht1
    have HN:=hid hnw
    have HX:=hid hxf
    have HSZ : Hid (wr.heap.size <= (wr.alloc (.cells #[.string xk,.string xv,.bool xg] 57)).heap.size):=hbl.size
    have HPB : Hid (¬ AN F w wr wr.heap.size):=fun hk => by
     have:=hd.lt _ hk
     omega
    clear hd ht hrd HI hbl hd1 ht1 hnw hxf
    go_upto_region 4 with (fail)
    generalize wr.alloc (.cells #[.string xk,.string xv,.bool xg] 57) = w4 at *
    have SS : Hid (∀ w',Ac Fm' w4.drew w' -> w'.cell? ⟨d,2,none⟩ = some (.pointer (some ⟨mp,0,none⟩)) /\ w'.cell? ⟨wr.heap.size,0,none⟩ = some (.string xk) /\ w'.cell? ⟨wr.heap.size,1,none⟩ = some (.string xv) /\ w'.cell? ⟨wr.heap.size,2,none⟩ = some (.bool xg)):=fun w' t => by
     have t' : Ac Fm' w4 w':=⟨t.os,t.tape,t.output,t.size,t.block⟩
     have h1:=t'.keeps HD.out.head HD.out.dm
     have h2:=t'.keeps HN.out (fun e => HPB.out (HD.out.fm _ e))
     exact ⟨Bl.c2 h1,by rw [Ab h2]; rfl,by rw [Ab h2]; rfl,by rw [Ab h2]; rfl⟩
    have HPU : Hid (Calls Tryz.prog 86 #[.pointer (some ⟨mp,0,none⟩),.agg #[.string xk,.string xv,.bool xg]] w4.drew fun e w' => e = .returned (.int .i64 0) /\ (∃ Fm2,AU w' d b q mp tv { st with mem:=Bc (l.take (i + 1)) st.mem } dn c ap S (AN F w w') Fb Fm2 Fr /\ Ac F w w') /\ Ac Fm' w4.drew w'):=by
     have hdd:=HD.out.below (Ay w4)
     have e4:=(HE.out.turn HT.out HB.out).below (Ay w4)
     refine (Yv e4.tab64 ⟨xk,xv,xg⟩ HX.out hdd.mem (by show (Bc (l.take i) st.mem).length < _; omega) (by show At (Bc (l.take i) st.mem) <= _; omega)).mono ?_
     rintro e w' ⟨rfl,hm,tm⟩
     have e5 : C2 ⟨xk,xv,xg⟩ (Bc (l.take i) st.mem) = Bc (l.take (i + 1)) st.mem:=by rw [HO.out]; exact (if_pos HX.out).symm
     obtain ⟨h1,h2⟩:=hdd.onMem (m:=Bc (l.take (i + 1)) st.mem) (by rw [<- e5]; exact hm) tm
     have hs1:=HT.out.size
     have hs2:=h2.size
     refine ⟨rfl,⟨_,h1.mono (fun k hk => ?_) (fun k hk => ?_),(HT.out.trans (Ac.of_below F (Ay w4)) (fun i hi => .inl hi)).trans h2 (fun j hj => ?_)⟩,tm⟩
     · rcases hk with (hk | hk) | hk
       · exact .inl hk
       · exact .inr ⟨hk.1,Nat.lt_of_lt_of_le hk.2 (Nat.le_trans HSZ.out hs2)⟩
       · exact .inr ⟨Nat.le_trans hs1 hk.1,hk.2⟩
     · rcases hk with hk | hk
       · exact Nat.lt_of_lt_of_le (HLT.out k hk) (Nat.le_trans hs1 hs2)
       · exact hk.2
     · rcases hj with hj | hj
       · exact .inl hj
       · exact .inr hj.1
    clear HD HN HX HO HE
    go_region_held3 (fun w' => w'.cell? ⟨d,2,none⟩ = some (.pointer (some ⟨mp,0,none⟩)) /\ w'.cell? ⟨wr.heap.size,0,none⟩ = some (.string xk) /\ w'.cell? ⟨wr.heap.size,1,none⟩ = some (.string xv) /\ w'.cell? ⟨wr.heap.size,2,none⟩ = some (.bool xg)) (first | exact SS.out _ TM.out | exact SS.out _ (Ac.refl _ _))
     (first
       | (go_at_call 86; refine HPU.out.mono ?_; rintro e w5 ⟨rfl,h5,t5⟩; have H5:=hid h5; have TM:=hid t5; clear h5 t5))
    all_goals go_wp2
    all_goals go_roundw
    case rel => exact ⟨i + 1,by omega,by go_num,H5.out⟩
    case measure => exact hmeas
  · obtain rfl : i = l.length:=by omega
    rw [List.take_length] at HI
    go_wp2
    go_ret
    obtain ⟨Fm',h1,h2⟩:=HI.out
    exact ⟨Fm',rfl,h1,h2⟩
end
section
open Go.RowKit
set_option maxHeartbeats 1000000 in
set_option maxRecDepth 100000 in
theorem Ih {w : World} {d b q mp c : Nat} {tv : Value} {st : AQ} {dn ap : Bool} {S : Bx} {F Fb Fm Fr : Nat -> Prop} (h : AU w d b q mp tv st dn c ap S F Fb Fm Fr) (n : Nat) (hn : n <= 1000000000) (hw : st.newest <= 1000000000) :
 Calls Tryz.prog 78 #[.pointer (some ⟨d,0,none⟩),.int .i64 (n : Int)] w fun e w' => e = .returned (.bool (decide (n <= st.newest /\ st.newest < n + st.runs.length))) /\ Below w.heap.size w w':=by
 obtain ⟨a,cc,rfl,hcc,hcm,_⟩:=h.runs.read
 have c3:=h.head.c3
 have c4:=h.head.c4
 have hl : st.runs.length <= 9223372036854775807:=by unfold maxLen at hcm; omega
 have hsub : IntKind.i64.wrap ((st.newest : Int) - (st.runs.length : Int)) = (st.newest : Int) - (st.runs.length : Int):=by rw [IntKind.wrap_i64]; omega
 have hB:=Ay w
 have HB:=hid hB
 clear h hB hcc hcm
 by_cases h1 : (n : Int) <= (st.newest : Int)
 · by_cases h2 : (st.newest : Int) - (st.runs.length : Int) < (n : Int)
   · have hd : decide (n <= st.newest /\ st.newest < n + st.runs.length) = true:=decide_eq_true (by omega)
     rw [hd]
     have hd1 : decide ((n : Int) <= (st.newest : Int)) = true:=decide_eq_true h1
     have hd2 : decide ((st.newest : Int) - (st.runs.length : Int) < (n : Int)) = true:=decide_eq_true h2
     clear hd
     go_enter Tryz.func78,Tryz.ntmps78
     go_wp2
     go_quiet (fail)
     go_wp2
     go_ret
     exact ⟨rfl,below_drewN (Below.refl _ _) _⟩
   · have hd : decide (n <= st.newest /\ st.newest < n + st.runs.length) = false:=decide_eq_false (by omega)
     rw [hd]
     have hd1 : decide ((n : Int) <= (st.newest : Int)) = true:=decide_eq_true h1
     have hd2 : decide ((st.newest : Int) - (st.runs.length : Int) < (n : Int)) = false:=decide_eq_false h2
     clear hd
     go_enter Tryz.func78,Tryz.ntmps78
     go_wp2
     go_quiet (fail)
     go_wp2
     go_ret
     exact ⟨rfl,below_drewN (Below.refl _ _) _⟩
 · have hd : decide (n <= st.newest /\ st.newest < n + st.runs.length) = false:=decide_eq_false (by omega)
   rw [hd]
   have hd1 : decide ((n : Int) <= (st.newest : Int)) = false:=decide_eq_false h1
   have hd3 : decide (n <= st.newest) = false:=decide_eq_false (by omega)
   clear hd
   go_enter Tryz.func78,Tryz.ntmps78
   go_wp2
   go_quiet (fail)
   go_wp2
   go_ret
   exact ⟨rfl,below_drewN (Below.refl _ _) _⟩
set_option maxRecDepth 100000 in
theorem PQ {w : World} {d b q mp c : Nat} {tv : Value} {st : AQ} {dn ap : Bool} {S : Bx} {F Fb Fm Fr : Nat -> Prop} (h : AU w d b q mp tv st dn c ap S F Fb Fm Fr) (s : ByteArray) (hs : s.size <= maxLen) :
 Calls Tryz.prog 75 #[.pointer (some ⟨d,0,none⟩),.string s] w fun e w' => e = .returned (tx (S.read s.data.toList).1) /\ w = w':=by
 have c0:=h.head.c0
 have HR:=hid (MU h.box s hs)
 clear h
 obtain ⟨X,hX⟩ : ∃ X : ByteArray,tx (S.read s.data.toList).1 = .string X:=⟨_,rfl⟩
 rw [hX] at HR ⊢
 generalize (S.read s.data.toList).2 = e2 at *
 clear hX
 go_enter Tryz.func75,Tryz.ntmps75
 go_wp2_with fail
 refine HR.out.mono ?_
 rintro e w1 ⟨rfl,rfl⟩
 go_wp2
 go_ret
 exact ⟨rfl,rfl⟩
end
section
open Go.RowKit
theorem QD (n : Nat) : (⟨#[116,97,98,108,101]⟩ : ByteArray) ++ ⟨(Lib.decDigits n).toArray⟩ = ⟨(Ar n).toArray⟩:=by
 rw [show (⟨#[116,97,98,108,101]⟩ : ByteArray) = ⟨RT.toArray⟩ from rfl,Le]
 simp [Ar]
set_option maxRecDepth 100000 in
theorem GW {w : World} (hT : Tab w) {n : Nat} (hn : n <= limC) :
 Calls Tryz.prog 76 #[.int .i64 (n : Int)] w fun e w' => e = .returned (.string ⟨(Ar n).toArray⟩) /\ Below w.heap.size w w':=by
 have HI:=hid (SV hT n (by unfold limC at hn; omega))
 have HE:=hid (QD n)
 have hz : (⟨(Lib.decDigits n).toArray⟩ : ByteArray).size <= 7:=by
  rw [A0,Lib.decDigits_length]
  exact nDigits_le 7 n (by omega) (by unfold limC at hn; omega)
 go_enter Tryz.func76,Tryz.ntmps76
 go_wp2_with fail
 refine HI.out.mono ?_
 rintro e w1 ⟨rfl,b1⟩
 have B1:=hid b1
 clear b1 HI
 generalize (⟨(Lib.decDigits n).toArray⟩ : ByteArray) = dg at *
 go_wp2
 go_ret
 exact ⟨by rw [<- HE.out]; rfl,B1.out⟩
theorem Qk (m : Nat) : Lib.digitVal (UInt8.ofNat (48 + m % 10)) = some (m % 10):=by
 unfold Lib.digitVal
 rw [QH,if_pos (by omega)]
 congr 1
 omega
theorem decFrom_snoc : ∀ (l : List UInt8) (acc n : Nat) (m : Nat),Lib.decFrom acc l = some n -> Lib.decFrom acc (l ++ [UInt8.ofNat (48 + m % 10)]) = some (n * 10 + m % 10)
 | [],acc,n,m,h => by
   injection h with h
   subst h
   show (match Lib.digitVal (UInt8.ofNat (48 + m % 10)) with | some d => Lib.decFrom (acc * 10 + d) [] | none => none) = _
   rw [Qk]
   rfl
 | b :: r,acc,n,m,h => by
   rw [Lib.decFrom] at h
   rw [List.cons_append,Lib.decFrom]
   cases hd : Lib.digitVal b with
   | none => rw [hd] at h; cases h
   | some d =>
     rw [hd] at h
     exact decFrom_snoc r _ n m h
theorem Ny (n : Nat) : Lib.decFrom 0 (Lib.decDigits n) = some n:=by
 induction n using Nat.strongRecOn with
 | ind n ih =>
   rw [Gl]
   by_cases h : n < 10
   · rw [if_pos h]
     have:=decFrom_snoc [] 0 0 n rfl
     rw [Nat.mod_eq_of_lt h] at this
     simpa using this
   · rw [if_neg h]
     have:=decFrom_snoc _ 0 _ n (ih (n / 10) (by omega))
     rw [this]
     congr 1
     omega
theorem Og (n : Nat) : ∃ m r,Lib.decDigits n = UInt8.ofNat (48 + m % 10) :: r:=by
 induction n using Nat.strongRecOn with
 | ind n ih =>
   rw [Gl]
   by_cases h : n < 10
   · rw [if_pos h]
     exact ⟨n,[],by rw [Nat.mod_eq_of_lt h]⟩
   · rw [if_neg h]
     obtain ⟨m,r,e⟩:=ih (n / 10) (by omega)
     exact ⟨m,r ++ [UInt8.ofNat (48 + n % 10)],by rw [e]; rfl⟩
theorem Tm (n : Nat) : Lib.atoi (Lib.decDigits n) = some (n : Int):=by
 have h:=Ny n
 obtain ⟨m,r,e⟩:=Og n
 rw [e] at h ⊢
 have h45 : (UInt8.ofNat (48 + m % 10) == 45) = false:=by
  rw [beq_eq_false_iff_ne]
  intro e2
  have:=congrArg UInt8.toNat e2
  rw [QH] at this
  have e3 : (45 : UInt8).toNat = 45:=rfl
  omega
 have h43 : (UInt8.ofNat (48 + m % 10) == 43) = false:=by
  rw [beq_eq_false_iff_ne]
  intro e2
  have:=congrArg UInt8.toNat e2
  rw [QH] at this
  have e3 : (43 : UInt8).toNat = 43:=rfl
  omega
 unfold Lib.atoi
 simp only [h45,h43,Bool.false_eq_true,↓reduceIte]
 unfold Lib.decNat
 rw [if_neg (by simp),h]
 rfl
theorem Sa {l : List UInt8} {c : UInt8} {r : List UInt8} (e : l = c :: r) (hc : 58 <= c.toNat) : Lib.atoi l = none:=by
 subst e
 have h45 : (c == 45) = false:=by
  rw [beq_eq_false_iff_ne]; intro e2; subst e2
  have e3 : (45 : UInt8).toNat = 45:=rfl
  omega
 have h43 : (c == 43) = false:=by
  rw [beq_eq_false_iff_ne]; intro e2; subst e2
  have e3 : (43 : UInt8).toNat = 43:=rfl
  omega
 have hd : Lib.digitVal c = none:=by unfold Lib.digitVal; rw [if_neg (by omega)]
 unfold Lib.atoi
 simp only [h45,h43,Bool.false_eq_true,↓reduceIte]
 unfold Lib.decNat
 rw [if_neg (by simp),Lib.decFrom,hd]
 rfl
def SJ (f : ByteArray) : Prop:=f.size <= 18 /\ ∃ c r,f.data.toList = c :: r /\ 58 <= c.toNat /\ c ≠ 116
set_option maxHeartbeats 1000000 in
set_option maxRecDepth 100000 in
theorem I2 {B : Nat} {w : World} (E : EY B w) {n : Nat} (h1 : 1 <= n) (hn : n <= limC) :
 Calls Tryz.prog 77 #[.string ⟨(Ar n).toArray⟩] w fun e w' => e = .returned (.int .i64 (n : Int)) /\ Below w.heap.size w w':=by
 have hp : Lib.trimPrefix (⟨(Ar n).toArray⟩ : ByteArray).data.toList (⟨#[116,97,98,108,101]⟩ : ByteArray).data.toList = Lib.decDigits n:=by
  show Lib.trimPrefix (Ar n) RT = _
  unfold Lib.trimPrefix Lib.hasPrefix Ar
  rw [if_pos (by rw [List.isPrefixOf_iff_prefix]; exact List.prefix_append _ _),List.drop_left]
 have htp:=Sh.strings_TrimPrefix ⟨(Ar n).toArray⟩ ⟨#[116,97,98,108,101]⟩ w
 rw [hp] at htp
 have hat:=Sh.strconv_Atoi ⟨(Lib.decDigits n).toArray⟩ n (by
  rw [A0,Lib.decDigits_length]
  have:=nDigits_le 7 n (by omega) (by unfold limC at hn; omega)
  omega) (by rw [show (⟨(Lib.decDigits n).toArray⟩ : ByteArray).data.toList = Lib.decDigits n from rfl]; exact Tm n) w
 have hlt : ¬ (n : Int) < 1:=by omega
 have hne : ((⟨(Ar n).toArray⟩ : ByteArray).toList == (⟨(Ar n).toArray⟩ : ByteArray).toList) = true:=beq_self_eq_true _
 have HF : Hid (∀ w',Below w.heap.size w w' -> Calls Tryz.prog 76 #[.int .i64 (n : Int)] w' fun e w'' => e = .returned (.string ⟨(Ar n).toArray⟩) /\ Below w'.heap.size w' w''):=fun w' b => GW (E.tab.below b) hn
 have HTP:=hid htp
 have HAT:=hid hat
 clear htp hat hp E
 generalize (⟨(Ar n).toArray⟩ : ByteArray) = tn at *
 generalize (⟨(Lib.decDigits n).toArray⟩ : ByteArray) = dg at *
 go_enter Tryz.func77,Tryz.ntmps77
 go_wp2_with fail
 refine HTP.out.mono ?_
 rintro e w1 ⟨rfl,rfl⟩
 go_wp2_with fail
 refine HAT.out.mono ?_
 rintro e w2 ⟨rfl,t,rfl⟩
 have B2:=hid (Lib.bytesWorld_below w1 5 t)
 generalize Lib.bytesWorld w1 5 t = w2 at *
 go_wp2_with fail
 refine (HF.out w2 B2.out).mono ?_
 rintro e w3 ⟨rfl,b3⟩
 have B3:=hid (B2.out.trans (b3.mono B2.out.size))
 clear b3
 go_wp2
 go_ret
 exact ⟨rfl,B3.out⟩
set_option maxHeartbeats 1000000 in
set_option maxRecDepth 100000 in
theorem Gw {B : Nat} {w : World} (E : EY B w) {f : ByteArray} (hf : SJ f) :
 Calls Tryz.prog 77 #[.string f] w fun e w' => e = .returned (.int .i64 0) /\ Below w.heap.size w w':=by
 obtain ⟨hs,c,r,e,h58,h116⟩:=hf
 obtain ⟨te,pe,herr⟩:=E.err
 have hp : Lib.trimPrefix f.data.toList (⟨#[116,97,98,108,101]⟩ : ByteArray).data.toList = f.data.toList:=by
  show Lib.trimPrefix f.data.toList RT = _
  unfold Lib.trimPrefix Lib.hasPrefix RT
  rw [if_neg]
  rw [e]
  intro h
  rw [List.isPrefixOf_iff_prefix] at h
  obtain ⟨t,ht⟩:=h
  injection ht with h1 _
  exact h116 h1.symm
 have htp:=Sh.strings_TrimPrefix f ⟨#[116,97,98,108,101]⟩ w
 rw [hp] at htp
 have hfe : (⟨f.data.toList.toArray⟩ : ByteArray) = f:=QW
 rw [hfe] at htp
 have hat:=Sh.strconv_Atoi_err f hs (Sa e h58) _ w herr (.inr ⟨te,pe,rfl⟩)
 have HTP:=hid htp
 have HAT:=hid hat
 clear htp hat hp E e herr hfe
 go_enter Tryz.func77,Tryz.ntmps77
 go_wp2_with fail
 refine HTP.out.mono ?_
 rintro e w1 ⟨rfl,rfl⟩
 go_wp2_with fail
 refine HAT.out.mono ?_
 rintro e w2 ⟨N,rfl,_,_,b2⟩
 have B2:=hid b2
 clear b2
 go_wp2
 go_ret
 exact ⟨rfl,B2.out⟩
theorem GT {p : UInt8 -> Bool} {x : UInt8} (hx : p x = false) : ∀ {l : List UInt8},x ∈ l -> x ∈ l.dropWhile p
 | y :: r,h => by
   rw [List.dropWhile_cons]
   by_cases hy : p y = true
   · rw [if_pos hy]
     rcases List.mem_cons.1 h with rfl | h
     · rw [hx] at hy; cases hy
     · exact GT hx h
   · rw [if_neg hy]; exact h
theorem valN_zeros : ∀ (l : List UInt8),(∀ b ∈ l,b = 48) -> ∀ a,l.foldl (fun a c => 10 * a + (c.toNat - 48)) a = a * 10 ^ l.length
 | [],_,a => by simp
 | b :: r,h,a => by
   rw [List.foldl_cons,h b (by simp),valN_zeros r (fun x hx => h x (by simp [hx]))]
   have e : (48 : UInt8).toNat = 48:=rfl
   rw [e,List.length_cons,Nat.pow_succ]
   simp [Nat.mul_comm,Nat.mul_assoc]
theorem Rl {n : Nat} (h1 : 1 <= n) (hn : n <= limC) : Lib.trimB (decN 8 n) 48 ≠ []:=by
 have hx : ∃ b ∈ decN 8 n,b ≠ 48:=by
  by_cases h : ∃ b ∈ decN 8 n,b ≠ 48
  · exact h
  · have h2 : ∀ b ∈ decN 8 n,b = 48:=fun b hb => by
      by_cases e : b = 48
      · exact e
      · exact absurd ⟨b,hb,e⟩ h
    have h3:=valN_dec 8 n (by unfold limC at hn; omega)
    have h4:=valN_zeros _ h2 0
    unfold IX at h3
    rw [h3] at h4
    simp at h4
    omega
 obtain ⟨b,hb,hne⟩:=hx
 have hp : (b == 48) = false:=by simpa using hne
 have : b ∈ Lib.trimB (decN 8 n) 48:=by
  unfold Lib.trimB Lib.trimLeftB Lib.trimRightB
  refine GT (p:=(· == 48)) hp ?_
  rw [List.mem_reverse]
  exact GT (p:=(· == 48)) hp (List.mem_reverse.2 hb)
 exact List.ne_nil_of_mem this
def Aaw : List UInt8:=[48,49,50,51,52,53,54,55,56,57]
theorem digs_all : ∀ m : Fin 10,Aaw.contains (UInt8.ofNat (48 + m.val)) = true:=by decide
theorem decN_digs : ∀ (k n : Nat),∀ b ∈ decN k n,Aaw.contains b = true
 | 0,_,b,h => by cases h
 | k + 1,n,b,h => by
   rw [decN] at h
   rcases List.mem_append.1 h with h | h
   · exact decN_digs k _ b h
   · rw [List.mem_singleton.1 h]
     exact digs_all ⟨n % 10,by omega⟩
theorem JJ {p : UInt8 -> Bool} : ∀ {l : List UInt8},(∀ b ∈ l,p b = true) -> l.dropWhile p = []
 | [],_ => rfl
 | y :: r,h => by rw [List.dropWhile_cons,if_pos (h y (by simp)),JJ fun b hb => h b (by simp [hb])]
theorem ZE (n : Nat) : Lib.trimS (decN 8 n) Aaw = []:=by
 unfold Lib.trimS Lib.trimRightS Lib.trimLeftS
 rw [JJ (fun b hb => decN_digs 8 n b (List.mem_reverse.1 hb))]
 rfl
set_option maxHeartbeats 1000000 in
set_option maxRecDepth 100000 in
theorem OJ {w : World} {n : Nat} (h1 : 1 <= n) (hn : n <= limC) :
 Calls Tryz.prog 79 #[.string ⟨(Af LOG n).toArray⟩] w fun e w' => e = .returned (.bool true) /\ Below w.heap.size w w':=by
 have hcp:=Sh.strings_CutPrefix ⟨(Af LOG n).toArray⟩ ⟨#[108,111,103]⟩ w
 have hp : Lib.hasPrefix (Af LOG n) LOG = true:=by unfold Lib.hasPrefix Af; rw [List.isPrefixOf_iff_prefix]; exact List.prefix_append _ _
 have ht : Lib.trimPrefix (Af LOG n) LOG = decN 8 n:=by unfold Lib.trimPrefix; rw [if_pos hp]; unfold Af; rw [List.drop_left]
 rw [show (⟨(Af LOG n).toArray⟩ : ByteArray).data.toList = Af LOG n from rfl,show (⟨#[108,111,103]⟩ : ByteArray).data.toList = LOG from rfl,hp,ht] at hcp
 obtain ⟨D,hD⟩ : ∃ D : ByteArray,(⟨(decN 8 n).toArray⟩ : ByteArray) = D:=⟨_,rfl⟩
 rw [hD] at hcp
 have hDd : D.data.toList = decN 8 n:=by rw [<- hD]
 have hDz : D.size = 8:=by rw [<- hD,A0,decN_len]
 have ht1:=fun w => Sh.strings_Trim_one D 48 (by decide) w (by omega)
 rw [hDd] at ht1
 obtain ⟨X,hX⟩ : ∃ X : ByteArray,(⟨(Lib.trimB (decN 8 n) 48).toArray⟩ : ByteArray) = X:=⟨_,rfl⟩
 rw [hX] at ht1
 have hXe : X.toList.isEmpty = false:=by
  refine DI ?_
  rw [<- hX,A0]
  have:=List.length_pos_iff.2 (Rl h1 hn)
  omega
 have ht2:=fun w => Any.strings_Trim_laid Sh.lays160 (by kernel_rfl) D ⟨#[48,49,50,51,52,53,54,55,56,57]⟩ w (by omega) (by decide) (by
  exact ascii_of_all (by decide))
 rw [hDd,show (⟨#[48,49,50,51,52,53,54,55,56,57]⟩ : ByteArray).data.toList = Aaw from rfl,ZE] at ht2
 have HT1:=hid ht1
 have HT2 : Hid (∀ w,Calls Tryz.prog 117 #[.string D,.string ⟨#[48,49,50,51,52,53,54,55,56,57]⟩] w fun e w' => e = .returned (.string ⟨#[]⟩) /\ Below w.heap.size w w'):=ht2
 have HCP:=hid hcp
 have hD8 : ((D.size : Int) == 8) = true:=by rw [hDz]; rfl
 clear ht1 ht2 hcp hX hD hDd hDz ht hp
 generalize (⟨(Af LOG n).toArray⟩ : ByteArray) = sn at *
 go_enter Tryz.func79,Tryz.ntmps79
 go_wp2_with fail
 refine HCP.out.mono ?_
 rintro e w1 ⟨rfl,rfl⟩
 go_wp2_with fail
 refine (HT1.out _).mono ?_
 rintro e w2 ⟨rfl,hw⟩
 have B2 : Hid (Below w1.heap.size w1 w2):=by
  show Below _ _ _
  rcases hw with rfl | rfl
  · exact Below.refl _ _
  · exact Ay w1
 clear hw
 go_wp2_with fail
 refine (HT2.out _).mono ?_
 rintro e w3 ⟨rfl,b3⟩
 have B3:=hid (B2.out.trans (b3.mono B2.out.size))
 clear b3
 go_wp2
 go_ret
 exact ⟨rfl,B3.out⟩
set_option maxRecDepth 100000 in
theorem OO (w : World) (n : Nat) :
 Calls Tryz.prog 79 #[.string ⟨(Ar n).toArray⟩] w fun e w' => e = .returned (.bool false) /\ Below w.heap.size w w':=by
 have hcp:=Sh.strings_CutPrefix ⟨(Ar n).toArray⟩ ⟨#[108,111,103]⟩ w
 have hp : Lib.hasPrefix (Ar n) LOG = false:=rfl
 rw [show (⟨(Ar n).toArray⟩ : ByteArray).data.toList = Ar n from rfl,show (⟨#[108,111,103]⟩ : ByteArray).data.toList = LOG from rfl,hp] at hcp
 have HCP:=hid hcp
 clear hcp
 generalize (⟨(Lib.trimPrefix (Ar n) LOG).toArray⟩ : ByteArray) = X at *
 generalize (⟨(Ar n).toArray⟩ : ByteArray) = sn at *
 go_enter Tryz.func79,Tryz.ntmps79
 go_wp2_with fail
 refine HCP.out.mono ?_
 rintro e w1 ⟨rfl,rfl⟩
 go_wp2
 go_ret
 exact ⟨rfl,Below.refl _ _⟩
end
section
open Go.RowKit
def IA (w : World) (b : Nat) : Nat:=match w.cell? ⟨b,0,none⟩ with | some (.string s) => s.size | _ => 0
theorem Hw {w : World} {b : Nat} {l : List UInt8} (h : RDE w b (some l)) : IA w b = l.length:=by
 obtain ⟨s,h⟩:=h
 unfold IA
 rw [h.c0]
 simp only
 have:=h.text
 have e : s.data.toList = l:=by simpa using this
 rw [<- e]; simp
theorem Yx {n k : Nat} (hn : n <= 1048576) (hk : k < (As n).length) : Dt ((As n).take k) = none:=by
 cases hg : Dt ((As n).take k) with
 | none => rfl
 | some x =>
   obtain ⟨m,j⟩:=x
   obtain ⟨h1,h2,h3⟩:=Jf hg
   rw [List.length_take] at h3
   obtain ⟨c,hc,hlt⟩:=RZ 9 m (by have:=h1.out; rw [show (128 : Nat) ^ 10 = 1180591620717411303424 by decide]; omega)
   rw [h2] at hc
   obtain ⟨i,hi,e⟩:=List.mem_iff_getElem.1 (List.mem_of_mem_take hc)
   rw [List.length_take] at hi
   rw [List.getElem_take] at e
   have:=Pe 9 n (by rw [show (128 : Nat) ^ 10 = 1180591620717411303424 by decide]; omega) i (by omega) c (by rw [<- e]; exact List.getElem?_eq_getElem (by omega))
   omega
theorem Xu {t : List UInt8} (h : Qc t) : (CW (4 + ((CI 1048576 (some t)).1 : Int)) (CI 1048576 (some t)).2).2 = none:=by
 obtain ⟨r,k,h1,h2,rfl⟩:=h
 have hf : Ai r = As r.length ++ (Ei r ++ r):=by unfold Ai; simp
 by_cases hk : k < (As r.length).length
 · have e : (Ai r).take k = (As r.length).take k:=by rw [hf,List.take_append_of_le_length (Nat.le_of_lt hk)]
   rw [e,show (1048576 : Int) = ((1048576 : Nat) : Int) from rfl,Gk,NA (Yx h1 hk)]
   rfl
 · have e : (Ai r).take k = As r.length ++ (Ei r ++ r).take (k - (As r.length).length):=by rw [hf,List.take_append,List.take_of_length_le (by omega)]
   rw [e,show (1048576 : Int) = ((1048576 : Nat) : Int) from rfl,Gm h1 (Ia h1)]
   simp only
   rw [JL]
   rw [List.length_take,List.length_append,Gq]
   rw [Fk] at h2
   omega
theorem Ux {r : List UInt8} (h : r.length <= 1048576) (rest : List UInt8) : CI 1048576 (some (Ai r ++ rest)) = (r.length,some (Ei r ++ (r ++ rest))) /\ (CW (4 + (r.length : Int)) (some (Ei r ++ (r ++ rest)))).2 = some rest:=by
 constructor
 · have hf : Ai r ++ rest = As r.length ++ (Ei r ++ (r ++ rest)):=by unfold Ai; simp
   rw [hf,show (1048576 : Int) = ((1048576 : Nat) : Int) from rfl,Gm h (Ia h)]
 · rw [show (4 + (r.length : Int)) = ((4 + r.length : Nat) : Int) by omega,<- List.append_assoc,Ln (Ei r ++ r) rest (by rw [List.length_append,Gq])]
theorem QJ {recs : List (List UInt8)} {i : Nat} (h : i < recs.length) : A6 (recs.drop i) = Ai recs[i] ++ A6 (recs.drop (i + 1)):=by
 rw [List.drop_eq_getElem_cons h,EP]
set_option maxHeartbeats 1000000 in
set_option maxRecDepth 100000 in
theorem TI {recs : List (List UInt8)} {t : List UInt8} (hr : ∀ r ∈ recs,r.length <= 1048576) (ht : Qc t) (s : ByteArray) (hs : s.data.toList = A6 recs ++ t) (hz : s.size <= 4398046511104) (w : World) :
 Calls Tryz.prog 80 #[.string s] w fun e w' => e = .returned (.int .i64 (recs.length : Nat)) /\ Below w.heap.size w w':=by
 have hrd:=IK s (by omega) w
 rw [hs] at hrd
 have hcnt : recs.length <= 4398046511104:=by
  have h1 : ∀ rs : List (List UInt8),rs.length <= (A6 rs).length:=by
   intro rs
   induction rs with
   | nil => simp
   | cons a r ih => rw [EP,List.length_append,List.length_cons]; have:=Fh a; omega
  have h2:=congrArg List.length hs
  rw [List.length_append] at h2
  have h3 : s.data.toList.length = s.size:=by simp
  have:=h1 recs
  omega
 have HR0:=hid hr
 have HT0:=hid ht
 have HRD:=hid hrd
 clear hr ht hs hrd
 go_enter Tryz.func80,Tryz.ntmps80
 go_wp2_with fail
 refine HRD.out.mono ?_
 rintro e w0 ⟨rfl,r0,b0⟩
 have R0:=hid r0
 have B0:=hid b0
 have hlt0:=r0.lt
 clear r0 b0 HRD
 go_wp2
 generalize hrb : w.heap.size = rb at *
 go_loopw [3] (fun iv wr => ∃ i : Nat,i <= recs.length /\ iv = .int .i64 (i : Int) /\ Hid (RDE wr rb (some (A6 (recs.drop i) ++ t)) /\ Below rb w wr)) (fun iv wr => IA wr rb)
 case atStart => exact ⟨0,Nat.zero_le _,rfl,R0.out,B0.out⟩
 case round =>
  clear R0 B0
  obtain ⟨i,hi,rfl,HR⟩:=hrel
  have hend:=Iu HR.out.1
  have hwr:=HR.out.1.lt
  have hbs : rb <= wr.heap.size:=by omega
  by_cases hlt : i < recs.length
  · have hfr:=QJ hlt
    have hsm:=HR0.out recs[i] (List.getElem_mem hlt)
    have hrest:=Hw HR.out.1
    generalize recs[i] = X at *
    rw [hfr,List.append_assoc] at hend hrest
    have hend0 : Fs (some (Ai X ++ (A6 (recs.drop (i + 1)) ++ t))) = false:=by
     unfold Fs
     have:=Fh X
     cases hX : Ai X with
     | nil => rw [hX] at this; simp at this
     | cons a r => rfl
    rw [hend0] at hend
    have hint:=Gb HR.out.1 1048576 (by omega)
    rw [hfr,List.append_assoc] at hint
    obtain ⟨f1,f2⟩:=Ux hsm (A6 (recs.drop (i + 1)) ++ t)
    rw [f1] at hint
    have HTK : Hid (∀ w',RDE w' rb (some (Ei X ++ (X ++ (A6 (recs.drop (i + 1)) ++ t)))) -> Calls Tryz.prog 118 #[.pointer (some ⟨rb,0,none⟩),.int .i64 (4 + (X.length : Int))] w' fun e w'' => (∃ s,e = .returned (.string s)) /\ EH w' w'' rb (some (A6 (recs.drop (i + 1)) ++ t))):=fun w' h => by
     have:=Kw h (4 + (X.length : Int)) (by omega)
     rw [f2] at this
     exact this.mono fun e w'' ⟨h1,h2⟩ => ⟨⟨_,h1⟩,h2⟩
    have hlen : (A6 (recs.drop (i + 1)) ++ t).length < (Ai X ++ (A6 (recs.drop (i + 1)) ++ t)).length:=by have:=Fh X; simp only [List.length_append]; omega
    have HM : Hid ((A6 (recs.drop (i + 1)) ++ t).length < IA wr rb):=by show _ < _; rw [hrest]; exact hlen
    have HI:=hid hint
    have HE:=hid hend
    have HB:=hid HR.out.2
    have hx4 : IntKind.i64.wrap (4 + (X.length : Int)) = 4 + (X.length : Int):=by rw [IntKind.wrap_i64]; omega
    clear hint hend HR f1 f2 hfr hend0 hrest hlen
    simp only at HI
    go_wp2_with fail
    refine HE.out.mono ?_
    rintro e w1 ⟨rfl,rfl⟩
    go_wp2_with fail
    refine HI.out.mono ?_
    rintro e w2 ⟨rfl,l2⟩
    have B2:=hid (HB.out.trans (Eh l2.2 hbs (Nat.le_refl _)))
    have TK:=hid (HTK.out _ l2.1)
    have hs2:=l2.2.size
    clear l2 HI HE HB
    go_wp2_with fail
    refine TK.out.mono ?_
    rintro e w3 ⟨⟨sx,rfl⟩,l3⟩
    have B3:=hid (B2.out.trans (Eh l3.2 (by omega) (Nat.le_refl _)))
    have R3:=hid l3.1
    have hbd:=Ge l3.1
    have HM3 : Hid (IA w3 rb < IA wr rb):=by show _ < _; rw [Hw l3.1]; exact HM.out
    clear l3 TK B2
    go_wp2_with fail
    refine hbd.mono ?_
    rintro e w4 ⟨rfl,rfl⟩
    clear hbd
    go_wp2
    go_roundw
    case rel => exact ⟨i + 1,by omega,by go_num,R3.out,B3.out⟩
    case measure => exact HM3.out
  · obtain rfl : i = recs.length:=by omega
    rw [List.drop_length] at HR hend
    have e0 : A6 ([] : List (List UInt8)) ++ t = t:=rfl
    rw [e0] at HR hend
    by_cases ht0 : t = []
    · subst ht0
      have HE:=hid hend
      have HB:=hid HR.out.2
      clear hend HR
      have hE : Fs (some ([] : List UInt8)) = true:=rfl
      rw [hE] at HE
      go_wp2_with fail
      refine HE.out.mono ?_
      rintro e w1 ⟨rfl,rfl⟩
      go_wp2
      go_ret
      exact ⟨rfl,by rw [hrb]; exact HB.out⟩
    · have hend0 : Fs (some t) = false:=by
        unfold Fs
        cases t with
        | nil => exact absurd rfl ht0
        | cons a r => rfl
      rw [hend0] at hend
      have hint:=Gb HR.out.1 1048576 (by omega)
      have htr:=Xu HT0.out
      have hnb:=MB 1048576 (some t)
      rw [<- Gk] at hnb
      obtain ⟨n,R1,hnR⟩ : ∃ n R1,CI 1048576 (some t) = (n,R1):=⟨_,_,rfl⟩
      rw [show ((1048576 : Nat) : Int) = 1048576 from rfl,hnR] at hnb
      rw [hnR] at hint htr
      simp only at hint htr hnb
      have HTK : Hid (∀ w',RDE w' rb R1 -> Calls Tryz.prog 118 #[.pointer (some ⟨rb,0,none⟩),.int .i64 (4 + (n : Int))] w' fun e w'' => (∃ s,e = .returned (.string s)) /\ EH w' w'' rb none):=fun w' h => by
       have:=Kw h (4 + (n : Int)) (by omega)
       rw [htr] at this
       exact this.mono fun e w'' ⟨h1,h2⟩ => ⟨⟨_,h1⟩,h2⟩
      have HI:=hid hint
      have HE:=hid hend
      have HB:=hid HR.out.2
      have hx4 : IntKind.i64.wrap (4 + (n : Int)) = 4 + (n : Int):=by rw [IntKind.wrap_i64]; omega
      clear hint hend HR hend0 htr hnR
      go_wp2_with fail
      refine HE.out.mono ?_
      rintro e w1 ⟨rfl,rfl⟩
      go_wp2_with fail
      refine HI.out.mono ?_
      rintro e w2 ⟨rfl,l2⟩
      have B2:=hid (HB.out.trans (Eh l2.2 hbs (Nat.le_refl _)))
      have TK:=hid (HTK.out _ l2.1)
      have hs2:=l2.2.size
      clear l2 HI HE HB
      go_wp2_with fail
      refine TK.out.mono ?_
      rintro e w3 ⟨⟨sx,rfl⟩,l3⟩
      have B3:=hid (B2.out.trans (Eh l3.2 (by omega) (Nat.le_refl _)))
      have hbd:=Ge l3.1
      clear l3 TK B2
      go_wp2_with fail
      refine hbd.mono ?_
      rintro e w4 ⟨rfl,rfl⟩
      clear hbd
      go_wp2
      go_ret
      exact ⟨rfl,by rw [hrb]; exact B3.out⟩
end
end Go.Proofs.YtnafjlhohbhcoaaGreatDoor
