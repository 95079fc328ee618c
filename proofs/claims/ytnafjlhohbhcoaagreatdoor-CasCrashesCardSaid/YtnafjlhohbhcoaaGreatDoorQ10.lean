/- Parts of the proof. -/
import Derived.Test.YtnafjlhohbhcoaaGreatDoorQ07
import Derived.Test.YtnafjlhohbhcoaaGreatDoorQ04
namespace Go.Proofs.YtnafjlhohbhcoaaGreatDoor
open Go.Lib (hid)
set_option linter.unusedVariables false
section
open Go.RowKit Go.Maps Go.WideMaps
def Qw (v : Value) : Option (DU × List MemPlace):=
 match v with
 | .pointer none => some (.nil,[])
 | .pointer (some ⟨b,0,none⟩) => some (.lit (.int .i64 (b : Int)),[])
 | _ => none
theorem Yh {v : Value} {ps : List MemPlace} (h : Qw v = some (.nil,ps)) : v = .pointer none:=by
 unfold Qw at h
 split at h
 · rfl
 · simp at h
 · cases h
theorem AaW {v : Value} {q : Nat} {ps : List MemPlace} (h : Qw v = some (.lit (.int .i64 (q : Int)),ps)) : v = .pointer (some ⟨q,0,none⟩):=by
 unfold Qw at h
 split at h
 · simp at h
 · rename_i b
   simp only [Option.some.injEq,Prod.mk.injEq,DataW.lit.injEq,Lit.int.injEq,true_and] at h
   have : b = q:=by omega
   rw [this]
 · cases h
structure Bm where
 file : Ae
 blk : Nat
 row : Value
structure BG (w : World) (F : Nat -> Prop) (e : Bm) : Prop where
 head : w.heap[e.blk]? = some (.cells #[e.row,.int .i64 (e.file.dur : Int)] 87 (0,0))
 row : w.ownsRow 0 5 1 e.row e.file.bytes.length (e.file.bytes.map bv)
 dur : e.file.dur <= e.file.bytes.length
 fblk : F e.blk
 frow : ∀ k,e.row.ownBlock = some k -> F k
def KE (a b : Key × Bm) : Prop:=a.2.blk ≠ b.2.blk /\ ∀ k,a.2.row.ownBlock = some k -> b.2.row.ownBlock ≠ some k
theorem KE.symm {a b : Key × Bm} (h : KE a b) : KE b a:=⟨h.1.symm,fun k hb ha => h.2 k ha hb⟩
structure Id (w : World) (F : Nat -> Prop) (es : List (Key × Bm)) : Prop where
 each : ∀ x ∈ es,BG w F x.2 /\ Cp x.1 = true
 apart : es.Pairwise KE
section
variable {F G : Nat -> Prop} {w w' : World}
theorem BG.kept {e : Bm} (h : BG w F e) (t : Ac G w w') (hd : ∀ k,F k -> ¬ G k) : BG w' F e:=
 ⟨t.keeps h.head (hd _ h.fblk),t.row h.row (fun k hk => hd _ (h.frow k hk)),h.dur,h.fblk,h.frow⟩
theorem BG.mono {e : Bm} (h : BG w F e) (hd : ∀ k,F k -> G k) : BG w G e:=⟨h.head,h.row,h.dur,hd _ h.fblk,fun k hk => hd _ (h.frow k hk)⟩
theorem Id.kept {es : List (Key × Bm)} (h : Id w F es) (t : Ac G w w') (hd : ∀ k,F k -> ¬ G k) : Id w' F es:=
 ⟨fun x hx => ⟨(h.each x hx).1.kept t hd,(h.each x hx).2⟩,h.apart⟩
theorem Id.mono {es : List (Key × Bm)} (h : Id w F es) (hd : ∀ k,F k -> G k) : Id w G es:=
 ⟨fun x hx => ⟨(h.each x hx).1.mono hd,(h.each x hx).2⟩,h.apart⟩
def C5 (w : World) (p m : Nat) (fuel : Int) (down : Bool) : Prop:=w.heap[p]? = some (.cells #[.map (some m),.int .i64 fuel,.bool down] 68 (0,0))
def IJ (w : World) (m : Nat) (es : List (Key × Bm)) : Prop:=w.ownsMap Tryz.prog 9 Qw m es.length (toD (EX Bm.blk es))
structure AM (w : World) (p m : Nat) (es : List (Key × Bm)) (S : Bx) (F : Nat -> Prop) : Prop where
 head : C5 w p m S.fuel S.down
 map : IJ w m es
 files : S.files = EX Bm.file es
 mem : Id w F es
 fp : F p
 fm : F m
 lo : -9223372036854775808 <= S.fuel
 hi : S.fuel <= 9223372036854775807
def AH (w : World) (p : Nat) (S : Bx) (F : Nat -> Prop) : Prop:=∃ m es,AM w p m es S F
theorem AM.kept {p m : Nat} {es : List (Key × Bm)} {S : Bx} (h : AM w p m es S F) (t : Ac G w w') (hd : ∀ k,F k -> ¬ G k) : AM w' p m es S F:=
 ⟨t.keeps h.head (hd _ h.fp),t.map h.map (hd _ h.fm),h.files,h.mem.kept t hd,h.fp,h.fm,h.lo,h.hi⟩
theorem AH.kept {p : Nat} {S : Bx} (h : AH w p S F) (t : Ac G w w') (hd : ∀ k,F k -> ¬ G k) : AH w' p S F:=by
 obtain ⟨m,es,h⟩:=h
 exact ⟨m,es,h.kept t hd⟩
theorem AM.mono {p m : Nat} {es : List (Key × Bm)} {S : Bx} (h : AM w p m es S F) (hd : ∀ k,F k -> G k) : AM w p m es S G:=
 ⟨h.head,h.map,h.files,h.mem.mono hd,hd _ h.fp,hd _ h.fm,h.lo,h.hi⟩
theorem AH.mono {p : Nat} {S : Bx} (h : AH w p S F) (hd : ∀ k,F k -> G k) : AH w p S G:=by
 obtain ⟨m,es,h⟩:=h
 exact ⟨m,es,h.mono hd⟩
theorem AM.below {p m : Nat} {es : List (Key × Bm)} {S : Bx} (h : AM w p m es S F) (t : Below w.heap.size w w') : AM w' p m es S F:=
 h.kept (Ac.of_below (fun _ => False) t) (fun _ _ h => h)
theorem AH.below {p : Nat} {S : Bx} (h : AH w p S F) (t : Below w.heap.size w w') : AH w' p S F:=
 h.kept (Ac.of_below (fun _ => False) t) (fun _ _ h => h)
theorem AM.rising {p m : Nat} {es : List (Key × Bm)} {S : Bx} (h : AM w p m es S F) : AC es:=
 (Kd Bm.blk).1 (MA (h.map.canon (string_keyed Tryz.underlying9)))
end
theorem C5.lt {w : World} {p m : Nat} {f : Int} {d : Bool} (h : C5 w p m f d) : p < w.heap.size:=Ad h
theorem C5.c0 {w : World} {p m : Nat} {f : Int} {d : Bool} (h : C5 w p m f d) : w.cell? ⟨p,0,none⟩ = some (.map (some m)):=by rw [Ab h]; rfl
theorem C5.c1 {w : World} {p m : Nat} {f : Int} {d : Bool} (h : C5 w p m f d) : w.cell? ⟨p,1,none⟩ = some (.int .i64 f):=by rw [Ab h]; rfl
theorem C5.c2 {w : World} {p m : Nat} {f : Int} {d : Bool} (h : C5 w p m f d) : w.cell? ⟨p,2,none⟩ = some (.bool d):=by rw [Ab h]; rfl
theorem C5.free {w : World} {p m : Nat} {f : Int} {d : Bool} (h : C5 w p m f d) (i : Nat) : w.frozen? ⟨p,i,none⟩ = false:=Ag h i
theorem C5.setDown {w : World} {p m : Nat} {f : Int} {d : Bool} (h : C5 w p m f d) (d' : Bool) : C5 (w.setCell ⟨p,2,none⟩ (.bool d')) p m f d':=block_set h 2 _
theorem C5.setFuel {w : World} {p m : Nat} {f : Int} {d : Bool} (h : C5 w p m f d) (f' : Int) : C5 (w.setCell ⟨p,1,none⟩ (.int .i64 f')) p m f' d:=block_set h 1 _
theorem IJ.look {w : World} {m : Nat} {es : List (Key × Bm)} (h : IJ w m es) (s : ByteArray) (hs : s.size <= maxLen) :
 (Instr.lookup 66 (.map (some m)) (.string s) false).run Tryz.prog w = .ok (.pointer ((Am s.data.toList es).map fun e => ⟨e.blk,0,none⟩)) w:=by
 obtain ⟨v,ps,hrun,hv⟩:=World.ownsMap.lookup h (string_keyed Tryz.underlying9) Tryz.underlying66 (z:=.pointer none) (zd:=.nil) (zp:=[]) (by kernel_rfl) rfl (keyOf_string_mk Tryz.underlying9 hs)
 have hv' : v = .pointer ((Am s.data.toList es).map fun e => ⟨e.blk,0,none⟩):=by
  rw [AbE,BP] at hv
  cases hf : Am s.data.toList es with
  | none => rw [hf] at hv; exact Yh hv
  | some e => rw [hf] at hv; exact AaW hv
 rw [hv'] at hrun
 exact hrun
end
section
open Go.RowKit Go.Maps Go.WideMaps
section
variable {F : Nat -> Prop} {w w' : World} {p m : Nat} {es : List (Key × Bm)} {S : Bx}
theorem AM.lm (h : AM w p m es S F) : m < w.heap.size:=World.ownsMap.lt h.map
theorem AM.pm (h : AM w p m es S F) : m ≠ p:=by
 rintro rfl
 obtain ⟨a,b,hb,_⟩:=h.map
 have:=h.head
 unfold C5 at this
 rw [hb] at this; cases this
theorem BG.notHead {e : Bm} {q : Nat} {c : Array Value} (h : BG w F e) (hq : w.heap[q]? = some (.cells c 68 (0,0))) : e.blk ≠ q /\ ∀ k,e.row.ownBlock = some k -> k ≠ q:=by
 refine ⟨fun he => ?_,fun k hk he => ?_⟩
 · have:=h.head
   rw [he,hq] at this
   simp at this
 · subst he
   rcases h.row.2 with ⟨h1,_⟩ | ⟨g,cap,cur,h1,_,h2,_⟩
   · rw [h1] at hk; simp [Value.ownBlock] at hk
   · rw [h1] at hk
     simp [Value.ownBlock] at hk
     subst hk
     rw [hq] at h2
     simp at h2
theorem AM.reHead (h : AM w p m es S F) {f : Int} {d : Bool} (hh : C5 w' p m f d) (t : Ac (fun k => k = p) w w') (h0 : -9223372036854775808 <= f) (h1 : f <= 9223372036854775807) : AM w' p m es ⟨S.files,f,d⟩ F:=by
 refine ⟨hh,t.map h.map h.pm,h.files,⟨fun x hx => ?_,h.mem.apart⟩,h.fp,h.fm,h0,h1⟩
 obtain ⟨hf,hn⟩:=h.mem.each x hx
 have hne:=hf.notHead h.head
 exact ⟨⟨t.keeps hf.head hne.1,t.row hf.row (fun k hk => hne.2 k hk),hf.dur,hf.fblk,hf.frow⟩,hn⟩
end
set_option maxHeartbeats 400000 in
set_option maxRecDepth 100000 in
theorem Df {w : World} {p m : Nat} {f : Int} {d : Bool} (h : C5 w p m f d) :
 Calls Tryz.prog 69 #[.pointer (some ⟨p,0,none⟩)] w fun e w' => e = .returned (.bool d) /\ w = w':=by
 have c2:=h.c2
 clear h
 go_enter Tryz.func69,Tryz.ntmps69
 go_wp2
 go_ret
 exact ⟨rfl,rfl⟩
theorem Lp (s : ByteArray) : Cp s.data.toList = decide (1 <= s.size /\ s.size <= 32):=by
 unfold Cp
 have : s.data.toList.length = s.size:=by simp
 rw [this]
set_option maxHeartbeats 400000 in
set_option maxRecDepth 100000 in
theorem H9 (s : ByteArray) (hs : s.size <= maxLen) (w : World) :
 Calls Tryz.prog 142 #[.string s] w fun e w' => e = .returned (.bool (Cp s.data.toList)) /\ w = w':=by
 unfold maxLen at hs
 have hn:=hid (Lp s)
 by_cases h0 : s.size = 0
 · obtain rfl : s = ⟨#[]⟩:=by
     apply ByteArray.ext
     exact Array.eq_empty_of_size_eq_zero h0
   clear h0
   go_enter Tryz.func142,Tryz.ntmps142
   go_wp2
   go_ret
   exact ⟨rfl,rfl⟩
 · have h1 : s.toList.isEmpty = false:=by
     rw [ByteArray.toList_eq]
     cases h : s.data.toList with
     | nil =>
       exfalso
       apply h0
       have:=congrArg List.length h
       simpa using this
     | cons a b => rfl
   have h2 : ¬ s.toList = []:=by intro h; rw [h] at h1; cases h1
   have h3 : 1 <= s.size:=by omega
   have H0:=hid h0
   clear h0
   go_enter Tryz.func142,Tryz.ntmps142
   go_wp2
   go_ret
   exact ⟨by rw [hn.out]; simp [h3]; omega,rfl⟩
set_option maxHeartbeats 400000 in
set_option maxRecDepth 100000 in
theorem V7 {w : World} {p m : Nat} {es : List (Key × Bm)} {S : Bx} {F : Nat -> Prop} (h : AM w p m es S F) (h0 : S.fuel = 0) :
 Calls Tryz.prog 143 #[.pointer (some ⟨p,0,none⟩)] w fun e w' => e = .returned (.bool false) /\ AM w' p m es S.fall F /\ Ac (fun k => k = p) w w':=by
 have hh:=h.head
 have hh2:=hid (hh.setDown true)
 rw [h0] at hh
 have c1:=hh.c1
 have c2:=hh.c2
 have f2:=hh.free 2
 have H:=hid h
 have H0:=hid h0
 clear h hh h0
 go_enter Tryz.func143,Tryz.ntmps143
 go_wp2
 go_ret
 have ht:=(Ac.refl (fun k => k = p) w).setCell (p:=⟨p,2,none⟩) (.inl rfl) (.bool true)
 exact ⟨rfl,H.out.reHead hh2.out ht H.out.lo H.out.hi,ht⟩
set_option maxHeartbeats 400000 in
set_option maxRecDepth 100000 in
theorem QB {w : World} {p m : Nat} {es : List (Key × Bm)} {S : Bx} {F : Nat -> Prop} (h : AM w p m es S F) (h0 : S.fuel ≠ 0) :
 Calls Tryz.prog 143 #[.pointer (some ⟨p,0,none⟩)] w fun e w' => e = .returned (.bool true) /\ AM w' p m es S.burnt F /\ Ac (fun k => k = p) w w':=by
 have hh:=h.head
 have c1:=hh.c1
 have f1:=hh.free 1
 have hlo:=h.lo
 have hhi:=h.hi
 have H:=hid h
 have HH:=hid hh
 have h1 : decide (S.fuel = 0) = false:=by simpa using h0
 clear h hh
 by_cases hp : 0 < S.fuel
 · go_enter Tryz.func143,Tryz.ntmps143
   go_wp2
   go_ret
   have ht:=(Ac.refl (fun k => k = p) w).setCell (p:=⟨p,1,none⟩) (.inl rfl) (.int .i64 (S.fuel - 1))
   have e : S.burnt = ⟨S.files,S.fuel - 1,S.down⟩:=by unfold Bx.burnt; rw [if_pos hp]
   rw [e]
   exact ⟨rfl,H.out.reHead (HH.out.setFuel (S.fuel - 1)) ht (by omega) (by omega),ht⟩
 · go_enter Tryz.func143,Tryz.ntmps143
   go_wp2
   go_ret
   have e : S.burnt = S:=by unfold Bx.burnt; rw [if_neg (by omega)]
   rw [e]
   exact ⟨rfl,H.out,Ac.refl _ _⟩
set_option maxHeartbeats 400000 in
set_option maxRecDepth 100000 in
theorem Pj {w : World} {p m : Nat} {es : List (Key × Bm)} {S : Bx} {F : Nat -> Prop} (h : AM w p m es S F) (hd : S.down = true) (s : ByteArray) :
 Calls Tryz.prog 147 #[.pointer (some ⟨p,0,none⟩),.string s] w fun e w' => e = .returned (.tuple #[.pointer none,.int .i64 30]) /\ w = w':=by
 have hh:=h.head
 rw [hd] at hh
 clear hd h
 go_enter Tryz.func147,Tryz.ntmps147
 go_wp2_with fail
 refine (Df hh).mono ?_
 rintro e w' ⟨rfl,rfl⟩
 go_wp2
 go_ret2
 exact ⟨rfl,rfl⟩
set_option maxHeartbeats 400000 in
set_option maxRecDepth 100000 in
theorem OU {w : World} {p m : Nat} {es : List (Key × Bm)} {S : Bx} {F : Nat -> Prop} (h : AM w p m es S F) (hd : S.down = false) (s : ByteArray) (hs : s.size <= maxLen) (hf : Am s.data.toList es = none) :
 Calls Tryz.prog 147 #[.pointer (some ⟨p,0,none⟩),.string s] w fun e w' => e = .returned (.tuple #[.pointer none,.int .i64 31]) /\ w = w':=by
 have hh:=h.head
 rw [hd] at hh
 have hl:=h.map.look s hs
 rw [hf] at hl
 have c0:=hh.c0
 clear hd h hf
 go_enter Tryz.func147,Tryz.ntmps147
 go_wp2_with fail
 refine (Df hh).mono ?_
 rintro e w' ⟨rfl,rfl⟩
 clear hh
 go_wp2
 go_ret2
 exact ⟨rfl,rfl⟩
set_option maxHeartbeats 400000 in
set_option maxRecDepth 100000 in
theorem Lf {w : World} {p m : Nat} {es : List (Key × Bm)} {S : Bx} {F : Nat -> Prop} (h : AM w p m es S F) (hd : S.down = false) (s : ByteArray) (hs : s.size <= maxLen) {e : Bm} (hf : Am s.data.toList es = some e) :
 Calls Tryz.prog 147 #[.pointer (some ⟨p,0,none⟩),.string s] w fun r w' => r = .returned (.tuple #[.pointer (some ⟨e.blk,0,none⟩),.int .i64 0]) /\ w = w':=by
 have hh:=h.head
 rw [hd] at hh
 have hl:=h.map.look s hs
 rw [hf] at hl
 have c0:=hh.c0
 clear hd h hf
 go_enter Tryz.func147,Tryz.ntmps147
 go_wp2_with fail
 refine (Df hh).mono ?_
 rintro e w' ⟨rfl,rfl⟩
 clear hh
 go_wp2
 go_ret2
 exact ⟨rfl,rfl⟩
end
section
open Go.RowKit Go.Maps Go.WideMaps
theorem IJ.made (w : World) : IJ (w.alloc (.map #[] 0)) w.heap.size []:=World.ownsMap_made _ _ _ _
set_option maxHeartbeats 400000 in
set_option maxRecDepth 100000 in
theorem GN (w : World) :
 Calls Tryz.prog 10 #[] w fun e w' => ∃ p,e = .returned (.pointer (some ⟨p,0,none⟩)) /\ w.heap.size <= p /\ AH w' p Bx.new (fun k => w.heap.size <= k /\ k < w'.heap.size) /\ Below w.heap.size w w':=by
 have hmm:=@run_makeMap Tryz.prog
 go_enter Tryz.func10,Tryz.ntmps10
 go_wp2
 go_ret
 have hm:=(IJ.made w).alloc (.cells #[.map (some w.heap.size),.int .i64 (-1),.bool false] 68 (0,0))
 refine ⟨w.heap.size + 1,by simp,by omega,⟨w.heap.size,[],?_,hm,rfl,⟨by simp,List.Pairwise.nil⟩,by simp,by simp; omega,by decide,by decide⟩,?_⟩
 · have:=heap_alloc_new (w.alloc (.map #[] 0)) (.cells #[.map (some w.heap.size),.int .i64 (-1),.bool false] 68 (0,0))
   simpa [C5,Bx.new] using this
 · exact ((Below.refl _ _).alloc (Nat.le_refl _) _).alloc (by simp) _
set_option maxHeartbeats 400000 in
set_option maxRecDepth 100000 in
theorem YW {w : World} {p : Nat} {S : Bx} {F : Nat -> Prop} (h : AH w p S F) (n : Int) (hn : (Lit.int .i64 n).wf = true) :
 Calls Tryz.prog 23 #[.pointer (some ⟨p,0,none⟩),.int .i64 n] w fun e w' => e = .returned (.tuple #[]) /\ AH w' p ⟨S.files,n,S.down⟩ F /\ Ac F w w':=by
 have hb:=bounds_i64 hn
 clear hn
 obtain ⟨m,es,h⟩:=h
 have hh:=h.head
 have c1:=hh.c1
 have f1:=hh.free 1
 have H:=hid h
 have HH:=hid hh
 clear h hh
 go_enter Tryz.func23,Tryz.ntmps23
 go_wp2
 go_end0
 have ht:=(Ac.refl (fun k => k = p) w).setCell (p:=⟨p,1,none⟩) (.inl rfl) (.int .i64 n)
 exact ⟨rfl,⟨m,es,H.out.reHead (HH.out.setFuel n) ht (by omega) (by omega)⟩,ht.mono (fun i hi => by subst hi; exact .inl H.out.fp)⟩
theorem Ti {w : World} {p m : Nat} {es : List (Key × Bm)} {S : Bx} {F : Nat -> Prop} (h : AM w p m es S F) (hd : S.down = true) (s : ByteArray) :
 Calls Tryz.prog 119 #[.pointer (some ⟨p,0,none⟩),.string s] w fun e w' => e = .returned (.tuple #[.pointer none,.int .i64 30]) /\ w = w':=by
 have hc:=Pj h hd s
 clear hd
 go_enter Tryz.func119,Tryz.ntmps119
 go_wp2_with fail
 refine hc.mono ?_
 rintro e w' ⟨rfl,rfl⟩
 go_wp2
 go_ret2
 exact ⟨rfl,rfl⟩
theorem Sq {w : World} {p m : Nat} {es : List (Key × Bm)} {S : Bx} {F : Nat -> Prop} (h : AM w p m es S F) (hd : S.down = false) (s : ByteArray) (hs : s.size <= maxLen) (hf : Am s.data.toList es = none) :
 Calls Tryz.prog 119 #[.pointer (some ⟨p,0,none⟩),.string s] w fun e w' => e = .returned (.tuple #[.pointer none,.int .i64 31]) /\ w = w':=by
 have hc:=OU h hd s hs hf
 clear hd hf
 go_enter Tryz.func119,Tryz.ntmps119
 go_wp2_with fail
 refine hc.mono ?_
 rintro e w' ⟨rfl,rfl⟩
 go_wp2
 go_ret2
 exact ⟨rfl,rfl⟩
theorem Za {w : World} {p m : Nat} {es : List (Key × Bm)} {S : Bx} {F : Nat -> Prop} (h : AM w p m es S F) (hd : S.down = false) (s : ByteArray) (hs : s.size <= maxLen) {e : Bm} (hf : Am s.data.toList es = some e) (h0 : S.fuel = 0) :
 Calls Tryz.prog 119 #[.pointer (some ⟨p,0,none⟩),.string s] w fun r w' => r = .returned (.tuple #[.pointer none,.int .i64 30]) /\ AM w' p m es S.fall F /\ Ac (fun k => k = p) w w':=by
 have hc:=Lf h hd s hs hf
 have hb:=V7 h h0
 clear hd hf h0
 go_enter Tryz.func119,Tryz.ntmps119
 go_wp2_with fail
 refine hc.mono ?_
 rintro e w' ⟨rfl,rfl⟩
 go_wp2_with fail
 refine hb.mono ?_
 rintro e w1 ⟨rfl,h1,t1⟩
 go_wp2
 go_ret2
 exact ⟨rfl,h1,t1⟩
theorem Zs {w : World} {p m : Nat} {es : List (Key × Bm)} {S : Bx} {F : Nat -> Prop} (h : AM w p m es S F) (hd : S.down = false) (s : ByteArray) (hs : s.size <= maxLen) {e : Bm} (hf : Am s.data.toList es = some e) (h0 : S.fuel ≠ 0) :
 Calls Tryz.prog 119 #[.pointer (some ⟨p,0,none⟩),.string s] w fun r w' => r = .returned (.tuple #[.pointer (some ⟨e.blk,0,none⟩),.int .i64 0]) /\ AM w' p m es S.burnt F /\ Ac (fun k => k = p) w w':=by
 have hc:=Lf h hd s hs hf
 have hb:=QB h h0
 clear hd hf h0
 go_enter Tryz.func119,Tryz.ntmps119
 go_wp2_with fail
 refine hc.mono ?_
 rintro e w' ⟨rfl,rfl⟩
 go_wp2_with fail
 refine hb.mono ?_
 rintro e w1 ⟨rfl,h1,t1⟩
 go_wp2
 go_ret2
 exact ⟨rfl,h1,t1⟩
set_option maxHeartbeats 400000 in
set_option maxRecDepth 100000 in
theorem MU {w : World} {p : Nat} {S : Bx} {F : Nat -> Prop} (h : AH w p S F) (s : ByteArray) (hs : s.size <= maxLen) :
 Calls Tryz.prog 104 #[.pointer (some ⟨p,0,none⟩),.string s] w fun r w' => r = .returned (.tuple #[tx (S.read s.data.toList).1,.int .i64 (S.read s.data.toList).2]) /\ w = w':=by
 obtain ⟨m,es,h⟩:=h
 by_cases hd : S.down = true
 · rw [Bx.read_down hd]
   have hc:=Pj h hd s
   clear hd
   go_enter Tryz.func104,Tryz.ntmps104
   go_wp2_with fail
   refine hc.mono ?_
   rintro e w' ⟨rfl,rfl⟩
   go_wp2
   go_ret2
   exact ⟨rfl,rfl⟩
 · have hd' : S.down = false:=by simpa using hd
   cases hf : Am s.data.toList es with
   | none =>
     rw [Bx.read_none hd' (by rw [h.files,BP,hf]; rfl)]
     have hc:=OU h hd' s hs hf
     clear hd hd' hf
     go_enter Tryz.func104,Tryz.ntmps104
     go_wp2_with fail
     refine hc.mono ?_
     rintro e w' ⟨rfl,rfl⟩
     go_wp2
     go_ret2
     exact ⟨rfl,rfl⟩
   | some e =>
     rw [Bx.read_some hd' (f:=e.file) (by rw [h.files,BP,hf]; rfl)]
     have hc:=Lf h hd' s hs hf
     obtain ⟨hfa,hnm⟩:=h.mem.each _ (CB hf)
     have c0 : w.cell? ⟨e.blk,0,none⟩ = some e.row:=by rw [Ab hfa.head]; rfl
     have hcv:=NS hfa.row
     have HF:=hid hfa
     clear hd hd' hf hfa hnm
     go_enter Tryz.func104,Tryz.ntmps104
     go_wp2_with fail
     refine hc.mono ?_
     rintro e w' ⟨rfl,rfl⟩
     go_wp2
     go_ret2
     exact ⟨rfl,rfl⟩
end
section
open Go.RowKit Go.Maps Go.WideMaps
def AN (F : Nat -> Prop) (w w' : World) (k : Nat) : Prop:=F k \/ (w.heap.size <= k /\ k < w'.heap.size)
section
variable {F G : Nat -> Prop} {w w' : World} {p m : Nat} {es : List (Key × Bm)} {S : Bx}
theorem BG.lt {e : Bm} (h : BG w F e) : e.blk < w.heap.size:=Ad h.head
theorem BG.rowLt {e : Bm} (h : BG w F e) : ∀ k,e.row.ownBlock = some k -> k < w.heap.size:=fun k hk => (h.row.lt k hk).2
theorem BG.rowAt {e : Bm} (h : BG w F e) {k : Nat} (hk : e.row.ownBlock = some k) : ∃ cur,w.heap[k]? = some (.cells cur 5 (0,0)):=by
 rcases h.row.2 with ⟨h1,_⟩ | ⟨g,cap,cur,h1,_,h2,_⟩
 · rw [h1] at hk; simp [Value.ownBlock] at hk
 · rw [h1] at hk
   simp [Value.ownBlock] at hk
   subst hk
   exact ⟨cur,h2⟩
theorem BG.blkNotRow {e f : Bm} (h : BG w F e) (h' : BG w F f) {k : Nat} (hk : f.row.ownBlock = some k) : e.blk ≠ k:=by
 intro he
 obtain ⟨cur,hc⟩:=h'.rowAt hk
 have:=h.head
 rw [he,hc] at this
 simp at this
theorem BG.notMap {e : Bm} (h : BG w F e) (hm : IJ w m es) : e.blk ≠ m /\ ∀ k,e.row.ownBlock = some k -> k ≠ m:=by
 obtain ⟨a,b,hb,_⟩:=hm
 refine ⟨fun he => ?_,fun k hk he => ?_⟩
 · have:=h.head
   rw [he,hb] at this; cases this
 · subst he
   obtain ⟨cur,hc⟩:=h.rowAt hk
   rw [hb] at hc; cases hc
theorem AM.headNotMap (h : AM w p m es S F) : p ≠ m:=fun e => h.pm e.symm
theorem AM.upd (h : AM w p m es S F) {n : Key} {e : Bm} (hf : Am n es = some e) {e' : Bm} (hb : e'.blk = e.blk) (he : BG w' G e') (t : Ac (fun k => k = e.blk \/ e.row.ownBlock = some k) w w') (hF : ∀ k,F k -> G k)
 (hrow : ∀ k,e'.row.ownBlock = some k -> e.row.ownBlock = some k \/ w.heap.size <= k) : AM w' p m (Bf n e' es) ⟨Bf n e'.file S.files,S.fuel,S.down⟩ G:=by
 obtain ⟨hfa,hnm⟩:=h.mem.each _ (CB hf)
 have hfa : BG w F e:=hfa
 have hnh:=hfa.notHead h.head
 have hnm':=hfa.notMap h.map
 refine ⟨t.keeps h.head ?_,?_,by rw [h.files,So],⟨fun x hx => ?_,?_⟩,hF _ h.fp,hF _ h.fm,h.lo,h.hi⟩
 · rintro (e1 | e1)
   · exact hnh.1 e1.symm
   · exact hnh.2 _ e1 rfl
 · unfold IJ
   rw [Yk,So,hb,LL (by rw [BP,hf]; rfl)]
   refine t.map h.map ?_
   rintro (e1 | e1)
   · exact hnm'.1 e1.symm
   · exact hnm'.2 _ e1 rfl
 · rcases Yo (R:=KE) KE.symm hf h.mem.apart hx with rfl | ⟨hm,ha⟩
   · exact ⟨he,hnm⟩
   · obtain ⟨hx1,hx2⟩:=h.mem.each x hm
     refine ⟨⟨t.keeps hx1.head ?_,t.row hx1.row (fun k hk => ?_),hx1.dur,hF _ hx1.fblk,fun k hk => hF _ (hx1.frow k hk)⟩,hx2⟩
     · rintro (e1 | e1)
       · exact ha.1 e1.symm
       · exact hx1.blkNotRow hfa e1 rfl
     · rintro (e1 | e1)
       · exact hfa.blkNotRow hx1 hk e1.symm
       · exact ha.2 k e1 hk
 · refine PW (R:=KE) KE.symm hf h.mem.apart (fun q hq ha => ⟨by show e'.blk ≠ _; rw [hb]; exact ha.1,fun k hk hqk => ?_⟩)
   rcases hrow k hk with h1 | h1
   · exact ha.2 k h1 hqk
   · have:=(h.mem.each q hq).1.rowLt k hqk
     omega
theorem AM.ins (h : AM w p m es S F) {n : Key} (hf : Am n es = none) (hn : Cp n = true) {e : Bm} (he : BG w' G e) (hm : w'.ownsMap Tryz.prog 9 Qw m (es.length + 1) ((toD (EX Bm.blk es)).put (.string n) (.lit (.int .i64 (e.blk : Int)))))
 (t : Ac (fun k => k = m) w w') (hF : ∀ k,F k -> G k) (h1 : ∀ x ∈ es,e.blk ≠ x.2.blk) (h2 : ∀ x ∈ es,∀ k,e.row.ownBlock = some k -> x.2.row.ownBlock ≠ some k) : AM w' p m (Bh (n,e) es) ⟨Bh (n,e.file) S.files,S.fuel,S.down⟩ G:=by
 refine ⟨t.keeps h.head h.headNotMap,?_,by rw [h.files,NO],⟨fun x hx => ?_,?_⟩,hF _ h.fp,hF _ h.fm,h.lo,h.hi⟩
 · unfold IJ
   rw [Rx,NO,<- Aat (by rw [BP,hf]; rfl)]
   exact hm
 · rcases List.mem_cons.1 ((Dp (n,e) es).mem_iff.1 hx) with rfl | hx
   · exact ⟨he,hn⟩
   · obtain ⟨hx1,hx2⟩:=h.mem.each x hx
     have hnm:=hx1.notMap h.map
     exact ⟨⟨t.keeps hx1.head hnm.1,t.row hx1.row (fun k hk => hnm.2 k hk),hx1.dur,hF _ hx1.fblk,fun k hk => hF _ (hx1.frow k hk)⟩,hx2⟩
 · refine ((Dp (n,e) es).pairwise_iff (fun {a b} => KE.symm)).2 (List.pairwise_cons.2 ⟨fun q hq => ?_,h.mem.apart⟩)
   exact ⟨h1 q hq,h2 q hq⟩
theorem OL {P : Program} {k : TypeId} {R : Value -> Option (DU × List MemPlace)} {b n : Nat} {D : DU} (h : w.ownsMap P k R b n D) : w.ownsMap P k R b (Maps.size D) D:=by
 obtain ⟨es,clock,hb,F,hs,rfl⟩:=h
 refine ⟨es,clock,hb,F,?_,rfl⟩
 show _ <= List.length _
 rw [length_sorted]
 simp
theorem AM.del (h : AM w p m es S F) {n : Key} {k0 : Nat} (hm : w'.ownsMap Tryz.prog 9 Qw m k0 ((toD (EX Bm.blk es)).del (.string n))) (t : Ac (fun k => k = m) w w') : AM w' p m (Bw n es) ⟨Bw n S.files,S.fuel,S.down⟩ F:=by
 refine ⟨t.keeps h.head h.headNotMap,?_,by rw [h.files,Pn],⟨fun x hx => ?_,h.mem.apart.filter _⟩,h.fp,h.fm,h.lo,h.hi⟩
 · rw [Aay,<- Pn] at hm
   have:=OL hm
   rw [RX,Dn] at this
   exact this
 · obtain ⟨hx1,hx2⟩:=h.mem.each x (Hu hx).1
   have hnm:=hx1.notMap h.map
   exact ⟨⟨t.keeps hx1.head hnm.1,t.row hx1.row (fun k hk => hnm.2 k hk),hx1.dur,hx1.fblk,hx1.frow⟩,hx2⟩
end
theorem AM.firm {F : Nat -> Prop} {w : World} {p m : Nat} {es : List (Key × Bm)} {S : Bx} (h : AM w p m es S F) {n : Key} {e : Bm} (hf : Am n es = some e) :
 AH (w.setCell ⟨e.blk,1,none⟩ (.int .i64 (e.file.bytes.length : Int))) p ⟨Bf n (JD e.file) S.files,S.fuel,S.down⟩ F /\ Ac F w (w.setCell ⟨e.blk,1,none⟩ (.int .i64 (e.file.bytes.length : Int))):=by
 obtain ⟨hfa,hnm⟩:=h.mem.each _ (CB hf)
 have hfa : BG w F e:=hfa
 have t : Ac (fun k => k = e.blk) w (w.setCell ⟨e.blk,1,none⟩ (.int .i64 (e.file.bytes.length : Int))):=(Ac.refl (fun k => k = e.blk) w).setCell (p:=⟨e.blk,1,none⟩) (.inl rfl) _
 have he : BG (w.setCell ⟨e.blk,1,none⟩ (.int .i64 (e.file.bytes.length : Int))) F ⟨JD e.file,e.blk,e.row⟩:=
  ⟨block_set hfa.head 1 _,t.row hfa.row (fun k hk e1 => hfa.blkNotRow hfa hk e1.symm),Nat.le_refl _,hfa.fblk,hfa.frow⟩
 refine ⟨⟨m,Bf n ⟨JD e.file,e.blk,e.row⟩ es,h.upd hf rfl he (t.mono (fun i hi => .inl (.inl hi))) (fun _ h => h) (fun k hk => .inl hk)⟩,t.mono (fun i hi => by subst hi; exact .inl hfa.fblk)⟩
set_option maxHeartbeats 400000 in
set_option maxRecDepth 100000 in
theorem Ro {w : World} {p : Nat} {S : Bx} {F : Nat -> Prop} (h : AH w p S F) (s : ByteArray) (hs : s.size <= maxLen) :
 Calls Tryz.prog 98 #[.pointer (some ⟨p,0,none⟩),.string s] w fun r w' => r = .returned (.int .i64 (S.sync s.data.toList).2) /\ AH w' p (S.sync s.data.toList).1 F /\ Ac F w w':=by
 obtain ⟨m,es,h⟩:=h
 by_cases hd : S.down = true
 · rw [Bx.sync_down hd]
   have hc:=Ti h hd s
   have H:=hid h
   clear hd h
   go_enter Tryz.func98,Tryz.ntmps98
   go_wp2_with fail
   refine hc.mono ?_
   rintro e w' ⟨rfl,rfl⟩
   go_wp2
   go_ret
   exact ⟨rfl,⟨m,es,H.out⟩,Ac.refl _ _⟩
 · have hd' : S.down = false:=by simpa using hd
   cases hf : Am s.data.toList es with
   | none =>
     rw [Bx.sync_none hd' (by rw [h.files,BP,hf]; rfl)]
     have hc:=Sq h hd' s hs hf
     have H:=hid h
     clear hd hd' hf h
     go_enter Tryz.func98,Tryz.ntmps98
     go_wp2_with fail
     refine hc.mono ?_
     rintro e w' ⟨rfl,rfl⟩
     go_wp2
     go_ret
     exact ⟨rfl,⟨m,es,H.out⟩,Ac.refl _ _⟩
   | some e =>
     rw [Bx.sync_some hd' (f:=e.file) (by rw [h.files,BP,hf]; rfl)]
     by_cases h0 : S.fuel = 0
     · rw [Bx.change_no h0]
       have hc:=Za h hd' s hs hf h0
       have hfp:=h.fp
       clear hd hd' hf h h0
       go_enter Tryz.func98,Tryz.ntmps98
       go_wp2_with fail
       refine hc.mono ?_
       rintro e w' ⟨rfl,h1,t1⟩
       go_wp2
       go_ret
       exact ⟨rfl,⟨m,es,h1⟩,t1.mono (fun i hi => by subst hi; exact .inl hfp)⟩
     · rw [Bx.change_yes h0]
       have hc:=Zs h hd' s hs hf h0
       have hfp:=h.fp
       have HF:=hid hf
       have hfs : S.burnt.files = S.files:=by unfold Bx.burnt; rfl
       have HS:=hid hfs
       clear hd hd' hf h h0 hfs
       go_enter Tryz.func98,Tryz.ntmps98
       go_wp2_with fail
       refine hc.mono ?_
       rintro r w1 ⟨rfl,h1,t1⟩
       obtain ⟨hfa,_⟩:=h1.mem.each _ (CB HF.out)
       have c0 : w1.cell? ⟨e.blk,0,none⟩ = some e.row:=by rw [Ab hfa.head]; rfl
       have c1 : w1.cell? ⟨e.blk,1,none⟩ = some (.int .i64 (e.file.dur : Int)):=by rw [Ab hfa.head]; rfl
       have f1:=Ag hfa.head 1
       have HB:=hid (h1.firm HF.out)
       rw [HS.out] at HB
       have T1:=hid t1
       rcases hfa.row.2 with ⟨hr,hl⟩ | ⟨g,cap,cur,hr,_,_,hle,hcm,_⟩
       · rw [hr] at c0
         rw [hl] at HB
         clear hr hl hfa h1 t1
         go_wp2
         go_ret
         exact ⟨rfl,HB.out.1,(T1.out.mono (fun i hi => by subst hi; exact .inl hfp)).trans HB.out.2 (fun i hi => .inl hi)⟩
       · rw [hr] at c0
         clear hr hfa h1 t1
         go_wp2
         go_ret
         exact ⟨rfl,HB.out.1,(T1.out.mono (fun i hi => by subst hi; exact .inl hfp)).trans HB.out.2 (fun i hi => .inl hi)⟩
end
end Go.Proofs.YtnafjlhohbhcoaaGreatDoor
