/- Parts of the proof. -/
import Derived.Test.YtlkefgngefpkiaaGreatDoorQ54
import Derived.Test.YtlkefgngefpkiaaGreatDoorQ51
import Derived.Deep.OwnRows
namespace Go.Proofs.YtlkefgngefpkiaaGreatDoor
set_option linter.unusedVariables false
section
open Go.RowKit Go.Maps Go.WideMaps Go.Shelf Go.Sort
def OL (v : Value) : Option (DU × List MemPlace):=match v with
 | .int .i64 n => some (.lit (.int .i64 n),[])
 | _ => none
theorem YV {v : Value} {y : DU × List MemPlace} (h : OL v = some y) : ∃ c : Int,v = .int .i64 c:=by
 unfold OL at h
 split at h
 · exact ⟨_,rfl⟩
 · cases h
theorem YA {c : Int} {n : Int} {ps : List MemPlace} (h : OL (.int .i64 c) = some (.lit (.int .i64 n),ps)) : c = n:=by
 unfold OL at h
 simp only [Option.some.injEq,Prod.mk.injEq,DataW.lit.injEq,Lit.int.injEq] at h
 exact h.1.2
def Dl (s : ByteArray) : List (ByteArray × Nat) -> Option Nat
 | [] => none
 | y :: r => if y.1 = s then some y.2 else Dl s r
def Hf (w : World) (b n : Nat) (l : List (ByteArray × Nat)) : Prop:=
 (l.map (·.1)).Nodup /\ ∃ D,w.ownsMap Tryz.prog 9 OL b n D /\ Maps.size D = l.length /\ ∀ s : ByteArray,D.atKey (.string s.data.toList) (.lit (.int .i64 0)) = .lit (.int .i64 (((Dl s l).getD 0 : Nat) : Int)) /\ Maps.has D (.string s.data.toList) = (Dl s l).isSome
theorem Hf.made (w : World) : Hf (w.alloc (.map #[] 0)) w.heap.size 0 []:=⟨List.nodup_nil,_,World.ownsMap_made _ _ _ _,rfl,fun s => ⟨rfl,rfl⟩⟩
theorem Hf.turn {w w' : World} {b n : Nat} {l : List (ByteArray × Nat)} {G : Nat -> Prop} (h : Hf w b n l) (t : Ac G w w') (hg : ¬ G b) : Hf w' b n l:=by
 obtain ⟨hr,D,h1,h2⟩:=h
 exact ⟨hr,D,t.map h1 hg,h2⟩
theorem Hf.mono {w : World} {b n m : Nat} {l : List (ByteArray × Nat)} (h : Hf w b n l) (hk : n <= m) : Hf w b m l:=by
 obtain ⟨hr,D,h1,h2⟩:=h
 exact ⟨hr,D,World.ownsMap.mono h1 hk,h2⟩
theorem Hf.len {w : World} {b n : Nat} {l : List (ByteArray × Nat)} (h : Hf w b n l) (ty : TypeId) : (Builtin.len_ #[70] ty #[.map (some b)]).run Tryz.prog w = .ok (.int .i64 (l.length : Nat)) w:=by
 obtain ⟨hr,D,h1,h2,h3⟩:=h
 rw [<- h2]
 exact World.ownsMap.len h1 Tryz.underlying70 ty
def Nq (s : ByteArray) (v : Nat) (l : List (ByteArray × Nat)) : List (ByteArray × Nat):=
 if l.any (fun y => decide (y.1 = s)) then l.map (fun y => if y.1 = s then (s,v) else y) else l ++ [(s,v)]
theorem H9 {s : ByteArray} : ∀ {l : List (ByteArray × Nat)},(Dl s l).isSome = l.any (fun y => decide (y.1 = s))
 | [] => rfl
 | y :: r => by
   rw [Dl,List.any_cons]
   by_cases e : y.1 = s
   · rw [if_pos e]; simp [e]
   · rw [if_neg e,H9 (l:=r)]; simp [e]
theorem KA {s : ByteArray} {v : Nat} {k : ByteArray} : ∀ {l : List (ByteArray × Nat)},(l.any (fun y => decide (y.1 = s))) = false -> Dl k (l ++ [(s,v)]) = if k = s then some v else Dl k l
 | [],_ => by
   show (if s = k then some v else none) = if k = s then some v else none
   by_cases e : k = s
   · rw [if_pos e.symm,if_pos e]
   · rw [if_neg (fun c => e c.symm),if_neg e]
 | y :: r,h => by
   rw [List.any_cons,Bool.or_eq_false_iff] at h
   have hy : y.1 ≠ s:=of_decide_eq_false h.1
   rw [List.cons_append,Dl,Dl,KA (l:=r) h.2]
   by_cases e : y.1 = k
   · rw [if_pos e,if_pos e,if_neg (fun c => hy (e.trans c))]
   · rw [if_neg e,if_neg e]
theorem PF {s : ByteArray} {v : Nat} {k : ByteArray} : ∀ {l : List (ByteArray × Nat)},Dl k (l.map (fun y => if y.1 = s then (s,v) else y)) = if k = s then (if (Dl k l).isSome then some v else none) else Dl k l
 | [] => by
   show none = if k = s then _ else _
   split <;> rfl
 | y :: r => by
   have ih:=PF (s:=s) (v:=v) (k:=k) (l:=r)
   rw [List.map_cons]
   by_cases e : y.1 = s
   · rw [if_pos e,Dl,Dl,ih]
     show (if s = k then some v else _) = _
     by_cases e2 : k = s
     · rw [if_pos e2.symm,if_pos e2,if_pos (e.trans e2.symm)]; rfl
     · rw [if_neg (fun c => e2 c.symm),if_neg e2,if_neg e2,if_neg (fun c => e2 (c.symm.trans e))]
   · rw [if_neg e,Dl,Dl,ih]
     by_cases e2 : y.1 = k
     · rw [if_pos e2,if_pos e2,if_neg (fun c => e (e2.trans c))]
     · rw [if_neg e2,if_neg e2]
theorem XZ {s : ByteArray} {v : Nat} {k : ByteArray} {l : List (ByteArray × Nat)} : Dl k (Nq s v l) = if k = s then some v else Dl k l:=by
 unfold Nq
 cases h : l.any (fun y => decide (y.1 = s)) with
 | false => rw [if_neg (by simp)]; exact KA h
 | true =>
   rw [if_pos rfl,PF]
   by_cases e : k = s
   · rw [if_pos e,if_pos e,e,H9,h]; rfl
   · rw [if_neg e,if_neg e]
theorem Aak {s : ByteArray} {v : Nat} {l : List (ByteArray × Nat)} : (Nq s v l).length = if (Dl s l).isSome then l.length else l.length + 1:=by
 unfold Nq
 rw [H9]
 split
 · rw [List.length_map]
 · rw [List.length_append]; rfl
theorem Vt {s : ByteArray} {v : Nat} {l : List (ByteArray × Nat)} (h : (l.map (·.1)).Nodup) : ((Nq s v l).map (·.1)).Nodup:=by
 unfold Nq
 cases ha : l.any (fun y => decide (y.1 = s)) with
 | true =>
   rw [if_pos rfl,List.map_map]
   have : ((fun y : ByteArray × Nat => y.1) ∘ fun y => if y.1 = s then (s,v) else y) = fun y => y.1:=by
    funext y
    show (if y.1 = s then (s,v) else y).1 = y.1
    split
    · rename_i e; exact e.symm
    · rfl
   rw [this]
   exact h
 | false =>
   rw [if_neg (by simp),List.map_append]
   refine List.nodup_append.2 ⟨h,by simp,fun a ha2 b hb => ?_⟩
   obtain ⟨y,hy,rfl⟩:=List.mem_map.1 ha2
   simp only [List.map_cons,List.map_nil,List.mem_singleton] at hb
   subst hb
   have:=List.any_eq_false.1 ha y hy
   simpa using this
theorem Hf.put {w : World} {b n : Nat} {l : List (ByteArray × Nat)} (h : Hf w b n l) (s : ByteArray) (v : Nat) (hs : s.size <= maxLen) (hk : n < maxLen) :
 ∃ w',(Instr.mapUpdate 70 (.map (some b)) (.string s) (.int .i64 (v : Int))).run Tryz.prog w = .ok () w' /\ Hf w' b (n + 1) (Nq s v l) /\ w.grownBy w' (some b):=by
 obtain ⟨hr,D,h1,h2,h3⟩:=h
 have hK:=string_keyed Tryz.underlying9
 obtain ⟨w',hrun,ho,hg⟩:=World.ownsMap.update h1 hK Tryz.underlying70 hk (keyOf_string_mk Tryz.underlying9 hs) (val:=.int .i64 (v : Int)) (d:=.lit (.int .i64 (v : Int))) (ps:=[]) rfl
 refine ⟨w',hrun,⟨Vt hr,_,ho,?_,fun k => ?_⟩,hg⟩
 · rw [size_put (World.ownsMap.tidy h1 hK),Aak,h2,(h3 s).2]
 · rw [XZ]
   by_cases hx : k = s
   · subst hx
     rw [if_pos rfl,atKey_put_same (World.ownsMap.isMap h1) (MF _),has_put_same (World.ownsMap.isMap h1) (MF _)]
     exact ⟨rfl,rfl⟩
   · rw [if_neg hx,atKey_put_other (Lk hx),has_put_other (Lk hx)]
     exact h3 k
def Ev (left : Lit -> Bool) (l : List (ByteArray × Nat)) : Nat:=((l.filter fun y => left (.string y.1.data.toList)).map (·.2)).sum
theorem UW {left : Lit -> Bool} {l : List (ByteArray × Nat)} (h : ∀ y ∈ l,left (.string y.1.data.toList) = true) : Ev left l = F5 l:=by
 unfold Ev F5
 rw [List.filter_eq_self.2 h]
theorem RT {left : Lit -> Bool} {l : List (ByteArray × Nat)} (h : ∀ k,left k = false) : Ev left l = 0:=by
 unfold Ev
 rw [List.filter_eq_nil_iff.2 (fun y _ => by rw [h]; simp)]
 rfl
theorem XY {y : ByteArray × Nat} : ∀ {l : List (ByteArray × Nat)},y ∈ l -> (Dl y.1 l).isSome = true:=fun {l} h => by
 rw [H9,List.any_eq_true]
 exact ⟨y,h,by simp⟩
theorem M4 {left : Lit -> Bool} {s : ByteArray} {v : Nat} : ∀ {l : List (ByteArray × Nat)},(l.map (·.1)).Nodup -> Dl s l = some v -> left (.string s.data.toList) = true -> Ev left l = v + Ev (fun z => left z && !z.sameKey (.string s.data.toList)) l
 | [],_,h,_ => by cases h
 | y :: r,hn,h,hl => by
   rw [List.map_cons,List.nodup_cons] at hn
   have e0 : ∀ lf : Lit -> Bool,Ev lf (y :: r) = (if lf (.string y.1.data.toList) then y.2 else 0) + Ev lf r:=fun lf => by
    unfold Ev
    rw [List.filter_cons]
    split
    · rw [List.map_cons,List.sum_cons]
    · omega
   rw [e0,e0]
   rw [Dl] at h
   by_cases e : y.1 = s
   · rw [if_pos e] at h
     injection h with h
     subst h
     subst e
     have hr : ∀ z ∈ r,(left (.string z.1.data.toList) && !(Lit.string z.1.data.toList).sameKey (.string y.1.data.toList)) = left (.string z.1.data.toList):=fun z hz => by
      have hne : z.1 ≠ y.1:=fun c => hn.1 (c ▸ List.mem_map.2 ⟨z,hz,rfl⟩)
      have : (Lit.string z.1.data.toList).sameKey (.string y.1.data.toList) = false:=by
       have:=Lk hne
       simp only [Lit.sameKey]
       simpa using this
      rw [this]; simp
     have e1 : Ev (fun z => left z && !z.sameKey (.string y.1.data.toList)) r = Ev left r:=by
      unfold Ev
      rw [List.filter_congr hr]
     rw [e1,hl]
     have : (Lit.string y.1.data.toList).sameKey (.string y.1.data.toList) = true:=by simp [Lit.sameKey]
     rw [this]
     simp
   · rw [if_neg e] at h
     have ih:=M4 hn.2 h hl
     rw [ih]
     have : (Lit.string y.1.data.toList).sameKey (.string s.data.toList) = false:=by
      have:=Lk e
      simp only [Lit.sameKey]
      simpa using this
     simp only [this,Bool.not_false,Bool.and_true]
     omega
theorem Zy (mem : List (ByteArray × Nat)) (x : Aa) : KZ mem [x] = Nq x.key (x.key.size + x.val.size) mem:=rfl
end
section
open Go.RowKit Go.Maps Go.WideMaps Go.Shelf Go.Sort
theorem AaO (z : Int) : ∃ N : Nat,N < 3000 /\ (wrap64 (z.tmod 3000 + 3000)).tmod 3000 = (N : Int):=by
 have h1 : -3000 < z.tmod 3000 /\ z.tmod 3000 < 3000:=by
  have h3:=Int.tmod_lt_of_pos z (show (0 : Int) < 3000 by decide)
  have h2:=Int.lt_tmod_of_pos z (show (0 : Int) < 3000 by decide)
  exact ⟨h2,h3⟩
 have h2 : wrap64 (z.tmod 3000 + 3000) = z.tmod 3000 + 3000:=by
  unfold wrap64
  omega
 rw [h2]
 have h3 : 0 <= (z.tmod 3000 + 3000).tmod 3000:=Int.tmod_nonneg 3000 (by omega)
 have h4:=Int.tmod_lt_of_pos (z.tmod 3000 + 3000) (show (0 : Int) < 3000 by decide)
 exact ⟨((z.tmod 3000 + 3000).tmod 3000).toNat,by omega,by omega⟩
theorem AbB (i : Nat) : ∃ bb : UInt8,((i : Int) % 50) = ((bb.toNat : Nat) : Int):=by
 refine ⟨UInt8.ofNat (i % 50),?_⟩
 rw [UInt8.toNat_ofNat']
 omega
theorem YW {k : ByteArray} {v : Nat} : ∀ {l : List (ByteArray × Nat)},(l.map (·.1)).Nodup -> F5 (Nq k v l) <= F5 l + v:=by
 have hmap : ∀ {l : List (ByteArray × Nat)},(∀ y ∈ l,y.1 ≠ k) -> l.map (fun y => if y.1 = k then (k,v) else y) = l:=fun {l} h => by
  conv => rhs; rw [<- List.map_id l]
  exact List.map_congr_left fun y hy => if_neg (h y hy)
 have hone : ∀ {l : List (ByteArray × Nat)},(l.map (·.1)).Nodup -> F5 (l.map (fun y => if y.1 = k then (k,v) else y)) <= F5 l + v:=by
  intro l
  induction l with
  | nil => intro _; simp [F5]
  | cons y r ih =>
    intro hn
    rw [List.map_cons,List.nodup_cons] at hn
    rw [List.map_cons]
    unfold F5 at *
    rw [List.map_cons,List.map_cons,List.sum_cons,List.sum_cons]
    by_cases e : y.1 = k
    · rw [if_pos e,hmap (l:=r) (fun z hz c => hn.1 (by rw [e,<- c]; exact List.mem_map.2 ⟨z,hz,rfl⟩))]
      simp only
      omega
    · rw [if_neg e]
      have:=ih hn.2
      omega
 intro l hn
 unfold Nq
 split
 · exact hone hn
 · unfold F5
   rw [List.map_append,List.sum_append]
   simp
theorem U4 {k v : ByteArray} (h : k.size = 2) (hv : v.size < 3000) : A4 [⟨k,v,false⟩] = 0:=by
 have h0 : Av ⟨k,v,false⟩ = 0:=(BV _).2 ⟨by show 1 <= k.size; omega,by show k.size <= 64; omega,by show v.size <= 8192; omega,fun h => by cases h⟩
 unfold A4
 simp [h0]
section
variable {E : Nat -> World -> Prop} {St : World -> Nat -> Nat -> Dd -> (Nat -> Prop) -> Prop} {Op : Bx -> List Aa -> Nat -> Prop} (K : Kf E St Op)
include K
set_option maxHeartbeats 16000000 in
set_option maxRecDepth 100000 in
theorem Qi {w : World} (hE : E w.heap.size w) (v0 : Value) (ks : List Int) (hI : Cm (fun k => w.heap.size <= k) w v0 ks) :
 Calls Tryz.prog 9 #[v0] w fun e w' => e = .returned (.bool true) /\ Below w.heap.size w w':=by
 obtain ⟨⟨a0,c0,rfl,hcell⟩,hkl,hkw⟩:=hI
 have haw:=Es K hE
 have hmm:=@run_makeMap Tryz.prog
 have HC:=Lib.hid hcell
 have HW:=Lib.hid hkw
 clear hcell hkw
 go_enter Tryz.func9,Tryz.ntmps9
 go_wp2_with fail
 refine haw.mono ?_
 rintro e w1 ⟨rfl,B1⟩
 have E1:=K.e_turn hE (Ac.of_below (fun _ => False) B1) (fun _ h => h.elim)
 clear haw hE
 by_cases hbig : 100 < ks.length
 · have hbg : (100 : Int) < ks.length:=by omega
   go_wp2
   go_ret
   exact ⟨rfl,B1⟩
 go_wp2_with fail
 refine (Ge w1).mono ?_
 rintro e w2 ⟨p,rfl,hp,hbx,b2⟩
 have hs1:=B1.size
 have hop:=Gf K (B:=w.heap.size) (w0:=w) (X:=fun _ => False) (K.e_below E1 b2) (B1.trans (b2.mono hs1)) (hbx.mono fun k hk => ⟨by omega,fun h => h⟩) (fun k hk => hk.elim) rfl (by decide) (K.empty (S:=Bx.new) (fun x hx => by cases hx) rfl (by decide) List.Pairwise.nil) (by decide)
 clear hbx E1 b2 B1 hs1 hp
 go_wp2_with fail
 refine hop.mono ?_
 rintro e w3 ⟨d,s0,rfl,u3,-,em,en,-,emp⟩
 have h0:=(emp rfl).1
 have b4 : Below w3.heap.size w3 (w3.alloc (.map #[] 0)):=(Below.refl _ w3).alloc (Nat.le_refl _) _
 have HU0 : Hid (∃ X mb s,Value.map (some w3.heap.size) = .map (some mb) /\ Ups E St w.heap.size w X (w3.alloc (.map #[] 0)) d p s /\ (X mb /\ w.heap.size <= mb) /\ Hf (w3.alloc (.map #[] 0)) mb 0 s.mem /\ s.n <= 0 + 1 /\ F5 s.mem <= 4096):=⟨_,_,s0,rfl,u3.laid K b4,⟨.inr ⟨Nat.le_refl _,by simp⟩,u3.bel.size⟩,by rw [h0]; exact Hf.made w3,by omega,by rw [h0]; exact Nat.zero_le _⟩
 clear hop u3 em en emp h0 b4
 go_wp2
 go_loopw [5,29] (fun mv iv wr => ∃ i : Nat,i <= ks.length /\ iv = .int .i64 (i : Int) /\ Hid (∃ X mb s,mv = .map (some mb) /\ Ups E St w.heap.size w X wr d p s /\ (X mb /\ w.heap.size <= mb) /\ Hf wr mb i s.mem /\ s.n <= i + 1 /\ F5 s.mem <= 4096)) (fun _ iv _ => ks.length - (intOf iv).toNat)
 case atStart => exact ⟨0,Nat.zero_le _,rfl,HU0.out⟩
 case round =>
  clear HU0 hmm
  obtain ⟨i,hil,rfl,HI⟩:=hrel
  obtain ⟨X,mb,s,rfl,hu,hx,hm,hn,hsm⟩:=HI.out
  by_cases hlt : i < ks.length
  · have hmes : ks.length - (intOf (.int .i64 ((i : Int) + 1))).toNat < ks.length - (intOf (.int .i64 (i : Int))).toNat:=by simp [intOf]; omega
    rcases HC.out with h0 | ⟨gb,go,rfl,hgb,-,hcs⟩
    · omega
    have q0:=(hu.bel.cell (p:=⟨gb,_,none⟩) hgb).trans (hcs i hlt)
    have hz : ks.getD i 0 ∈ ks:=by
     have : ks.getD i 0 = ks[i]:=by simp [List.getD,hlt]
     rw [this]; exact List.getElem_mem hlt
    obtain ⟨hz1,hz2⟩:=HW.out _ hz
    generalize ks.getD i 0 = z at *
    obtain ⟨N,hN,hNz⟩:=AaO z
    obtain ⟨bb,hbb⟩:=AbB i
    have hcv : (convert 62 9 (.slice (some ⟨wr.heap.size,0,none⟩) 1 1)).run Tryz.prog (wr.alloc (.cells #[.int .u8 ((bb.toNat : Nat) : Int)] 5)) = .ok (.string ⟨#[bb]⟩) (wr.alloc (.cells #[.int .u8 ((bb.toNat : Nat) : Int)] 5)):=
     run_convert_bytes_back (P:=Tryz.prog) (wr.alloc (.cells #[.int .u8 ((bb.toNat : Nat) : Int)] 5)) 62 9 5 ⟨wr.heap.size,0,none⟩ 1 [bb] Tryz.underlying62 Tryz.underlying5 Tryz.underlying9 (fun j hj => by
      have h1:=Fx wr (.int .u8 ((bb.toNat : Nat) : Int)) 5 j (.int .u8 ((bb.toNat : Nat) : Int)) (by match j,hj with | 0,_ => rfl)
      match j,hj with
      | 0,_ => exact h1)
    go_upto_region 14 with (fail)
    generalize hKEY : (⟨#[107]⟩ : ByteArray) ++ ⟨#[bb]⟩ = KEY at *
    have hKs : KEY.size = 2:=by rw [<- hKEY,ByteArray.size_append]; rfl
    have hb4 : Below wr.heap.size wr (wr.alloc (.cells #[.int .u8 ((bb.toNat : Nat) : Int)] 5)):=(Below.refl _ wr).alloc (Nat.le_refl _) _
    generalize wr.alloc (.cells #[.int .u8 ((bb.toNat : Nat) : Int)] 5) = w4 at *
    have hu4:=hu.below K hb4
    have hm4:=hm.turn (Ac.of_below (fun _ => False) hb4) (fun h => h)
    have hmk:=run_make_row' (P:=Tryz.prog) 62 5 (.int .u8 0) 1 Tryz.underlying62 (by kernel_rfl) rfl .i64 .i64 N (by omega) (by omega) w4
    have hb5 : Below w4.heap.size w4 (w4.alloc (.cells (madeCells #[.int .u8 0] N) 5)):=(Below.refl _ w4).alloc (Nat.le_refl _) _
    have hcv5 : (convert 62 9 (.slice (some ⟨w4.heap.size,0,none⟩) N N)).run Tryz.prog (w4.alloc (.cells (madeCells #[.int .u8 0] N) 5)) = .ok (.string ⟨(List.replicate N (0 : UInt8)).toArray⟩) (w4.alloc (.cells (madeCells #[.int .u8 0] N) 5)):=by
     have h1:=run_convert_bytes_back (P:=Tryz.prog) (w4.alloc (.cells (madeCells #[.int .u8 0] N) 5)) 62 9 5 ⟨w4.heap.size,0,none⟩ N (List.replicate N (0 : UInt8)) Tryz.underlying62 Tryz.underlying5 Tryz.underlying9 (fun j hj => by
      rw [List.length_replicate] at hj
      rw [Addr.add_lit,Ab (heap_alloc_new w4 _)]
      simp [madeCells,hj,Nat.mod_one])
     rwa [List.length_replicate] at h1
    have hZs : (⟨(List.replicate N (0 : UInt8)).toArray⟩ : ByteArray).size = N:=by show ((List.replicate N (0 : UInt8)).toArray).size = N; simp
    generalize (⟨(List.replicate N (0 : UInt8)).toArray⟩ : ByteArray) = ZB at *
    clear hcv hKEY hb4 hu
    have hb6 : Below w4.heap.size w4 ((w4.alloc (.cells (madeCells #[.int .u8 0] N) 5)).alloc (.cells #[.string KEY,.string ZB,.bool false] 61)):=hb5.alloc hb5.size _
    have hs5 : (w4.alloc (.cells (madeCells #[.int .u8 0] N) 5)).heap.size = w4.heap.size + 1:=by simp
    have hr6 : Ao ((w4.alloc (.cells (madeCells #[.int .u8 0] N) 5)).alloc (.cells #[.string KEY,.string ZB,.bool false] 61)) (.slice (some ⟨w4.heap.size + 1,0,none⟩) 1 1) [⟨KEY,ZB,false⟩]:=by
     have h1:=heap_alloc_new (w4.alloc (.cells (madeCells #[.int .u8 0] N) 5)) (.cells #[.string KEY,.string ZB,.bool false] 61)
     rw [hs5] at h1
     exact P4 w4 ⟨KEY,ZB,false⟩ h1
    have hu6:=hu4.laid K hb6
    have hm6:=hm4.turn (Ac.of_below (fun _ => False) hb6) (fun h => h)
    have hw6:=Hi K hu6 (l:=[⟨KEY,ZB,false⟩]) hr6 (fun g o e _ => by injection e with e; injection e with e1; subst e1; exact .inl (.inr ⟨by omega,by simp⟩)) (by unfold limN; omega)
    have hck : A4 [⟨KEY,ZB,false⟩] = 0:=U4 (by omega) (by omega)
    have HM6:=Lib.hid hm6
    have HW6:=Lib.hid hw6
    have HX6:=Lib.hid hx
    clear hu4 hm4 hb5 hs5 hr6 hu6 hm6 hw6 hb6
    go_wp2_with fail
    refine HW6.out.mono ?_
    rintro e w7 ⟨e0,t7,s7,u7,m7,n7,-,e7⟩
    rw [hck] at e0
    subst e0
    rw [if_pos hck,Zy] at e7
    simp only [hKs,hZs] at e7
    have hm7:=HM6.out.turn t7 (fun h => h.2 (.inl HX6.out.1))
    obtain ⟨w8,hrun,hm8,hg8⟩:=hm7.put KEY (2 + N) (by unfold maxLen; omega) (by unfold maxLen; omega)
    have hu8:=u7.grown K hg8 (fun k hk => by injection hk with hk; subst hk; exact ⟨.inl HX6.out.1,HX6.out.2⟩)
    rw [show (((2 + N : Nat) : Int)) = (2 : Int) + (N : Int) by omega] at hrun
    have hsz2 : (KEY.size : Int) = 2:=by omega
    have HU8:=Lib.hid hu8
    have HN7:=Lib.hid n7
    have HE7:=Lib.hid e7
    obtain ⟨hnd,D,h1,h2,h3⟩:=hm8
    have hsp:=YW (k:=KEY) (v:=2 + N) hm.1
    generalize hL : Nq KEY (2 + N) s.mem = L at *
    have H23 : Hid (Maps.size D = L.length /\ (∀ s : ByteArray,D.atKey (.string s.data.toList) (.lit (.int .i64 0)) = .lit (.int .i64 (((Dl s L).getD 0 : Nat) : Int)) /\ Maps.has D (.string s.data.toList) = (Dl s L).isSome) /\ (L.map (·.1)).Nodup):=⟨h2,h3,hnd⟩
    clear t7 u7 m7 n7 e7 hm hm7 hg8 hu8 HW6 HM6 h2 h3 hnd hL HI
    go_wp2_with (first | (at_range; refine wpList_range_own _ rfl _ 70 rfl 9 3 (string_keyed Tryz.underlying9) Tryz.underlying70 OL mb (i + 1) D rfl h1 ?_; intro w9 hrg9 hg9 hs9))
    have HS0 : Hid (∃ X left cnt,∃ acc : Nat,Value.int .i64 0 = .int .i64 (acc : Int) /\ Ups E St w.heap.size w X w9 d p s7 /\ (X mb /\ X w8.heap.size /\ w.heap.size <= w8.heap.size /\ w.heap.size <= mb) /\ w9.ranges Tryz.prog 9 OL mb w8.heap.size (i + 1) D left cnt /\ acc + Ev left L = F5 L /\ ∀ kl,left kl = true -> Maps.has D kl = true):=by
     have hu9:=HU8.out.laid K ((Below.refl _ _).grown hg9 (Nat.le_refl _) (fun k hk => by cases hk))
     refine ⟨_,_,_,0,rfl,hu9,⟨.inl (.inl (.inl HX6.out.1)),.inr ⟨Nat.le_refl _,by omega⟩,HU8.out.bel.size,HX6.out.2⟩,hrg9,?_,fun kl h => h⟩
     rw [UW (fun y hy => by rw [(H23.out.2.1 y.1).2]; exact XY hy),Nat.zero_add]
    clear h1 hrg9 hg9 hs9 HU8 HX6
    go_frame
    generalize w8.heap.size = rb at *
    go_loopw [9] (fun av wr => Hid (∃ X left cnt,∃ acc : Nat,av = .int .i64 (acc : Int) /\ Ups E St w.heap.size w X wr d p s7 /\ (X mb /\ X rb /\ w.heap.size <= rb /\ w.heap.size <= mb) /\ wr.ranges Tryz.prog 9 OL mb rb (i + 1) D left cnt /\ acc + Ev left L = F5 L /\ ∀ kl,left kl = true -> Maps.has D kl = true)) (fun _ wr => wr.rangeLeft mb rb)
    case atStart => exact HS0
    case round =>
     obtain ⟨X,left,cnt,acc,rfl,hu,hx,hrg,hac,hle⟩:=hrel.out
     clear hrel HS0
     go_wp2_with (first | (at_next; refine wpList_next_ranges _ rfl _ rfl 9 (string_keyed Tryz.underlying9) OL encStr (fun c : Int => .int .i64 c) (fun key kl hk => by obtain ⟨x,hx,_⟩:=Maps.keyOf_str Tryz.underlying9 hk; exact ⟨x,hx⟩) (fun v y hv => YV hv) mb rb (i + 1) D left cnt rfl hrg ?nx1 ?nx2))
     case nx1 =>
      intro hc0 hl0
      rw [RT hl0,Nat.add_zero] at hac
      subst hac
      have hown:=hrg.owns
      have hnm : Hf wr mb (i + 1) L:=⟨H23.out.2.2,D,hown,H23.out.1,H23.out.2.1⟩
      have H7:=Lib.hid (And.intro hu (And.intro hx hnm))
      clear hu hx hnm hown hrg hle hl0 hc0
      by_cases hbig2 : 4096 <= F5 L
      · have he7:=HE7.out
        rw [if_pos hbig2] at he7
        have hge : (4096 : Int) <= (F5 L : Int):=by omega
        have hb8 : Below wr.heap.size wr (wr.alloc (.map #[] 0)):=(Below.refl _ wr).alloc (Nat.le_refl _) _
        have hu8:=H7.out.1.laid K hb8
        have hnm8:=Hf.made wr
        have hln:=fun w' (t : Ac (Ox w.heap.size (fun k => X k \/ (wr.heap.size <= k /\ k < (wr.alloc (.map #[] 0)).heap.size))) (wr.alloc (.map #[] 0)) w') => (hnm8.turn t (fun h => h.2 (.inr ⟨Nat.le_refl _,by simp⟩))).len 3
        have hsh:=KQ K hu8
        have htb:=(K.good hu8.st).2.2.2.1
        have H8:=Lib.hid (And.intro hnm8 H7.out.1.bel.size)
        have hmm:=@run_makeMap Tryz.prog
        have HSH:=Lib.hid hsh
        have HLN:=Lib.hid hln
        rw [he7] at HSH
        clear hb8 hu8 hnm8 hln hsh H7
        go_wp2_with fail
        refine HSH.out.mono ?_
        rintro e wB ⟨rfl,tB,uB⟩
        have hl:=HLN.out wB tB
        have HG : Hid (∃ X mb s,Value.map (some wr.heap.size) = .map (some mb) /\ Ups E St w.heap.size w X wB d p s /\ (X mb /\ w.heap.size <= mb) /\ Hf wB mb (i + 1) s.mem /\ s.n <= (i + 1) + 1 /\ F5 s.mem <= 4096):=
         ⟨_,_,_,rfl,uB,⟨.inr ⟨Nat.le_refl _,by simp⟩,H8.out.2⟩,by rw [he7]; exact (H8.out.1.turn tB (fun h => h.2 (.inr ⟨Nat.le_refl _,by simp⟩))).mono (Nat.zero_le _),by have:=HN7.out; omega,by rw [he7]; exact Nat.zero_le _⟩
        clear tB uB H8 HLN HSH
        go_wp2
        go_roundw
        case rel => exact ⟨i + 1,by omega,by go_num,HG⟩
        case measure => exact hmes
      · have he7:=HE7.out
        rw [if_neg hbig2] at he7
        have hge : ¬ (4096 : Int) <= (F5 L : Int):=by omega
        have hln:=fun w' (t : Ac (Ox w.heap.size X) wr w') => (H7.out.2.2.turn t (fun h => h.2 H7.out.2.1.1)).len 3
        have hsh:=KQ K H7.out.1
        have htb:=(K.good H7.out.1.st).2.2.2.1
        have HSH:=Lib.hid hsh
        have HLN:=Lib.hid hln
        rw [he7] at HSH
        clear hln hsh
        go_wp2_with fail
        refine HSH.out.mono ?_
        rintro e wB ⟨rfl,tB,uB⟩
        have hl:=HLN.out wB tB
        have HG : Hid (∃ X mb2 s,Value.map (some mb) = .map (some mb2) /\ Ups E St w.heap.size w X wB d p s /\ (X mb2 /\ w.heap.size <= mb2) /\ Hf wB mb2 (i + 1) s.mem /\ s.n <= (i + 1) + 1 /\ F5 s.mem <= 4096):=
         ⟨_,mb,_,rfl,uB,⟨H7.out.2.1.1,H7.out.2.1.2.2.2⟩,by rw [he7]; exact H7.out.2.2.turn tB (fun h => h.2 H7.out.2.1.1),by have:=HN7.out; omega,by rw [he7]; omega⟩
        clear tB uB HLN HSH H7
        go_wp2
        go_roundw
        case rel => exact ⟨i + 1,by omega,by go_num,HG⟩
        case measure => exact hmes
     case nx2 =>
      intro x c kl yd yp wA cntA hkey hlk hv hat hrgA hltA hgA hsA hen
      obtain ⟨x',ex,rfl,hxz⟩:=Maps.keyOf_str Tryz.underlying9 hkey
      obtain rfl : x = x':=encStr_inj ex
      obtain ⟨XS,hXS⟩ : ∃ XS : ByteArray,(⟨x.toArray⟩ : ByteArray) = XS:=⟨_,rfl⟩
      have hXd : XS.data.toList = x:=by rw [<- hXS]
      subst hXd
      have h3:=H23.out.2.1 XS
      have hsome : (Dl XS L).isSome = true:=by
       by_cases hn : (Dl XS L).isSome = true
       · exact hn
       · exfalso
         have:=hle _ hlk
         rw [h3.2] at this
         exact hn this
      obtain ⟨z,hz⟩:=Option.isSome_iff_exists.1 hsome
      rw [hz] at h3
      have hyd:=(hat (.lit (.int .i64 0))).symm.trans h3.1
      simp only [Option.getD_some] at hyd
      subst hyd
      have hcz:=YA hv
      subst hcz
      have hst:=M4 H23.out.2.2 hz hlk
      have hen' : (Instr.entry (.pointer (some ⟨rb,0,none⟩))).run Tryz.prog wA = .ok (.tuple #[.string XS,.int .i64 (z : Int)]) wA:=by
       rw [hen,<- hXS]
      have huA:=hu.grown K hgA (fun k hk => by injection hk with hk; subst hk; exact ⟨hx.2.1,hx.2.2.1⟩)
      have HG : Hid (∃ X left cnt,∃ ac2 : Nat,Value.int .i64 ((acc : Int) + (z : Int)) = .int .i64 (ac2 : Int) /\ Ups E St w.heap.size w X wA d p s7 /\ (X mb /\ X rb /\ w.heap.size <= rb /\ w.heap.size <= mb) /\ wA.ranges Tryz.prog 9 OL mb rb (i + 1) D left cnt /\ ac2 + Ev left L = F5 L /\ ∀ kl,left kl = true -> Maps.has D kl = true):=
       ⟨_,_,_,acc + z,by simp,huA,⟨.inl hx.1,.inl hx.2.1,hx.2.2⟩,hrgA,by omega,fun kl h => hle kl (by revert h; cases left kl <;> simp)⟩
      have HM : Hid (wA.rangeLeft mb rb < wr.rangeLeft mb rb):=by
       show _ < _
       rw [hrgA.left_eq,hrg.left_eq]
       exact hltA
      have hbd : acc + z <= 20000:=by omega
      clear hu hrg hx hkey hlk hv hat hrgA hgA hsA hen ex h3 hsome hz hltA huA hxz hst hXS hac hle
      go_wp2
      go_roundw
      case rel => exact HG
      case measure => exact HM.out
  · have HB:=Lib.hid hu.bel
    clear HI hu hx hm hn
    go_wp2
    go_ret
    exact ⟨rfl,HB.out⟩
end
end
end Go.Proofs.YtlkefgngefpkiaaGreatDoor
