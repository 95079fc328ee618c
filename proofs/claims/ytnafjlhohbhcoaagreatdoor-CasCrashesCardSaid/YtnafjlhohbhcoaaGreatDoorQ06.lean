/- Parts of the proof. -/
import Derived.Test.YtnafjlhohbhcoaaGreatDoorQ05
import Derived.WalkMore
import Derived.ScopeJumps
import Derived.Deep.CutBlock
import Derived.Deep.DeepCutAuto
namespace Go.Proofs.YtnafjlhohbhcoaaGreatDoor
set_option linter.unusedVariables false
section
open Go.RowKit
theorem infoStr : (Tryz.prog.info? 9).map (fun i => (i.zero,i.size,i.bytes)) = some (some (.string ⟨#[]⟩),1,16):=by kernel_rfl
def MG (w : World) (s : ByteArray) (e : Ending) (w' : World) : Prop:=
 ∃ v,e = .returned (.tuple #[v,.int .i64 ((s.size : Int) - ((Bz s.data.toList).2.length : Int))]) /\
  w'.ownsRow w.heap.size 9 1 v (Bz s.data.toList).1.length ((Bz s.data.toList).1.map tx) /\ Below w.heap.size w w'
theorem KQ {w w' : World} {s t : ByteArray} {done : List (List UInt8)} {k : Nat} {v : Value} (h : DO s done t) (hk : k = 20 \/ k = 21) (hn : BJ t.data.toList = (k,[],[]))
 (ho : w'.ownsRow w.heap.size 9 1 v done.length (done.map tx)) (hb : Below w.heap.size w w') :
 MG w s (.returned (.tuple #[v,.int .i64 ((s.size : Int) - (t.size : Int))])) w':=by
 obtain ⟨h1,h2⟩:=h.stop hk hn
 exact ⟨v,by rw [h2],by rw [h1]; exact ho,hb⟩
theorem MJ (s : ByteArray) : ∀ u ∈ [Value.string s],u.oneCell' = true:=by intro u hu; simp at hu; subst hu; rfl
def Zv (a : Act) : Nat:=match a.tmps.getD 5 undef with | .string t => t.size | _ => 0
def YD (w : World) (s : ByteArray) (a : Act) (wr : World) : Prop:=
 ∃ (t : ByteArray) (done : List (List UInt8)) (v u6 u7 u8 u9 u10 u11 u12 u13 u14 u15 u16 u17 u18 u19 u20 u21 u22 : Value),a = { tmps:=#[.string s,undef,.slice none 0 0,.int .i64 0,v,.string t,u6,u7,u8,u9,u10,u11,u12,u13,u14,u15,u16,u17,u18,u19,u20,u21,u22,undef,undef,undef,undef,undef,undef],defers:=[] } /\
  DO s done t /\ wr.ownsRow w.heap.size 9 1 v done.length (done.map tx) /\ Below w.heap.size w wr
set_option maxHeartbeats 1000000 in
set_option maxRecDepth 100000 in
theorem Yg (s : ByteArray) (hs : s.size <= 1099511627776) (w : World) :
 Calls Tryz.prog 106 #[.string s] w fun e w' => MG w s e w':=by
 obtain ⟨i0,hi,hz0,hz1,hz2⟩:=info_parts infoStr
 go_enter Tryz.func106,Tryz.ntmps106
 go_wp2
 refine wp_scope_jumps 0 (YD w s) (fun a' _ => Zv a') rfl ?_ ?_
 · go_wp2
   go_step3
   have hz : DO s [] s /\ w.ownsRow w.heap.size 9 1 (.slice none 0 0) ([] : List (List UInt8)).length (([] : List (List UInt8)).map tx) /\ Below w.heap.size w w:=⟨DO.start s,World.ownsRow_nil _ _ _ _,Below.refl _ _⟩
   obtain ⟨hr,hown,hb⟩:=hz
   have hlen:=hr.len
   have hsz:=hb.size
   go_wp2_with fail
   refine (Kv _ (by omega) _).mono ?_
   rintro e w1 ⟨he,hb1⟩
   have hown1:=Ah hown hb1
   have hb2:=A4 hb (Nat.le_refl _) hb1
   have hsz1:=hb2.size
   clear hown hb hb1 hsz
   rcases he with ⟨a,r,hn,rfl⟩ | ⟨k,hk,hn,rfl⟩
   · obtain ⟨hr2,hlt⟩:=hr.next hn
     have hlen2:=hr2.len
     rw [List.length_append,List.length_singleton] at hlen2
     clear hn
     go_wp2_with (first
      | (at_builtin; refine wpList_append_own _ rfl (.tmp 18) (.tmp 20) 52 rfl w.heap.size 9 i0 (.string ⟨#[]⟩) 1 16 Tryz.underlying52 hi hz0 hz1 hz2 rfl (by decide) _ _ _ rfl (hown1.alloc _) ⟨w1.heap.size,0,none⟩ 1 1 [.string a] rfl rfl ?c1 ?c2 ?c3 ?c4 ?c5 ?_))
     case c1 => exact Gg _ _ _
     case c2 => exact MJ a
     case c3 => unfold maxLen; omega
     case c4 => omega
     case c5 => simp; omega
     intro v' w2 hown' hgrow _
     have hown2 : w2.ownsRow w.heap.size 9 1 v' (([] : List (List UInt8)) ++ [a.data.toList]).length ((([] : List (List UInt8)) ++ [a.data.toList]).map tx):=by
      rw [List.length_append,List.map_append,List.map_singleton,MH]
      exact hown'
     have hb3:=(hb2.alloc hsz1 _).grown hgrow (by simp; omega) (fun k hk => (hown1.lt k hk).1)
     clear hown1 hown' hgrow hb2 hi
     go_wp2
     go_step3
     exact ⟨rfl,r,_,v',_,_,_,_,_,_,_,_,_,_,_,_,_,_,_,_,_,rfl,hr2,hown2,hb3⟩
   · have hk0 : ((k : Int) == 0) = false:=by simp; omega
     have hend:=Lib.hid (KQ hr hk hn hown1 hb2)
     clear hn hown1 hb2 hr
     go_wp2
     simp only [Exit.jump]
     go_ret2
     have hend2:=hend.out
     rw [show ((s.size : Int) - (s.size : Int)) = 0 by omega] at hend2
     exact hend2
 · rintro a' wr ⟨t,done,v,u6,u7,u8,u9,u10,u11,u12,u13,u14,u15,u16,u17,u18,u19,u20,u21,u22,rfl,hr,hown,hb⟩
   have hlen:=hr.len
   have hsz:=hb.size
   go_wp2_with fail
   refine (Kv _ (by omega) _).mono ?_
   rintro e w1 ⟨he,hb1⟩
   have hown1:=Ah hown hb1
   have hb2:=A4 hb (Nat.le_refl _) hb1
   have hsz1:=hb2.size
   clear hown hb hb1 hsz
   rcases he with ⟨a,r,hn,rfl⟩ | ⟨k,hk,hn,rfl⟩
   · obtain ⟨hr2,hlt⟩:=hr.next hn
     have hlen2:=hr2.len
     rw [List.length_append,List.length_singleton] at hlen2
     clear hn
     go_wp2_with (first
      | (at_builtin; refine wpList_append_own _ rfl (.tmp 18) (.tmp 20) 52 rfl w.heap.size 9 i0 (.string ⟨#[]⟩) 1 16 Tryz.underlying52 hi hz0 hz1 hz2 rfl (by decide) _ _ _ rfl (hown1.alloc _) ⟨w1.heap.size,0,none⟩ 1 1 [.string a] rfl rfl ?c1 ?c2 ?c3 ?c4 ?c5 ?_))
     case c1 => exact Gg _ _ _
     case c2 => exact MJ a
     case c3 => unfold maxLen; omega
     case c4 => omega
     case c5 => simp; omega
     intro v' w2 hown' hgrow _
     have hown2 : w2.ownsRow w.heap.size 9 1 v' (done ++ [a.data.toList]).length ((done ++ [a.data.toList]).map tx):=by
      rw [List.length_append,List.map_append,List.map_singleton,MH]
      exact hown'
     have hb3:=(hb2.alloc hsz1 _).grown hgrow (by simp; omega) (fun k hk => (hown1.lt k hk).1)
     clear hown1 hown' hgrow hb2 hi
     go_wp2
     go_step3
     exact ⟨rfl,⟨r,_,v',_,_,_,_,_,_,_,_,_,_,_,_,_,_,_,_,_,rfl,hr2,hown2,hb3⟩,hlt⟩
   · have hk0 : ((k : Int) == 0) = false:=by simp; omega
     have hend:=Lib.hid (KQ hr hk hn hown1 hb2)
     clear hn hown1 hb2 hr
     go_wp2
     simp only [Exit.jump]
     go_ret2
     exact hend.out
end
section
open Go.RowKit
end
section
open Go.RowKit
end
end Go.Proofs.YtnafjlhohbhcoaaGreatDoor
