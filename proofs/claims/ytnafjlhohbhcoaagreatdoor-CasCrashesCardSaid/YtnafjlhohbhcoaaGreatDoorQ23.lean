/- Parts of the proof. -/
import Derived.Test.YtnafjlhohbhcoaaGreatDoorQ19
import Derived.Test.YtnafjlhohbhcoaaGreatDoorQ22
namespace Go.Proofs.YtnafjlhohbhcoaaGreatDoor
open Go.Lib (hid)
set_option linter.unusedVariables false
section
open Go.RowKit
theorem Ab2 (s : ByteArray) : s.data.toList.length = s.size:=by simp
theorem Zl {M : Nat} (h : M <= 8192) : (Lit.int .i64 (M : Int)).wf = true:=by
 unfold Lit.wf
 simp [IntKind.min,IntKind.max,IntKind.signed,IntKind.bits]
 omega
theorem ZO (s : ByteArray) : ∀ u ∈ [Value.string s],u.oneCell' = true:=by intro u hu; simp at hu; subst hu; rfl
theorem Wr (W : World) (s : ByteArray) (t : TypeId) : ∀ j u,[Value.string s][j]? = some u -> (W.alloc (.cells #[.string s] t)).cell? ((⟨W.heap.size,0,none⟩ : Addr).add j) = some u:=Gg W (.string s) t
def Ef (l : List Aa) : List ByteArray:=l.map Aa.key
theorem WU {l : List Aa} {i : Nat} (h : i < l.length) : S0 (Ef (l.take (i + 1))) = S0 (Ef (l.take i)) ++ [.string l[i].key]:=by
 rw [List.take_succ_eq_append_getElem h]
 unfold S0 Ef
 rw [List.map_append,List.map_append]
 rfl
end
section
open Go.RowKit
def De (l : List Aa) : Nat:=if l = [] then 1 else Ii ⟨#[]⟩ l
theorem GP {l : List Aa} : De l = 0 ↔ l ≠ [] /\ Ak l /\ Az l:=by
 unfold De
 split
 · rename_i h; simp [h]
 · rename_i h
   rw [K9]
   exact ⟨fun k => ⟨h,k⟩,fun k => k.2⟩
set_option maxHeartbeats 2000000 in
set_option maxRecDepth 100000 in
theorem Lh {w : World} {a : Option Addr} {c : Nat} {l : List Aa} (h : Aj w (.slice a l.length c) l) :
 Calls Tryz.prog 153 #[.slice a l.length c] w fun e w' => e = .returned (.int .i64 (De l : Nat)) /\ Below w.heap.size w w':=by
 have hmax : l.length <= 9223372036854775807:=by have:=h.1; unfold maxLen at this; omega
 by_cases hne : l = []
 · have e1 : De l = 1:=by unfold De; rw [if_pos hne]
   have hl0 : l.length = 0:=by rw [hne]; rfl
   rw [e1]
   rw [hl0] at *
   go_enter Tryz.func153,Tryz.ntmps153
   go_wp2
   go_ret
   exact ⟨rfl,Below.refl _ _⟩
 have hl1 : 0 < l.length:=List.length_pos_iff.2 hne
 have e1 : De l = Ii ⟨#[]⟩ l:=by unfold De; rw [if_neg hne]
 rw [e1]
 have H:=hid h
 have hg0 : ((l.length : Int) == 0) = false:=by simp; omega
 clear h e1 hne
 go_enter Tryz.func153,Tryz.ntmps153
 go_wp2
 go_loopw [3,11] (fun sv iv wr => ∃ i : Nat,i <= l.length /\ iv = .int .i64 (i : Int) /\ sv = .string (L6 l i) /\ Hid (Ii ⟨#[]⟩ l = Mc l i /\ Below w.heap.size w wr))
  (fun _ iv _ => l.length - (intOf iv).toNat)
 case atStart => exact ⟨0,by omega,rfl,rfl,Ug l,Below.refl _ _⟩
 case round =>
  obtain ⟨i,hil,rfl,rfl,HI⟩:=hrel
  by_cases hlt : i < l.length
  · obtain ⟨b,o,rfl,q0,q1,q2⟩:=H.out.in HI.out.2 hlt
    have HC:=hid (Vi hlt)
    have HLN:=hid (Mq hlt)
    generalize l[i] = X at *
    generalize L6 l i = L at *
    obtain ⟨xk,xv,xg⟩:=X
    simp only at q0 q1 q2 HLN HC
    have hlq:=V9 xk L
    have hB1:=hid (HI.out.2.alloc HI.out.2.size (.cells #[.string xk,.string xv,.bool xg] 57))
    have HBI:=hid HI.out.1
    have hmeas : l.length - (intOf (.int .i64 ((i : Int) + 1))).toNat < l.length - (intOf (.int .i64 (i : Int))).toNat:=by simp [intOf]; omega
    clear HI
    by_cases c1 : AO L xk = false
    · have hE : Ii ⟨#[]⟩ l = 1:=by rw [HBI.out,HC.out,if_pos (.inl c1)]
      have HE:=hid hE
      clear HC HLN hE
      go_wp2
      go_ret
      exact ⟨by rw [HE.out]; rfl,hB1.out⟩
    · have c1 : AO L xk = true:=by simpa using c1
      by_cases c2 : xg = true /\ xv.size ≠ 0
      · have hE : Ii ⟨#[]⟩ l = 1:=by rw [HBI.out,HC.out,if_pos (.inr c2)]
        have HE:=hid hE
        obtain ⟨c2,c3⟩:=c2
        subst c2
        have hve : xv.toList.isEmpty = false:=by
         have : ¬ xv.toList = []:=fun e => c3 (CH.1 e)
         simpa using this
        clear HC HLN hE
        go_wp2
        go_ret
        exact ⟨by rw [HE.out]; rfl,hB1.out⟩
      · have hgv : xg = false \/ xv.toList.isEmpty = true:=by
          cases hxg : xg with
          | false => exact .inl rfl
          | true =>
            refine .inr ?_
            have : xv.size = 0:=by
             rw [hxg] at c2
             simpa using c2
            rw [CH.2 this]; rfl
        by_cases c3 : 64 < xk.size \/ 8192 < xv.size
        · have hE : Ii ⟨#[]⟩ l = 2:=by rw [HBI.out,HC.out,if_neg (by simp only [not_or]; exact ⟨by rw [c1]; simp,c2⟩),if_pos c3]
          have HE:=hid hE
          have hc3 : (64 : Int) < (xk.size : Int) \/ ((¬ (64 : Int) < (xk.size : Int)) /\ (8192 : Int) < (xv.size : Int)):=by omega
          clear HC HLN c2 c3 hE
          rcases hgv with hgv | hgv <;> rcases hc3 with hc3 | ⟨hc3,hc4⟩
          · subst hgv
            go_wp2
            go_ret
            exact ⟨by rw [HE.out]; rfl,hB1.out⟩
          · subst hgv
            go_wp2
            go_ret
            exact ⟨by rw [HE.out]; rfl,hB1.out⟩
          · cases xg
            · go_wp2
              go_ret
              exact ⟨by rw [HE.out]; rfl,hB1.out⟩
            · go_wp2
              go_ret
              exact ⟨by rw [HE.out]; rfl,hB1.out⟩
          · cases xg
            · go_wp2
              go_ret
              exact ⟨by rw [HE.out]; rfl,hB1.out⟩
            · go_wp2
              go_ret
              exact ⟨by rw [HE.out]; rfl,hB1.out⟩
        · have hBN : Hid (Ii ⟨#[]⟩ l = Mc l (i + 1)):=by
            show _ = _
            rw [HBI.out,HC.out,if_neg (by simp only [not_or]; exact ⟨by rw [c1]; simp,c2⟩),if_neg c3]
          have hc3 : ¬ (64 : Int) < (xk.size : Int):=by omega
          have hc4 : ¬ (8192 : Int) < (xv.size : Int):=by omega
          clear HC c2 c3
          rcases hgv with hgv | hgv
          · subst hgv
            go_wp2
            go_roundw
            case rel => exact ⟨i + 1,by omega,by go_num,by rw [HLN.out],hBN.out,hB1.out⟩
            case measure => exact hmeas
          · cases xg
            · go_wp2
              go_roundw
              case rel => exact ⟨i + 1,by omega,by go_num,by rw [HLN.out],hBN.out,hB1.out⟩
              case measure => exact hmeas
            · go_wp2
              go_roundw
              case rel => exact ⟨i + 1,by omega,by go_num,by rw [HLN.out],hBN.out,hB1.out⟩
              case measure => exact hmeas
  · obtain rfl : i = l.length:=by omega
    have hb0 : Ii ⟨#[]⟩ l = 0:=by rw [HI.out.1,Xj]
    have HE:=hid hb0
    have HB:=hid HI.out.2
    clear HI hb0
    go_wp2
    go_ret
    exact ⟨by rw [HE.out]; rfl,HB.out⟩
end
end Go.Proofs.YtnafjlhohbhcoaaGreatDoor
