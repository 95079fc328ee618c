/- Parts of the proof. -/
import Derived.Test.YtlkefgngefpkiaaGreatDoorQ28
import Derived.Test.YtlkefgngefpkiaaGreatDoorQ06
namespace Go.Proofs.YtlkefgngefpkiaaGreatDoor
set_option linter.unusedVariables false
section
open Go.RowKit
theorem IP {w : World} {base : Nat} {v : Value} {fs : List (List UInt8)} (h : w.ownsRow base 9 1 v fs.length (fs.map tx)) {i : Nat} (hi : i < fs.length) : ∃ g cap,v = .slice (some ⟨g,0,none⟩) fs.length cap /\ w.cell? ⟨g,i,none⟩ = some (tx (fs.getD i [])):=by
 rcases h.2 with ⟨_,h0⟩ | ⟨g,cap,cur,rfl,_⟩
 · omega
 · refine ⟨g,cap,rfl,(h.cellAt i (by omega)).trans ?_⟩
   simp [List.getD,hi]
theorem Zk {nb : Nat} (h : nb <= 1099511627776) : (∀ m : Int,m = (nb : Int) -> wrap64 m = (nb : Int)) /\ (∀ m : Int,m = (nb : Int) -> IntKind.i64.wrap m = (nb : Int)) /\ (∀ m : Int,m = (nb : Int) + 1 - 1 -> wrap64 m = (nb : Int)) /\ (∀ m : Int,m = (nb : Int) + 1 - 1 -> IntKind.i64.wrap m = (nb : Int)):=by
 refine ⟨?_,?_,?_,?_⟩
 · rintro m rfl; exact IntWalk.wrap64_in _ (by omega)
 · rintro m rfl; rw [IntKind.wrap_i64]; omega
 · rintro m rfl; rw [IntWalk.wrap64_in _ (by omega)]; omega
 · rintro m rfl; rw [IntKind.wrap_i64]; omega
end
section
open Go.RowKit Go.Maps Go.WideMaps Go.Shelf
theorem NZ {l : List Aa} (hf : Az l) (hl : l.length <= 65536) : (Di l (BR l)).length <= 1048576:=by
 have h1:=Ig hf (Am l.length)
 have h2 : (BR l).length = min (l.length + 8) 8192:=by unfold BR; rw [Fc]
 have h3 : Am l.length <= 8192:=by unfold Am; omega
 have e1:=Au (AJ (n:=Am l.length) (by omega))
 have e2:=Au (AJ (n:=l.length) (by omega))
 have e3:=Au (AJ (n:=(BR l).length) (by omega))
 unfold Di
 simp only [List.length_append]
 omega
theorem U9 {l : List Aa} (hne : l ≠ []) (hr : Aj l) (hf : Az l) : Eu l = if 1048576 < (Di l (BR l)).length then 2 else 0:=by
 unfold Eu
 rw [if_neg hne,if_neg (by rw [(Lc l).2 ⟨hr,hf⟩]; simp)]
end
end Go.Proofs.YtlkefgngefpkiaaGreatDoor
