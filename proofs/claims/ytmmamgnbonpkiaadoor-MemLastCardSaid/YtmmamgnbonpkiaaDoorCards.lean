/-
  DERIVED. GIVEN WITH THE SEED: THE CARDS: each row of YtmmamgnbonpkiaaDoorRows.lean that lists a variable, with what it lists TIED to the program's text (the seventh form; the later family's looks); each row that meets fmt, with fmt's text TOLD by the authors' own Lean function (tested against real Go, not proved from fmt's source: count such statements apart). THE CARD IS WHAT COUNTS. Prove the row's statement (the work); the ties are given (YtmmamgnbonpkiaaDoorTie.lean); close each card by the builder's one call (the guide's Derived/Test/ToyasCard.lean, 'card_holds'). Laid BY PROGRAM, IN A SANDBOX (cutbox-door.mjs). By AI agents, Wed Nov 11 2026. No macro, syntax, notation, axiom, sorry.
-/
import Derived.Test.YtmmamgnbonpkiaaDoorRows
import GoSem.ClaimSeven
namespace Go.Proofs.YtmmamgnbonpkiaaDoor
namespace Rows

/-- THE TIED CARD OF 'wherrylaw05.MemRuns'. -/
def memRunsCard : Claim7 := { stood := { row := memRunsRow, standIns := [], harness := (true, "c8865a26466c0f93a26a010fb840531b8f26151090574b3c526cf3d2733c4c13"), looks := false }, kinds := [], alts := [], laidByText := true, laidKinds := [.data], laidTests := true, laidLooks := .later }
def MemRunsCardSaid : Prop := Claim7.holds Tryd.pinned (.plain (OpenSpec.ofChange memRunsSpec)) memRunsCard

/-- THE TIED CARD OF 'wherrylaw05.MemOrder'. -/
def memOrderCard : Claim7 := { stood := { row := memOrderRow, standIns := [], harness := (true, "c8865a26466c0f93a26a010fb840531b8f26151090574b3c526cf3d2733c4c13"), looks := false }, kinds := [], alts := [], laidByText := true, laidKinds := [.data], laidTests := true, laidLooks := .later }
def MemOrderCardSaid : Prop := Claim7.holds Tryd.pinned (.plain (OpenSpec.ofChange memOrderSpec)) memOrderCard

/-- THE TIED CARD OF 'wherrylaw05.MemLast'. -/
def memLastCard : Claim7 := { stood := { row := memLastRow, standIns := [], harness := (true, "c8865a26466c0f93a26a010fb840531b8f26151090574b3c526cf3d2733c4c13"), looks := false }, kinds := [], alts := [], laidByText := true, laidKinds := [.data], laidTests := true, laidLooks := .later }
def MemLastCardSaid : Prop := Claim7.holds Tryd.pinned (.plain (OpenSpec.ofChange memLastSpec)) memLastCard

/-- THE TIED CARD OF 'wherrylaw05.MemStops'. -/
def memStopsCard : Claim7 := { stood := { row := memStopsRow, standIns := [], harness := (true, "c8865a26466c0f93a26a010fb840531b8f26151090574b3c526cf3d2733c4c13"), looks := false }, kinds := [], alts := [], laidByText := true, laidKinds := [.data], laidTests := true, laidLooks := .later }
def MemStopsCardSaid : Prop := Claim7.holds Tryd.pinned (.plain (OpenSpec.ofChange memStopsSpec)) memStopsCard

/-- THE SECOND FORM's CARD OF 'wherrylaw05.MemRuns'. -/
def memRunsUptoCard : Claim7 := { stood := { row := memRunsUptoRow, standIns := [], harness := (true, "c8865a26466c0f93a26a010fb840531b8f26151090574b3c526cf3d2733c4c13"), looks := false }, kinds := [], alts := [], laidByText := true, laidKinds := [.data], laidTests := true, laidLooks := .later }
def MemRunsUptoCardSaid : Prop := Claim7.holds Tryd.pinned (.plain (OpenSpec.upto memRunsSpec)) memRunsUptoCard

/-- THE SECOND FORM's CARD OF 'wherrylaw05.MemOrder'. -/
def memOrderUptoCard : Claim7 := { stood := { row := memOrderUptoRow, standIns := [], harness := (true, "c8865a26466c0f93a26a010fb840531b8f26151090574b3c526cf3d2733c4c13"), looks := false }, kinds := [], alts := [], laidByText := true, laidKinds := [.data], laidTests := true, laidLooks := .later }
def MemOrderUptoCardSaid : Prop := Claim7.holds Tryd.pinned (.plain (OpenSpec.upto memOrderSpec)) memOrderUptoCard

/-- THE SECOND FORM's CARD OF 'wherrylaw05.MemLast'. -/
def memLastUptoCard : Claim7 := { stood := { row := memLastUptoRow, standIns := [], harness := (true, "c8865a26466c0f93a26a010fb840531b8f26151090574b3c526cf3d2733c4c13"), looks := false }, kinds := [], alts := [], laidByText := true, laidKinds := [.data], laidTests := true, laidLooks := .later }
def MemLastUptoCardSaid : Prop := Claim7.holds Tryd.pinned (.plain (OpenSpec.upto memLastSpec)) memLastUptoCard

/-- THE SECOND FORM's CARD OF 'wherrylaw05.MemStops'. -/
def memStopsUptoCard : Claim7 := { stood := { row := memStopsUptoRow, standIns := [], harness := (true, "c8865a26466c0f93a26a010fb840531b8f26151090574b3c526cf3d2733c4c13"), looks := false }, kinds := [], alts := [], laidByText := true, laidKinds := [.data], laidTests := true, laidLooks := .later }
def MemStopsUptoCardSaid : Prop := Claim7.holds Tryd.pinned (.plain (OpenSpec.upto memStopsSpec)) memStopsUptoCard
end Rows
end Go.Proofs.YtmmamgnbonpkiaaDoor
