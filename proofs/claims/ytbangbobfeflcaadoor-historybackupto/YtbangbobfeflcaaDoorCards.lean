/-
  DERIVED. GIVEN WITH THE SEED: THE CARDS: each row of YtbangbobfeflcaaDoorRows.lean that lists a variable, with what it lists TIED to the program's text (the seventh form; the later family's looks); each row that meets fmt, with fmt's text TOLD by the authors' own Lean function (tested against real Go, not proved from fmt's source: count such statements apart). THE CARD IS WHAT COUNTS. Prove the row's statement (the work); the ties are given (YtbangbobfeflcaaDoorTie.lean); close each card by the builder's one call (the guide's Derived/Test/ToyasCard.lean, 'card_holds'). Laid BY PROGRAM, IN A SANDBOX (cutbox-door.mjs). By AI agents, Wed Nov 11 2026. No macro, syntax, notation, axiom, sorry.
-/
import Derived.Test.YtbangbobfeflcaaDoorRows
import GoSem.ClaimSeven
namespace Go.Proofs.YtbangbobfeflcaaDoor
namespace Rows

/-- THE TIED CARD OF 'sherdlaw19.HistoryBack'. -/
def historyBackCard : Claim7 := { stood := { row := historyBackRow, standIns := [], harness := (true, "318d191b1fdf454e75c6f430fbf943e4572cf98be87bc5b1332dd845ff24a1a1"), looks := true }, kinds := [], alts := [], laidByText := true, laidKinds := [.data, .data, .data, .sentinel, .sentinel, .data], laidTests := true, laidLooks := .later }
def HistoryBackCardSaid : Prop := Claim7.holds Tryd.pinned (.plain (OpenSpec.ofChange historyBackSpec)) historyBackCard

/-- THE TIED CARD OF 'sherdlaw19.HistoryCalls'. -/
def historyCallsCard : Claim7 := { stood := { row := historyCallsRow, standIns := [], harness := (true, "318d191b1fdf454e75c6f430fbf943e4572cf98be87bc5b1332dd845ff24a1a1"), looks := true }, kinds := [], alts := [], laidByText := true, laidKinds := [.data, .data, .data, .sentinel, .sentinel, .data], laidTests := true, laidLooks := .later }
def HistoryCallsCardSaid : Prop := Claim7.holds Tryd.pinned (.plain (OpenSpec.ofChange historyCallsSpec)) historyCallsCard

/-- THE SECOND FORM's CARD OF 'sherdlaw19.HistoryBack'. -/
def historyBackUptoCard : Claim7 := { stood := { row := historyBackUptoRow, standIns := [], harness := (true, "318d191b1fdf454e75c6f430fbf943e4572cf98be87bc5b1332dd845ff24a1a1"), looks := true }, kinds := [], alts := [], laidByText := true, laidKinds := [.data, .data, .data, .sentinel, .sentinel, .data], laidTests := true, laidLooks := .later }
def HistoryBackUptoCardSaid : Prop := Claim7.holds Tryd.pinned (.plain (OpenSpec.upto historyBackSpec)) historyBackUptoCard

/-- THE SECOND FORM's CARD OF 'sherdlaw19.HistoryCalls'. -/
def historyCallsUptoCard : Claim7 := { stood := { row := historyCallsUptoRow, standIns := [], harness := (true, "318d191b1fdf454e75c6f430fbf943e4572cf98be87bc5b1332dd845ff24a1a1"), looks := true }, kinds := [], alts := [], laidByText := true, laidKinds := [.data, .data, .data, .sentinel, .sentinel, .data], laidTests := true, laidLooks := .later }
def HistoryCallsUptoCardSaid : Prop := Claim7.holds Tryd.pinned (.plain (OpenSpec.upto historyCallsSpec)) historyCallsUptoCard
end Rows
end Go.Proofs.YtbangbobfeflcaaDoor
