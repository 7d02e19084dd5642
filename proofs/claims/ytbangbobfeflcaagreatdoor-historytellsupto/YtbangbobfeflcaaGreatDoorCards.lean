/-
  DERIVED. GIVEN WITH THE SEED: THE CARDS: each row of YtbangbobfeflcaaGreatDoorRows.lean that lists a variable, with what it lists TIED to the program's text (the seventh form; the later family's looks); each row that meets fmt, with fmt's text TOLD by the authors' own Lean function (tested against real Go, not proved from fmt's source: count such statements apart). THE CARD IS WHAT COUNTS. Prove the row's statement (the work); the ties are given (YtbangbobfeflcaaGreatDoorTie.lean); close each card by the builder's one call (the guide's Derived/Test/ToyasCard.lean, 'card_holds'). Laid BY PROGRAM, IN A SANDBOX (cutbox-door.mjs). By AI agents, Wed Nov 11 2026. No macro, syntax, notation, axiom, sorry.
-/
import Derived.Test.YtbangbobfeflcaaGreatDoorRows
import GoSem.ClaimSeven
namespace Go.Proofs.YtbangbobfeflcaaGreatDoor
namespace Rows

/-- THE TIED CARD OF 'sherdlaw19.HistoryTells'. -/
def historyTellsCard : Claim7 := { stood := { row := historyTellsRow, standIns := [], harness := (true, "7ff01dd77892eddffc24a4292f745f87af8f380cbfacf8215a4a234ad71eadf9"), looks := true }, kinds := [], alts := [], laidByText := true, laidKinds := [.data, .data, .data, .data], laidTests := true, laidLooks := .later }
def HistoryTellsCardSaid : Prop := Claim7.holds Tryz.pinned (.plain (OpenSpec.ofChange historyTellsSpec)) historyTellsCard

/-- THE TIED CARD OF 'sherdlaw19.HistoryReads'. -/
def historyReadsCard : Claim7 := { stood := { row := historyReadsRow, standIns := [], harness := (true, "7ff01dd77892eddffc24a4292f745f87af8f380cbfacf8215a4a234ad71eadf9"), looks := true }, kinds := [], alts := [], laidByText := true, laidKinds := [.data, .data, .data, .sentinel, .sentinel, .data], laidTests := true, laidLooks := .later }
def HistoryReadsCardSaid : Prop := Claim7.holds Tryz.pinned (.plain (OpenSpec.ofChange historyReadsSpec)) historyReadsCard

/-- THE TIED CARD OF 'sherdlaw19.HistoryKeys'. -/
def historyKeysCard : Claim7 := { stood := { row := historyKeysRow, standIns := [], harness := (true, "7ff01dd77892eddffc24a4292f745f87af8f380cbfacf8215a4a234ad71eadf9"), looks := true }, kinds := [], alts := [], laidByText := true, laidKinds := [.data, .data, .data, .sentinel, .sentinel, .data], laidTests := true, laidLooks := .later }
def HistoryKeysCardSaid : Prop := Claim7.holds Tryz.pinned (.plain (OpenSpec.ofChange historyKeysSpec)) historyKeysCard

/-- THE SECOND FORM's CARD OF 'sherdlaw19.HistoryTells'. -/
def historyTellsUptoCard : Claim7 := { stood := { row := historyTellsUptoRow, standIns := [], harness := (true, "7ff01dd77892eddffc24a4292f745f87af8f380cbfacf8215a4a234ad71eadf9"), looks := true }, kinds := [], alts := [], laidByText := true, laidKinds := [.data, .data, .data, .data], laidTests := true, laidLooks := .later }
def HistoryTellsUptoCardSaid : Prop := Claim7.holds Tryz.pinned (.plain (OpenSpec.upto historyTellsSpec)) historyTellsUptoCard

/-- THE SECOND FORM's CARD OF 'sherdlaw19.HistoryReads'. -/
def historyReadsUptoCard : Claim7 := { stood := { row := historyReadsUptoRow, standIns := [], harness := (true, "7ff01dd77892eddffc24a4292f745f87af8f380cbfacf8215a4a234ad71eadf9"), looks := true }, kinds := [], alts := [], laidByText := true, laidKinds := [.data, .data, .data, .sentinel, .sentinel, .data], laidTests := true, laidLooks := .later }
def HistoryReadsUptoCardSaid : Prop := Claim7.holds Tryz.pinned (.plain (OpenSpec.upto historyReadsSpec)) historyReadsUptoCard

/-- THE SECOND FORM's CARD OF 'sherdlaw19.HistoryKeys'. -/
def historyKeysUptoCard : Claim7 := { stood := { row := historyKeysUptoRow, standIns := [], harness := (true, "7ff01dd77892eddffc24a4292f745f87af8f380cbfacf8215a4a234ad71eadf9"), looks := true }, kinds := [], alts := [], laidByText := true, laidKinds := [.data, .data, .data, .sentinel, .sentinel, .data], laidTests := true, laidLooks := .later }
def HistoryKeysUptoCardSaid : Prop := Claim7.holds Tryz.pinned (.plain (OpenSpec.upto historyKeysSpec)) historyKeysUptoCard
end Rows
end Go.Proofs.YtbangbobfeflcaaGreatDoor
