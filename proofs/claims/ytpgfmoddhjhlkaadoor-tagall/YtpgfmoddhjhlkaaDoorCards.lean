/-
  DERIVED. GIVEN WITH THE SEED: THE CARDS: each row of YtpgfmoddhjhlkaaDoorRows.lean that lists a variable, with what it lists TIED to the program's text (the seventh form; the later family's looks); each row that meets fmt, with fmt's text TOLD by the authors' own Lean function (tested against real Go, not proved from fmt's source: count such statements apart). THE CARD IS WHAT COUNTS. Prove the row's statement (the work); the ties are given (YtpgfmoddhjhlkaaDoorTie.lean); close each card by the builder's one call (the guide's Derived/Test/ToyasCard.lean, 'card_holds'). Laid BY PROGRAM, IN A SANDBOX (cutbox-door.mjs). By AI agents, Wed Nov 11 2026. No macro, syntax, notation, axiom, sorry.
-/
import Derived.Test.YtpgfmoddhjhlkaaDoorRows
import GoSem.ClaimSeven
namespace Go.Proofs.YtpgfmoddhjhlkaaDoor
namespace Rows

/-- THE TIED CARD OF 'sherdlaw08.TagTexts'. -/
def tagTextsCard : Claim7 := { stood := { row := tagTextsRow, standIns := [], harness := (true, "f93c9f2eb2341ea396eebb0daf82bff0380fa14405c3a216ce263b767423ee18"), looks := true }, kinds := [], alts := [], laidByText := true, laidKinds := [.data, .data, .data, .sentinel, .sentinel], laidTests := true, laidLooks := .later }
def TagTextsCardSaid : Prop := Claim7.holds Tryd.pinned (.plain (OpenSpec.ofChange tagTextsSpec)) tagTextsCard

/-- THE TIED CARD OF 'sherdlaw08.TagAll'. -/
def tagAllCard : Claim7 := { stood := { row := tagAllRow, standIns := [], harness := (true, "f93c9f2eb2341ea396eebb0daf82bff0380fa14405c3a216ce263b767423ee18"), looks := true }, kinds := [], alts := [], laidByText := true, laidKinds := [.data, .data, .data, .sentinel, .sentinel], laidTests := true, laidLooks := .later }
def TagAllCardSaid : Prop := Claim7.holds Tryd.pinned (.plain (OpenSpec.ofChange tagAllSpec)) tagAllCard

/-- THE SECOND FORM's CARD OF 'sherdlaw08.TagTexts'. -/
def tagTextsUptoCard : Claim7 := { stood := { row := tagTextsUptoRow, standIns := [], harness := (true, "f93c9f2eb2341ea396eebb0daf82bff0380fa14405c3a216ce263b767423ee18"), looks := true }, kinds := [], alts := [], laidByText := true, laidKinds := [.data, .data, .data, .sentinel, .sentinel], laidTests := true, laidLooks := .later }
def TagTextsUptoCardSaid : Prop := Claim7.holds Tryd.pinned (.plain (OpenSpec.upto tagTextsSpec)) tagTextsUptoCard

/-- THE SECOND FORM's CARD OF 'sherdlaw08.TagAll'. -/
def tagAllUptoCard : Claim7 := { stood := { row := tagAllUptoRow, standIns := [], harness := (true, "f93c9f2eb2341ea396eebb0daf82bff0380fa14405c3a216ce263b767423ee18"), looks := true }, kinds := [], alts := [], laidByText := true, laidKinds := [.data, .data, .data, .sentinel, .sentinel], laidTests := true, laidLooks := .later }
def TagAllUptoCardSaid : Prop := Claim7.holds Tryd.pinned (.plain (OpenSpec.upto tagAllSpec)) tagAllUptoCard
end Rows
end Go.Proofs.YtpgfmoddhjhlkaaDoor
