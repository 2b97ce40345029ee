/-
  DERIVED. GIVEN WITH THE SEED: THE CARDS: each row of YtaelhgkodcgmnaaDoorRows.lean that lists a variable, with what it lists TIED to the program's text (the seventh form; the later family's looks); each row that meets fmt, with fmt's text TOLD by the authors' own Lean function (tested against real Go, not proved from fmt's source: count such statements apart). THE CARD IS WHAT COUNTS. Prove the row's statement (the work); the ties are given (YtaelhgkodcgmnaaDoorTie.lean); close each card by the builder's one call (the guide's Derived/Test/ToyasCard.lean, 'card_holds'). Laid BY PROGRAM, IN A SANDBOX (cutbox-door.mjs). By AI agents, Wed Nov 11 2026. No macro, syntax, notation, axiom, sorry.
-/
import Derived.Test.YtaelhgkodcgmnaaDoorRows
import GoSem.ClaimSeven
namespace Go.Proofs.YtaelhgkodcgmnaaDoor
namespace Rows

/-- THE TIED CARD OF 'telltalelaw23.RenderTells'. -/
def renderTellsCard : Claim7 := { stood := { row := renderTellsRow, standIns := [], harness := (true, "9a6cf46df51801377815b72c4c79d9212ffc10063338991e4d2c7531d30ff522"), looks := true }, kinds := [], alts := [], laidByText := true, laidKinds := [.data, .data, .data, .data, .sentinel, .sentinel, .pinned], laidTests := true, laidLooks := .later }
def RenderTellsCardSaid : Prop := Claim7.holds Tryd.pinned (.plain (OpenSpec.ofChange renderTellsSpec)) renderTellsCard

/-- THE TIED CARD OF 'telltalelaw23.RenderBack'. -/
def renderBackCard : Claim7 := { stood := { row := renderBackRow, standIns := [], harness := (true, "9a6cf46df51801377815b72c4c79d9212ffc10063338991e4d2c7531d30ff522"), looks := true }, kinds := [], alts := [], laidByText := true, laidKinds := [.data, .data, .data, .data, .sentinel, .sentinel, .pinned], laidTests := true, laidLooks := .later }
def RenderBackCardSaid : Prop := Claim7.holds Tryd.pinned (.plain (OpenSpec.ofChange renderBackSpec)) renderBackCard

/-- THE TIED CARD OF 'telltalelaw23.RenderPrints'. -/
def renderPrintsCard : Claim7 := { stood := { row := renderPrintsRow, standIns := [], harness := (true, "9a6cf46df51801377815b72c4c79d9212ffc10063338991e4d2c7531d30ff522"), looks := true }, kinds := [], alts := [], laidByText := true, laidKinds := [.data, .data, .data, .data, .sentinel, .sentinel, .pinned], laidTests := true, laidLooks := .later }
def RenderPrintsCardSaid : Prop := Claim7.holds Tryd.pinned (.plain (OpenSpec.ofChange renderPrintsSpec)) renderPrintsCard

/-- THE TIED CARD OF 'telltalelaw23.RenderApart'. -/
def renderApartCard : Claim7 := { stood := { row := renderApartRow, standIns := [], harness := (true, "9a6cf46df51801377815b72c4c79d9212ffc10063338991e4d2c7531d30ff522"), looks := true }, kinds := [], alts := [], laidByText := true, laidKinds := [.data, .data, .data, .data, .sentinel, .sentinel, .pinned], laidTests := true, laidLooks := .later }
def RenderApartCardSaid : Prop := Claim7.holds Tryd.pinned (.plain (OpenSpec.ofChange renderApartSpec)) renderApartCard

/-- THE TIED CARD OF 'telltalelaw23.RenderText'. -/
def renderTextCard : Claim7 := { stood := { row := renderTextRow, standIns := [], harness := (true, "9a6cf46df51801377815b72c4c79d9212ffc10063338991e4d2c7531d30ff522"), looks := true }, kinds := [], alts := [], laidByText := true, laidKinds := [.data, .data, .data, .data, .sentinel, .sentinel, .pinned], laidTests := true, laidLooks := .later }
def RenderTextCardSaid : Prop := Claim7.holds Tryd.pinned (.plain (OpenSpec.ofChange renderTextSpec)) renderTextCard

/-- THE TIED CARD OF 'telltalelaw23.RenderParts'. -/
def renderPartsCard : Claim7 := { stood := { row := renderPartsRow, standIns := [], harness := (true, "9a6cf46df51801377815b72c4c79d9212ffc10063338991e4d2c7531d30ff522"), looks := true }, kinds := [], alts := [], laidByText := true, laidKinds := [.data, .data, .data, .data, .sentinel, .sentinel, .pinned], laidTests := true, laidLooks := .later }
def RenderPartsCardSaid : Prop := Claim7.holds Tryd.pinned (.plain (OpenSpec.ofChange renderPartsSpec)) renderPartsCard

/-- THE SECOND FORM's CARD OF 'telltalelaw23.RenderTells'. -/
def renderTellsUptoCard : Claim7 := { stood := { row := renderTellsUptoRow, standIns := [], harness := (true, "9a6cf46df51801377815b72c4c79d9212ffc10063338991e4d2c7531d30ff522"), looks := true }, kinds := [], alts := [], laidByText := true, laidKinds := [.data, .data, .data, .data, .sentinel, .sentinel, .pinned], laidTests := true, laidLooks := .later }
def RenderTellsUptoCardSaid : Prop := Claim7.holds Tryd.pinned (.plain (OpenSpec.upto renderTellsSpec)) renderTellsUptoCard

/-- THE SECOND FORM's CARD OF 'telltalelaw23.RenderBack'. -/
def renderBackUptoCard : Claim7 := { stood := { row := renderBackUptoRow, standIns := [], harness := (true, "9a6cf46df51801377815b72c4c79d9212ffc10063338991e4d2c7531d30ff522"), looks := true }, kinds := [], alts := [], laidByText := true, laidKinds := [.data, .data, .data, .data, .sentinel, .sentinel, .pinned], laidTests := true, laidLooks := .later }
def RenderBackUptoCardSaid : Prop := Claim7.holds Tryd.pinned (.plain (OpenSpec.upto renderBackSpec)) renderBackUptoCard

/-- THE SECOND FORM's CARD OF 'telltalelaw23.RenderPrints'. -/
def renderPrintsUptoCard : Claim7 := { stood := { row := renderPrintsUptoRow, standIns := [], harness := (true, "9a6cf46df51801377815b72c4c79d9212ffc10063338991e4d2c7531d30ff522"), looks := true }, kinds := [], alts := [], laidByText := true, laidKinds := [.data, .data, .data, .data, .sentinel, .sentinel, .pinned], laidTests := true, laidLooks := .later }
def RenderPrintsUptoCardSaid : Prop := Claim7.holds Tryd.pinned (.plain (OpenSpec.upto renderPrintsSpec)) renderPrintsUptoCard

/-- THE SECOND FORM's CARD OF 'telltalelaw23.RenderApart'. -/
def renderApartUptoCard : Claim7 := { stood := { row := renderApartUptoRow, standIns := [], harness := (true, "9a6cf46df51801377815b72c4c79d9212ffc10063338991e4d2c7531d30ff522"), looks := true }, kinds := [], alts := [], laidByText := true, laidKinds := [.data, .data, .data, .data, .sentinel, .sentinel, .pinned], laidTests := true, laidLooks := .later }
def RenderApartUptoCardSaid : Prop := Claim7.holds Tryd.pinned (.plain (OpenSpec.upto renderApartSpec)) renderApartUptoCard

/-- THE SECOND FORM's CARD OF 'telltalelaw23.RenderText'. -/
def renderTextUptoCard : Claim7 := { stood := { row := renderTextUptoRow, standIns := [], harness := (true, "9a6cf46df51801377815b72c4c79d9212ffc10063338991e4d2c7531d30ff522"), looks := true }, kinds := [], alts := [], laidByText := true, laidKinds := [.data, .data, .data, .data, .sentinel, .sentinel, .pinned], laidTests := true, laidLooks := .later }
def RenderTextUptoCardSaid : Prop := Claim7.holds Tryd.pinned (.plain (OpenSpec.upto renderTextSpec)) renderTextUptoCard

/-- THE SECOND FORM's CARD OF 'telltalelaw23.RenderParts'. -/
def renderPartsUptoCard : Claim7 := { stood := { row := renderPartsUptoRow, standIns := [], harness := (true, "9a6cf46df51801377815b72c4c79d9212ffc10063338991e4d2c7531d30ff522"), looks := true }, kinds := [], alts := [], laidByText := true, laidKinds := [.data, .data, .data, .data, .sentinel, .sentinel, .pinned], laidTests := true, laidLooks := .later }
def RenderPartsUptoCardSaid : Prop := Claim7.holds Tryd.pinned (.plain (OpenSpec.upto renderPartsSpec)) renderPartsUptoCard
end Rows
end Go.Proofs.YtaelhgkodcgmnaaDoor
