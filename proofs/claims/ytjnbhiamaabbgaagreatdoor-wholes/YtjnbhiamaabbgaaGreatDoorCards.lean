/-
  DERIVED. GIVEN WITH THE SEED: THE CARDS: each row of YtjnbhiamaabbgaaGreatDoorRows.lean that lists a variable, with what it lists TIED to the program's text (the seventh form; the later family's looks); each row that meets fmt, with fmt's text TOLD by the authors' own Lean function (tested against real Go, not proved from fmt's source: count such statements apart). THE CARD IS WHAT COUNTS. Prove the row's statement (the work); the ties are given (YtjnbhiamaabbgaaGreatDoorTie.lean); close each card by the builder's one call (the guide's Derived/Test/ToyasCard.lean, 'card_holds'). Laid BY PROGRAM, IN A SANDBOX (cutbox-door.mjs). By AI agents, Wed Nov 11 2026. No macro, syntax, notation, axiom, sorry.
-/
import Derived.Test.YtjnbhiamaabbgaaGreatDoorRows
import GoSem.ClaimSeven
namespace Go.Proofs.YtjnbhiamaabbgaaGreatDoor
namespace Rows

/-- THE TIED CARD OF 'cofferlaw.Opens'. -/
def opensCard : Claim7 := { stood := { row := opensRow, standIns := [], harness := (true, "4a0ee9522534c2d428c9830cfbd97c6c1925e58f526ebf18fccfdf95455ecf2d"), looks := true }, kinds := [], alts := [], goes := true, laidByText := true, laidKinds := [.data, .data, .sentinel, .sentinel], laidTests := true, laidLooks := .later }
def OpensCardSaid : Prop := Claim7.holds Tryz.pinned (.plain (OpenSpec.ofChange opensSpec)) opensCard

/-- THE TIED CARD OF 'cofferlaw.Wholes'. -/
def wholesCard : Claim7 := { stood := { row := wholesRow, standIns := [], harness := (true, "4a0ee9522534c2d428c9830cfbd97c6c1925e58f526ebf18fccfdf95455ecf2d"), looks := true }, kinds := [], alts := [], goes := true, laidByText := true, laidKinds := [.data, .data, .sentinel, .sentinel], laidTests := true, laidLooks := .later }
def WholesCardSaid : Prop := Claim7.holds Tryz.pinned (.plain (OpenSpec.ofChange wholesSpec)) wholesCard

/-- THE TIED CARD OF 'cofferkeep.Mapped'. -/
def mappedCard : Claim7 := { stood := { row := mappedRow, standIns := [], harness := (true, "4a0ee9522534c2d428c9830cfbd97c6c1925e58f526ebf18fccfdf95455ecf2d"), looks := true }, kinds := [], alts := [], goes := true, laidByText := true, laidKinds := [.data, .sentinel, .sentinel], laidTests := true, laidLooks := .later }
def MappedCardSaid : Prop := Claim7.holds Tryz.pinned (.plain (OpenSpec.ofChange mappedSpec)) mappedCard

/-- THE TIED CARD OF 'cofferkeep.Crashed'. -/
def crashedCard : Claim7 := { stood := { row := crashedRow, standIns := [], harness := (true, "4a0ee9522534c2d428c9830cfbd97c6c1925e58f526ebf18fccfdf95455ecf2d"), looks := true }, kinds := [], alts := [], goes := true, laidByText := true, laidKinds := [.data, .sentinel, .sentinel], laidTests := true, laidLooks := .later }
def CrashedCardSaid : Prop := Claim7.holds Tryz.pinned (.plain (OpenSpec.ofChange crashedSpec)) crashedCard

/-- THE TIED CARD OF 'cofferkeep.Rolled'. -/
def rolledCard : Claim7 := { stood := { row := rolledRow, standIns := [], harness := (true, "4a0ee9522534c2d428c9830cfbd97c6c1925e58f526ebf18fccfdf95455ecf2d"), looks := true }, kinds := [], alts := [], goes := true, laidByText := true, laidKinds := [.data, .sentinel, .sentinel], laidTests := true, laidLooks := .later }
def RolledCardSaid : Prop := Claim7.holds Tryz.pinned (.plain (OpenSpec.ofChange rolledSpec)) rolledCard

/-- THE SECOND FORM's CARD OF 'cofferlaw.Opens'. -/
def opensUptoCard : Claim7 := { stood := { row := opensUptoRow, standIns := [], harness := (true, "4a0ee9522534c2d428c9830cfbd97c6c1925e58f526ebf18fccfdf95455ecf2d"), looks := true }, kinds := [], alts := [], goes := true, laidByText := true, laidKinds := [.data, .data, .sentinel, .sentinel], laidTests := true, laidLooks := .later }
def OpensUptoCardSaid : Prop := Claim7.holds Tryz.pinned (.plain (OpenSpec.upto opensSpec)) opensUptoCard

/-- THE SECOND FORM's CARD OF 'cofferlaw.Wholes'. -/
def wholesUptoCard : Claim7 := { stood := { row := wholesUptoRow, standIns := [], harness := (true, "4a0ee9522534c2d428c9830cfbd97c6c1925e58f526ebf18fccfdf95455ecf2d"), looks := true }, kinds := [], alts := [], goes := true, laidByText := true, laidKinds := [.data, .data, .sentinel, .sentinel], laidTests := true, laidLooks := .later }
def WholesUptoCardSaid : Prop := Claim7.holds Tryz.pinned (.plain (OpenSpec.upto wholesSpec)) wholesUptoCard

/-- THE SECOND FORM's CARD OF 'cofferkeep.Mapped'. -/
def mappedUptoCard : Claim7 := { stood := { row := mappedUptoRow, standIns := [], harness := (true, "4a0ee9522534c2d428c9830cfbd97c6c1925e58f526ebf18fccfdf95455ecf2d"), looks := true }, kinds := [], alts := [], goes := true, laidByText := true, laidKinds := [.data, .sentinel, .sentinel], laidTests := true, laidLooks := .later }
def MappedUptoCardSaid : Prop := Claim7.holds Tryz.pinned (.plain (OpenSpec.upto mappedSpec)) mappedUptoCard

/-- THE SECOND FORM's CARD OF 'cofferkeep.Crashed'. -/
def crashedUptoCard : Claim7 := { stood := { row := crashedUptoRow, standIns := [], harness := (true, "4a0ee9522534c2d428c9830cfbd97c6c1925e58f526ebf18fccfdf95455ecf2d"), looks := true }, kinds := [], alts := [], goes := true, laidByText := true, laidKinds := [.data, .sentinel, .sentinel], laidTests := true, laidLooks := .later }
def CrashedUptoCardSaid : Prop := Claim7.holds Tryz.pinned (.plain (OpenSpec.upto crashedSpec)) crashedUptoCard

/-- THE SECOND FORM's CARD OF 'cofferkeep.Rolled'. -/
def rolledUptoCard : Claim7 := { stood := { row := rolledUptoRow, standIns := [], harness := (true, "4a0ee9522534c2d428c9830cfbd97c6c1925e58f526ebf18fccfdf95455ecf2d"), looks := true }, kinds := [], alts := [], goes := true, laidByText := true, laidKinds := [.data, .sentinel, .sentinel], laidTests := true, laidLooks := .later }
def RolledUptoCardSaid : Prop := Claim7.holds Tryz.pinned (.plain (OpenSpec.upto rolledSpec)) rolledUptoCard
end Rows
end Go.Proofs.YtjnbhiamaabbgaaGreatDoor
