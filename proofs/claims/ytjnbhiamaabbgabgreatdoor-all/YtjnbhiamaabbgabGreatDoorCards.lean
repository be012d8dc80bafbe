/-
  DERIVED. GIVEN WITH THE SEED: THE CARDS: each row of YtjnbhiamaabbgabGreatDoorRows.lean that lists a variable, with what it lists TIED to the program's text (the seventh form; the later family's looks); each row that meets fmt, with fmt's text TOLD by the authors' own Lean function (tested against real Go, not proved from fmt's source: count such statements apart). THE CARD IS WHAT COUNTS. Prove the row's statement (the work); the ties are given (YtjnbhiamaabbgabGreatDoorTie.lean); close each card by the builder's one call (the guide's Derived/Test/ToyasCard.lean, 'card_holds'). Laid BY PROGRAM, IN A SANDBOX (cutbox-door.mjs). By AI agents, Wed Nov 11 2026. No macro, syntax, notation, axiom, sorry.
-/
import Derived.Test.YtjnbhiamaabbgabGreatDoorRows
import GoSem.ClaimSeven
namespace Go.Proofs.YtjnbhiamaabbgabGreatDoor
namespace Rows

/-- THE TIED CARD OF 'cofferkeep.Clipped'. -/
def clippedCard : Claim7 := { stood := { row := clippedRow, standIns := [], harness := (true, "6112a70bf7700c9ef082f368a9341514db7d80b00d6c93fffd8a755e3258b503"), looks := true }, kinds := [], alts := [], goes := true, laidByText := true, laidKinds := [.data, .sentinel, .sentinel], laidTests := true, laidLooks := .later }
def ClippedCardSaid : Prop := Claim7.holds Tryz.pinned (.plain (OpenSpec.ofChange clippedSpec)) clippedCard

/-- THE TIED CARD OF 'cofferkeep.Strange'. -/
def strangeCard : Claim7 := { stood := { row := strangeRow, standIns := [], harness := (true, "6112a70bf7700c9ef082f368a9341514db7d80b00d6c93fffd8a755e3258b503"), looks := true }, kinds := [], alts := [], goes := true, laidByText := true, laidKinds := [.data, .sentinel, .sentinel], laidTests := true, laidLooks := .later }
def StrangeCardSaid : Prop := Claim7.holds Tryz.pinned (.plain (OpenSpec.ofChange strangeSpec)) strangeCard

/-- THE TIED CARD OF 'cofferkeep.Compact'. -/
def compactCard : Claim7 := { stood := { row := compactRow, standIns := [], harness := (true, "6112a70bf7700c9ef082f368a9341514db7d80b00d6c93fffd8a755e3258b503"), looks := true }, kinds := [], alts := [], goes := true, laidByText := true, laidKinds := [.data, .sentinel, .sentinel], laidTests := true, laidLooks := .later }
def CompactCardSaid : Prop := Claim7.holds Tryz.pinned (.plain (OpenSpec.ofChange compactSpec)) compactCard

/-- THE TIED CARD OF 'cofferkeep.Shaped'. -/
def shapedCard : Claim7 := { stood := { row := shapedRow, standIns := [], harness := (true, "6112a70bf7700c9ef082f368a9341514db7d80b00d6c93fffd8a755e3258b503"), looks := true }, kinds := [], alts := [], goes := true, laidByText := true, laidKinds := [.data, .sentinel, .sentinel], laidTests := true, laidLooks := .later }
def ShapedCardSaid : Prop := Claim7.holds Tryz.pinned (.plain (OpenSpec.ofChange shapedSpec)) shapedCard

/-- THE TIED CARD OF 'cofferkeep.Unrepeated'. -/
def unrepeatedCard : Claim7 := { stood := { row := unrepeatedRow, standIns := [], harness := (true, "6112a70bf7700c9ef082f368a9341514db7d80b00d6c93fffd8a755e3258b503"), looks := true }, kinds := [], alts := [], goes := true, laidByText := true, laidKinds := [.data, .sentinel, .sentinel], laidTests := true, laidLooks := .later }
def UnrepeatedCardSaid : Prop := Claim7.holds Tryz.pinned (.plain (OpenSpec.ofChange unrepeatedSpec)) unrepeatedCard

/-- THE TIED CARD OF 'cofferlaw.All'. -/
def allCard : Claim7 := { stood := { row := allRow, standIns := [], harness := (true, "6112a70bf7700c9ef082f368a9341514db7d80b00d6c93fffd8a755e3258b503"), looks := true }, kinds := [], alts := [], goes := true, laidByText := true, laidKinds := [.data, .data, .sentinel, .sentinel], laidTests := true, laidLooks := .later }
def AllCardSaid : Prop := Claim7.holds Tryz.pinned (.plain (OpenSpec.ofChange allSpec)) allCard

/-- THE SECOND FORM's CARD OF 'cofferkeep.Clipped'. -/
def clippedUptoCard : Claim7 := { stood := { row := clippedUptoRow, standIns := [], harness := (true, "6112a70bf7700c9ef082f368a9341514db7d80b00d6c93fffd8a755e3258b503"), looks := true }, kinds := [], alts := [], goes := true, laidByText := true, laidKinds := [.data, .sentinel, .sentinel], laidTests := true, laidLooks := .later }
def ClippedUptoCardSaid : Prop := Claim7.holds Tryz.pinned (.plain (OpenSpec.upto clippedSpec)) clippedUptoCard

/-- THE SECOND FORM's CARD OF 'cofferkeep.Strange'. -/
def strangeUptoCard : Claim7 := { stood := { row := strangeUptoRow, standIns := [], harness := (true, "6112a70bf7700c9ef082f368a9341514db7d80b00d6c93fffd8a755e3258b503"), looks := true }, kinds := [], alts := [], goes := true, laidByText := true, laidKinds := [.data, .sentinel, .sentinel], laidTests := true, laidLooks := .later }
def StrangeUptoCardSaid : Prop := Claim7.holds Tryz.pinned (.plain (OpenSpec.upto strangeSpec)) strangeUptoCard

/-- THE SECOND FORM's CARD OF 'cofferkeep.Compact'. -/
def compactUptoCard : Claim7 := { stood := { row := compactUptoRow, standIns := [], harness := (true, "6112a70bf7700c9ef082f368a9341514db7d80b00d6c93fffd8a755e3258b503"), looks := true }, kinds := [], alts := [], goes := true, laidByText := true, laidKinds := [.data, .sentinel, .sentinel], laidTests := true, laidLooks := .later }
def CompactUptoCardSaid : Prop := Claim7.holds Tryz.pinned (.plain (OpenSpec.upto compactSpec)) compactUptoCard

/-- THE SECOND FORM's CARD OF 'cofferkeep.Shaped'. -/
def shapedUptoCard : Claim7 := { stood := { row := shapedUptoRow, standIns := [], harness := (true, "6112a70bf7700c9ef082f368a9341514db7d80b00d6c93fffd8a755e3258b503"), looks := true }, kinds := [], alts := [], goes := true, laidByText := true, laidKinds := [.data, .sentinel, .sentinel], laidTests := true, laidLooks := .later }
def ShapedUptoCardSaid : Prop := Claim7.holds Tryz.pinned (.plain (OpenSpec.upto shapedSpec)) shapedUptoCard

/-- THE SECOND FORM's CARD OF 'cofferkeep.Unrepeated'. -/
def unrepeatedUptoCard : Claim7 := { stood := { row := unrepeatedUptoRow, standIns := [], harness := (true, "6112a70bf7700c9ef082f368a9341514db7d80b00d6c93fffd8a755e3258b503"), looks := true }, kinds := [], alts := [], goes := true, laidByText := true, laidKinds := [.data, .sentinel, .sentinel], laidTests := true, laidLooks := .later }
def UnrepeatedUptoCardSaid : Prop := Claim7.holds Tryz.pinned (.plain (OpenSpec.upto unrepeatedSpec)) unrepeatedUptoCard

/-- THE SECOND FORM's CARD OF 'cofferlaw.All'. -/
def allUptoCard : Claim7 := { stood := { row := allUptoRow, standIns := [], harness := (true, "6112a70bf7700c9ef082f368a9341514db7d80b00d6c93fffd8a755e3258b503"), looks := true }, kinds := [], alts := [], goes := true, laidByText := true, laidKinds := [.data, .data, .sentinel, .sentinel], laidTests := true, laidLooks := .later }
def AllUptoCardSaid : Prop := Claim7.holds Tryz.pinned (.plain (OpenSpec.upto allSpec)) allUptoCard
end Rows
end Go.Proofs.YtjnbhiamaabbgabGreatDoor
