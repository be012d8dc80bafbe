/-
  DERIVED. GIVEN WITH THE SEED: THE CARDS: each row of YtjnbhiamaabbgaaDoorRows.lean that lists a variable, with what it lists TIED to the program's text (the seventh form; the later family's looks); each row that meets fmt, with fmt's text TOLD by the authors' own Lean function (tested against real Go, not proved from fmt's source: count such statements apart). THE CARD IS WHAT COUNTS. Prove the row's statement (the work); the ties are given (YtjnbhiamaabbgaaDoorTie.lean); close each card by the builder's one call (the guide's Derived/Test/ToyasCard.lean, 'card_holds'). Laid BY PROGRAM, IN A SANDBOX (cutbox-door.mjs). By AI agents, Wed Nov 11 2026. No macro, syntax, notation, axiom, sorry.
-/
import Derived.Test.YtjnbhiamaabbgaaDoorRows
import GoSem.ClaimSeven
namespace Go.Proofs.YtjnbhiamaabbgaaDoor
namespace Rows

/-- THE TIED CARD OF 'cofferlaw.Hashes'. -/
def hashesCard : Claim7 := { stood := { row := hashesRow, standIns := [], harness := (true, "3b611f437075aac9e8a28a423e03c68af831f7f572c0aafb7437fe981280ad56"), looks := false }, kinds := [], alts := [], laidByText := true, laidKinds := [.data, .data], laidTests := true, laidLooks := .later }
def HashesCardSaid : Prop := Claim7.holds Tryd.pinned (.plain (OpenSpec.ofChange hashesSpec)) hashesCard

/-- THE TIED CARD OF 'cofferkeep.Macs'. -/
def macsCard : Claim7 := { stood := { row := macsRow, standIns := [], harness := (true, "3b611f437075aac9e8a28a423e03c68af831f7f572c0aafb7437fe981280ad56"), looks := false }, kinds := [], alts := [], laidByText := true, laidKinds := [.data], laidTests := true, laidLooks := .later }
def MacsCardSaid : Prop := Claim7.holds Tryd.pinned (.plain (OpenSpec.ofChange macsSpec)) macsCard

/-- THE TIED CARD OF 'cofferkeep.Derived'. -/
def derivedCard : Claim7 := { stood := { row := derivedRow, standIns := [], harness := (true, "3b611f437075aac9e8a28a423e03c68af831f7f572c0aafb7437fe981280ad56"), looks := false }, kinds := [], alts := [], laidByText := true, laidKinds := [.data], laidTests := true, laidLooks := .later }
def DerivedCardSaid : Prop := Claim7.holds Tryd.pinned (.plain (OpenSpec.ofChange derivedSpec)) derivedCard

/-- THE TIED CARD OF 'cofferkeep.Rooted'. -/
def rootedCard : Claim7 := { stood := { row := rootedRow, standIns := [], harness := (true, "3b611f437075aac9e8a28a423e03c68af831f7f572c0aafb7437fe981280ad56"), looks := false }, kinds := [], alts := [], laidByText := true, laidKinds := [.data], laidTests := true, laidLooks := .later }
def RootedCardSaid : Prop := Claim7.holds Tryd.pinned (.plain (OpenSpec.ofChange rootedSpec)) rootedCard

/-- THE TIED CARD OF 'cofferlaw.Ciphers'. -/
def ciphersCard : Claim7 := { stood := { row := ciphersRow, standIns := [], harness := (true, "3b611f437075aac9e8a28a423e03c68af831f7f572c0aafb7437fe981280ad56"), looks := false }, kinds := [], alts := [], laidByText := true, laidKinds := [.data, .data], laidTests := true, laidLooks := .later }
def CiphersCardSaid : Prop := Claim7.holds Tryd.pinned (.plain (OpenSpec.ofChange ciphersSpec)) ciphersCard

/-- THE TIED CARD OF 'cofferkeep.Vectors'. -/
def vectorsCard : Claim7 := { stood := { row := vectorsRow, standIns := [], harness := (true, "3b611f437075aac9e8a28a423e03c68af831f7f572c0aafb7437fe981280ad56"), looks := false }, kinds := [], alts := [], laidByText := true, laidKinds := [.data], laidTests := true, laidLooks := .later }
def VectorsCardSaid : Prop := Claim7.holds Tryd.pinned (.plain (OpenSpec.ofChange vectorsSpec)) vectorsCard

/-- THE SECOND FORM's CARD OF 'cofferlaw.Hashes'. -/
def hashesUptoCard : Claim7 := { stood := { row := hashesUptoRow, standIns := [], harness := (true, "3b611f437075aac9e8a28a423e03c68af831f7f572c0aafb7437fe981280ad56"), looks := false }, kinds := [], alts := [], laidByText := true, laidKinds := [.data, .data], laidTests := true, laidLooks := .later }
def HashesUptoCardSaid : Prop := Claim7.holds Tryd.pinned (.plain (OpenSpec.upto hashesSpec)) hashesUptoCard

/-- THE SECOND FORM's CARD OF 'cofferkeep.Macs'. -/
def macsUptoCard : Claim7 := { stood := { row := macsUptoRow, standIns := [], harness := (true, "3b611f437075aac9e8a28a423e03c68af831f7f572c0aafb7437fe981280ad56"), looks := false }, kinds := [], alts := [], laidByText := true, laidKinds := [.data], laidTests := true, laidLooks := .later }
def MacsUptoCardSaid : Prop := Claim7.holds Tryd.pinned (.plain (OpenSpec.upto macsSpec)) macsUptoCard

/-- THE SECOND FORM's CARD OF 'cofferkeep.Derived'. -/
def derivedUptoCard : Claim7 := { stood := { row := derivedUptoRow, standIns := [], harness := (true, "3b611f437075aac9e8a28a423e03c68af831f7f572c0aafb7437fe981280ad56"), looks := false }, kinds := [], alts := [], laidByText := true, laidKinds := [.data], laidTests := true, laidLooks := .later }
def DerivedUptoCardSaid : Prop := Claim7.holds Tryd.pinned (.plain (OpenSpec.upto derivedSpec)) derivedUptoCard

/-- THE SECOND FORM's CARD OF 'cofferkeep.Rooted'. -/
def rootedUptoCard : Claim7 := { stood := { row := rootedUptoRow, standIns := [], harness := (true, "3b611f437075aac9e8a28a423e03c68af831f7f572c0aafb7437fe981280ad56"), looks := false }, kinds := [], alts := [], laidByText := true, laidKinds := [.data], laidTests := true, laidLooks := .later }
def RootedUptoCardSaid : Prop := Claim7.holds Tryd.pinned (.plain (OpenSpec.upto rootedSpec)) rootedUptoCard

/-- THE SECOND FORM's CARD OF 'cofferlaw.Ciphers'. -/
def ciphersUptoCard : Claim7 := { stood := { row := ciphersUptoRow, standIns := [], harness := (true, "3b611f437075aac9e8a28a423e03c68af831f7f572c0aafb7437fe981280ad56"), looks := false }, kinds := [], alts := [], laidByText := true, laidKinds := [.data, .data], laidTests := true, laidLooks := .later }
def CiphersUptoCardSaid : Prop := Claim7.holds Tryd.pinned (.plain (OpenSpec.upto ciphersSpec)) ciphersUptoCard

/-- THE SECOND FORM's CARD OF 'cofferkeep.Vectors'. -/
def vectorsUptoCard : Claim7 := { stood := { row := vectorsUptoRow, standIns := [], harness := (true, "3b611f437075aac9e8a28a423e03c68af831f7f572c0aafb7437fe981280ad56"), looks := false }, kinds := [], alts := [], laidByText := true, laidKinds := [.data], laidTests := true, laidLooks := .later }
def VectorsUptoCardSaid : Prop := Claim7.holds Tryd.pinned (.plain (OpenSpec.upto vectorsSpec)) vectorsUptoCard
end Rows
end Go.Proofs.YtjnbhiamaabbgaaDoor
