/- Proved: the tied card of cofferkeep.Clipped: for every master key, every segment size, every list of acts, every text and every number, the call of Clipped returns true and leaves its arguments as they were: of the disk of a store that acknowledged something last, with any number of bytes taken from the end of its last segment, Open says that somebody has been at it.
   Conditions: none beyond the card's own (the commit in COMMIT; the package-level variables as the tie lays them; the worlds that the row's form takes in). The goroutine that readLog starts is walked beside the caller in every order.
   The texts M0 .. M14 are the proof, shortened by a program (short names, blanks left out). -/
import Derived.Test.YtjnbhiamaabbgabGreatDoorM14
namespace Go.Proofs.YtjnbhiamaabbgabGreatDoor
theorem clipped : Rows.ClippedCardSaid := P.card
end Go.Proofs.YtjnbhiamaabbgabGreatDoor
