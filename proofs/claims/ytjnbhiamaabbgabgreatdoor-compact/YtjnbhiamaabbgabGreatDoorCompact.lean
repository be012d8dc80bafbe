/- Proved: the tied card of cofferkeep.Compact: for every master key, every segment size and every list of acts, the call of Compact returns true and leaves its arguments as they were: behind a snapshot the disk has the manifest of 116 bytes and, if there are keys, the snapshot's file of just as many bytes as keys and values need, and nothing else; and the store opens again with all that it had.
   Conditions: none beyond the card's own (the commit in COMMIT; the package-level variables as the tie lays them; the worlds that the row's form takes in). The goroutine that readLog starts is walked beside the caller in every order.
   The texts M0 .. M14 are the proof, shortened by a program (short names, blanks left out). -/
import Derived.Test.YtjnbhiamaabbgabGreatDoorM14
namespace Go.Proofs.YtjnbhiamaabbgabGreatDoor
theorem compact : Rows.CompactCardSaid := P.card
end Go.Proofs.YtjnbhiamaabbgabGreatDoor
