/- Proved: the tied card of cofferkeep.Rolled: for every master key, every segment size, every list of acts and every text, the call of Rolled returns true and leaves its arguments as they were: with the disk of an earlier time, behind something more that was acknowledged, Open says that somebody has been at it; with the later disk the store opens and has it all.
   Conditions: none beyond the card's own (the commit in COMMIT; the package-level variables as the tie lays them; the worlds that the row's form takes in). The goroutine that readLog starts is walked beside the caller in every order.
   The texts M0 .. M14 are the proof, shortened by a program (short names, blanks left out). -/
import Derived.Test.YtjnbhiamaabbgaaGreatDoorM14
namespace Go.Proofs.YtjnbhiamaabbgaaGreatDoor
theorem rolled : Rows.RolledCardSaid := P.card
end Go.Proofs.YtjnbhiamaabbgaaGreatDoor
