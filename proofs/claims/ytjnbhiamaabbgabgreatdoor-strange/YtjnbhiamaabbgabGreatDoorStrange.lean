/- Proved: the tied card of cofferkeep.Strange: for every master key, every segment size, every list of acts and every list of numbers, the call of Strange returns true and leaves its arguments as they were: with files that are nobody's on the disk the store opens, has what it had, and they are gone.
   Conditions: none beyond the card's own (the commit in COMMIT; the package-level variables as the tie lays them; the worlds that the row's form takes in). The goroutine that readLog starts is walked beside the caller in every order.
   The texts M0 .. M14 are the proof, shortened by a program (short names, blanks left out). -/
import Derived.Test.YtjnbhiamaabbgabGreatDoorM14
namespace Go.Proofs.YtjnbhiamaabbgabGreatDoor
theorem strange : Rows.StrangeCardSaid := P.card
end Go.Proofs.YtjnbhiamaabbgabGreatDoor
