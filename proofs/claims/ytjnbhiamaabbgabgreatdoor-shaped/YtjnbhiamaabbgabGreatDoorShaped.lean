/- Proved: the tied card of cofferkeep.Shaped: for every two master keys, every segment size, every list of acts and every number, the call of Shaped returns true and leaves its arguments as they were: two stores with masters of their own, and other bytes in the place of each of the keys' and values', show the same files of the same lengths and the same count behind every act.
   Conditions: none beyond the card's own (the commit in COMMIT; the package-level variables as the tie lays them; the worlds that the row's form takes in). The goroutine that readLog starts is walked beside the caller in every order.
   The texts M0 .. M14 are the proof, shortened by a program (short names, blanks left out). -/
import Derived.Test.YtjnbhiamaabbgabGreatDoorM14
namespace Go.Proofs.YtjnbhiamaabbgabGreatDoor
theorem shaped : Rows.ShapedCardSaid := P.card
end Go.Proofs.YtjnbhiamaabbgabGreatDoor
