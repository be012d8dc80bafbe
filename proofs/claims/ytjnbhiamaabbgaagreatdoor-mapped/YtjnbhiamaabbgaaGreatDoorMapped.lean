/- Proved: the tied card of cofferkeep.Mapped: for every master key, every segment size and every list of acts, the call of Mapped returns true and leaves its arguments as they were: a store of this program, driven by the acts beside a plain map, answers as the map does, also when it is opened again.
   Conditions: none beyond the card's own (the commit in COMMIT; the package-level variables as the tie lays them; the worlds that the row's form takes in). The goroutine that readLog starts is walked beside the caller in every order.
   The texts M0 .. M50 are the proof, shortened by a program (short names, blanks left out). -/
import Derived.Test.YtjnbhiamaabbgaaGreatDoorM14
namespace Go.Proofs.YtjnbhiamaabbgaaGreatDoor
theorem mapped : Rows.MappedCardSaid := P.card
end Go.Proofs.YtjnbhiamaabbgaaGreatDoor
