/- Proved: the tied card of cofferkeep.Crashed: for every master key, every segment size and every list of acts, the call of Crashed returns true and leaves its arguments as they were: a crash loses nothing that was acknowledged and halves nothing, whatever steps it comes ahead of and however much of the last bytes stays.
   Conditions: none beyond the card's own (the commit in COMMIT; the package-level variables as the tie lays them; the worlds that the row's form takes in). The goroutine that readLog starts is walked beside the caller in every order.
   The texts M0 .. M15 are the proof, shortened by a program (short names, blanks left out). -/
import Derived.Test.YtjnbhiamaabbgaaGreatDoorM15
namespace Go.Proofs.YtjnbhiamaabbgaaGreatDoor
theorem crashed : Rows.CrashedCardSaid := P.card
end Go.Proofs.YtjnbhiamaabbgaaGreatDoor
