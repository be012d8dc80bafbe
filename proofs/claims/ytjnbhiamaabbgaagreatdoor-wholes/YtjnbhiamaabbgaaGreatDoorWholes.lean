/- Proved: the tied card of cofferlaw.Wholes, in its form with a bound (what is read is of bulk at most 1048576): for every script of steps of stores the call of Wholes returns true and leaves its argument as it was: every answer of the program's stores, and every byte of their disks where a step asks for it, is the document's own (package cofferref).
   Conditions: the bound, and none beyond the card's own (the commit in COMMIT; the package-level variables as the tie lays them; the worlds that the row's form takes in). The goroutine that readLog starts is walked beside the caller in every order.
   The texts M0 .. are the proof, shortened by a program (short names, blanks left out; scripts that stand often are defaults of a hypothesis). -/
import Derived.Test.YtjnbhiamaabbgaaGreatDoorM14
namespace Go.Proofs.YtjnbhiamaabbgaaGreatDoor
theorem wholes : Rows.WholesUptoCardSaid := P.card
end Go.Proofs.YtjnbhiamaabbgaaGreatDoor
