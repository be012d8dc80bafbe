/- Proved: the tied card of cofferlaw.All, in its form with a bound (what is read is of bulk at most 1048576): for every list of calls of prim and every script of steps of stores the call of All returns true and leaves its arguments as they were: every answer of prim, of the program's stores, every image of their disks behind each step, is the document's own (package cofferref).
   Conditions: the bound, and none beyond the card's own (the commit in COMMIT; the package-level variables as the tie lays them; the worlds that the row's form takes in). The goroutine that readLog starts is walked beside the caller in every order.
   The texts M0 .. are the proof, shortened by a program (short names, blanks left out; scripts that stand often are defaults of a hypothesis). -/
import Derived.Test.YtjnbhiamaabbgabGreatDoorM11
namespace Go.Proofs.YtjnbhiamaabbgabGreatDoor
theorem all : Rows.AllUptoCardSaid := P.card
end Go.Proofs.YtjnbhiamaabbgabGreatDoor
