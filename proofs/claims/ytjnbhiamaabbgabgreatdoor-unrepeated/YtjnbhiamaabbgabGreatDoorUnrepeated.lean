/- Proved: the tied card of cofferkeep.Unrepeated: for every master key, every segment size and every list of acts the call of Unrepeated returns true and leaves its arguments as they were: no two records that are ever seen on the disk, crashes and openings between them, have the same nonce and differ.
   Conditions: none beyond the card's own (COMMIT; the variables as the tie lays them; the worlds of the row's form).
   M0 to M7 are the proof, shortened by a program. -/
import Derived.Test.YtjnbhiamaabbgabGreatDoorM7
namespace Go.Proofs.YtjnbhiamaabbgabGreatDoor
theorem unrepeated : Rows.UnrepeatedCardSaid := P.card
end Go.Proofs.YtjnbhiamaabbgabGreatDoor
