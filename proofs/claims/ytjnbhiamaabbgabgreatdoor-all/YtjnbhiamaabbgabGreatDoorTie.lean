/-
  DERIVED. GIVEN WITH THE SEED: THE PROGRAM's TIES (one call each: nine closed facts by the kernel) AND EACH ROW's TIE, after the 31st guide's Derived/Test/Toyas{Tie, Card}.lean. No idea stands in it: it is a product of the set-up. Laid BY PROGRAM, IN A SANDBOX (cutbox-door.mjs). By AI agents, Wed Nov 11 2026. No macro, syntax, notation, axiom, sorry.
-/
import Derived.Test.YtjnbhiamaabbgabGreatDoorRows
import Derived.LaidByTextLater
import Derived.SevenTiedAt
import Derived.LaidSub
import Derived.LaidOnce
namespace Go.Proofs.YtjnbhiamaabbgabGreatDoor
open Go
set_option maxRecDepth 100000
theorem seatTie1 : Tryz.prog.laidByTextLater [("coffer/cofferref.roots", Rows.laid_coffer_cofferref_roots), ("coffer/prim.roundWords", Rows.laid_coffer_prim_roundWords), ("coffer/disk.ErrCrashed", Rows.laid_coffer_disk_ErrCrashed), ("coffer/coffer.errTampered", Rows.laid_coffer_coffer_errTampered)] [.data, .data, .sentinel, .sentinel] true :=
  Program.laidByTextLater_by_one 57 8 65 (by kernel_rfl) (by kernel_rfl) (by kernel_rfl) (by kernel_rfl) (by kernel_rfl) (by kernel_rfl) (fun _ _ => by kernel_rfl)
theorem noOwnUnsafe : Tryz.pinned.checked.prog.headLifts.contains "ownunsafe" = false := by kernel_rfl
theorem tie : Tryz.prog.laidByTextLater [("coffer/prim.roundWords", Rows.laid_coffer_prim_roundWords), ("coffer/disk.ErrCrashed", Rows.laid_coffer_disk_ErrCrashed), ("coffer/coffer.errTampered", Rows.laid_coffer_coffer_errTampered)] [.data, .sentinel, .sentinel] true :=
  Program.laidByTextLater.sub seatTie1 ["coffer/prim.roundWords", "coffer/disk.ErrCrashed", "coffer/coffer.errTampered"] (by kernel_rfl) (by kernel_rfl)
theorem clipped_row_tie : Rows.clippedRow.laidByTextAt .later Tryz.pinned [.data, .sentinel, .sentinel] true :=
  OpenClaim.laidByTextAt_later rfl rfl tie noOwnUnsafe
theorem strange_row_tie : Rows.strangeRow.laidByTextAt .later Tryz.pinned [.data, .sentinel, .sentinel] true :=
  OpenClaim.laidByTextAt_later rfl rfl tie noOwnUnsafe
theorem compact_row_tie : Rows.compactRow.laidByTextAt .later Tryz.pinned [.data, .sentinel, .sentinel] true :=
  OpenClaim.laidByTextAt_later rfl rfl tie noOwnUnsafe
theorem shaped_row_tie : Rows.shapedRow.laidByTextAt .later Tryz.pinned [.data, .sentinel, .sentinel] true :=
  OpenClaim.laidByTextAt_later rfl rfl tie noOwnUnsafe
theorem unrepeated_row_tie : Rows.unrepeatedRow.laidByTextAt .later Tryz.pinned [.data, .sentinel, .sentinel] true :=
  OpenClaim.laidByTextAt_later rfl rfl tie noOwnUnsafe
theorem tie2 : Tryz.prog.laidByTextLater [("coffer/cofferref.roots", Rows.laid_coffer_cofferref_roots), ("coffer/prim.roundWords", Rows.laid_coffer_prim_roundWords), ("coffer/disk.ErrCrashed", Rows.laid_coffer_disk_ErrCrashed), ("coffer/coffer.errTampered", Rows.laid_coffer_coffer_errTampered)] [.data, .data, .sentinel, .sentinel] true :=
  Program.laidByTextLater.sub seatTie1 ["coffer/cofferref.roots", "coffer/prim.roundWords", "coffer/disk.ErrCrashed", "coffer/coffer.errTampered"] (by kernel_rfl) (by kernel_rfl)
theorem all_row_tie : Rows.allRow.laidByTextAt .later Tryz.pinned [.data, .data, .sentinel, .sentinel] true :=
  OpenClaim.laidByTextAt_later rfl rfl tie2 noOwnUnsafe
theorem clippedUpto_row_tie : Rows.clippedUptoRow.laidByTextAt .later Tryz.pinned [.data, .sentinel, .sentinel] true :=
  OpenClaim.laidByTextAt_later rfl rfl tie noOwnUnsafe
theorem strangeUpto_row_tie : Rows.strangeUptoRow.laidByTextAt .later Tryz.pinned [.data, .sentinel, .sentinel] true :=
  OpenClaim.laidByTextAt_later rfl rfl tie noOwnUnsafe
theorem compactUpto_row_tie : Rows.compactUptoRow.laidByTextAt .later Tryz.pinned [.data, .sentinel, .sentinel] true :=
  OpenClaim.laidByTextAt_later rfl rfl tie noOwnUnsafe
theorem shapedUpto_row_tie : Rows.shapedUptoRow.laidByTextAt .later Tryz.pinned [.data, .sentinel, .sentinel] true :=
  OpenClaim.laidByTextAt_later rfl rfl tie noOwnUnsafe
theorem unrepeatedUpto_row_tie : Rows.unrepeatedUptoRow.laidByTextAt .later Tryz.pinned [.data, .sentinel, .sentinel] true :=
  OpenClaim.laidByTextAt_later rfl rfl tie noOwnUnsafe
theorem allUpto_row_tie : Rows.allUptoRow.laidByTextAt .later Tryz.pinned [.data, .data, .sentinel, .sentinel] true :=
  OpenClaim.laidByTextAt_later rfl rfl tie2 noOwnUnsafe
end Go.Proofs.YtjnbhiamaabbgabGreatDoor
