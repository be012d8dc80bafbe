/-
  The small functions of package prim on words (choose, majority, the four sigmas): each returns what our own does and leaves memory as it was.
-/
import Derived.Test.YtjnbhiamaabbgaaDoorRows
import Derived.Test.YtjnbhiamaabbgaaDoorWords
import Derived.WalkKit
import Derived.WalkSpells
import Derived.WalkLawsBesides
namespace Go.Proofs.YtjnbhiamaabbgaaDoor
open Go.RowKit
attribute [local go_sem] u_xor u_and u_or u_add u_not
attribute [local go_sem] u_shl30 back2 u_shl19 back13 u_shl10 back22 u_shl26 back6 u_shl21 back11 u_shl7 back25 u_shl25 back7 u_shl14 back18 u_shl15 back17 u_shl13 back19

theorem choose_any (x y z : BitVec 32) (w : World) : Calls Tryd.prog 68 #[.int .u32 (u x), .int .u32 (u y), .int .u32 (u z)] w fun e w' => e = .returned (.int .u32 (u (ch x y z))) ∧ w' = w := by
  go_enter Tryd.func68, Tryd.ntmps68
  go_wp2
  all_goals go_ret
  all_goals exact ⟨rfl, rfl⟩
theorem maj_any (x y z : BitVec 32) (w : World) : Calls Tryd.prog 70 #[.int .u32 (u x), .int .u32 (u y), .int .u32 (u z)] w fun e w' => e = .returned (.int .u32 (u (maj x y z))) ∧ w' = w := by
  go_enter Tryd.func70, Tryd.ntmps70
  go_wp2
  all_goals go_ret
  all_goals exact ⟨rfl, rfl⟩
theorem rotr2 (x : BitVec 32) (w : World) : Calls Tryd.prog 71 #[.int .u32 (u x), .int .i64 2] w fun e w' => e = .returned (.int .u32 (u (rr x 2))) ∧ w' = w := by
  go_enter Tryd.func71, Tryd.ntmps71
  go_wp2
  all_goals go_ret
  all_goals refine ⟨?_, rfl⟩
  all_goals show Ending.returned (.int .u32 (bits .or .u32 (u (x <<< 30)) (u x / 4))) = _
  all_goals rw [u_shr2, u_or, rr_l2]
theorem rotr13 (x : BitVec 32) (w : World) : Calls Tryd.prog 71 #[.int .u32 (u x), .int .i64 13] w fun e w' => e = .returned (.int .u32 (u (rr x 13))) ∧ w' = w := by
  go_enter Tryd.func71, Tryd.ntmps71
  go_wp2
  all_goals go_ret
  all_goals refine ⟨?_, rfl⟩
  all_goals show Ending.returned (.int .u32 (bits .or .u32 (u (x <<< 19)) (u x / 8192))) = _
  all_goals rw [u_shr13, u_or, rr_l13]
theorem rotr22 (x : BitVec 32) (w : World) : Calls Tryd.prog 71 #[.int .u32 (u x), .int .i64 22] w fun e w' => e = .returned (.int .u32 (u (rr x 22))) ∧ w' = w := by
  go_enter Tryd.func71, Tryd.ntmps71
  go_wp2
  all_goals go_ret
  all_goals refine ⟨?_, rfl⟩
  all_goals show Ending.returned (.int .u32 (bits .or .u32 (u (x <<< 10)) (u x / 4194304))) = _
  all_goals rw [u_shr22, u_or, rr_l22]
theorem rotr6 (x : BitVec 32) (w : World) : Calls Tryd.prog 71 #[.int .u32 (u x), .int .i64 6] w fun e w' => e = .returned (.int .u32 (u (rr x 6))) ∧ w' = w := by
  go_enter Tryd.func71, Tryd.ntmps71
  go_wp2
  all_goals go_ret
  all_goals refine ⟨?_, rfl⟩
  all_goals show Ending.returned (.int .u32 (bits .or .u32 (u (x <<< 26)) (u x / 64))) = _
  all_goals rw [u_shr6, u_or, rr_l6]
theorem rotr11 (x : BitVec 32) (w : World) : Calls Tryd.prog 71 #[.int .u32 (u x), .int .i64 11] w fun e w' => e = .returned (.int .u32 (u (rr x 11))) ∧ w' = w := by
  go_enter Tryd.func71, Tryd.ntmps71
  go_wp2
  all_goals go_ret
  all_goals refine ⟨?_, rfl⟩
  all_goals show Ending.returned (.int .u32 (bits .or .u32 (u (x <<< 21)) (u x / 2048))) = _
  all_goals rw [u_shr11, u_or, rr_l11]
theorem rotr25 (x : BitVec 32) (w : World) : Calls Tryd.prog 71 #[.int .u32 (u x), .int .i64 25] w fun e w' => e = .returned (.int .u32 (u (rr x 25))) ∧ w' = w := by
  go_enter Tryd.func71, Tryd.ntmps71
  go_wp2
  all_goals go_ret
  all_goals refine ⟨?_, rfl⟩
  all_goals show Ending.returned (.int .u32 (bits .or .u32 (u (x <<< 7)) (u x / 33554432))) = _
  all_goals rw [u_shr25, u_or, rr_l25]
theorem rotr7 (x : BitVec 32) (w : World) : Calls Tryd.prog 71 #[.int .u32 (u x), .int .i64 7] w fun e w' => e = .returned (.int .u32 (u (rr x 7))) ∧ w' = w := by
  go_enter Tryd.func71, Tryd.ntmps71
  go_wp2
  all_goals go_ret
  all_goals refine ⟨?_, rfl⟩
  all_goals show Ending.returned (.int .u32 (bits .or .u32 (u (x <<< 25)) (u x / 128))) = _
  all_goals rw [u_shr7, u_or, rr_l7]
theorem rotr18 (x : BitVec 32) (w : World) : Calls Tryd.prog 71 #[.int .u32 (u x), .int .i64 18] w fun e w' => e = .returned (.int .u32 (u (rr x 18))) ∧ w' = w := by
  go_enter Tryd.func71, Tryd.ntmps71
  go_wp2
  all_goals go_ret
  all_goals refine ⟨?_, rfl⟩
  all_goals show Ending.returned (.int .u32 (bits .or .u32 (u (x <<< 14)) (u x / 262144))) = _
  all_goals rw [u_shr18, u_or, rr_l18]
theorem rotr17 (x : BitVec 32) (w : World) : Calls Tryd.prog 71 #[.int .u32 (u x), .int .i64 17] w fun e w' => e = .returned (.int .u32 (u (rr x 17))) ∧ w' = w := by
  go_enter Tryd.func71, Tryd.ntmps71
  go_wp2
  all_goals go_ret
  all_goals refine ⟨?_, rfl⟩
  all_goals show Ending.returned (.int .u32 (bits .or .u32 (u (x <<< 15)) (u x / 131072))) = _
  all_goals rw [u_shr17, u_or, rr_l17]
theorem rotr19 (x : BitVec 32) (w : World) : Calls Tryd.prog 71 #[.int .u32 (u x), .int .i64 19] w fun e w' => e = .returned (.int .u32 (u (rr x 19))) ∧ w' = w := by
  go_enter Tryd.func71, Tryd.ntmps71
  go_wp2
  all_goals go_ret
  all_goals refine ⟨?_, rfl⟩
  all_goals show Ending.returned (.int .u32 (bits .or .u32 (u (x <<< 13)) (u x / 524288))) = _
  all_goals rw [u_shr19, u_or, rr_l19]
theorem bS0_any (x : BitVec 32) (w : World) : Calls Tryd.prog 69 #[.int .u32 (u x)] w fun e w' => e = .returned (.int .u32 (u (bS0 x))) ∧ w' = w := by
  go_enter Tryd.func69, Tryd.ntmps69
  go_wp2_with fail
  refine (rotr2 x _).mono ?_; rintro e w' ⟨rfl, rfl⟩
  go_wp2_with fail
  refine (rotr13 x _).mono ?_; rintro e w' ⟨rfl, rfl⟩
  go_wp2_with fail
  refine (rotr22 x _).mono ?_; rintro e w' ⟨rfl, rfl⟩
  go_wp2_with fail
  all_goals go_ret
  all_goals exact ⟨rfl, rfl⟩
theorem bS1_any (x : BitVec 32) (w : World) : Calls Tryd.prog 67 #[.int .u32 (u x)] w fun e w' => e = .returned (.int .u32 (u (bS1 x))) ∧ w' = w := by
  go_enter Tryd.func67, Tryd.ntmps67
  go_wp2_with fail
  refine (rotr6 x _).mono ?_; rintro e w' ⟨rfl, rfl⟩
  go_wp2_with fail
  refine (rotr11 x _).mono ?_; rintro e w' ⟨rfl, rfl⟩
  go_wp2_with fail
  refine (rotr25 x _).mono ?_; rintro e w' ⟨rfl, rfl⟩
  go_wp2_with fail
  all_goals go_ret
  all_goals exact ⟨rfl, rfl⟩
theorem sS0_any (x : BitVec 32) (w : World) : Calls Tryd.prog 56 #[.int .u32 (u x)] w fun e w' => e = .returned (.int .u32 (u (sS0 x))) ∧ w' = w := by
  go_enter Tryd.func56, Tryd.ntmps56
  go_wp2_with fail
  refine (rotr7 x _).mono ?_; rintro e w' ⟨rfl, rfl⟩
  go_wp2_with fail
  refine (rotr18 x _).mono ?_; rintro e w' ⟨rfl, rfl⟩
  go_wp2_with fail
  all_goals go_ret
  all_goals refine ⟨?_, rfl⟩
  all_goals show Ending.returned (.int .u32 (bits .xor .u32 (u (rr x 7 ^^^ rr x 18)) (u x / 8))) = _
  all_goals rw [u_shr3, u_xor]
  all_goals rfl
theorem sS1_any (x : BitVec 32) (w : World) : Calls Tryd.prog 57 #[.int .u32 (u x)] w fun e w' => e = .returned (.int .u32 (u (sS1 x))) ∧ w' = w := by
  go_enter Tryd.func57, Tryd.ntmps57
  go_wp2_with fail
  refine (rotr17 x _).mono ?_; rintro e w' ⟨rfl, rfl⟩
  go_wp2_with fail
  refine (rotr19 x _).mono ?_; rintro e w' ⟨rfl, rfl⟩
  go_wp2_with fail
  all_goals go_ret
  all_goals refine ⟨?_, rfl⟩
  all_goals show Ending.returned (.int .u32 (bits .xor .u32 (u (rr x 17 ^^^ rr x 19)) (u x / 1024))) = _
  all_goals rw [u_shr10, u_xor]
  all_goals rfl
end Go.Proofs.YtjnbhiamaabbgaaDoor
