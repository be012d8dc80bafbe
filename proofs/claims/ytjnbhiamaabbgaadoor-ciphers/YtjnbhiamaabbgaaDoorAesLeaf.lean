/-
  prim's double, third and rotl over bytes.
-/
import Derived.Test.YtjnbhiamaabbgaaDoorAes
namespace Go.Proofs.YtjnbhiamaabbgaaDoor
open Go.RowKit
attribute [local go_sem] e8_xor e8_xor27 e8_xor9 e8_shl1 e8_shl2 e8_shl3 e8_shl4
theorem double_any (x : UInt8) (w : World) : Calls Tryd.prog 51 #[.int .u8 (e8 x)] w fun en w' => en = .returned (.int .u8 (e8 (dbl x))) ∧ w' = w := by
  by_cases h : (128 : Int) ≤ e8 x
  · rw [dbl_hi x h]
    go_enter Tryd.func51, Tryd.ntmps51
    go_wp2
    go_ret
    exact ⟨rfl, rfl⟩
  · rw [dbl_lo x h]
    go_enter Tryd.func51, Tryd.ntmps51
    go_wp2
    go_ret
    exact ⟨rfl, rfl⟩
theorem third_any (x : UInt8) (w : World) : Calls Tryd.prog 66 #[.int .u8 (e8 x)] w fun en w' => en = .returned (.int .u8 (e8 (thd x))) ∧ w' = w := by
  by_cases h : (128 : Int) ≤ e8 (th3 x)
  · have e : thd x = th3 x ^^^ 9 := by unfold thd; rw [if_pos (by simp only [e8] at h; omega)]
    rw [e]
    unfold th3 th2 th1 at *
    go_enter Tryd.func66, Tryd.ntmps66
    go_wp2
    go_ret
    exact ⟨rfl, rfl⟩
  · have e : thd x = th3 x := by unfold thd; rw [if_neg (by simp only [e8] at h; omega)]
    rw [e]
    unfold th3 th2 th1 at *
    go_enter Tryd.func66, Tryd.ntmps66
    go_wp2
    go_ret
    exact ⟨rfl, rfl⟩
theorem and7_1 : bits .and .u64 1 7 = 1 := by decide +kernel
theorem rotl_1 (x : UInt8) (w : World) : Calls Tryd.prog 65 #[.int .u8 (e8 x), .int .i64 1] w fun en w' => en = .returned (.int .u8 (e8 (rot x 1))) ∧ w' = w := by
  have h7 := and7_1
  go_enter Tryd.func65, Tryd.ntmps65
  go_wp2
  go_ret
  exact ⟨by show Ending.returned (.int .u8 (bits .or .u8 (e8 (x <<< 1)) (e8 x / 128))) = _; rw [e8_shr7, e8_or]; rfl, rfl⟩
theorem and7_2 : bits .and .u64 2 7 = 2 := by decide +kernel
theorem rotl_2 (x : UInt8) (w : World) : Calls Tryd.prog 65 #[.int .u8 (e8 x), .int .i64 2] w fun en w' => en = .returned (.int .u8 (e8 (rot x 2))) ∧ w' = w := by
  have h7 := and7_2
  go_enter Tryd.func65, Tryd.ntmps65
  go_wp2
  go_ret
  exact ⟨by show Ending.returned (.int .u8 (bits .or .u8 (e8 (x <<< 2)) (e8 x / 64))) = _; rw [e8_shr6, e8_or]; rfl, rfl⟩
theorem and7_3 : bits .and .u64 3 7 = 3 := by decide +kernel
theorem rotl_3 (x : UInt8) (w : World) : Calls Tryd.prog 65 #[.int .u8 (e8 x), .int .i64 3] w fun en w' => en = .returned (.int .u8 (e8 (rot x 3))) ∧ w' = w := by
  have h7 := and7_3
  go_enter Tryd.func65, Tryd.ntmps65
  go_wp2
  go_ret
  exact ⟨by show Ending.returned (.int .u8 (bits .or .u8 (e8 (x <<< 3)) (e8 x / 32))) = _; rw [e8_shr5, e8_or]; rfl, rfl⟩
theorem and7_4 : bits .and .u64 4 7 = 4 := by decide +kernel
theorem rotl_4 (x : UInt8) (w : World) : Calls Tryd.prog 65 #[.int .u8 (e8 x), .int .i64 4] w fun en w' => en = .returned (.int .u8 (e8 (rot x 4))) ∧ w' = w := by
  have h7 := and7_4
  go_enter Tryd.func65, Tryd.ntmps65
  go_wp2
  go_ret
  exact ⟨by show Ending.returned (.int .u8 (bits .or .u8 (e8 (x <<< 4)) (e8 x / 16))) = _; rw [e8_shr4, e8_or]; rfl, rfl⟩
end Go.Proofs.YtjnbhiamaabbgaaDoor
