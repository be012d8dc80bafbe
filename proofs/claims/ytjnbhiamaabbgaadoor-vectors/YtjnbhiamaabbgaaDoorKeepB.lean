/-
  cofferkeep's bytes.
-/
import Derived.Test.YtjnbhiamaabbgaaDoorKeep
namespace Go.Proofs.YtjnbhiamaabbgaaDoor
open Go.RowKit
attribute [local go_sem] st_size st_append
def byL (a n : Nat) : List UInt8 := (List.range n).map fun i => UInt8.ofNat (a + i)
theorem byL_len (a n : Nat) : (byL a n).length = n := by simp [byL]
theorem byL_next (a n : Nat) : byL a (n + 1) = byL a n ++ [UInt8.ofNat (a + n)] := by simp [byL, List.range_succ]
set_option maxHeartbeats 1000000 in
set_option maxRecDepth 20000 in
theorem bytes_any (a n : Nat) (h : a + n ≤ 1000) (aa nn : Int) (ea : aa = (a : Int)) (en : nn = (n : Int)) (w : World) : Calls Tryd.prog 18 #[.int .i64 aa, .int .i64 nn] w fun e w' => e = .returned (.string (st (byL a n))) ∧ Below w.heap.size w w' := by
  subst ea en
  go_enter Tryd.func18, Tryd.ntmps18
  go_wp2
  go_loopw [5, 6] (fun v i wr => ∃ k : Nat, k ≤ n ∧ i = .int .i64 k ∧ v = .string (st (byL a k)) ∧ Below w.heap.size w wr) (fun _ i _ => ((n : Int) - intOf i).toNat)
  case atStart => exact ⟨0, by omega, rfl, rfl, Below.refl _ _⟩
  case round =>
    obtain ⟨k, hk, rfl, rfl, hb⟩ := hrel
    by_cases hlt : k < n
    · have i1 : (k : Int) < (n : Int) := by omega
      have hl := byL_len a k
      have HN : Hid (byL a (k + 1) = byL a k ++ [UInt8.ofNat (a + k)]) := byL_next a k
      have hone := one_text
      obtain ⟨v, hv⟩ : ∃ v, UInt8.ofNat (a + k) = v := ⟨_, rfl⟩
      have e1 : IntKind.i64.wrap ((a : Int) + (k : Int)) = (a : Int) + (k : Int) := by rw [IntKind.wrap_i64] <;> omega
      have e2 : IntKind.u8.wrap ((a : Int) + (k : Int)) = (v.toNat : Int) := by
        rw [← hv]; simp [IntKind.wrap, IntKind.bits, IntKind.signed]
      rw [hv] at HN
      clear hv
      generalize byL a k = X at *
      go_wp2
      go_roundw
      case rel => exact ⟨k + 1, by omega, by go_num, by rw [HN.out], hb.alloc hb.size _⟩
      case measure => simp [intOf]; omega
    · obtain rfl : k = n := by omega
      have i1 : ¬ (k : Int) < (k : Int) := by omega
      go_wp2
      go_ret
      exact ⟨rfl, hb⟩
end Go.Proofs.YtjnbhiamaabbgaaDoor
