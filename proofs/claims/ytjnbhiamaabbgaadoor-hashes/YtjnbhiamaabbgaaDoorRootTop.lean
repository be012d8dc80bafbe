/-
  prim.Root, on every list of texts.
-/
import Derived.Test.YtjnbhiamaabbgaaDoorRoot
namespace Go.Proofs.YtjnbhiamaabbgaaDoor
open Go.RowKit
attribute [local go_sem] st_size st_append
theorem Root_nil (a : Option Addr) (cap : Nat) (w : World) (hT : Tab w) : Calls Tryd.prog 16 #[.slice a 0 cap] w fun en w' => en = .returned (.tuple #[.string (st (rootL [])), .int .i64 0]) ∧ Below w.heap.size w w' := by
  have HT : Hid (Tab w) := hT
  clear hT
  go_enter Tryd.func16, Tryd.ntmps16
  go_wp2
  go_loopw [11] (fun i wr => i = .int .i64 0 ∧ wr = w) (fun _ _ => 0)
  case atStart => exact ⟨rfl, rfl⟩
  case round =>
    obtain ⟨rfl, rfl⟩ := hrel
    go_wp2_with fail
    refine (root_nil a cap _ HT.out).mono ?_
    rintro en w1 ⟨rfl, hb⟩
    go_wp2_with fail
    go_ret2
    exact ⟨rfl, hb⟩
theorem Root_many (a : Option Addr) (n cap : Nat) (hn : 256 < n) (w : World) : Calls Tryd.prog 16 #[.slice a n cap] w fun en w' => en = .returned (.tuple #[.string (st []), .int .i64 1]) ∧ w' = w := by
  have h1 : (256 : Int) < (n : Nat) := by omega
  go_enter Tryd.func16, Tryd.ntmps16
  go_wp2_with fail
  go_ret2
  exact ⟨rfl, rfl⟩
set_option maxHeartbeats 400000 in
set_option maxRecDepth 20000 in
theorem Root_ok (L : List (List UInt8)) (hL0 : 0 < L.length) (hL : L.length ≤ 256) (hp : ∀ x ∈ L, x.length ≤ 4095) (g off cap : Nat) (w : World) (hT : Tab w) (hl : Lies w g off L) :
    Calls Tryd.prog 16 #[.slice (some ⟨g, off, none⟩) L.length cap] w fun en w' => en = .returned (.tuple #[.string (st (rootL L)), .int .i64 0]) ∧ Below w.heap.size w w' := by
  have HT : Hid (Tab w) := hT
  have HL : Hid (Lies w g off L) := hl
  have HP : Hid (∀ x ∈ L, x.length ≤ 4095) := hp
  clear hT hl hp
  have h1 : ¬ (256 : Int) < (L.length : Nat) := by omega
  have b1 : decide ((256 : Int) < (L.length : Nat)) = false := by simp; omega
  go_enter Tryd.func16, Tryd.ntmps16
  go_wp2
  go_loopw [11] (fun i wr => ∃ k : Nat, k ≤ L.length ∧ i = .int .i64 k ∧ wr = w) (fun i _ => (L.length - intOf i).toNat)
  case atStart => exact ⟨0, by omega, rfl, rfl⟩
  case round =>
    obtain ⟨k, hk, rfl, rfl⟩ := hrel
    by_cases hlt : k < L.length
    · obtain ⟨x, hx⟩ : ∃ x, L[k] = x := ⟨_, rfl⟩
      have lx : x.length ≤ 4095 := HP.out x (by rw [← hx]; exact List.getElem_mem _)
      have c0 : wr.cell? ⟨g, off + k, none⟩ = some (.string (st x)) := by have := HL.out k hlt; rw [hx] at this; exact this
      have i1 : (k : Int) < (L.length : Nat) := by omega
      have i2 : ¬ (4095 : Int) < (x.length : Nat) := by omega
      clear hx
      go_wp2_with fail
      go_roundw
      case rel => exact ⟨k + 1, by omega, by go_num, trivial⟩
      case measure => simp [intOf]; omega
    · obtain rfl : k = L.length := by omega
      have i1 : ¬ ((L.length : Nat) : Int) < (L.length : Nat) := by omega
      go_wp2_with fail
      refine (root_any L hL0 hL HP.out g off cap _ HT.out HL.out).mono ?_
      rintro en w1 ⟨rfl, hb⟩
      go_wp2_with fail
      go_ret2
      exact ⟨rfl, hb⟩
set_option maxHeartbeats 400000 in
set_option maxRecDepth 20000 in
theorem Root_part (L : List (List UInt8)) (hL : L.length ≤ 256) (j : Nat) (hj : j < L.length) (hbig : 4095 < L[j].length) (hp : ∀ k (hk : k < j), (L[k]'(by omega)).length ≤ 4095) (g off cap : Nat) (w : World) (hl : Lies w g off L) :
    Calls Tryd.prog 16 #[.slice (some ⟨g, off, none⟩) L.length cap] w fun en w' => en = .returned (.tuple #[.string (st []), .int .i64 1]) ∧ w' = w := by
  have HL : Hid (Lies w g off L) := hl
  have HP : Hid (∀ k (hk : k < j), (L[k]'(by omega)).length ≤ 4095) := hp
  have HB : Hid (4095 < L[j].length) := hbig
  clear hl hp hbig
  have h1 : ¬ (256 : Int) < (L.length : Nat) := by omega
  have b1 : decide ((256 : Int) < (L.length : Nat)) = false := by simp; omega
  go_enter Tryd.func16, Tryd.ntmps16
  go_wp2
  go_loopw [11] (fun i wr => ∃ k : Nat, k ≤ j ∧ i = .int .i64 k ∧ wr = w) (fun i _ => (L.length - intOf i).toNat)
  case atStart => exact ⟨0, by omega, rfl, rfl⟩
  case round =>
    obtain ⟨k, hk, rfl, rfl⟩ := hrel
    have hkL : k < L.length := by omega
    obtain ⟨x, hx⟩ : ∃ x, L[k] = x := ⟨_, rfl⟩
    have c0 : wr.cell? ⟨g, off + k, none⟩ = some (.string (st x)) := by have := HL.out k hkL; rw [hx] at this; exact this
    have i1 : (k : Int) < (L.length : Nat) := by omega
    by_cases hlt : k < j
    · have lx : x.length ≤ 4095 := by rw [← hx]; exact HP.out k hlt
      have i2 : ¬ (4095 : Int) < (x.length : Nat) := by omega
      clear hx
      go_wp2_with fail
      go_roundw
      case rel => exact ⟨k + 1, by omega, by go_num, trivial⟩
      case measure => simp [intOf]; omega
    · obtain rfl : k = j := by omega
      have lx : 4095 < x.length := by rw [← hx]; exact HB.out
      have i2 : (4095 : Int) < (x.length : Nat) := by omega
      clear hx
      go_wp2_with fail
      go_ret2
      exact ⟨rfl, rfl⟩
end Go.Proofs.YtjnbhiamaabbgaaDoor
