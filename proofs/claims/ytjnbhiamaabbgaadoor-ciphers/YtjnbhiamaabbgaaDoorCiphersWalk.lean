/-
  cofferlaw.Ciphers: the walk over a list of calls.
-/
import Derived.Test.YtjnbhiamaabbgaaDoorCalledC
import Derived.Test.YtjnbhiamaabbgaaDoorAesVec
namespace Go.Proofs.YtjnbhiamaabbgaaDoor
open Go.RowKit
attribute [local go_sem] st_size st_append st_cut
set_option maxHeartbeats 1000000 in
set_option maxRecDepth 20000 in
theorem Ciphers_loop (D : List CD) (v : Value) (w : World) (hv : CL w v D) :
    Calls Tryd.prog 7 #[v] w fun en w' => en = .returned (.bool true) ∧ Below w.heap.size w w' := by
  obtain ⟨a, cap, rfl, hmax, hD⟩ := hv
  have HD : Hid (∀ i (h : i < D.length), (∃ g off, a = some ⟨g, off, none⟩ ∧ At w g (off + i * 6) D[i]) ∧ Good w D[i]) := hD
  clear hD
  unfold maxLen at hmax
  go_enter Tryd.func7, Tryd.ntmps7
  go_wp2_with fail
  go_fit (Block_ok [0, 1, 2, 3, 4, 5, 6, 7, 8, 9, 10, 11, 12, 13, 14, 15] [0, 17, 34, 51, 68, 85, 102, 119, 136, 153, 170, 187, 204, 221, 238, 255] (by decide) (by decide) _)
  rintro en w1 ⟨rfl, hb1⟩
  have hv2 := aes_v2 [0, 1, 2, 3, 4, 5, 6, 7, 8, 9, 10, 11, 12, 13, 14, 15] [0, 17, 34, 51, 68, 85, 102, 119, 136, 153, 170, 187, 204, 221, 238, 255] rfl rfl
  rw [hv2]
  clear hv2
  have hl : ([105, 196, 224, 216, 106, 123, 4, 48, 216, 205, 183, 128, 112, 180, 197, 90] : List UInt8).length = 16 := rfl
  have ht : ([105, 196, 224, 216, 106, 123, 4, 48, 216, 205, 183, 128, 112, 180, 197, 90] : List UInt8).take 4 = [105, 196, 224, 216] := rfl
  generalize ([105, 196, 224, 216, 106, 123, 4, 48, 216, 205, 183, 128, 112, 180, 197, 90] : List UInt8) = Y at *
  have hst : st [105, 196, 224, 216] = { data := #[105, 196, 224, 216] } := rfl
  go_wp2_with fail
  clear hl ht hst
  go_loopw [5, 6] (fun i _ wr => ∃ k : Nat, k ≤ D.length ∧ i = .int .i64 k ∧ Below w.heap.size w wr) (fun i _ _ => (D.length - intOf i).toNat)
  case atStart => exact ⟨0, by omega, rfl, hb1⟩
  case round =>
    clear hb1
    obtain ⟨k, hk, rfl, hb⟩ := hrel
    by_cases hlt : k < D.length
    · obtain ⟨⟨g, off, rfl, hat⟩, hgood⟩ := HD.out k hlt
      have hat := hat.then hb
      clear hgood
      have i1 : (k : Int) < (D.length : Nat) := by omega
      generalize D[k] = d at *
      obtain ⟨kind, n, S, T, U, v, P⟩ := d
      obtain ⟨c0, c1, c2, c3, c4, c5⟩ := hat
      generalize hq : off + k * 6 = q at *
      by_cases hk4 : kind ≤ 4
      · go_wp2_with fail
        go_roundw
        case rel => exact ⟨k + 1, by omega, by go_num, hb⟩
        case measure => simp [intOf]; omega
      · go_wp2_with fail
        go_fit (called_cipher kind n (by omega) S T U v _)
        rintro en w2 ⟨rfl, hb2⟩
        go_wp2_with fail
        go_roundw
        case rel => exact ⟨k + 1, by omega, by go_num, bthen hb hb2⟩
        case measure => simp [intOf]; omega
    · obtain rfl : k = D.length := by omega
      have i1 : ¬ ((D.length : Nat) : Int) < (D.length : Nat) := by omega
      go_wp2_with fail
      go_ret
      exact ⟨rfl, hb⟩
end Go.Proofs.YtjnbhiamaabbgaaDoor
