/-
  The document's answer, package cofferref: its small functions (turn, value, zeros, number).
-/
import Derived.Test.YtjnbhiamaabbgaaDoorDerive
import Derived.Deep.QuietTactic
import Derived.BigQuiet
namespace Go.Proofs.YtjnbhiamaabbgaaDoor
open Go.RowKit
attribute [local go_sem] u_xor u_and u_or u_add u_not st_size st_append
attribute [local go_sem] u_shl30 u_shr2 u_shl19 u_shr13 u_shl10 u_shr22 u_shl26 u_shr6 u_shl21 u_shr11 u_shl7 u_shr25 u_shl25 u_shr7 u_shl14 u_shr18 u_shl15 u_shr17 u_shl13 u_shr19
theorem rturn2 (x : BitVec 32) (w : World) : Calls Tryd.prog 73 #[.int .u32 (u x), .int .i64 2] w fun e w' => e = .returned (.int .u32 (u (rr x 2))) ∧ ∃ m, w' = w.drewN m := by
  go_enter Tryd.func73, Tryd.ntmps73
  go_wp2
  go_quiet (fail)
  go_wp2
  go_ret
  exact ⟨rfl, nq, rfl⟩
theorem rturn13 (x : BitVec 32) (w : World) : Calls Tryd.prog 73 #[.int .u32 (u x), .int .i64 13] w fun e w' => e = .returned (.int .u32 (u (rr x 13))) ∧ ∃ m, w' = w.drewN m := by
  go_enter Tryd.func73, Tryd.ntmps73
  go_wp2
  go_quiet (fail)
  go_wp2
  go_ret
  exact ⟨rfl, nq, rfl⟩
theorem rturn22 (x : BitVec 32) (w : World) : Calls Tryd.prog 73 #[.int .u32 (u x), .int .i64 22] w fun e w' => e = .returned (.int .u32 (u (rr x 22))) ∧ ∃ m, w' = w.drewN m := by
  go_enter Tryd.func73, Tryd.ntmps73
  go_wp2
  go_quiet (fail)
  go_wp2
  go_ret
  exact ⟨rfl, nq, rfl⟩
theorem rturn6 (x : BitVec 32) (w : World) : Calls Tryd.prog 73 #[.int .u32 (u x), .int .i64 6] w fun e w' => e = .returned (.int .u32 (u (rr x 6))) ∧ ∃ m, w' = w.drewN m := by
  go_enter Tryd.func73, Tryd.ntmps73
  go_wp2
  go_quiet (fail)
  go_wp2
  go_ret
  exact ⟨rfl, nq, rfl⟩
theorem rturn11 (x : BitVec 32) (w : World) : Calls Tryd.prog 73 #[.int .u32 (u x), .int .i64 11] w fun e w' => e = .returned (.int .u32 (u (rr x 11))) ∧ ∃ m, w' = w.drewN m := by
  go_enter Tryd.func73, Tryd.ntmps73
  go_wp2
  go_quiet (fail)
  go_wp2
  go_ret
  exact ⟨rfl, nq, rfl⟩
theorem rturn25 (x : BitVec 32) (w : World) : Calls Tryd.prog 73 #[.int .u32 (u x), .int .i64 25] w fun e w' => e = .returned (.int .u32 (u (rr x 25))) ∧ ∃ m, w' = w.drewN m := by
  go_enter Tryd.func73, Tryd.ntmps73
  go_wp2
  go_quiet (fail)
  go_wp2
  go_ret
  exact ⟨rfl, nq, rfl⟩
theorem rturn7 (x : BitVec 32) (w : World) : Calls Tryd.prog 73 #[.int .u32 (u x), .int .i64 7] w fun e w' => e = .returned (.int .u32 (u (rr x 7))) ∧ ∃ m, w' = w.drewN m := by
  go_enter Tryd.func73, Tryd.ntmps73
  go_wp2
  go_quiet (fail)
  go_wp2
  go_ret
  exact ⟨rfl, nq, rfl⟩
theorem rturn18 (x : BitVec 32) (w : World) : Calls Tryd.prog 73 #[.int .u32 (u x), .int .i64 18] w fun e w' => e = .returned (.int .u32 (u (rr x 18))) ∧ ∃ m, w' = w.drewN m := by
  go_enter Tryd.func73, Tryd.ntmps73
  go_wp2
  go_quiet (fail)
  go_wp2
  go_ret
  exact ⟨rfl, nq, rfl⟩
theorem rturn17 (x : BitVec 32) (w : World) : Calls Tryd.prog 73 #[.int .u32 (u x), .int .i64 17] w fun e w' => e = .returned (.int .u32 (u (rr x 17))) ∧ ∃ m, w' = w.drewN m := by
  go_enter Tryd.func73, Tryd.ntmps73
  go_wp2
  go_quiet (fail)
  go_wp2
  go_ret
  exact ⟨rfl, nq, rfl⟩
theorem rturn19 (x : BitVec 32) (w : World) : Calls Tryd.prog 73 #[.int .u32 (u x), .int .i64 19] w fun e w' => e = .returned (.int .u32 (u (rr x 19))) ∧ ∃ m, w' = w.drewN m := by
  go_enter Tryd.func73, Tryd.ntmps73
  go_wp2
  go_quiet (fail)
  go_wp2
  go_ret
  exact ⟨rfl, nq, rfl⟩
/-- The number that bytes are, the greatest first. -/
def valL (l : List UInt8) : Nat := l.foldl (fun n b => n * 256 + b.toNat) 0
theorem valL_snoc (l : List UInt8) (b : UInt8) : valL (l ++ [b]) = valL l * 256 + b.toNat := by simp [valL]
theorem foldl_lt : ∀ (l : List UInt8) (n : Nat), l.foldl (fun n b => n * 256 + b.toNat) n < (n + 1) * 256 ^ l.length
  | [], n => by simp
  | b :: r, n => by
    have hb := b.toNat_lt
    have h := foldl_lt r (n * 256 + b.toNat)
    rw [List.foldl_cons, List.length_cons, Nat.pow_succ]
    refine Nat.lt_of_lt_of_le h ?_
    rw [Nat.mul_comm (256 ^ r.length) 256, ← Nat.mul_assoc]
    exact Nat.mul_le_mul_right _ (by omega)
theorem valL_lt (l : List UInt8) : valL l < 256 ^ l.length := by
  have := foldl_lt l 0
  simpa [valL] using this
theorem or_byte (q : Nat) (b : UInt8) (hq : q < 281474976710656) : bits .or .i64 ((q : Int) * 256) (b.toNat : Int) = ((q * 256 + b.toNat : Nat) : Int) := by
  have hb := b.toNat_lt
  show IntKind.i64.wrap ((BitVec.ofInt 64 ((q : Int) * 256) ||| BitVec.ofInt 64 (b.toNat : Int)).toNat : Int) = _
  have e1 : (BitVec.ofInt 64 ((q : Int) * 256)).toNat = 2 ^ 8 * q := by
    rw [show ((q : Int) * 256) = ((2 ^ 8 * q : Nat) : Int) by omega, BitVec.ofInt_natCast, BitVec.toNat_ofNat, Nat.mod_eq_of_lt (by omega)]
  have e2 : (BitVec.ofInt 64 (b.toNat : Int)).toNat = b.toNat := by
    rw [BitVec.ofInt_natCast, BitVec.toNat_ofNat, Nat.mod_eq_of_lt (by omega)]
  rw [BitVec.toNat_or, e1, e2, ← Nat.two_pow_add_eq_or_of_lt (by omega)]
  rw [IntKind.wrap_i64]
  omega
set_option maxHeartbeats 400000 in
set_option maxRecDepth 20000 in
theorem value_any (l : List UInt8) (hl : l.length ≤ 6) (w : World) : Calls Tryd.prog 76 #[.string (st l)] w fun e w' => e = .returned (.int .i64 (valL l : Nat)) ∧ w' = w := by
  go_enter Tryd.func76, Tryd.ntmps76
  go_wp2
  go_loopw [3, 4] (fun v i wr => ∃ k : Nat, k ≤ l.length ∧ i = .int .i64 k ∧ v = .int .i64 (valL (l.take k) : Nat) ∧ wr = w) (fun _ i _ => (l.length - intOf i).toNat)
  case atStart => exact ⟨0, by omega, rfl, rfl, rfl⟩
  case round =>
    obtain ⟨k, hk, rfl, rfl, rfl⟩ := hrel
    by_cases hlt : k < l.length
    · obtain ⟨b, hb0⟩ : ∃ b, (st l)[k]'(by rw [st_size]; exact hlt) = b := ⟨_, rfl⟩
      have hv := valL_snoc (l.take k) b
      have ht : l.take (k + 1) = l.take k ++ [b] := by rw [List.take_succ_eq_append_getElem hlt, show l[k] = b from hb0]
      rw [← ht] at hv
      have hlt2 := valL_lt (l.take k)
      have h6 : 256 ^ (l.take k).length ≤ 256 ^ 5 := Nat.pow_le_pow_right (by decide) (by simp; omega)
      have HV : Hid (valL (l.take (k + 1)) = valL (l.take k) * 256 + b.toNat) := hv
      clear hv ht
      generalize hq : valL (l.take k) = q at *
      have hq2 : q < 1099511627776 := Nat.lt_of_lt_of_le hlt2 h6
      clear hlt2 h6 hq
      have hor := or_byte q b (by omega)
      have hbb := b.toNat_lt
      have i1 : (k : Int) < (l.length : Nat) := by omega
      go_wp2
      go_roundw
      case rel => exact ⟨k + 1, by omega, by go_num, by rw [HV.out]; go_num, trivial⟩
      case measure => simp [intOf]; omega
    · obtain rfl : k = l.length := by omega
      rw [List.take_length]
      have i1 : ¬ ((l.length : Nat) : Int) < (l.length : Nat) := by omega
      go_wp2
      go_ret
      exact ⟨rfl, rfl⟩
set_option maxHeartbeats 400000 in
set_option maxRecDepth 20000 in
theorem zeros_any (n : Nat) (hn : n ≤ 64) (w : World) : Calls Tryd.prog 58 #[.int .i64 n] w fun e w' => e = .returned (.string (st (List.replicate n 0))) ∧ Below w.heap.size w w' := by
  have hone := one_textN 0 0 rfl
  go_enter Tryd.func58, Tryd.ntmps58
  go_wp2
  go_loopw [3, 4] (fun v i wr => ∃ k : Nat, k ≤ n ∧ i = .int .i64 k ∧ v = .string (st (List.replicate k 0)) ∧ Below w.heap.size w wr) (fun _ i _ => (n - intOf i).toNat)
  case atStart => exact ⟨0, by omega, rfl, rfl, Below.refl _ _⟩
  case round =>
    obtain ⟨k, hk, rfl, rfl, hb⟩ := hrel
    by_cases hlt : k < n
    · have hl : (List.replicate k (0 : UInt8)).length = k := by simp
      have HR : Hid (List.replicate (k + 1) (0 : UInt8) = List.replicate k 0 ++ [0]) := List.replicate_succ'
      generalize List.replicate k (0 : UInt8) = X at *
      have i1 : (k : Int) < (n : Nat) := by omega
      go_wp2
      go_roundw
      case rel => exact ⟨k + 1, by omega, by go_num, by rw [HR.out], hb.alloc hb.size _⟩
      case measure => simp [intOf]; omega
    · obtain rfl : k = n := by omega
      have i1 : ¬ (k : Int) < (k : Nat) := by omega
      go_wp2
      go_ret
      exact ⟨rfl, hb⟩
set_option maxHeartbeats 400000 in
set_option maxRecDepth 20000 in
theorem number_any (n k : Nat) (hk : k ≤ 8) (w : World) : Calls Tryd.prog 59 #[.int .i64 n, .int .i64 k] w fun e w' => e = .returned (.string (st (nb n k))) ∧ Below w.heap.size w w' := by
  go_enter Tryd.func59, Tryd.ntmps59
  go_wp2
  go_loopw [0, 5, 6] (fun q v i wr => ∃ j : Nat, j ≤ k ∧ i = .int .i64 j ∧ v = .string (st (nb n j)) ∧ q = .int .i64 ((n / 256 ^ j : Nat) : Int) ∧ Below w.heap.size w wr) (fun _ _ i _ => (k - intOf i).toNat)
  case atStart => exact ⟨0, by omega, rfl, rfl, by simp, Below.refl _ _⟩
  case round =>
    obtain ⟨j, hj, rfl, rfl, rfl, hb⟩ := hrel
    by_cases hlt : j < k
    · have hl := nb_len n j
      have HN : Hid (nb n (j + 1) = bq (n / 256 ^ j) :: nb n j) := rfl
      have HQ : Hid (n / 256 ^ j / 256 = n / 256 ^ (j + 1)) := by show _ = _; rw [Nat.div_div_eq_div_mul, Nat.pow_succ]
      have hql : n / 256 ^ j ≤ n := Nat.div_le_self _ _
      generalize n / 256 ^ j = q at *
      generalize nb n j = X at *
      have hby : IntKind.u8.wrap (q : Int) = ((bq q).toNat : Int) := by simp [IntKind.wrap, IntKind.bits, IntKind.signed, bq]
      have hone := one_textN ((bq q).toNat : Int) (bq q) rfl
      have i1 : (j : Int) < (k : Nat) := by omega
      go_wp2
      go_roundw
      case rel => exact ⟨j + 1, by omega, by go_num, by rw [HN.out], by rw [← HQ.out]; go_num, hb.alloc hb.size _⟩
      case measure => simp [intOf]; omega
    · obtain rfl : j = k := by omega
      have i1 : ¬ (j : Int) < (j : Nat) := by omega
      go_wp2
      go_ret
      exact ⟨rfl, hb⟩
theorem numberI (nn kk : Int) (n k : Nat) (h1 : nn = (n : Int)) (h2 : kk = (k : Int)) (hk : k ≤ 8) (w : World) : Calls Tryd.prog 59 #[.int .i64 nn, .int .i64 kk] w fun e w' => e = .returned (.string (st (nb n k))) ∧ Below w.heap.size w w' := by
  subst h1; subst h2; exact number_any n k hk w
end Go.Proofs.YtjnbhiamaabbgaaDoor
