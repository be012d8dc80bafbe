/-
  cofferkeep's own small functions: hex, each, fixed.
-/
import Derived.Test.YtjnbhiamaabbgaaDoorMac
import Derived.Deep.QuietTactic
import Derived.BigQuiet
namespace Go.Proofs.YtjnbhiamaabbgaaDoor
open Go.RowKit
attribute [local go_sem] st_size st_append
/-- A hexadecimal digit. -/
def hd (n : Nat) : UInt8 := UInt8.ofNat (if n < 10 then 48 + n else 87 + n)
def hexL : List UInt8 → List UInt8
  | [] => []
  | b :: r => hd (b.toNat / 16) :: hd (b.toNat % 16) :: hexL r
theorem hexL_len : ∀ l : List UInt8, (hexL l).length = 2 * l.length
  | [] => rfl
  | b :: r => by simp [hexL, hexL_len r]; omega
theorem hexL_append : ∀ a b : List UInt8, hexL (a ++ b) = hexL a ++ hexL b
  | [], _ => rfl
  | x :: r, b => by simp [hexL, hexL_append r b]
theorem and15 (b : UInt8) : bits .and .u8 (b.toNat : Int) 15 = ((b.toNat % 16 : Nat) : Int) := by
  have h := b.toNat_lt
  show IntKind.u8.wrap ((BitVec.ofInt 8 (b.toNat : Int) &&& BitVec.ofInt 8 15).toNat : Int) = _
  have e : (BitVec.ofInt 8 (b.toNat : Int)).toNat = b.toNat := by simp
  have e2 : (BitVec.ofInt 8 15).toNat = 2 ^ 4 - 1 := by decide
  rw [BitVec.toNat_and, e, e2, Nat.and_two_pow_sub_one_eq_mod]
  simp only [IntKind.wrap, IntKind.bits, IntKind.signed]
  simp
  omega
theorem slice_hex (p : Nat) (hp : p < 16) (w : World) : (Instr.slice 9 (.string { data := #[48, 49, 50, 51, 52, 53, 54, 55, 56, 57, 97, 98, 99, 100, 101, 102] }) (some (.int .i64 (p : Int))) (some (.int .i64 ((p : Int) + 1))) none).run Tryd.prog w = .ok (.string (st [hd p])) w := by
  obtain rfl | rfl | rfl | rfl | rfl | rfl | rfl | rfl | rfl | rfl | rfl | rfl | rfl | rfl | rfl | rfl : p = 0 ∨ p = 1 ∨ p = 2 ∨ p = 3 ∨ p = 4 ∨ p = 5 ∨ p = 6 ∨ p = 7 ∨ p = 8 ∨ p = 9 ∨ p = 10 ∨ p = 11 ∨ p = 12 ∨ p = 13 ∨ p = 14 ∨ p = 15 := by omega
  all_goals kernel_rfl
set_option maxHeartbeats 1000000 in
set_option maxRecDepth 20000 in
theorem hex_any (l : List UInt8) (hl : l.length ≤ 5000) (w : World) : Calls Tryd.prog 19 #[.string (st l)] w fun en w' => en = .returned (.string (st (hexL l))) ∧ Below w.heap.size w w' := by
  go_enter Tryd.func19, Tryd.ntmps19
  go_wp2
  go_loopw [3, 4] (fun v i wr => ∃ k : Nat, k ≤ l.length ∧ i = .int .i64 k ∧ v = .string (st (hexL (l.take k))) ∧ Below w.heap.size w wr) (fun _ i _ => (l.length - intOf i).toNat)
  case atStart => exact ⟨0, by omega, rfl, rfl, Below.refl _ _⟩
  case round =>
    obtain ⟨k, hk, rfl, rfl, hb⟩ := hrel
    by_cases hlt : k < l.length
    · have i1 : (k : Int) < (l.length : Nat) := by omega
      obtain ⟨b, hb0⟩ : ∃ b, (st l)[k]'(by rw [st_size]; exact hlt) = b := ⟨_, rfl⟩
      obtain ⟨p, hp⟩ : ∃ p, b.toNat / 16 = p := ⟨_, rfl⟩
      obtain ⟨q, hq⟩ : ∃ q, b.toNat % 16 = q := ⟨_, rfl⟩
      have hb1 := b.toNat_lt
      have hp1 : (b.toNat : Int) / 16 = p := by omega
      have hp2 : (p : Int) < 16 := by omega
      have hq1 : bits .and .u8 (b.toNat : Int) 15 = q := by rw [and15, hq]
      have hq2 : (q : Int) < 16 := by omega
      have HP : Hid (b.toNat / 16 = p) := hp
      have HQ : Hid (b.toNat % 16 = q) := hq
      have hs1 := slice_hex p (by omega)
      have hs2 := slice_hex q (by omega)
      have ew1 : IntKind.i64.wrap ((p : Int) + 1) = (p : Int) + 1 := by rw [IntKind.wrap_i64]; omega
      have ew2 : IntKind.i64.wrap ((q : Int) + 1) = (q : Int) + 1 := by rw [IntKind.wrap_i64]; omega
      have hxl := hexL_len (l.take k)
      have hxk : (l.take k).length = k := by simp; omega
      rw [hxk] at hxl
      have HS : Hid (hexL (l.take (k + 1)) = hexL (l.take k) ++ [hd p, hd q]) := by
        show _ = _
        rw [List.take_succ_eq_append_getElem hlt, hexL_append, show l[k] = b from hb0]
        simp only [hexL, hp, hq]
      clear hp hq hxk
      generalize hexL (l.take k) = X at *
      go_wp2
      go_quiet (fail)
      go_wp2
      go_roundw
      case rel => exact ⟨k + 1, by omega, by go_num, by rw [HS.out], below_drewN hb _⟩
      case measure => simp [intOf]; omega
    · obtain rfl : k = l.length := by omega
      rw [List.take_length]
      have i1 : ¬ ((l.length : Nat) : Int) < (l.length : Nat) := by omega
      go_wp2
      go_ret
      exact ⟨rfl, hb⟩
theorem one_text (v : UInt8) (w : World) : (convert 37 9 (.slice (some ⟨w.heap.size, 0, none⟩) 1 1)).run Tryd.prog (w.alloc (.cells #[.int .u8 (v.toNat : Int)] 5)) = .ok (.string (st [v])) (w.alloc (.cells #[.int .u8 (v.toNat : Int)] 5)) := by
  have h := run_convert_bytes_back (P := Tryd.prog) (w.alloc (.cells #[.int .u8 (v.toNat : Int)] 5)) 37 9 5 ⟨w.heap.size, 0, none⟩ 1 [v] Tryd.underlying37 Tryd.underlying5 Tryd.underlying9 (fun j hj => by
    rw [Addr.add_mid, Nat.zero_add, cell_of_row _ _ _ _ _ _ (heap_alloc_new _ _)]
    obtain rfl : j = 0 := by simpa using hj
    rfl)
  exact h
theorem u8_xor0 (c : UInt8) : bits .xor .u8 0 (c.toNat : Int) = ((0 ^^^ c).toNat : Int) := u8_xor 0 c
theorem kc_take (l : List UInt8) (c : UInt8) (hl : l.length ≤ 64) (k : Nat) (hk : k < 64) : (kc l c).take (k + 1) = (kc l c).take k ++ [(if h : k < l.length then l[k] else 0) ^^^ c] := by
  have hlen := kc_len l c hl
  rw [List.take_succ_eq_append_getElem (by omega)]
  congr 2
  unfold kc
  rw [List.getElem_map]
  congr 1
  by_cases h : k < l.length
  · rw [dif_pos h, List.getElem_append_left h]
  · rw [dif_neg h, List.getElem_append_right (by omega), List.getElem_replicate]
set_option maxHeartbeats 1000000 in
set_option maxRecDepth 20000 in
theorem each_any (l : List UInt8) (hl : l.length ≤ 64) (c : UInt8) (n : Int) (hn : n = (c.toNat : Int)) (w : World) : Calls Tryd.prog 13 #[.string (st l), .int .u8 n] w fun en w' => en = .returned (.string (st (kc l c))) ∧ Below w.heap.size w w' := by
  subst hn
  go_enter Tryd.func13, Tryd.ntmps13
  go_wp2
  go_loopw [5, 6] (fun v i wr => ∃ k : Nat, k ≤ 64 ∧ i = .int .i64 k ∧ v = .string (st ((kc l c).take k)) ∧ Below w.heap.size w wr) (fun _ i _ => (64 - intOf i).toNat)
  case atStart => exact ⟨0, by omega, rfl, rfl, Below.refl _ _⟩
  case round =>
    obtain ⟨k, hk, rfl, rfl, hb⟩ := hrel
    by_cases hlt : k < 64
    · have hlen := kc_len l c hl
      have htl : ((kc l c).take k).length = k := by simp; omega
      have hone := one_text
      have HS := kc_take l c hl k hlt
      have HS' : Hid ((kc l c).take (k + 1) = (kc l c).take k ++ [(if h : k < l.length then l[k] else 0) ^^^ c]) := HS
      clear HS
      generalize (kc l c).take k = X at *
      by_cases h2 : k < l.length
      · have i1 : (k : Int) < (l.length : Nat) := by omega
        obtain ⟨b, hb0⟩ : ∃ b, (st l)[k]'(by rw [st_size]; exact h2) = b := ⟨_, rfl⟩
        have HT : Hid ((kc l c).take (k + 1) = X ++ [b ^^^ c]) := by show _ = _; rw [HS'.out, dif_pos h2, show l[k] = b from hb0]
        have hx := u8_xor b c
        generalize b ^^^ c = v at *
        go_wp2
        go_roundw
        case rel => exact ⟨k + 1, by omega, by go_num, by rw [HT.out], hb.alloc hb.size _⟩
        case measure => simp [intOf]; omega
      · have i1 : ¬ (k : Int) < (l.length : Nat) := by omega
        have HT : Hid ((kc l c).take (k + 1) = X ++ [0 ^^^ c]) := by show _ = _; rw [HS'.out, dif_neg h2]
        have hx := u8_xor0 c
        generalize 0 ^^^ c = v at *
        go_wp2
        go_roundw
        case rel => exact ⟨k + 1, by omega, by go_num, by rw [HT.out], hb.alloc hb.size _⟩
        case measure => simp [intOf]; omega
    · obtain rfl : k = 64 := by omega
      rw [List.take_of_length_le (by rw [kc_len l c hl]; omega)]
      go_wp2
      go_ret
      exact ⟨rfl, hb⟩
theorem hex_abc : hexL (sha [97, 98, 99]) = [98, 97, 55, 56, 49, 54, 98, 102, 56, 102, 48, 49, 99, 102, 101, 97, 52, 49, 52, 49, 52, 48, 100, 101, 53, 100, 97, 101, 50, 50, 50, 51, 98, 48, 48, 51, 54, 49, 97, 51, 57, 54, 49, 55, 55, 97, 57, 99, 98, 52, 49, 48, 102, 102, 54, 49, 102, 50, 48, 48, 49, 53, 97, 100] := by
  rw [sha_abc]; decide +kernel
set_option maxHeartbeats 1000000 in
set_option maxRecDepth 20000 in
theorem fixed_any (w : World) (hT : Tab w) : Calls Tryd.prog 11 #[] w fun en w' => en = .returned (.bool true) ∧ Below w.heap.size w w' := by
  have HT : Hid (Tab w) := hT
  clear hT
  have hl := sha_len [97, 98, 99]
  go_enter Tryd.func11, Tryd.ntmps11
  go_wp2_with fail
  refine (Sum_ok [97, 98, 99] (by decide) _ HT.out).mono ?_
  rintro en w1 ⟨rfl, hb1⟩
  go_wp2_with fail
  refine (hex_any (sha [97, 98, 99]) (by omega) _).mono ?_
  rintro en w2 ⟨rfl, hb2⟩
  rw [hex_abc]
  have hst : st [98, 97, 55, 56, 49, 54, 98, 102, 56, 102, 48, 49, 99, 102, 101, 97, 52, 49, 52, 49, 52, 48, 100, 101, 53, 100, 97, 101, 50, 50, 50, 51, 98, 48, 48, 51, 54, 49, 97, 51, 57, 54, 49, 55, 55, 97, 57, 99, 98, 52, 49, 48, 102, 102, 54, 49, 102, 50, 48, 48, 49, 53, 97, 100] = { data := #[98, 97, 55, 56, 49, 54, 98, 102, 56, 102, 48, 49, 99, 102, 101, 97, 52, 49, 52, 49, 52, 48, 100, 101, 53, 100, 97, 101, 50, 50, 50, 51, 98, 48, 48, 51, 54, 49, 97, 51, 57, 54, 49, 55, 55, 97, 57, 99, 98, 52, 49, 48, 102, 102, 54, 49, 102, 50, 48, 48, 49, 53, 97, 100] } := rfl
  rw [hst]
  clear hst
  go_wp2_with fail
  go_ret
  exact ⟨rfl, bthen hb1 hb2⟩
end Go.Proofs.YtjnbhiamaabbgaaDoor
