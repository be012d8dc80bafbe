/-
  cofferkeep's Vectors: the walk.
-/
import Derived.Test.YtjnbhiamaabbgaaDoorVecA
import Derived.Test.YtjnbhiamaabbgaaDoorAesBlock
import Derived.Test.YtjnbhiamaabbgaaDoorAesVec
import Derived.Test.YtjnbhiamaabbgaaDoorKeepB
namespace Go.Proofs.YtjnbhiamaabbgaaDoor
open Go.RowKit
attribute [local go_sem] st_size st_append
theorem hexv_a : hexL [227, 176, 196, 66, 152, 252, 28, 20, 154, 251, 244, 200, 153, 111, 185, 36, 39, 174, 65, 228, 100, 155, 147, 76, 164, 149, 153, 27, 120, 82, 184, 85] = [101, 51, 98, 48, 99, 52, 52, 50, 57, 56, 102, 99, 49, 99, 49, 52, 57, 97, 102, 98, 102, 52, 99, 56, 57, 57, 54, 102, 98, 57, 50, 52, 50, 55, 97, 101, 52, 49, 101, 52, 54, 52, 57, 98, 57, 51, 52, 99, 97, 52, 57, 53, 57, 57, 49, 98, 55, 56, 53, 50, 98, 56, 53, 53] := by decide +kernel
theorem sthex_a : st [101, 51, 98, 48, 99, 52, 52, 50, 57, 56, 102, 99, 49, 99, 49, 52, 57, 97, 102, 98, 102, 52, 99, 56, 57, 57, 54, 102, 98, 57, 50, 52, 50, 55, 97, 101, 52, 49, 101, 52, 54, 52, 57, 98, 57, 51, 52, 99, 97, 52, 57, 53, 57, 57, 49, 98, 55, 56, 53, 50, 98, 56, 53, 53] = { data := #[101, 51, 98, 48, 99, 52, 52, 50, 57, 56, 102, 99, 49, 99, 49, 52, 57, 97, 102, 98, 102, 52, 99, 56, 57, 57, 54, 102, 98, 57, 50, 52, 50, 55, 97, 101, 52, 49, 101, 52, 54, 52, 57, 98, 57, 51, 52, 99, 97, 52, 57, 53, 57, 57, 49, 98, 55, 56, 53, 50, 98, 56, 53, 53] } := rfl
theorem hexv_b : hexL [186, 120, 22, 191, 143, 1, 207, 234, 65, 65, 64, 222, 93, 174, 34, 35, 176, 3, 97, 163, 150, 23, 122, 156, 180, 16, 255, 97, 242, 0, 21, 173] = [98, 97, 55, 56, 49, 54, 98, 102, 56, 102, 48, 49, 99, 102, 101, 97, 52, 49, 52, 49, 52, 48, 100, 101, 53, 100, 97, 101, 50, 50, 50, 51, 98, 48, 48, 51, 54, 49, 97, 51, 57, 54, 49, 55, 55, 97, 57, 99, 98, 52, 49, 48, 102, 102, 54, 49, 102, 50, 48, 48, 49, 53, 97, 100] := by decide +kernel
theorem sthex_b : st [98, 97, 55, 56, 49, 54, 98, 102, 56, 102, 48, 49, 99, 102, 101, 97, 52, 49, 52, 49, 52, 48, 100, 101, 53, 100, 97, 101, 50, 50, 50, 51, 98, 48, 48, 51, 54, 49, 97, 51, 57, 54, 49, 55, 55, 97, 57, 99, 98, 52, 49, 48, 102, 102, 54, 49, 102, 50, 48, 48, 49, 53, 97, 100] = { data := #[98, 97, 55, 56, 49, 54, 98, 102, 56, 102, 48, 49, 99, 102, 101, 97, 52, 49, 52, 49, 52, 48, 100, 101, 53, 100, 97, 101, 50, 50, 50, 51, 98, 48, 48, 51, 54, 49, 97, 51, 57, 54, 49, 55, 55, 97, 57, 99, 98, 52, 49, 48, 102, 102, 54, 49, 102, 50, 48, 48, 49, 53, 97, 100] } := rfl
theorem hexv_c : hexL [91, 220, 193, 70, 191, 96, 117, 78, 106, 4, 36, 38, 8, 149, 117, 199, 90, 0, 63, 8, 157, 39, 57, 131, 157, 236, 88, 185, 100, 236, 56, 67] = [53, 98, 100, 99, 99, 49, 52, 54, 98, 102, 54, 48, 55, 53, 52, 101, 54, 97, 48, 52, 50, 52, 50, 54, 48, 56, 57, 53, 55, 53, 99, 55, 53, 97, 48, 48, 51, 102, 48, 56, 57, 100, 50, 55, 51, 57, 56, 51, 57, 100, 101, 99, 53, 56, 98, 57, 54, 52, 101, 99, 51, 56, 52, 51] := by decide +kernel
theorem sthex_c : st [53, 98, 100, 99, 99, 49, 52, 54, 98, 102, 54, 48, 55, 53, 52, 101, 54, 97, 48, 52, 50, 52, 50, 54, 48, 56, 57, 53, 55, 53, 99, 55, 53, 97, 48, 48, 51, 102, 48, 56, 57, 100, 50, 55, 51, 57, 56, 51, 57, 100, 101, 99, 53, 56, 98, 57, 54, 52, 101, 99, 51, 56, 52, 51] = { data := #[53, 98, 100, 99, 99, 49, 52, 54, 98, 102, 54, 48, 55, 53, 52, 101, 54, 97, 48, 52, 50, 52, 50, 54, 48, 56, 57, 53, 55, 53, 99, 55, 53, 97, 48, 48, 51, 102, 48, 56, 57, 100, 50, 55, 51, 57, 56, 51, 57, 100, 101, 99, 53, 56, 98, 57, 54, 52, 101, 99, 51, 56, 52, 51] } := rfl
theorem hexv_d : hexL [105, 196, 224, 216, 106, 123, 4, 48, 216, 205, 183, 128, 112, 180, 197, 90] = [54, 57, 99, 52, 101, 48, 100, 56, 54, 97, 55, 98, 48, 52, 51, 48, 100, 56, 99, 100, 98, 55, 56, 48, 55, 48, 98, 52, 99, 53, 53, 97] := by decide +kernel
theorem sthex_d : st [54, 57, 99, 52, 101, 48, 100, 56, 54, 97, 55, 98, 48, 52, 51, 48, 100, 56, 99, 100, 98, 55, 56, 48, 55, 48, 98, 52, 99, 53, 53, 97] = { data := #[54, 57, 99, 52, 101, 48, 100, 56, 54, 97, 55, 98, 48, 52, 51, 48, 100, 56, 99, 100, 98, 55, 56, 48, 55, 48, 98, 52, 99, 53, 53, 97] } := rfl
theorem hexv_o : hexL [60, 178, 95, 37, 250, 172, 213, 122, 144, 67, 79, 100, 208, 54, 47, 42, 45, 45, 10, 144, 207, 26, 90, 76, 93, 176, 45, 86, 236, 196, 197, 191, 52, 0, 114, 8, 213, 184, 135, 24, 88, 101] = [51, 99, 98, 50, 53, 102, 50, 53, 102, 97, 97, 99, 100, 53, 55, 97, 57, 48, 52, 51, 52, 102, 54, 52, 100, 48, 51, 54, 50, 102, 50, 97, 50, 100, 50, 100, 48, 97, 57, 48, 99, 102, 49, 97, 53, 97, 52, 99, 53, 100, 98, 48, 50, 100, 53, 54, 101, 99, 99, 52, 99, 53, 98, 102, 51, 52, 48, 48, 55, 50, 48, 56, 100, 53, 98, 56, 56, 55, 49, 56, 53, 56, 54, 53] := by decide +kernel
theorem sthex_o : st [51, 99, 98, 50, 53, 102, 50, 53, 102, 97, 97, 99, 100, 53, 55, 97, 57, 48, 52, 51, 52, 102, 54, 52, 100, 48, 51, 54, 50, 102, 50, 97, 50, 100, 50, 100, 48, 97, 57, 48, 99, 102, 49, 97, 53, 97, 52, 99, 53, 100, 98, 48, 50, 100, 53, 54, 101, 99, 99, 52, 99, 53, 98, 102, 51, 52, 48, 48, 55, 50, 48, 56, 100, 53, 98, 56, 56, 55, 49, 56, 53, 56, 54, 53] = { data := #[51, 99, 98, 50, 53, 102, 50, 53, 102, 97, 97, 99, 100, 53, 55, 97, 57, 48, 52, 51, 52, 102, 54, 52, 100, 48, 51, 54, 50, 102, 50, 97, 50, 100, 50, 100, 48, 97, 57, 48, 99, 102, 49, 97, 53, 97, 52, 99, 53, 100, 98, 48, 50, 100, 53, 54, 101, 99, 99, 52, 99, 53, 98, 102, 51, 52, 48, 48, 55, 50, 48, 56, 100, 53, 98, 56, 56, 55, 49, 56, 53, 56, 54, 53] } := rfl
theorem rep_next (k : Nat) : List.replicate (k + 1) (11 : UInt8) = List.replicate k 11 ++ [11] := List.replicate_succ'
set_option maxHeartbeats 4000000 in
set_option maxRecDepth 20000 in
theorem vectors_walk (w : World) (hT : Tab w) : Calls Tryd.prog 8 #[] w fun en w' => en = .returned (.bool true) ∧ Below w.heap.size w w' := by
  have HT : Hid (Tab w) := hT
  have hw0 := hT.pos
  clear hT
  go_enter Tryd.func8, Tryd.ntmps8
  go_wp2_with fail
  refine (Sum_ok [] (by decide) _ HT.out).mono ?_
  rintro en w1 ⟨rfl, hb1⟩
  rw [sha_nil]
  have T1 : Hid (Tab w1) := HT.out.below hw0 hb1
  go_wp2_with fail
  refine (Sum_ok [97, 98, 99] (by decide) _ T1.out).mono ?_
  rintro en w2 ⟨rfl, hb2⟩
  rw [sha_abc]
  have B2 : Hid (Below w.heap.size w w2) := bthen hb1 hb2
  have T2 : Hid (Tab w2) := HT.out.below hw0 B2.out
  clear T1 hb1 hb2
  go_wp2_with fail
  refine (Mac_ok [74, 101, 102, 101] [119, 104, 97, 116, 32, 100, 111, 32, 121, 97, 32, 119, 97, 110, 116, 32, 102, 111, 114, 32, 110, 111, 116, 104, 105, 110, 103, 63] (by decide) (by decide) _ T2.out).mono ?_
  rintro en w3 ⟨rfl, hb3⟩
  rw [mac_jefe]
  have B3 : Hid (Below w.heap.size w w3) := bthen B2.out hb3
  clear T2 B2 hb3
  go_wp2_with fail
  refine (bytes_any 0 16 (by decide) 0 16 rfl rfl _).mono ?_
  rintro en w4 ⟨rfl, hb4⟩
  go_wp2_with fail
  refine (Block_ok (byL 0 16) [0, 17, 34, 51, 68, 85, 102, 119, 136, 153, 170, 187, 204, 221, 238, 255] (byL_len _ _) (by decide) _).mono ?_
  rintro en w5 ⟨rfl, hb5⟩
  rw [aes_v2 (byL 0 16) [0, 17, 34, 51, 68, 85, 102, 119, 136, 153, 170, 187, 204, 221, 238, 255] (by decide) rfl]
  have B5 : Hid (Below w.heap.size w w5) := bthen B3.out (bthen hb4 hb5)
  clear B3 hb4 hb5
  go_wp2_with fail
  go_loopw [9, 10] (fun v i wr => ∃ k : Nat, k ≤ 22 ∧ i = .int .i64 k ∧ v = .string (st (List.replicate k 11)) ∧ Below w.heap.size w wr) (fun _ i _ => (22 - intOf i).toNat)
  case atStart => exact ⟨0, by omega, rfl, rfl, B5.out⟩
  case round =>
    clear B5
    obtain ⟨k, hk, rfl, rfl, hb⟩ := hrel
    by_cases hlt : k < 22
    · have i1 : (k : Int) < 22 := by omega
      have HN : Hid (List.replicate (k + 1) (11 : UInt8) = List.replicate k 11 ++ [11]) := rep_next k
      have hl : (List.replicate k (11 : UInt8)).length = k := List.length_replicate
      have hap : st (List.replicate k 11) ++ ({ data := #[11] } : ByteArray) = st (List.replicate k 11 ++ [11]) := st_append _ [11]
      generalize List.replicate k (11 : UInt8) = X at *
      go_wp2_with fail
      go_roundw
      case rel => exact ⟨k + 1, by omega, by go_num, by rw [HN.out], hb⟩
      case measure => simp [intOf]; omega
    · obtain rfl : k = 22 := by omega
      have HTr : Hid (Tab wr) := HT.out.below hw0 hb
      have HB : Hid (Below w.heap.size w wr) := hb
      clear hb hk hlt
      go_wp2_with fail
      refine (bytes_any 0 13 (by decide) 0 13 rfl rfl _).mono ?_
      rintro en w6 ⟨rfl, hb6⟩
      go_wp2_with fail
      refine (bytes_any 240 10 (by decide) 240 10 rfl rfl _).mono ?_
      rintro en w7 ⟨rfl, hb7⟩
      have T7 : Hid (Tab w7) := HT.out.below hw0 (bthen HB.out (bthen hb6 hb7))
      go_wp2_with fail
      refine (Derive_ok (List.replicate 22 11) (byL 0 13) (byL 240 10) (by decide) (by decide) (by decide) 42 (by decide) _ T7.out).mono ?_
      rintro en w8 ⟨rfl, hb8⟩
      rw [show hmac (byL 0 13) (List.replicate 22 11) = [7, 119, 9, 54, 44, 46, 50, 223, 13, 220, 63, 13, 196, 123, 186, 99, 144, 182, 199, 59, 181, 15, 156, 49, 34, 236, 132, 74, 215, 194, 179, 229] from mac_prk, show exL [7, 119, 9, 54, 44, 46, 50, 223, 13, 220, 63, 13, 196, 123, 186, 99, 144, 182, 199, 59, 181, 15, 156, 49, 34, 236, 132, 74, 215, 194, 179, 229] (byL 240 10) 42 = [60, 178, 95, 37, 250, 172, 213, 122, 144, 67, 79, 100, 208, 54, 47, 42, 45, 45, 10, 144, 207, 26, 90, 76, 93, 176, 45, 86, 236, 196, 197, 191, 52, 0, 114, 8, 213, 184, 135, 24, 88, 101] from okm_vec]
      have B8 : Hid (Below w.heap.size w w8) := bthen HB.out (bthen hb6 (bthen hb7 hb8))
      clear HB hb6 hb7 hb8 T7 HTr
      go_wp2_with fail
      refine (hex_any [227, 176, 196, 66, 152, 252, 28, 20, 154, 251, 244, 200, 153, 111, 185, 36, 39, 174, 65, 228, 100, 155, 147, 76, 164, 149, 153, 27, 120, 82, 184, 85] (by decide) _).mono ?_
      rintro en wha ⟨rfl, hbha⟩
      rw [hexv_a, sthex_a]
      go_wp2_with fail
      refine (hex_any [186, 120, 22, 191, 143, 1, 207, 234, 65, 65, 64, 222, 93, 174, 34, 35, 176, 3, 97, 163, 150, 23, 122, 156, 180, 16, 255, 97, 242, 0, 21, 173] (by decide) _).mono ?_
      rintro en whb ⟨rfl, hbhb⟩
      rw [hexv_b, sthex_b]
      go_wp2_with fail
      refine (hex_any [91, 220, 193, 70, 191, 96, 117, 78, 106, 4, 36, 38, 8, 149, 117, 199, 90, 0, 63, 8, 157, 39, 57, 131, 157, 236, 88, 185, 100, 236, 56, 67] (by decide) _).mono ?_
      rintro en whc ⟨rfl, hbhc⟩
      rw [hexv_c, sthex_c]
      go_wp2_with fail
      refine (hex_any [105, 196, 224, 216, 106, 123, 4, 48, 216, 205, 183, 128, 112, 180, 197, 90] (by decide) _).mono ?_
      rintro en whd ⟨rfl, hbhd⟩
      rw [hexv_d, sthex_d]
      go_wp2_with fail
      refine (hex_any [60, 178, 95, 37, 250, 172, 213, 122, 144, 67, 79, 100, 208, 54, 47, 42, 45, 45, 10, 144, 207, 26, 90, 76, 93, 176, 45, 86, 236, 196, 197, 191, 52, 0, 114, 8, 213, 184, 135, 24, 88, 101] (by decide) _).mono ?_
      rintro en who ⟨rfl, hbho⟩
      rw [hexv_o, sthex_o]
      go_wp2_with fail
      go_ret
      exact ⟨rfl, bthen B8.out (bthen hbha (bthen hbhb (bthen hbhc (bthen hbhd hbho))))⟩
end Go.Proofs.YtjnbhiamaabbgaaDoor
