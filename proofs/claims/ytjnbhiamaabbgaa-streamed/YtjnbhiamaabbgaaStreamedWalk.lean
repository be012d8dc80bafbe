/-
  cofferkeep's Streamed: the walk.
-/
import Derived.Test.YtjnbhiamaabbgaaAesBlock
import Derived.Test.YtjnbhiamaabbgaaAesStream
import Derived.Test.YtjnbhiamaabbgaaAesVec
import Derived.Test.YtjnbhiamaabbgaaKeepB
namespace Go.Proofs.Ytjnbhiamaabbgaa
open Go.RowKit
attribute [local go_sem] st_size st_append st_cut
theorem xor_twice (a b : UInt8) : a ^^^ b ^^^ b = a := by rw [UInt8.xor_assoc]; simp
theorem strL_twice (k no x : List UInt8) : strL k no (strL k no x) = x := by
  unfold strL
  rw [kl_len]
  conv => rhs; rw [← kl_of x x.length rfl]
  apply kl_congr
  intro i hi
  rw [kl_getD _ _ _ hi, xor_twice]
theorem getD_st (l : List UInt8) (n : Nat) (h : n < l.length) : l.getD n 0 = (st l)[n]'(by rw [st_size]; exact h) := by
  show l.getD n 0 = l[n]
  simp [List.getD, h]
theorem kl_add (f : Nat → UInt8) (a b : Nat) : kl f (a + b) = kl f a ++ kl (fun j => f (a + j)) b := by
  apply List.ext_getElem?
  intro i
  by_cases h : i < a
  · rw [List.getElem?_append_left (by rw [kl_len]; exact h)]; simp [kl, h, show i < a + b by omega]
  · rw [List.getElem?_append_right (by rw [kl_len]; omega), kl_len]
    by_cases h2 : i < a + b
    · simp [kl, h2, show i - a < b by omega, show a + (i - a) = i by omega]
    · rw [List.getElem?_eq_none (by rw [kl_len]; omega), List.getElem?_eq_none (by rw [kl_len]; omega)]
theorem ct_text (no : List UInt8) (hno : no.length = 8) (k : Nat) (hk : k < 256) (i : Nat) (hi : i < 16) : (no ++ [0, 0, 0, 0, 0, 0, 0, UInt8.ofNat k]).getD i 0 = ctF no k i := by
  unfold ctF
  by_cases h : i < 8
  · rw [if_pos h]
    simp [List.getD, List.getElem?_append_left, hno, h]
  · rw [if_neg h]
    by_cases h2 : i = 15
    · subst h2; simp [List.getD, hno]
    · have e : k / 256 ^ (15 - i) = 0 := Nat.div_eq_of_lt (Nat.lt_of_lt_of_le hk (Nat.le_self_pow (by omega) 256))
      rw [e]
      obtain rfl | rfl | rfl | rfl | rfl | rfl | rfl : i = 8 ∨ i = 9 ∨ i = 10 ∨ i = 11 ∨ i = 12 ∨ i = 13 ∨ i = 14 := by omega
      all_goals simp [List.getD, hno]
theorem blk_pd (kf : Nat → UInt8) (no : List UInt8) (hno : no.length = 8) (k : Nat) (hk : k < 256) : kl (aesF kf (fun i => (no ++ [0, 0, 0, 0, 0, 0, 0, UInt8.ofNat k]).getD i 0)) 16 = kl (fun j => pdF kf no (16 * k + j)) 16 := by
  apply kl_congr
  intro i hi
  unfold pdF
  rw [show (16 * k + i) / 16 = k by omega, show (16 * k + i) % 16 = i by omega]
  exact aesF_congr (fun _ _ => rfl) (fun j hj => ct_text no hno k hk j hj) i hi
theorem hex_v1 : hexL [10, 148, 11, 181, 65, 110, 240, 69, 241, 195, 148, 88, 198, 83, 234, 90] = [48, 97, 57, 52, 48, 98, 98, 53, 52, 49, 54, 101, 102, 48, 52, 53, 102, 49, 99, 51, 57, 52, 53, 56, 99, 54, 53, 51, 101, 97, 53, 97] := by decide +kernel
set_option maxHeartbeats 2000000 in
set_option maxRecDepth 20000 in
theorem streamed_walk (key nonce x : List UInt8) (w : World) : Calls Try.prog 3 #[.string (st key), .string (st nonce), .string (st x)] w fun en w' => en = .returned (.bool true) ∧ Below w.heap.size w w' := by
  go_enter Try.func3, Try.ntmps3
  go_wp2_with fail
  refine (sized_any key 16 (by decide) 16 rfl _).mono ?_
  rintro en w1 ⟨rfl, hb1⟩
  go_wp2_with fail
  refine (sized_any nonce 8 (by decide) 8 rfl _).mono ?_
  rintro en w2 ⟨rfl, hb2⟩
  by_cases hx : 200 < x.length
  · have h1 : (200 : Int) < (x.length : Nat) := by omega
    have h2 : (x.take 200).length = 200 := by simp; omega
    go_wp2_with fail
    refine (Stream_ok (szL key 16) (szL nonce 8) (x.take 200) (szL_len _ _) (szL_len _ _) (by omega) _).mono ?_
    rintro en w3 ⟨rfl, hb3⟩
    have hs1 := strL_len (szL key 16) (szL nonce 8) (x.take 200)
    go_wp2_with fail
    refine (Stream_ok (szL key 16) (szL nonce 8) (strL (szL key 16) (szL nonce 8) (x.take 200)) (szL_len _ _) (szL_len _ _) (by omega) _).mono ?_
    rintro en w4 ⟨rfl, hb4⟩
    rw [strL_twice]
    go_wp2_with fail
    refine (bytes_any 0 16 (by decide) 0 16 rfl rfl _).mono ?_
    rintro en w5 ⟨rfl, hb5⟩
    go_wp2_with fail
    refine (bytes_any 0 16 (by decide) 0 16 rfl rfl _).mono ?_
    rintro en w6 ⟨rfl, hb6⟩
    go_wp2_with fail
    refine (Block_ok (byL 0 16) (byL 0 16) (byL_len _ _) (byL_len _ _) _).mono ?_
    rintro en w7 ⟨rfl, hb7⟩
    rw [aes_v1 (byL 0 16) (byL 0 16) (by decide) (by decide)]
    have HB : Hid (Below w.heap.size w w7) := bthen hb1 (bthen hb2 (bthen hb3 (bthen hb4 (bthen hb5 (bthen hb6 hb7)))))
    clear hb1 hb2 hb3 hb4 hb5 hb6 hb7
    have HS : Hid (∀ i (h : i < (x.take 200).length), (strL (szL key 16) (szL nonce 8) (x.take 200)).getD i 0 = (x.take 200).getD i 0 ^^^ pdF (fun j => (szL key 16).getD j 0) (szL nonce 8) i) := fun i h => by unfold strL; exact kl_getD _ _ _ h
    generalize strL (szL key 16) (szL nonce 8) (x.take 200) = SS at *
    have hK := szL_len key 16
    have hN := szL_len nonce 8
    generalize szL key 16 = KK at *
    generalize szL nonce 8 = NN at *
    have hne : ¬ ((SS.length : Nat) : Int) = (((x.take 200).length : Nat) : Int) → False := fun h => h (by omega)
    go_wp2_with fail
    refine (hex_any [10, 148, 11, 181, 65, 110, 240, 69, 241, 195, 148, 88, 198, 83, 234, 90] (by decide) _).mono ?_
    rintro en w8 ⟨rfl, hb8⟩
    rw [hex_v1]
    have hst : st [48, 97, 57, 52, 48, 98, 98, 53, 52, 49, 54, 101, 102, 48, 52, 53, 102, 49, 99, 51, 57, 52, 53, 56, 99, 54, 53, 51, 101, 97, 53, 97] = { data := #[48, 97, 57, 52, 48, 98, 98, 53, 52, 49, 54, 101, 102, 48, 52, 53, 102, 49, 99, 51, 57, 52, 53, 56, 99, 54, 53, 51, 101, 97, 53, 97] } := rfl
    rw [hst]
    clear hst
    have hb9 : Below w.heap.size w w8 := bthen HB.out hb8
    clear HB hb8
    obtain ⟨kf, hkf⟩ : ∃ kf : Nat → UInt8, (fun j => KK.getD j 0) = kf := ⟨_, rfl⟩
    rw [hkf] at HS
    obtain ⟨XX, hXX⟩ : ∃ XX, (x.take 200) = XX := ⟨_, rfl⟩
    have hX200 : XX.length ≤ 200 := by rw [← hXX]; omega
    rw [hXX] at hs1 HS ⊢
    clear hXX hne
    go_wp2_with fail
    go_loopw [13, 14] (fun v i wr => ∃ k : Nat, 16 * k < XX.length + 16 ∧ i = .int .i64 k ∧ v = .string (st (kl (pdF kf NN) (16 * k))) ∧ Below w.heap.size w wr) (fun _ i _ => (20 - intOf i).toNat)
    case atStart => exact ⟨0, by omega, rfl, rfl, hb9⟩
    case round =>
      clear hb9
      obtain ⟨k, hk, rfl, rfl, hb⟩ := hrel
      have hl := kl_len (pdF kf NN) (16 * k)
      by_cases hlt : 16 * k < XX.length
      · have i1 : 16 * (k : Int) < (XX.length : Nat) := by omega
        have i2 : ((16 * k : Nat) : Int) < (XX.length : Nat) := by omega
        obtain ⟨v, hv⟩ : ∃ v, UInt8.ofNat k = v := ⟨_, rfl⟩
        have e2 : IntKind.u8.wrap (k : Int) = (v.toNat : Int) := by rw [← hv]; simp [IntKind.wrap, IntKind.bits, IntKind.signed]
        have hz7 : st NN ++ ({ data := #[0, 0, 0, 0, 0, 0, 0] } : ByteArray) = st (NN ++ [0, 0, 0, 0, 0, 0, 0]) := st_append NN [0, 0, 0, 0, 0, 0, 0]
        have hone := one_text
        have HB7 : Hid (kl (aesF (fun i => KK.getD i 0) (fun i => (NN ++ [0, 0, 0, 0, 0, 0, 0, v]).getD i 0)) 16 = kl (fun j => pdF kf NN (16 * k + j)) 16) := by rw [← hv]; show kl (aesF (fun j => KK.getD j 0) _) 16 = _; rw [hkf]; exact blk_pd kf NN hN k (by omega)
        have HA : Hid (kl (pdF kf NN) (16 * (k + 1)) = kl (pdF kf NN) (16 * k) ++ kl (fun j => pdF kf NN (16 * k + j)) 16) := by show kl (pdF kf NN) (16 * k + 16) = _; exact kl_add _ _ _
        have hl2 : (NN ++ [0, 0, 0, 0, 0, 0, 0, v]).length = 16 := by simp [hN]
        clear hv
        generalize kl (pdF kf NN) (16 * k) = P at *
        have i3 : ((P.length : Nat) : Int) < (XX.length : Nat) := by omega
        go_wp2_with fail
        go_fit (Block_ok KK (NN ++ [0, 0, 0, 0, 0, 0, 0, v]) hK hl2 _)
        rintro en wb ⟨rfl, hbb⟩
        rw [HB7.out]
        have hl3 := kl_len (fun j => pdF kf NN (16 * k + j)) 16
        have hb2 : Below w.heap.size w wb := Below.trans (hb.alloc hb.size _) (hbb.mono (Below.size (hb.alloc hb.size _)))
        clear HB7 hbb
        generalize kl (fun j => pdF kf NN (16 * k + j)) 16 = B at *
        have hl4 : ¬ ((B.length : Nat) : Int) = 16 → False := fun h => h (by omega)
        go_wp2_with fail
        go_roundw
        case rel => exact ⟨k + 1, by omega, by go_num, by rw [HA.out], hb2⟩
        case measure => simp [intOf]; omega
      · have i1 : ¬ 16 * (k : Int) < (XX.length : Nat) := by omega
        have HP : Hid (∀ i, i < XX.length → SS.getD i 0 = XX.getD i 0 ^^^ (kl (pdF kf NN) (16 * k)).getD i 0) := fun i hi => by rw [HS.out i hi, kl_getD _ _ _ (by omega)]
        generalize kl (pdF kf NN) (16 * k) = P at *
        have i3 : ¬ ((P.length : Nat) : Int) < (XX.length : Nat) := by omega
        clear i1
        go_wp2_with fail
        go_loopw [17] (fun i wr => ∃ k : Nat, k ≤ XX.length ∧ i = .int .i64 k ∧ Below w.heap.size w wr) (fun i _ => (XX.length - intOf i).toNat)
        case atStart => exact ⟨0, by omega, rfl, hb⟩
        case round =>
          obtain ⟨n, hn, rfl, hbn⟩ := hrel
          by_cases hlt2 : n < XX.length
          · have j1 : (n : Int) < (XX.length : Nat) := by omega
            have j2 : (n : Int) < (SS.length : Nat) := by omega
            have j3 : (n : Int) < (P.length : Nat) := by omega
            obtain ⟨a, ha⟩ : ∃ a, (st XX)[n]'(by rw [st_size]; exact hlt2) = a := ⟨_, rfl⟩
            obtain ⟨b, hbb⟩ : ∃ b, (st P)[n]'(by rw [st_size]; omega) = b := ⟨_, rfl⟩
            have hc : (st SS)[n]'(by rw [st_size]; omega) = a ^^^ b := by
              have h := HP.out n hlt2
              have e1 : XX.getD n 0 = a := by rw [← ha]; exact getD_st XX n hlt2
              have e2 : P.getD n 0 = b := by rw [← hbb]; exact getD_st P n (by omega)
              rw [e1, e2] at h
              rw [← h]; exact (getD_st SS n (by omega)).symm
            have hx8 := u8_xor a b
            generalize a ^^^ b = c at *
            go_wp2
            go_quiet (fail)
            go_wp2
            go_roundw
            case rel => exact ⟨n + 1, by omega, by go_num, below_drewN hbn _⟩
            case measure => simp [intOf]; omega
          · have j1 : ¬ (n : Int) < (XX.length : Nat) := by omega
            go_wp2
            go_ret
            exact ⟨rfl, hbn⟩
  · have h1 : ¬ (200 : Int) < (x.length : Nat) := by omega
    go_wp2_with fail
    refine (Stream_ok (szL key 16) (szL nonce 8) x (szL_len _ _) (szL_len _ _) (by omega) _).mono ?_
    rintro en w3 ⟨rfl, hb3⟩
    have hs1 := strL_len (szL key 16) (szL nonce 8) x
    go_wp2_with fail
    refine (Stream_ok (szL key 16) (szL nonce 8) (strL (szL key 16) (szL nonce 8) x) (szL_len _ _) (szL_len _ _) (by omega) _).mono ?_
    rintro en w4 ⟨rfl, hb4⟩
    rw [strL_twice]
    go_wp2_with fail
    refine (bytes_any 0 16 (by decide) 0 16 rfl rfl _).mono ?_
    rintro en w5 ⟨rfl, hb5⟩
    go_wp2_with fail
    refine (bytes_any 0 16 (by decide) 0 16 rfl rfl _).mono ?_
    rintro en w6 ⟨rfl, hb6⟩
    go_wp2_with fail
    refine (Block_ok (byL 0 16) (byL 0 16) (byL_len _ _) (byL_len _ _) _).mono ?_
    rintro en w7 ⟨rfl, hb7⟩
    rw [aes_v1 (byL 0 16) (byL 0 16) (by decide) (by decide)]
    have HB : Hid (Below w.heap.size w w7) := bthen hb1 (bthen hb2 (bthen hb3 (bthen hb4 (bthen hb5 (bthen hb6 hb7)))))
    clear hb1 hb2 hb3 hb4 hb5 hb6 hb7
    have HS : Hid (∀ i (h : i < x.length), (strL (szL key 16) (szL nonce 8) x).getD i 0 = x.getD i 0 ^^^ pdF (fun j => (szL key 16).getD j 0) (szL nonce 8) i) := fun i h => by unfold strL; exact kl_getD _ _ _ h
    generalize strL (szL key 16) (szL nonce 8) x = SS at *
    have hK := szL_len key 16
    have hN := szL_len nonce 8
    generalize szL key 16 = KK at *
    generalize szL nonce 8 = NN at *
    have hne : ¬ ((SS.length : Nat) : Int) = ((x.length : Nat) : Int) → False := fun h => h (by omega)
    go_wp2_with fail
    refine (hex_any [10, 148, 11, 181, 65, 110, 240, 69, 241, 195, 148, 88, 198, 83, 234, 90] (by decide) _).mono ?_
    rintro en w8 ⟨rfl, hb8⟩
    rw [hex_v1]
    have hst : st [48, 97, 57, 52, 48, 98, 98, 53, 52, 49, 54, 101, 102, 48, 52, 53, 102, 49, 99, 51, 57, 52, 53, 56, 99, 54, 53, 51, 101, 97, 53, 97] = { data := #[48, 97, 57, 52, 48, 98, 98, 53, 52, 49, 54, 101, 102, 48, 52, 53, 102, 49, 99, 51, 57, 52, 53, 56, 99, 54, 53, 51, 101, 97, 53, 97] } := rfl
    rw [hst]
    clear hst
    have hb9 : Below w.heap.size w w8 := bthen HB.out hb8
    clear HB hb8
    obtain ⟨kf, hkf⟩ : ∃ kf : Nat → UInt8, (fun j => KK.getD j 0) = kf := ⟨_, rfl⟩
    rw [hkf] at HS
    obtain ⟨XX, hXX⟩ : ∃ XX, x = XX := ⟨_, rfl⟩
    have hX200 : XX.length ≤ 200 := by rw [← hXX]; omega
    rw [hXX] at hs1 HS ⊢
    clear hXX hne
    go_wp2_with fail
    go_loopw [13, 14] (fun v i wr => ∃ k : Nat, 16 * k < XX.length + 16 ∧ i = .int .i64 k ∧ v = .string (st (kl (pdF kf NN) (16 * k))) ∧ Below w.heap.size w wr) (fun _ i _ => (20 - intOf i).toNat)
    case atStart => exact ⟨0, by omega, rfl, rfl, hb9⟩
    case round =>
      clear hb9
      obtain ⟨k, hk, rfl, rfl, hb⟩ := hrel
      have hl := kl_len (pdF kf NN) (16 * k)
      by_cases hlt : 16 * k < XX.length
      · have i1 : 16 * (k : Int) < (XX.length : Nat) := by omega
        have i2 : ((16 * k : Nat) : Int) < (XX.length : Nat) := by omega
        obtain ⟨v, hv⟩ : ∃ v, UInt8.ofNat k = v := ⟨_, rfl⟩
        have e2 : IntKind.u8.wrap (k : Int) = (v.toNat : Int) := by rw [← hv]; simp [IntKind.wrap, IntKind.bits, IntKind.signed]
        have hz7 : st NN ++ ({ data := #[0, 0, 0, 0, 0, 0, 0] } : ByteArray) = st (NN ++ [0, 0, 0, 0, 0, 0, 0]) := st_append NN [0, 0, 0, 0, 0, 0, 0]
        have hone := one_text
        have HB7 : Hid (kl (aesF (fun i => KK.getD i 0) (fun i => (NN ++ [0, 0, 0, 0, 0, 0, 0, v]).getD i 0)) 16 = kl (fun j => pdF kf NN (16 * k + j)) 16) := by rw [← hv]; show kl (aesF (fun j => KK.getD j 0) _) 16 = _; rw [hkf]; exact blk_pd kf NN hN k (by omega)
        have HA : Hid (kl (pdF kf NN) (16 * (k + 1)) = kl (pdF kf NN) (16 * k) ++ kl (fun j => pdF kf NN (16 * k + j)) 16) := by show kl (pdF kf NN) (16 * k + 16) = _; exact kl_add _ _ _
        have hl2 : (NN ++ [0, 0, 0, 0, 0, 0, 0, v]).length = 16 := by simp [hN]
        clear hv
        generalize kl (pdF kf NN) (16 * k) = P at *
        have i3 : ((P.length : Nat) : Int) < (XX.length : Nat) := by omega
        go_wp2_with fail
        go_fit (Block_ok KK (NN ++ [0, 0, 0, 0, 0, 0, 0, v]) hK hl2 _)
        rintro en wb ⟨rfl, hbb⟩
        rw [HB7.out]
        have hl3 := kl_len (fun j => pdF kf NN (16 * k + j)) 16
        have hb2 : Below w.heap.size w wb := Below.trans (hb.alloc hb.size _) (hbb.mono (Below.size (hb.alloc hb.size _)))
        clear HB7 hbb
        generalize kl (fun j => pdF kf NN (16 * k + j)) 16 = B at *
        have hl4 : ¬ ((B.length : Nat) : Int) = 16 → False := fun h => h (by omega)
        go_wp2_with fail
        go_roundw
        case rel => exact ⟨k + 1, by omega, by go_num, by rw [HA.out], hb2⟩
        case measure => simp [intOf]; omega
      · have i1 : ¬ 16 * (k : Int) < (XX.length : Nat) := by omega
        have HP : Hid (∀ i, i < XX.length → SS.getD i 0 = XX.getD i 0 ^^^ (kl (pdF kf NN) (16 * k)).getD i 0) := fun i hi => by rw [HS.out i hi, kl_getD _ _ _ (by omega)]
        generalize kl (pdF kf NN) (16 * k) = P at *
        have i3 : ¬ ((P.length : Nat) : Int) < (XX.length : Nat) := by omega
        clear i1
        go_wp2_with fail
        go_loopw [17] (fun i wr => ∃ k : Nat, k ≤ XX.length ∧ i = .int .i64 k ∧ Below w.heap.size w wr) (fun i _ => (XX.length - intOf i).toNat)
        case atStart => exact ⟨0, by omega, rfl, hb⟩
        case round =>
          obtain ⟨n, hn, rfl, hbn⟩ := hrel
          by_cases hlt2 : n < XX.length
          · have j1 : (n : Int) < (XX.length : Nat) := by omega
            have j2 : (n : Int) < (SS.length : Nat) := by omega
            have j3 : (n : Int) < (P.length : Nat) := by omega
            obtain ⟨a, ha⟩ : ∃ a, (st XX)[n]'(by rw [st_size]; exact hlt2) = a := ⟨_, rfl⟩
            obtain ⟨b, hbb⟩ : ∃ b, (st P)[n]'(by rw [st_size]; omega) = b := ⟨_, rfl⟩
            have hc : (st SS)[n]'(by rw [st_size]; omega) = a ^^^ b := by
              have h := HP.out n hlt2
              have e1 : XX.getD n 0 = a := by rw [← ha]; exact getD_st XX n hlt2
              have e2 : P.getD n 0 = b := by rw [← hbb]; exact getD_st P n (by omega)
              rw [e1, e2] at h
              rw [← h]; exact (getD_st SS n (by omega)).symm
            have hx8 := u8_xor a b
            generalize a ^^^ b = c at *
            go_wp2
            go_quiet (fail)
            go_wp2
            go_roundw
            case rel => exact ⟨n + 1, by omega, by go_num, below_drewN hbn _⟩
            case measure => simp [intOf]; omega
          · have j1 : ¬ (n : Int) < (XX.length : Nat) := by omega
            go_wp2
            go_ret
            exact ⟨rfl, hbn⟩
end Go.Proofs.Ytjnbhiamaabbgaa
