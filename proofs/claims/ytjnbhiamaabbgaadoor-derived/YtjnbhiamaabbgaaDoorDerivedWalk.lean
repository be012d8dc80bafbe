/-
  The walk of cofferkeep.Derived.
-/
import Derived.Test.YtjnbhiamaabbgaaDoorDerive
namespace Go.Proofs.YtjnbhiamaabbgaaDoor
open Go.RowKit
attribute [local go_sem] st_size st_append st_cut
set_option maxHeartbeats 1000000 in
set_option maxRecDepth 20000 in
theorem der_a1 (secret salt info : List UInt8) (n less : Int) (hi : info.length ≤ 1000) (hs : 4096 < secret.length) (w : World) (hT : Tab w) : Calls Tryd.prog 5 #[.string (st secret), .string (st salt), .string (st info), .int .i64 n, .int .i64 less] w fun en w' => en = .returned (.bool true) ∧ Below w.heap.size w w' := by
  have HT : Hid (Tab w) := hT
  have hw0 := hT.pos
  clear hT
  have g1 : ¬ (1000 : Int) < (info.length : Nat) := by omega
  have g3 : (4096 : Int) < (secret.length : Nat) := by omega
  go_enter Tryd.func5, Tryd.ntmps5
  go_wp2_with fail
  refine (fixed_any _ HT.out).mono ?_
  rintro en w1 ⟨rfl, hb1⟩
  have T1 : Hid (Tab w1) := HT.out.below hw0 hb1
  have hz1 := hb1.size
  go_wp2_with fail
  refine (Derive_long1 secret salt info hs _ _).mono ?_
  rintro en w2 ⟨rfl, rfl⟩
  go_wp2_with fail
  go_ret
  exact ⟨rfl, hb1⟩
set_option maxHeartbeats 1000000 in
set_option maxRecDepth 20000 in
theorem der_b1 (secret salt info : List UInt8) (n less : Int) (hi : info.length ≤ 1000) (hs : secret.length ≤ 4096) (ht : 4096 < salt.length) (w : World) (hT : Tab w) : Calls Tryd.prog 5 #[.string (st secret), .string (st salt), .string (st info), .int .i64 n, .int .i64 less] w fun en w' => en = .returned (.bool true) ∧ Below w.heap.size w w' := by
  have HT : Hid (Tab w) := hT
  have hw0 := hT.pos
  clear hT
  have g1 : ¬ (1000 : Int) < (info.length : Nat) := by omega
  have g3 : ¬ (4096 : Int) < (secret.length : Nat) := by omega
  have g4 : (4096 : Int) < (salt.length : Nat) := by omega
  go_enter Tryd.func5, Tryd.ntmps5
  go_wp2_with fail
  refine (fixed_any _ HT.out).mono ?_
  rintro en w1 ⟨rfl, hb1⟩
  have T1 : Hid (Tab w1) := HT.out.below hw0 hb1
  have hz1 := hb1.size
  go_wp2_with fail
  refine (Derive_long2 secret salt info hs ht _ _).mono ?_
  rintro en w2 ⟨rfl, rfl⟩
  go_wp2_with fail
  go_ret
  exact ⟨rfl, hb1⟩
set_option maxHeartbeats 1000000 in
set_option maxRecDepth 20000 in
theorem der_c1 (secret salt info : List UInt8) (n less : Int) (hi : info.length ≤ 1000) (hs : secret.length ≤ 4096) (ht : salt.length ≤ 4096) (hn1 : -9223372036854775808 ≤ n) (hn2 : n ≤ 9223372036854775807) (hl1 : -9223372036854775808 ≤ less) (hl2 : less ≤ 9223372036854775807) (w : World) (hT : Tab w) : Calls Tryd.prog 5 #[.string (st secret), .string (st salt), .string (st info), .int .i64 n, .int .i64 less] w fun en w' => en = .returned (.bool true) ∧ Below w.heap.size w w' := by
  have HT : Hid (Tab w) := hT
  have hw0 := hT.pos
  clear hT
  have g1 : ¬ (1000 : Int) < (info.length : Nat) := by omega
  have g3 : ¬ (4096 : Int) < (secret.length : Nat) := by omega
  have g4 : ¬ (4096 : Int) < (salt.length : Nat) := by omega
  have b3 : decide ((4096 : Int) < (secret.length : Nat)) = false := by simp; omega
  have b4 : decide ((4096 : Int) < (salt.length : Nat)) = false := by simp; omega
  have b1 : decide ((1000 : Int) < (info.length : Nat)) = false := by simp; omega
  go_enter Tryd.func5, Tryd.ntmps5
  go_wp2_with fail
  refine (fixed_any _ HT.out).mono ?_
  rintro en w1 ⟨rfl, hb1⟩
  have T1 : Hid (Tab w1) := HT.out.below hw0 hb1
  have hz1 := hb1.size
  go_wp2_with fail
  refine (pick_any n 256 (by decide) (by decide) hn1 hn2 _).mono ?_
  rintro en w2 ⟨⟨p, hp, rfl⟩, rfl⟩
  go_wp2_with fail
  have e1 : ((p : Int) + 1) = ((p + 1 : Nat) : Int) := by omega
  rw [e1]
  refine (pick_any less (p + 1) (by omega) (by omega) hl1 hl2 _).mono ?_
  rintro en w2 ⟨⟨q, hq, rfl⟩, rfl⟩
  clear e1 hn1 hn2 hl1 hl2
  go_wp2_with fail
  refine (Derive_ok secret salt info hs ht (by omega) p (by omega) _ T1.out).mono ?_
  rintro en w2 ⟨rfl, hb2⟩
  have T2 : Hid (Tab w2) := T1.out.below (by omega) hb2
  have hz2 := hb2.size
  go_wp2_with fail
  refine (Derive_ok secret salt info hs ht (by omega) q (by omega) _ T2.out).mono ?_
  rintro en w3 ⟨rfl, hb3⟩
  have T3 : Hid (Tab w3) := T2.out.below (by omega) hb3
  have hz3 := hb3.size
  go_wp2_with fail
  refine (Mac_ok salt secret ht hs _ T3.out).mono ?_
  rintro en w4 ⟨rfl, hb4⟩
  have T4 : Hid (Tab w4) := T3.out.below (by omega) hb4
  have hz4 := hb4.size
  have hkl := hmac_len salt secret
  have HB4 : Hid (Below w.heap.size w w4) := bthen hb1 (bthen hb2 (bthen hb3 hb4))
  clear T1 T2 T3 hb1 hb2 hb3 hb4 hz1 hz2 hz3
  have hw4 : 0 < w4.heap.size := T4.out.pos
  clear hz4
  generalize hmac salt secret = key at *
  generalize hII : info = I at *
  have hIl : I.length ≤ 1000 := by exact hi
  clear hII
  go_wp2_with fail
  go_loopw [20, 21, 22] (fun v b i wr => ∃ k : Nat, k ≤ 8 ∧ i = .int .i64 ((k : Int) + 1) ∧ b = .string (st (bk key I k)) ∧ v = .string (st (okm key I k)) ∧ Below w4.heap.size w4 wr) (fun _ _ i _ => (9 - intOf i).toNat)
  case atStart => exact ⟨0, by omega, rfl, rfl, rfl, Below.refl _ _⟩
  case round =>
    obtain ⟨k, hk, rfl, rfl, rfl, hb⟩ := hrel
    have hol := okm_len key I k
    by_cases hlt : 32 * k < p
    · have i1 : (32 * (k : Int)) < (p : Nat) := by omega
      have hbl := bk_len key I k
      have hone := one_textN ((k : Int) + 1) (bq (k + 1)) (by simp [bq]; omega)
      have hw8 : IntKind.u8.wrap ((k : Int) + 1) = (k : Int) + 1 := by simp [IntKind.wrap, IntKind.bits, IntKind.signed]; omega
      have HB : Hid (bk key I (k + 1) = hmac key (bk key I k ++ (I ++ [bq (k + 1)]))) := rfl
      have HO : Hid (okm key I (k + 1) = okm key I k ++ bk key I (k + 1)) := rfl
      generalize bk key I k = B at *
      generalize okm key I k = O at *
      have hm32 := hmac_len key (B ++ (I ++ [bq (k + 1)]))
      go_wp2_with fail
      refine (Mac_ok key (B ++ (I ++ [bq (k + 1)])) (by omega) (by simp; omega) _ ?tab).mono ?_
      case tab => exact T4.out.below hw4 (hb.alloc hb.size _)
      rintro en w5 ⟨rfl, hb5⟩
      have hb6 : Below w4.heap.size w4 w5 := (hb.alloc hb.size (.cells #[.int .u8 ((k : Int) + 1)] 5)).trans (hb5.mono (Nat.le_trans hb.size (by simp)))
      obtain ⟨B', hB'⟩ : ∃ B', hmac key (B ++ (I ++ [bq (k + 1)])) = B' := ⟨_, rfl⟩
      rw [hB'] at hm32 ⊢
      have HB' : Hid (bk key I (k + 1) = B') := HB.out.trans hB'
      clear hone hw8 hb5 hB'
      go_wp2_with fail
      go_roundw
      case rel => exact ⟨k + 1, by omega, by go_num, by rw [HB'.out], by rw [HO.out, HB'.out], hb6⟩
      case measure => simp [intOf]; omega
    · have i1 : ¬ (32 * (k : Int)) < (p : Nat) := by omega
      have e1 := exL_of key I p k hk (by omega)
      have e2 := exL_of key I q k hk (by omega)
      have i2 : (p : Int) ≤ 32 * (k : Int) := by omega
      have i3 : (q : Int) ≤ 32 * (k : Int) := by omega
      generalize okm key I k = O at *
      go_wp2_with fail
      go_ret
      exact ⟨rfl, bthen HB4.out hb⟩
set_option maxHeartbeats 1000000 in
set_option maxRecDepth 20000 in
theorem der_a2 (secret salt info : List UInt8) (n less : Int) (hi : 1000 < info.length) (hs : 4096 < secret.length) (w : World) (hT : Tab w) : Calls Tryd.prog 5 #[.string (st secret), .string (st salt), .string (st info), .int .i64 n, .int .i64 less] w fun en w' => en = .returned (.bool true) ∧ Below w.heap.size w w' := by
  have HT : Hid (Tab w) := hT
  have hw0 := hT.pos
  clear hT
  have g1 : (1000 : Int) < (info.length : Nat) := by omega
  have g2 : (info.take 1000).length = 1000 := by simp; omega
  have g3 : (4096 : Int) < (secret.length : Nat) := by omega
  go_enter Tryd.func5, Tryd.ntmps5
  go_wp2_with fail
  refine (fixed_any _ HT.out).mono ?_
  rintro en w1 ⟨rfl, hb1⟩
  have T1 : Hid (Tab w1) := HT.out.below hw0 hb1
  have hz1 := hb1.size
  go_wp2_with fail
  refine (Derive_long1 secret salt (info.take 1000) hs _ _).mono ?_
  rintro en w2 ⟨rfl, rfl⟩
  go_wp2_with fail
  go_ret
  exact ⟨rfl, hb1⟩
set_option maxHeartbeats 1000000 in
set_option maxRecDepth 20000 in
theorem der_b2 (secret salt info : List UInt8) (n less : Int) (hi : 1000 < info.length) (hs : secret.length ≤ 4096) (ht : 4096 < salt.length) (w : World) (hT : Tab w) : Calls Tryd.prog 5 #[.string (st secret), .string (st salt), .string (st info), .int .i64 n, .int .i64 less] w fun en w' => en = .returned (.bool true) ∧ Below w.heap.size w w' := by
  have HT : Hid (Tab w) := hT
  have hw0 := hT.pos
  clear hT
  have g1 : (1000 : Int) < (info.length : Nat) := by omega
  have g2 : (info.take 1000).length = 1000 := by simp; omega
  have g3 : ¬ (4096 : Int) < (secret.length : Nat) := by omega
  have g4 : (4096 : Int) < (salt.length : Nat) := by omega
  go_enter Tryd.func5, Tryd.ntmps5
  go_wp2_with fail
  refine (fixed_any _ HT.out).mono ?_
  rintro en w1 ⟨rfl, hb1⟩
  have T1 : Hid (Tab w1) := HT.out.below hw0 hb1
  have hz1 := hb1.size
  go_wp2_with fail
  refine (Derive_long2 secret salt (info.take 1000) hs ht _ _).mono ?_
  rintro en w2 ⟨rfl, rfl⟩
  go_wp2_with fail
  go_ret
  exact ⟨rfl, hb1⟩
set_option maxHeartbeats 1000000 in
set_option maxRecDepth 20000 in
theorem der_c2 (secret salt info : List UInt8) (n less : Int) (hi : 1000 < info.length) (hs : secret.length ≤ 4096) (ht : salt.length ≤ 4096) (hn1 : -9223372036854775808 ≤ n) (hn2 : n ≤ 9223372036854775807) (hl1 : -9223372036854775808 ≤ less) (hl2 : less ≤ 9223372036854775807) (w : World) (hT : Tab w) : Calls Tryd.prog 5 #[.string (st secret), .string (st salt), .string (st info), .int .i64 n, .int .i64 less] w fun en w' => en = .returned (.bool true) ∧ Below w.heap.size w w' := by
  have HT : Hid (Tab w) := hT
  have hw0 := hT.pos
  clear hT
  have g1 : (1000 : Int) < (info.length : Nat) := by omega
  have g2 : (info.take 1000).length = 1000 := by simp; omega
  have g3 : ¬ (4096 : Int) < (secret.length : Nat) := by omega
  have g4 : ¬ (4096 : Int) < (salt.length : Nat) := by omega
  have b3 : decide ((4096 : Int) < (secret.length : Nat)) = false := by simp; omega
  have b4 : decide ((4096 : Int) < (salt.length : Nat)) = false := by simp; omega
  have b1 : decide ((1000 : Int) < (info.length : Nat)) = true := by simp; omega
  go_enter Tryd.func5, Tryd.ntmps5
  go_wp2_with fail
  refine (fixed_any _ HT.out).mono ?_
  rintro en w1 ⟨rfl, hb1⟩
  have T1 : Hid (Tab w1) := HT.out.below hw0 hb1
  have hz1 := hb1.size
  go_wp2_with fail
  refine (pick_any n 256 (by decide) (by decide) hn1 hn2 _).mono ?_
  rintro en w2 ⟨⟨p, hp, rfl⟩, rfl⟩
  go_wp2_with fail
  have e1 : ((p : Int) + 1) = ((p + 1 : Nat) : Int) := by omega
  rw [e1]
  refine (pick_any less (p + 1) (by omega) (by omega) hl1 hl2 _).mono ?_
  rintro en w2 ⟨⟨q, hq, rfl⟩, rfl⟩
  clear e1 hn1 hn2 hl1 hl2
  go_wp2_with fail
  refine (Derive_ok secret salt (info.take 1000) hs ht (by omega) p (by omega) _ T1.out).mono ?_
  rintro en w2 ⟨rfl, hb2⟩
  have T2 : Hid (Tab w2) := T1.out.below (by omega) hb2
  have hz2 := hb2.size
  go_wp2_with fail
  refine (Derive_ok secret salt (info.take 1000) hs ht (by omega) q (by omega) _ T2.out).mono ?_
  rintro en w3 ⟨rfl, hb3⟩
  have T3 : Hid (Tab w3) := T2.out.below (by omega) hb3
  have hz3 := hb3.size
  go_wp2_with fail
  refine (Mac_ok salt secret ht hs _ T3.out).mono ?_
  rintro en w4 ⟨rfl, hb4⟩
  have T4 : Hid (Tab w4) := T3.out.below (by omega) hb4
  have hz4 := hb4.size
  have hkl := hmac_len salt secret
  have HB4 : Hid (Below w.heap.size w w4) := bthen hb1 (bthen hb2 (bthen hb3 hb4))
  clear T1 T2 T3 hb1 hb2 hb3 hb4 hz1 hz2 hz3
  have hw4 : 0 < w4.heap.size := T4.out.pos
  clear hz4
  generalize hmac salt secret = key at *
  generalize hII : (info.take 1000) = I at *
  have hIl : I.length ≤ 1000 := by omega
  clear hII g2
  go_wp2_with fail
  go_loopw [20, 21, 22] (fun v b i wr => ∃ k : Nat, k ≤ 8 ∧ i = .int .i64 ((k : Int) + 1) ∧ b = .string (st (bk key I k)) ∧ v = .string (st (okm key I k)) ∧ Below w4.heap.size w4 wr) (fun _ _ i _ => (9 - intOf i).toNat)
  case atStart => exact ⟨0, by omega, rfl, rfl, rfl, Below.refl _ _⟩
  case round =>
    obtain ⟨k, hk, rfl, rfl, rfl, hb⟩ := hrel
    have hol := okm_len key I k
    by_cases hlt : 32 * k < p
    · have i1 : (32 * (k : Int)) < (p : Nat) := by omega
      have hbl := bk_len key I k
      have hone := one_textN ((k : Int) + 1) (bq (k + 1)) (by simp [bq]; omega)
      have hw8 : IntKind.u8.wrap ((k : Int) + 1) = (k : Int) + 1 := by simp [IntKind.wrap, IntKind.bits, IntKind.signed]; omega
      have HB : Hid (bk key I (k + 1) = hmac key (bk key I k ++ (I ++ [bq (k + 1)]))) := rfl
      have HO : Hid (okm key I (k + 1) = okm key I k ++ bk key I (k + 1)) := rfl
      generalize bk key I k = B at *
      generalize okm key I k = O at *
      have hm32 := hmac_len key (B ++ (I ++ [bq (k + 1)]))
      go_wp2_with fail
      refine (Mac_ok key (B ++ (I ++ [bq (k + 1)])) (by omega) (by simp; omega) _ ?tab).mono ?_
      case tab => exact T4.out.below hw4 (hb.alloc hb.size _)
      rintro en w5 ⟨rfl, hb5⟩
      have hb6 : Below w4.heap.size w4 w5 := (hb.alloc hb.size (.cells #[.int .u8 ((k : Int) + 1)] 5)).trans (hb5.mono (Nat.le_trans hb.size (by simp)))
      obtain ⟨B', hB'⟩ : ∃ B', hmac key (B ++ (I ++ [bq (k + 1)])) = B' := ⟨_, rfl⟩
      rw [hB'] at hm32 ⊢
      have HB' : Hid (bk key I (k + 1) = B') := HB.out.trans hB'
      clear hone hw8 hb5 hB'
      go_wp2_with fail
      go_roundw
      case rel => exact ⟨k + 1, by omega, by go_num, by rw [HB'.out], by rw [HO.out, HB'.out], hb6⟩
      case measure => simp [intOf]; omega
    · have i1 : ¬ (32 * (k : Int)) < (p : Nat) := by omega
      have e1 := exL_of key I p k hk (by omega)
      have e2 := exL_of key I q k hk (by omega)
      have i2 : (p : Int) ≤ 32 * (k : Int) := by omega
      have i3 : (q : Int) ≤ 32 * (k : Int) := by omega
      generalize okm key I k = O at *
      go_wp2_with fail
      go_ret
      exact ⟨rfl, bthen HB4.out hb⟩
theorem Derived_any (secret salt info : List UInt8) (n less : Int) (hn1 : -9223372036854775808 ≤ n) (hn2 : n ≤ 9223372036854775807) (hl1 : -9223372036854775808 ≤ less) (hl2 : less ≤ 9223372036854775807) (w : World) (hT : Tab w) : Calls Tryd.prog 5 #[.string (st secret), .string (st salt), .string (st info), .int .i64 n, .int .i64 less] w fun en w' => en = .returned (.bool true) ∧ Below w.heap.size w w' := by
  by_cases h1 : 1000 < info.length <;> by_cases h2 : 4096 < secret.length
  · exact der_a2 secret salt info n less h1 h2 w hT
  · by_cases h3 : 4096 < salt.length
    · exact der_b2 secret salt info n less h1 (by omega) h3 w hT
    · exact der_c2 secret salt info n less h1 (by omega) (by omega) hn1 hn2 hl1 hl2 w hT
  · exact der_a1 secret salt info n less (by omega) h2 w hT
  · by_cases h3 : 4096 < salt.length
    · exact der_b1 secret salt info n less (by omega) (by omega) h3 w hT
    · exact der_c1 secret salt info n less (by omega) (by omega) (by omega) hn1 hn2 hl1 hl2 w hT
end Go.Proofs.YtjnbhiamaabbgaaDoor
