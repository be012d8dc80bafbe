/-
  The document's answer: cofferref.derive, Derive, root and Root.
-/
import Derived.Test.YtjnbhiamaabbgaaDoorRefE
import Derived.Test.YtjnbhiamaabbgaaDoorRootTop
namespace Go.Proofs.YtjnbhiamaabbgaaDoor
open Go.RowKit
attribute [local go_sem] st_size st_append st_cut
set_option maxHeartbeats 1000000 in
set_option maxRecDepth 20000 in
theorem rderive_any (secret salt info : List UInt8) (h1 : secret.length ≤ 4096) (h2 : salt.length ≤ 4096) (h3 : info.length ≤ 4063) (n : Nat) (hn : n ≤ 255) (w : World) (hT : Tab2 w) :
    Calls Tryd.prog 40 #[.string (st secret), .string (st salt), .string (st info), .int .i64 n] w fun en w' => en = .returned (.string (st (exL (hmac salt secret) info n))) ∧ Below w.heap.size w w' := by
  have HT : Hid (Tab2 w) := hT
  clear hT
  have hkl := hmac_len salt secret
  go_enter Tryd.func40, Tryd.ntmps40
  go_wp2_with fail
  go_fit (rmac_any salt secret (by omega) (by omega) _ HT.out)
  rintro en w1 ⟨rfl, hb1⟩
  obtain ⟨key, hkey⟩ : ∃ key, hmac salt secret = key := ⟨_, rfl⟩
  have HKEY : Hid (hmac salt secret = key) := hkey
  rw [hkey] at hkl
  rw [hkey]
  clear hkey
  go_wp2_with fail
  go_loopw [10, 11, 12] (fun v b q wr => ∃ k : Nat, k ≤ 8 ∧ q = .int .i64 ((k : Int) + 1) ∧ b = .string (st (bk key info k)) ∧ v = .string (st (okm key info k)) ∧ Below w.heap.size w wr) (fun _ _ q _ => (9 - intOf q).toNat)
  case atStart => exact ⟨0, by omega, rfl, rfl, rfl, hb1⟩
  case round =>
    clear hb1
    obtain ⟨k, hk, rfl, rfl, rfl, hb⟩ := hrel
    have hol := okm_len key info k
    by_cases hlt : 32 * k < n
    · have i1 : (32 * (k : Int)) < (n : Nat) := by omega
      have hbl := bk_len key info k
      have HB : Hid (bk key info (k + 1) = hmac key (bk key info k ++ (info ++ [bq (k + 1)]))) := rfl
      have HO : Hid (okm key info (k + 1) = okm key info k ++ bk key info (k + 1)) := rfl
      have HN : Hid (nb (k + 1) 1 = [bq (k + 1)]) := by show _ = _; simp [nb]
      generalize bk key info k = B at *
      generalize okm key info k = O at *
      have hm32 := hmac_len key (B ++ (info ++ [bq (k + 1)]))
      go_wp2_with fail
      go_fit (numberI ((k : Int) + 1) 1 (k + 1) 1 (by omega) rfl (by decide) _)
      rintro en w2 ⟨rfl, hb2⟩
      rw [HN.out]
      go_wp2_with fail
      go_fit (rmac_any key (B ++ (info ++ [bq (k + 1)])) (by omega) (by simp; omega) _ (HT.out.then (bthen hb hb2)))
      rintro en w3 ⟨rfl, hb3⟩
      rw [← HB.out]
      rw [← HB.out] at hm32
      go_wp2_with fail
      go_roundw
      case rel => exact ⟨k + 1, by omega, by go_num, rfl, by rw [HO.out], bthen hb (bthen hb2 hb3)⟩
      case measure => simp [intOf]; omega
    · have i1 : ¬ (32 * (k : Int)) < (n : Nat) := by omega
      have HE : Hid ((okm key info k).take n = exL key info n) := exL_of key info n k hk (by omega)
      generalize okm key info k = O at *
      have i2 : (n : Int) ≤ (O.length : Nat) := by omega
      go_wp2_with fail
      go_ret
      exact ⟨by rw [HKEY.out, ← HE.out]; rfl, hb⟩
set_option maxHeartbeats 400000 in
set_option maxRecDepth 20000 in
theorem RDerive_ok (secret salt info : List UInt8) (h1 : secret.length ≤ 4096) (h2 : salt.length ≤ 4096) (h3 : info.length ≤ 4063) (n : Nat) (hn : n ≤ 255) (w : World) (hT : Tab2 w) :
    Calls Tryd.prog 23 #[.string (st secret), .string (st salt), .string (st info), .int .i64 n] w fun en w' => en = .returned (.tuple #[.string (st (exL (hmac salt secret) info n)), .int .i64 0]) ∧ Below w.heap.size w w' := by
  have HT : Hid (Tab2 w) := hT
  clear hT
  have j1 : ¬ (4096 : Int) < (secret.length : Nat) := by omega
  have j2 : ¬ (4096 : Int) < (salt.length : Nat) := by omega
  have j3 : ¬ (4063 : Int) < (info.length : Nat) := by omega
  have j4 : ¬ (n : Int) < 0 := by omega
  have j5 : ¬ (255 : Int) < (n : Nat) := by omega
  go_enter Tryd.func23, Tryd.ntmps23
  go_wp2_with fail
  go_fit (rderive_any secret salt info h1 h2 h3 n hn _ HT.out)
  rintro en w2 ⟨rfl, hb2⟩
  go_wp2_with fail
  go_ret2
  exact ⟨rfl, hb2⟩
theorem RDerive_long1 (secret salt info : List UInt8) (h1 : 4096 < secret.length) (n : Int) (w : World) :
    Calls Tryd.prog 23 #[.string (st secret), .string (st salt), .string (st info), .int .i64 n] w fun en w' => en = .returned (.tuple #[.string (st []), .int .i64 1]) ∧ w' = w := by
  have j1 : (4096 : Int) < (secret.length : Nat) := by omega
  go_enter Tryd.func23, Tryd.ntmps23
  go_wp2_with fail
  go_ret2
  exact ⟨rfl, rfl⟩
theorem RDerive_long2 (secret salt info : List UInt8) (h1 : secret.length ≤ 4096) (h2 : 4096 < salt.length) (n : Int) (w : World) :
    Calls Tryd.prog 23 #[.string (st secret), .string (st salt), .string (st info), .int .i64 n] w fun en w' => en = .returned (.tuple #[.string (st []), .int .i64 1]) ∧ w' = w := by
  have j1 : ¬ (4096 : Int) < (secret.length : Nat) := by omega
  have j2 : (4096 : Int) < (salt.length : Nat) := by omega
  go_enter Tryd.func23, Tryd.ntmps23
  go_wp2_with fail
  go_ret2
  exact ⟨rfl, rfl⟩
theorem RDerive_long3 (secret salt info : List UInt8) (h1 : secret.length ≤ 4096) (h2 : salt.length ≤ 4096) (h3 : 4063 < info.length) (n : Int) (w : World) :
    Calls Tryd.prog 23 #[.string (st secret), .string (st salt), .string (st info), .int .i64 n] w fun en w' => en = .returned (.tuple #[.string (st []), .int .i64 1]) ∧ w' = w := by
  have j1 : ¬ (4096 : Int) < (secret.length : Nat) := by omega
  have j2 : ¬ (4096 : Int) < (salt.length : Nat) := by omega
  have j3 : (4063 : Int) < (info.length : Nat) := by omega
  go_enter Tryd.func23, Tryd.ntmps23
  go_wp2_with fail
  go_ret2
  exact ⟨rfl, rfl⟩
theorem RDerive_neg (secret salt info : List UInt8) (h1 : secret.length ≤ 4096) (h2 : salt.length ≤ 4096) (h3 : info.length ≤ 4063) (n : Int) (hn : n < 0) (w : World) :
    Calls Tryd.prog 23 #[.string (st secret), .string (st salt), .string (st info), .int .i64 n] w fun en w' => en = .returned (.tuple #[.string (st []), .int .i64 2]) ∧ w' = w := by
  have j1 : ¬ (4096 : Int) < (secret.length : Nat) := by omega
  have j2 : ¬ (4096 : Int) < (salt.length : Nat) := by omega
  have j3 : ¬ (4063 : Int) < (info.length : Nat) := by omega
  go_enter Tryd.func23, Tryd.ntmps23
  go_wp2_with fail
  go_ret2
  exact ⟨rfl, rfl⟩
theorem RDerive_big (secret salt info : List UInt8) (h1 : secret.length ≤ 4096) (h2 : salt.length ≤ 4096) (h3 : info.length ≤ 4063) (n : Int) (hn : 255 < n) (w : World) :
    Calls Tryd.prog 23 #[.string (st secret), .string (st salt), .string (st info), .int .i64 n] w fun en w' => en = .returned (.tuple #[.string (st []), .int .i64 2]) ∧ w' = w := by
  have j1 : ¬ (4096 : Int) < (secret.length : Nat) := by omega
  have j2 : ¬ (4096 : Int) < (salt.length : Nat) := by omega
  have j3 : ¬ (4063 : Int) < (info.length : Nat) := by omega
  have j4 : ¬ n < 0 := by omega
  go_enter Tryd.func23, Tryd.ntmps23
  go_wp2_with fail
  go_ret2
  exact ⟨rfl, rfl⟩
theorem Derive_neg (secret salt info : List UInt8) (h1 : secret.length ≤ 4096) (h2 : salt.length ≤ 4096) (h3 : info.length ≤ 4063) (n : Int) (hn : n < 0) (w : World) :
    Calls Tryd.prog 14 #[.string (st secret), .string (st salt), .string (st info), .int .i64 n] w fun en w' => en = .returned (.tuple #[.string (st []), .int .i64 2]) ∧ w' = w := by
  have j1 : ¬ (4096 : Int) < (secret.length : Nat) := by omega
  have j2 : ¬ (4096 : Int) < (salt.length : Nat) := by omega
  have j3 : ¬ (4063 : Int) < (info.length : Nat) := by omega
  go_enter Tryd.func14, Tryd.ntmps14
  go_wp2_with fail
  go_ret2
  exact ⟨rfl, rfl⟩
theorem Derive_big (secret salt info : List UInt8) (h1 : secret.length ≤ 4096) (h2 : salt.length ≤ 4096) (h3 : info.length ≤ 4063) (n : Int) (hn : 255 < n) (w : World) :
    Calls Tryd.prog 14 #[.string (st secret), .string (st salt), .string (st info), .int .i64 n] w fun en w' => en = .returned (.tuple #[.string (st []), .int .i64 2]) ∧ w' = w := by
  have j1 : ¬ (4096 : Int) < (secret.length : Nat) := by omega
  have j2 : ¬ (4096 : Int) < (salt.length : Nat) := by omega
  have j3 : ¬ (4063 : Int) < (info.length : Nat) := by omega
  have j4 : ¬ n < 0 := by omega
  go_enter Tryd.func14, Tryd.ntmps14
  go_wp2_with fail
  go_ret2
  exact ⟨rfl, rfl⟩
end Go.Proofs.YtjnbhiamaabbgaaDoor
