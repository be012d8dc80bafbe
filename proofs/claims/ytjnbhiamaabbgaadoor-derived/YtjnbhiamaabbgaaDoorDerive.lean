/-
  prim.expand and Derive: HKDF.
-/
import Derived.Test.YtjnbhiamaabbgaaDoorKeep
import Derived.Lib.AppendStr
namespace Go.Proofs.YtjnbhiamaabbgaaDoor
open Go.RowKit
theorem st_cut (l : List UInt8) (n : Nat) : (st l).extract 0 n = st (l.take n) := by
  apply ByteArray.ext
  simp [st]
attribute [local go_sem] st_size st_append st_cut
/-- HKDF's block number k. -/
def bk (key info : List UInt8) : Nat → List UInt8
  | 0 => []
  | k + 1 => hmac key (bk key info k ++ (info ++ [bq (k + 1)]))
/-- The first k blocks. -/
def okm (key info : List UInt8) : Nat → List UInt8
  | 0 => []
  | k + 1 => okm key info k ++ bk key info (k + 1)
theorem bk_len (key info : List UInt8) : ∀ k, (bk key info k).length ≤ 32
  | 0 => by simp [bk]
  | k + 1 => by rw [bk, hmac_len]; decide
theorem okm_len (key info : List UInt8) : ∀ k, (okm key info k).length = 32 * k
  | 0 => rfl
  | k + 1 => by rw [okm, List.length_append, okm_len key info k, bk, hmac_len]; omega
/-- HKDF's bytes. -/
def exL (key info : List UInt8) (n : Nat) : List UInt8 := (okm key info 8).take n
theorem okm_take (key info : List UInt8) (n k : Nat) (hn : n ≤ 32 * k) : ∀ j, (okm key info (k + j)).take n = (okm key info k).take n
  | 0 => rfl
  | j + 1 => by
    rw [← Nat.add_assoc, okm, List.take_append_of_le_length (by rw [okm_len]; omega)]
    exact okm_take key info n k hn j
theorem exL_of (key info : List UInt8) (n k : Nat) (hk : k ≤ 8) (hn : n ≤ 32 * k) : (okm key info k).take n = exL key info n := by
  have := okm_take key info n k hn (8 - k)
  rw [show k + (8 - k) = 8 by omega] at this
  exact this.symm
theorem exL_len (key info : List UInt8) (n : Nat) (h : n ≤ 255) : (exL key info n).length = n := by
  rw [exL, List.length_take, okm_len]; omega
theorem one_textN (n : Int) (v : UInt8) (hn : n = (v.toNat : Int)) (w : World) : (convert 37 9 (.slice (some ⟨w.heap.size, 0, none⟩) 1 1)).run Tryd.prog (w.alloc (.cells #[.int .u8 n] 5)) = .ok (.string (st [v])) (w.alloc (.cells #[.int .u8 n] 5)) := by
  subst hn; exact one_text v w
theorem owned_shape {w : World} {base e size : Nat} {v : Value} {n : Nat} {xs : List Value} (h : w.ownsRow base e size v n xs) : ∃ a cap, v = .slice a n cap ∧ n ≤ cap := by
  rcases h.2 with ⟨h1, h2⟩ | ⟨g, cap, cur, hv, _, _, hn, _⟩
  · exact ⟨none, 0, by rw [h1, h2], by omega⟩
  · exact ⟨_, _, hv, hn⟩
theorem owns_below {w w2 : World} {base e size : Nat} {v : Value} {n : Nat} {xs : List Value} (h : w.ownsRow base e size v n xs) (hb : Below w.heap.size w w2) : w2.ownsRow base e size v n xs := by
  refine ⟨h.1, ?_⟩
  rcases h.2 with h1 | ⟨g, cap, cur, hv, hg, hh, r⟩
  · exact .inl h1
  · exact .inr ⟨g, cap, cur, hv, hg, (hb.block g (Array.getElem?_eq_some_iff.1 hh).1).trans hh, r⟩
theorem owns_block {w : World} {base e size : Nat} {v : Value} {n : Nat} {xs : List Value} (h : w.ownsRow base e size v n xs) : ∀ q, v.ownBlock = some q → base ≤ q := by
  intro q hq
  rcases h.2 with ⟨h1, _⟩ | ⟨g, cap, cur, hv, hg, _⟩
  · rw [h1] at hq; cases hq
  · rw [hv] at hq; cases hq; exact hg
/-- The first n bytes of an owned row, as a text. -/
theorem owns_text {w : World} {base : Nat} {a : Option Addr} {n cap m : Nat} {l : List UInt8} (h : w.ownsRow base 5 1 (.slice a n cap) n (bv l)) (hm : m ≤ n) : (convert 37 9 (.slice a m cap)).run Tryd.prog w = .ok (.string (st (l.take m))) w := by
  have hl : l.length = n := by have := h.1; simpa [bv_len] using this
  cases a with
  | none =>
    rcases h.2 with ⟨h1, h2⟩ | ⟨g, cap', cur, hv, _⟩
    · obtain rfl : m = 0 := by omega
      rw [run_convert_bytes_string w 37 9 5 none 0 cap Tryd.underlying37 Tryd.underlying5 Tryd.underlying9]
      rfl
    · cases hv
  | some ad =>
    rcases h.2 with ⟨h1, h2⟩ | ⟨g, cap', cur, hv, _⟩
    · cases h1
    · have e : ad = ⟨g, 0, none⟩ := by cases hv; rfl
      subst e
      have ht := (owned_text h).2
      have hc := run_convert_bytes_back (P := Tryd.prog) w 37 9 5 ⟨g, 0, none⟩ cap (l.take m) Tryd.underlying37 Tryd.underlying5 Tryd.underlying9 (fun j hj => by
        rw [List.length_take] at hj
        rw [ht j (by omega)]
        simp)
      rw [List.length_take, Nat.min_eq_left (by omega)] at hc
      exact hc
set_option maxHeartbeats 1000000 in
set_option maxRecDepth 20000 in
theorem expand_any (key info : List UInt8) (hkey : key.length ≤ 64) (hinfo : info.length ≤ 4063) (n : Nat) (hn : n ≤ 255) (w : World) (hT : Tab w) : Calls Tryd.prog 30 #[.string (st key), .string (st info), .int .i64 n] w fun en w' => en = .returned (.string (st (exL key info n))) ∧ Below w.heap.size w w' := by
  have HT : Hid (Tab w) := hT
  have hw0 := hT.pos
  clear hT
  obtain ⟨i5, hi, hz0, hz1, hz2⟩ := info5
  go_enter Tryd.func30, Tryd.ntmps30
  go_wp2
  go_loopw [7, 8, 9] (fun v b q wr => ∃ k : Nat, k ≤ 8 ∧ q = .int .u8 ((k : Int) + 1) ∧ b = .string (st (bk key info k)) ∧ wr.ownsRow w.heap.size 5 1 v (32 * k) (bv (okm key info k)) ∧ Below w.heap.size w wr) (fun _ _ q _ => (9 - intOf q).toNat)
  case atStart => exact ⟨0, by omega, rfl, rfl, World.ownsRow_nil _ _ _ _, Below.refl _ _⟩
  case round =>
    obtain ⟨k, hk, rfl, rfl, hown, hb⟩ := hrel
    obtain ⟨a, cap, rfl, hcap⟩ := owned_shape hown
    by_cases hlt : 32 * k < n
    · have i1 : (32 * (k : Int)) < (n : Nat) := by omega
      have hbl := bk_len key info k
      have hone := one_textN ((k : Int) + 1) (bq (k + 1)) (by simp [bq]; omega)
      have HO : Hid (wr.ownsRow w.heap.size 5 1 (.slice a (32 * k) cap) (32 * k) (bv (okm key info k))) := hown
      have HB : Hid (bk key info (k + 1) = hmac key (bk key info k ++ (info ++ [bq (k + 1)]))) := rfl
      clear hown
      generalize bk key info k = B at *
      have hm32 := hmac_len key (B ++ (info ++ [bq (k + 1)]))
      go_wp2_with fail
      refine (mac_any key (B ++ (info ++ [bq (k + 1)])) (by omega) (by simp; omega) _ ?tab).mono ?_
      case tab => exact HT.out.below hw0 (hb.alloc hb.size _)
      rintro en w2 ⟨rfl, hb2⟩
      have hbA : Below w.heap.size w w2 := (hb.alloc hb.size (.cells #[.int .u8 ((k : Int) + 1)] 5)).trans (hb2.mono (Nat.le_trans hb.size (by simp)))
      have ho2 : w2.ownsRow w.heap.size 5 1 (.slice a (32 * k) cap) (32 * k) (bv (okm key info k)) := owns_below (HO.out.alloc _) hb2
      rw [← HB.out]
      have hbk : (bk key info (k + 1)).length = 32 := by rw [HB.out]; exact hm32
      clear hm32 hone hb2
      go_wp2_with (refine Lib.wpList_append_own_string _ rfl _ _ 37 9 rfl w.heap.size 5 i5 Tryd.underlying37 Tryd.underlying9 hi hz0 hz1 hz2 _ (32 * k) (bv (okm key info k)) rfl ho2 (st (bk key info (k + 1))) rfl ?c1 ?c2 ?c3 ?_)
      case c1 => rw [st_size, hbk]; unfold maxLen; omega
      case c2 => rw [st_size, hbk]; omega
      case c3 => exact hbA.size
      intro v' w3 ho3 hgr3 _
      have hb3 : Below w.heap.size w w3 := hbA.grown hgr3 hbA.size (owns_block ho2)
      have ho4 : w3.ownsRow w.heap.size 5 1 v' (32 * (k + 1)) (bv (okm key info (k + 1))) := by
        have e1 : 32 * k + 32 = 32 * (k + 1) := by omega
        have e2 : bv (okm key info k) ++ Lib.strCells (st (bk key info (k + 1))) = bv (okm key info (k + 1)) := by rw [okm, bv_append]; rfl
        rw [e1, e2] at ho3
        exact ho3
      clear ho3 ho2 hgr3 hbA
      go_wp2
      go_roundw
      case rel => exact ⟨k + 1, by omega, by go_num, rfl, ho4, hb3⟩
      case measure => simp [intOf]; omega
    · have i1 : ¬ (32 * (k : Int)) < (n : Nat) := by omega
      have i2 : n ≤ cap := by omega
      have i3 : (n : Int) ≤ (cap : Nat) := by omega
      have hcv : (convert 37 9 (.slice a n cap)).run Tryd.prog wr = .ok (.string (st (exL key info n))) wr := by
        rw [owns_text hown (by omega), exL_of key info n k hk (by omega)]
      go_wp2
      go_ret
      exact ⟨rfl, hb⟩
set_option maxHeartbeats 400000 in
set_option maxRecDepth 20000 in
theorem Derive_ok (secret salt info : List UInt8) (h1 : secret.length ≤ 4096) (h2 : salt.length ≤ 4096) (h3 : info.length ≤ 4063) (n : Nat) (hn : n ≤ 255) (w : World) (hT : Tab w) :
    Calls Tryd.prog 14 #[.string (st secret), .string (st salt), .string (st info), .int .i64 n] w fun en w' => en = .returned (.tuple #[.string (st (exL (hmac salt secret) info n)), .int .i64 0]) ∧ Below w.heap.size w w' := by
  have HT : Hid (Tab w) := hT
  have hw0 := hT.pos
  clear hT
  have j1 : ¬ (4096 : Int) < (secret.length : Nat) := by omega
  have j2 : ¬ (4096 : Int) < (salt.length : Nat) := by omega
  have j3 : ¬ (4063 : Int) < (info.length : Nat) := by omega
  have j4 : ¬ (n : Int) < 0 := by omega
  have j5 : ¬ (255 : Int) < (n : Nat) := by omega
  go_enter Tryd.func14, Tryd.ntmps14
  go_wp2_with fail
  refine (mac_any salt secret (by omega) (by omega) _ HT.out).mono ?_
  rintro en w1 ⟨rfl, hb1⟩
  have hl := hmac_len salt secret
  go_wp2_with fail
  refine (expand_any (hmac salt secret) info (by omega) h3 n hn _ (HT.out.below hw0 hb1)).mono ?_
  rintro en w2 ⟨rfl, hb2⟩
  go_wp2_with fail
  go_ret2
  exact ⟨rfl, bthen hb1 hb2⟩
theorem Derive_long1 (secret salt info : List UInt8) (h1 : 4096 < secret.length) (n : Int) (w : World) :
    Calls Tryd.prog 14 #[.string (st secret), .string (st salt), .string (st info), .int .i64 n] w fun en w' => en = .returned (.tuple #[.string (st []), .int .i64 1]) ∧ w' = w := by
  have j1 : (4096 : Int) < (secret.length : Nat) := by omega
  go_enter Tryd.func14, Tryd.ntmps14
  go_wp2_with fail
  go_ret2
  exact ⟨rfl, rfl⟩
theorem Derive_long2 (secret salt info : List UInt8) (h1 : secret.length ≤ 4096) (h2 : 4096 < salt.length) (n : Int) (w : World) :
    Calls Tryd.prog 14 #[.string (st secret), .string (st salt), .string (st info), .int .i64 n] w fun en w' => en = .returned (.tuple #[.string (st []), .int .i64 1]) ∧ w' = w := by
  have j1 : ¬ (4096 : Int) < (secret.length : Nat) := by omega
  have j2 : (4096 : Int) < (salt.length : Nat) := by omega
  go_enter Tryd.func14, Tryd.ntmps14
  go_wp2_with fail
  go_ret2
  exact ⟨rfl, rfl⟩
theorem Derive_long3 (secret salt info : List UInt8) (h1 : secret.length ≤ 4096) (h2 : salt.length ≤ 4096) (h3 : 4063 < info.length) (n : Int) (w : World) :
    Calls Tryd.prog 14 #[.string (st secret), .string (st salt), .string (st info), .int .i64 n] w fun en w' => en = .returned (.tuple #[.string (st []), .int .i64 1]) ∧ w' = w := by
  have j1 : ¬ (4096 : Int) < (secret.length : Nat) := by omega
  have j2 : ¬ (4096 : Int) < (salt.length : Nat) := by omega
  have j3 : (4063 : Int) < (info.length : Nat) := by omega
  go_enter Tryd.func14, Tryd.ntmps14
  go_wp2_with fail
  go_ret2
  exact ⟨rfl, rfl⟩
theorem pick_any (c : Int) (n : Nat) (hn : 0 < n) (hn2 : n ≤ 100000) (h1 : -9223372036854775808 ≤ c) (h2 : c ≤ 9223372036854775807) (w : World) :
    Calls Tryd.prog 15 #[.int .i64 c, .int .i64 n] w fun en w' => (∃ p : Nat, p < n ∧ en = .returned (.int .i64 p)) ∧ w' = w := by
  by_cases hc : c < 0
  · have e : -((c + 1).tmod (n : Int)) = (((-(c + 1)).toNat % n : Nat) : Int) := by
      obtain ⟨m, hm⟩ : ∃ m : Nat, -(c + 1) = m := ⟨(-(c + 1)).toNat, by omega⟩
      rw [hm, Int.toNat_natCast, show c + 1 = -(m : Int) by omega, Int.neg_tmod, Int.neg_neg, Int.tmod_eq_emod_of_nonneg (by omega)]
      rfl
    have HE : Hid (-((c + 1).tmod (n : Int)) = (((-(c + 1)).toNat % n : Nat) : Int)) := e
    clear e
    go_enter Tryd.func15, Tryd.ntmps15
    go_wp2
    go_ret
    exact ⟨⟨(-(c + 1)).toNat % n, Nat.mod_lt _ hn, congrArg (fun z : Int => Ending.returned (.int .i64 z)) HE.out⟩, rfl⟩
  · have e : c % (n : Int) = ((c.toNat % n : Nat) : Int) := by
      obtain ⟨m, hm⟩ : ∃ m : Nat, c = m := ⟨c.toNat, by omega⟩
      rw [hm, Int.toNat_natCast]
      rfl
    have HE : Hid (c % (n : Int) = ((c.toNat % n : Nat) : Int)) := e
    clear e
    go_enter Tryd.func15, Tryd.ntmps15
    go_wp2
    go_ret
    exact ⟨⟨c.toNat % n, Nat.mod_lt _ hn, congrArg (fun z : Int => Ending.returned (.int .i64 z)) HE.out⟩, rfl⟩
end Go.Proofs.YtjnbhiamaabbgaaDoor
