/-
  prim.Sum, keyChunk, mac and Mac: texts as lists of bytes.
-/
import Derived.Test.YtjnbhiamaabbgaaDoorAbc
namespace Go.Proofs.YtjnbhiamaabbgaaDoor
open Go.RowKit
theorem bthen {a b c : World} (h : Below a.heap.size a b) (k : Below b.heap.size b c) : Below a.heap.size a c := h.trans (k.mono h.size)
/-- The text that has these bytes. -/
def st (l : List UInt8) : ByteArray := ⟨l.toArray⟩
theorem st_size (l : List UInt8) : (st l).size = l.length := rfl
theorem st_bl (x : ByteArray) : st x.data.toList = x := rfl
theorem st_append (a b : List UInt8) : st a ++ st b = st (a ++ b) := by
  apply ByteArray.ext
  simp [st]
theorem sum_st (l : List UInt8) (hl : l.length ≤ 60000) (w : World) (hT : Tab w) : Calls Tryd.prog 20 #[.string (st l)] w fun en w' => en = .returned (.string (st (sha l))) ∧ Below w.heap.size w w' :=
  sum_any (st l) hl w hT
attribute [local go_sem] st_size st_append
theorem Sum_ok (l : List UInt8) (hl : l.length ≤ 4096) (w : World) (hT : Tab w) : Calls Tryd.prog 9 #[.string (st l)] w fun en w' => en = .returned (.tuple #[.string (st (sha l)), .int .i64 0]) ∧ Below w.heap.size w w' := by
  have HT : Hid (Tab w) := hT
  clear hT
  have h1 : ¬ (4096 : Int) < (l.length : Nat) := by omega
  go_enter Tryd.func9, Tryd.ntmps9
  go_wp2_with fail
  refine (sum_st l (by omega) _ HT.out).mono ?_
  rintro en w1 ⟨rfl, hb⟩
  go_wp2_with fail
  go_ret2
  exact ⟨rfl, hb⟩
theorem Sum_long (l : List UInt8) (hl : 4096 < l.length) (w : World) : Calls Tryd.prog 9 #[.string (st l)] w fun en w' => en = .returned (.tuple #[.string (st []), .int .i64 1]) ∧ w' = w := by
  have h1 : (4096 : Int) < (l.length : Nat) := by omega
  go_enter Tryd.func9, Tryd.ntmps9
  go_wp2_with fail
  go_ret2
  exact ⟨rfl, rfl⟩
/-- A key filled up to 64 bytes, each XOR the mask. -/
def kc (l : List UInt8) (c : UInt8) : List UInt8 := (l ++ List.replicate (64 - l.length) 0).map (· ^^^ c)
theorem kc_len (l : List UInt8) (c : UInt8) (h : l.length ≤ 64) : (kc l c).length = 64 := by simp [kc]; omega
/-- HMAC. -/
def hm1 (k x : List UInt8) : List UInt8 := sha (kc k 0x5c ++ sha (kc k 0x36 ++ x))
def hk (k : List UInt8) : List UInt8 := if 64 < k.length then sha k else k
def hmac (k x : List UInt8) : List UInt8 := hm1 (hk k) x
theorem hk_len (k : List UInt8) : (hk k).length ≤ 64 := by
  unfold hk; split
  · rw [sha_len]; decide
  · omega
theorem hmac_len (k x : List UInt8) : (hmac k x).length = 32 := sha_len _
theorem u8_xor (a c : UInt8) : bits .xor .u8 (a.toNat : Int) (c.toNat : Int) = ((a ^^^ c).toNat : Int) := by
  show IntKind.u8.wrap ((BitVec.ofInt 8 (a.toNat : Int) ^^^ BitVec.ofInt 8 (c.toNat : Int)).toNat : Int) = _
  have ha : BitVec.ofInt 8 (a.toNat : Int) = a.toBitVec := by simp
  have hc : BitVec.ofInt 8 (c.toNat : Int) = c.toBitVec := by simp
  rw [ha, hc]
  have h := (a ^^^ c).toNat_lt
  have e : (a.toBitVec ^^^ c.toBitVec).toNat = (a ^^^ c).toNat := by simp
  rw [e]
  simp only [IntKind.wrap, IntKind.bits, IntKind.signed]
  generalize (a ^^^ c).toNat = q at *
  simp
  omega
/-- The first k bytes XOR the mask. -/
def xk (L : List UInt8) (c : UInt8) (k : Nat) : List UInt8 := (L.take k).map (· ^^^ c) ++ L.drop k
theorem xk_len (L : List UInt8) (c : UInt8) (k : Nat) : (xk L c k).length = L.length := by simp [xk]; omega
theorem xk_at (L : List UInt8) (c : UInt8) (k : Nat) (h : k < L.length) : (xk L c k)[k]? = some L[k] := by
  unfold xk
  rw [List.getElem?_append_right (by simp; omega)]
  simp [Nat.min_eq_left (Nat.le_of_lt h), h]
theorem xk_set (L : List UInt8) (c : UInt8) (k : Nat) (h : k < L.length) : (xk L c k).set k (L[k] ^^^ c) = xk L c (k + 1) := by
  unfold xk
  rw [List.set_append_right _ _ (by simp; omega), List.take_succ_eq_append_getElem h]
  simp only [List.length_map, List.length_take, Nat.min_eq_left (Nat.le_of_lt h), Nat.sub_self, List.map_append, List.map_cons, List.map_nil, List.append_assoc]
  congr 1
  rw [List.drop_eq_getElem_cons h, List.set_cons_zero, List.singleton_append]
theorem xk_all (L : List UInt8) (c : UInt8) (k : Nat) (h : L.length ≤ k) : xk L c k = L.map (· ^^^ c) := by
  simp [xk, List.take_of_length_le h, List.drop_eq_nil_of_le h]
theorem bv_zeros (n : Nat) : bv (List.replicate n 0) = List.replicate n (.int .u8 0) := by simp [bv]
set_option maxHeartbeats 1000000 in
set_option maxRecDepth 20000 in
theorem keyChunk_any (l : List UInt8) (hl : l.length ≤ 64) (c : UInt8) (n : Int) (hn : n = (c.toNat : Int)) (w : World) : Calls Tryd.prog 47 #[.string (st l), .int .u8 n] w fun en w' => en = .returned (.string (st (kc l c))) ∧ Below w.heap.size w w' := by
  subst hn
  go_enter Tryd.func47, Tryd.ntmps47
  go_wp2_with (refine wpList_copy_text rfl _ _ 37 9 rfl 5 Tryd.underlying37 info5s w.heap.size 0 _ _ (st l) rfl rfl _ 94 (heap_alloc_new _ _) ?c1 ?c2 w.heap.size w ?c3 (Nat.le_refl _) ?_)
  case c1 => rw [st_size]; exact hl
  case c2 => simpa [st_size] using hl
  case c3 => exact (Below.refl _ _).alloc (Nat.le_refl _) _
  intro w1 hg1 hb1
  obtain ⟨L, hL⟩ : ∃ L, l ++ List.replicate (64 - l.length) 0 = L := ⟨_, rfl⟩
  have hLl : L.length = 64 := by rw [← hL]; simp; omega
  have hg2 : w1.heap[w.heap.size]? = some (.cells (bv (xk L c 0)).toArray 94 (0, 0)) := by
    rw [hg1]
    congr 2
    rw [← hL]
    show _ = (bv (l ++ List.replicate (64 - l.length) 0)).toArray
    rw [bv_append]
    have e : ([.int .u8 0, .int .u8 0, .int .u8 0, .int .u8 0, .int .u8 0, .int .u8 0, .int .u8 0, .int .u8 0, .int .u8 0, .int .u8 0, .int .u8 0, .int .u8 0, .int .u8 0, .int .u8 0, .int .u8 0, .int .u8 0, .int .u8 0, .int .u8 0, .int .u8 0, .int .u8 0, .int .u8 0, .int .u8 0, .int .u8 0, .int .u8 0, .int .u8 0, .int .u8 0, .int .u8 0, .int .u8 0, .int .u8 0, .int .u8 0, .int .u8 0, .int .u8 0, .int .u8 0, .int .u8 0, .int .u8 0, .int .u8 0, .int .u8 0, .int .u8 0, .int .u8 0, .int .u8 0, .int .u8 0, .int .u8 0, .int .u8 0, .int .u8 0, .int .u8 0, .int .u8 0, .int .u8 0, .int .u8 0, .int .u8 0, .int .u8 0, .int .u8 0, .int .u8 0, .int .u8 0, .int .u8 0, .int .u8 0, .int .u8 0, .int .u8 0, .int .u8 0, .int .u8 0, .int .u8 0, .int .u8 0, .int .u8 0, .int .u8 0, .int .u8 0] : List Value) = List.replicate 64 (.int .u8 0) := rfl
    rw [e, List.drop_replicate, show Lib.byteCells (st l).data.toList = bv l from rfl, bv_zeros]
  have HK : Hid (kc l c = L.map (· ^^^ c)) := by show (l ++ List.replicate (64 - l.length) 0).map _ = _; rw [hL]
  clear hg1 hL
  go_wp2
  go_loopw [10] (fun i wr => ∃ k : Nat, k ≤ 64 ∧ i = .int .i64 k ∧ wr.heap[w.heap.size]? = some (.cells (bv (xk L c k)).toArray 94 (0, 0)) ∧ Below w.heap.size w wr) (fun i _ => (64 - intOf i).toNat)
  case atStart => exact ⟨0, by omega, rfl, hg2, hb1⟩
  case round =>
    clear hg2 hb1
    obtain ⟨k, hk, rfl, hg, hb⟩ := hrel
    by_cases hlt : k < 64
    · have hkL : k < L.length := by omega
      obtain ⟨a, ha⟩ : ∃ a, L[k] = a := ⟨_, rfl⟩
      have hc : wr.cell? ⟨w.heap.size, k, none⟩ = some (.int .u8 (a.toNat : Int)) := by
        rw [cell_of_row _ _ _ _ _ _ hg]
        have := xk_at L c k hkL
        simp only [bv, List.getElem?_toArray, List.getElem?_map, this, ha]
        rfl
      have hf : wr.frozen? ⟨w.heap.size, k, none⟩ = false := frozen_of_row _ _ _ _ _ hg
      have hg' : (wr.setCell ⟨w.heap.size, k, none⟩ (.int .u8 ((a ^^^ c).toNat : Int))).heap[w.heap.size]? = some (.cells (bv (xk L c (k + 1))).toArray 94 (0, 0)) := by
        rw [heap_setCell_same _ _ _ _ _ _ hg, List.setIfInBounds_toArray, bv_set, ← ha, xk_set L c k hkL]
      have hb' : Below w.heap.size w (wr.setCell ⟨w.heap.size, k, none⟩ (.int .u8 ((a ^^^ c).toNat : Int))) := hb.setCell (Nat.le_refl _) _
      have hx := u8_xor a c
      clear hg hb ha
      generalize a ^^^ c = b at *
      go_wp2
      go_roundw
      case rel => exact ⟨k + 1, by omega, by go_num, hg', hb'⟩
      case measure => simp [intOf]; omega
    · obtain rfl : k = 64 := by omega
      rw [xk_all L c 64 (by omega), ← HK.out] at hg
      have hcv : (convert 37 9 (.slice (some ⟨w.heap.size, 0, none⟩) 64 64)).run Tryd.prog wr = .ok (.string (st (kc l c))) wr := by
        have h := run_convert_bytes_back (P := Tryd.prog) wr 37 9 5 ⟨w.heap.size, 0, none⟩ 64 (kc l c) Tryd.underlying37 Tryd.underlying5 Tryd.underlying9 (fun j hj => by
          rw [Addr.add_mid, Nat.zero_add, cell_of_row _ _ _ _ _ _ hg]; simp [bv, hj])
        rw [kc_len l c hl] at h
        exact h
      clear hg
      go_wp2
      go_ret
      exact ⟨rfl, hb⟩
set_option maxHeartbeats 1000000 in
set_option maxRecDepth 20000 in
theorem mac_any (k x : List UInt8) (hk' : k.length ≤ 5000) (hx : x.length ≤ 5000) (w : World) (hT : Tab w) : Calls Tryd.prog 29 #[.string (st k), .string (st x)] w fun en w' => en = .returned (.string (st (hmac k x))) ∧ Below w.heap.size w w' := by
  have HT : Hid (Tab w) := hT
  have hw0 := hT.pos
  clear hT
  by_cases hl : 64 < k.length
  · have h1 : (64 : Int) < (k.length : Nat) := by omega
    have hs32 := sha_len k
    have HM : Hid (hmac k x = hm1 (sha k) x) := by show hm1 (hk k) x = _; unfold hk; rw [if_pos hl]
    go_enter Tryd.func29, Tryd.ntmps29
    go_wp2_with fail
    refine (sum_st k (by omega) _ HT.out).mono ?_
    rintro en w1 ⟨rfl, hb1⟩
    go_wp2_with fail
    refine (keyChunk_any (sha k) (by omega) 0x36 54 rfl _).mono ?_
    rintro en w2 ⟨rfl, hb2⟩
    have hc1 := kc_len (sha k) 0x36 (by omega)
    go_wp2_with fail
    refine (sum_st (kc (sha k) 0x36 ++ x) (by rw [List.length_append]; omega) _ ((HT.out.below hw0 hb1).below (Nat.lt_of_lt_of_le hw0 hb1.size) hb2)).mono ?_
    rintro en w3 ⟨rfl, hb3⟩
    go_wp2_with fail
    refine (keyChunk_any (sha k) (by omega) 0x5c 92 rfl _).mono ?_
    rintro en w4 ⟨rfl, hb4⟩
    have hc2 := kc_len (sha k) 0x5c (by omega)
    have hc3 := sha_len (kc (sha k) 0x36 ++ x)
    go_wp2_with fail
    refine (sum_st (kc (sha k) 0x5c ++ sha (kc (sha k) 0x36 ++ x)) (by rw [List.length_append]; omega) _ ((((HT.out.below hw0 hb1).below (Nat.lt_of_lt_of_le hw0 hb1.size) hb2).below (Nat.lt_of_lt_of_le hw0 (Nat.le_trans hb1.size hb2.size)) hb3).below (Nat.lt_of_lt_of_le hw0 (Nat.le_trans hb1.size (Nat.le_trans hb2.size hb3.size))) hb4)).mono ?_
    rintro en w5 ⟨rfl, hb5⟩
    go_wp2_with fail
    go_ret
    exact ⟨by rw [HM.out]; rfl, bthen hb1 (bthen hb2 (bthen hb3 (bthen hb4 hb5)))⟩
  · have h1 : ¬ (64 : Int) < (k.length : Nat) := by omega
    have HM : Hid (hmac k x = hm1 k x) := by show hm1 (hk k) x = _; unfold hk; rw [if_neg hl]
    go_enter Tryd.func29, Tryd.ntmps29
    go_wp2_with fail
    refine (keyChunk_any k (by omega) 0x36 54 rfl _).mono ?_
    rintro en w2 ⟨rfl, hb2⟩
    have hc1 := kc_len k 0x36 (by omega)
    go_wp2_with fail
    refine (sum_st (kc k 0x36 ++ x) (by rw [List.length_append]; omega) _ (HT.out.below hw0 hb2)).mono ?_
    rintro en w3 ⟨rfl, hb3⟩
    go_wp2_with fail
    refine (keyChunk_any k (by omega) 0x5c 92 rfl _).mono ?_
    rintro en w4 ⟨rfl, hb4⟩
    have hc2 := kc_len k 0x5c (by omega)
    have hc3 := sha_len (kc k 0x36 ++ x)
    go_wp2_with fail
    refine (sum_st (kc k 0x5c ++ sha (kc k 0x36 ++ x)) (by rw [List.length_append]; omega) _ (((HT.out.below hw0 hb2).below (Nat.lt_of_lt_of_le hw0 hb2.size) hb3).below (Nat.lt_of_lt_of_le hw0 (Nat.le_trans hb2.size hb3.size)) hb4)).mono ?_
    rintro en w5 ⟨rfl, hb5⟩
    go_wp2_with fail
    go_ret
    exact ⟨by rw [HM.out]; rfl, bthen hb2 (bthen hb3 (bthen hb4 hb5))⟩
theorem Mac_ok (k x : List UInt8) (hk' : k.length ≤ 4096) (hx : x.length ≤ 4096) (w : World) (hT : Tab w) : Calls Tryd.prog 12 #[.string (st k), .string (st x)] w fun en w' => en = .returned (.tuple #[.string (st (hmac k x)), .int .i64 0]) ∧ Below w.heap.size w w' := by
  have HT : Hid (Tab w) := hT
  clear hT
  have h1 : ¬ (4096 : Int) < (k.length : Nat) := by omega
  have h2 : ¬ (4096 : Int) < (x.length : Nat) := by omega
  go_enter Tryd.func12, Tryd.ntmps12
  go_wp2_with fail
  refine (mac_any k x (by omega) (by omega) _ HT.out).mono ?_
  rintro en w1 ⟨rfl, hb⟩
  go_wp2_with fail
  go_ret2
  exact ⟨rfl, hb⟩
end Go.Proofs.YtjnbhiamaabbgaaDoor
