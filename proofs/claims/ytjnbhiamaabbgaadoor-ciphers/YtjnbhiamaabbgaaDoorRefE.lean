/-
  The document's answer: cofferref.Sum, each, mac and Mac.
-/
import Derived.Test.YtjnbhiamaabbgaaDoorRefD
import Derived.Laws.IdiomStrings
namespace Go.Proofs.YtjnbhiamaabbgaaDoor
open Go.RowKit
attribute [local go_sem] st_size st_append
theorem Tab2.then {w w' : World} (h : Tab2 w) (hb : Below w.heap.size w w') : Tab2 w' := h.below h.pos hb
/-- What bytes a text's copy has. -/
structure EInv (w : World) (L : List UInt8) (Z : List Value) (wr : World) : Prop where
  bel : Below w.heap.size w wr
  b0 : wr.heap[w.heap.size]? = some (.cells (bv L ++ Z).toArray 5 ((bv L ++ Z).length, (bv L ++ Z).length + 1))
theorem EInv.sz {w : World} {L : List UInt8} {Z : List Value} {wr : World} (h : EInv w L Z wr) : w.heap.size < wr.heap.size := (Array.getElem?_eq_some_iff.1 h.b0).1
theorem EInv.cell {w : World} {L : List UInt8} {Z : List Value} {wr : World} (h : EInv w L Z wr) (k : Nat) (a : UInt8) (ha : L[k]? = some a) : wr.cell? ⟨w.heap.size, k, none⟩ = some (.int .u8 (a.toNat : Int)) := by
  rw [cell_of_row _ _ _ _ _ _ h.b0]
  have hk : k < L.length := (List.getElem?_eq_some_iff.1 ha).1
  rw [List.getElem?_toArray, List.getElem?_append_left (by rw [bv_len]; exact hk)]
  simp [bv, ha]
theorem EInv.frozen {w : World} {L : List UInt8} {Z : List Value} {wr : World} (h : EInv w L Z wr) (k : Nat) (hk : k < L.length) : wr.frozen? ⟨w.heap.size, k, none⟩ = false := by
  unfold World.frozen?
  rw [h.b0]
  have : ¬ (bv L ++ Z).length ≤ k := by rw [List.length_append, bv_len]; omega
  simp only [this, decide_false, Bool.false_and]
theorem EInv.set {w : World} {L : List UInt8} {Z : List Value} {wr : World} (h : EInv w L Z wr) (k : Nat) (hk : k < L.length) (a : UInt8) : EInv w (L.set k a) Z (wr.setCell ⟨w.heap.size, k, none⟩ (.int .u8 (a.toNat : Int))) := by
  refine ⟨h.bel.setCell (Nat.le_refl _) _, ?_⟩
  rw [setCell_eq_setRow _ _ _ _ _ _ _ h.b0, setRow_heap _ _ _ _ _ _ h.b0]
  rw [List.setIfInBounds_toArray, List.set_append_left _ _ (by rw [bv_len]; exact hk), bv_set]
  congr 2
  simp [bv_len]
set_option maxHeartbeats 1000000 in
set_option maxRecDepth 20000 in
theorem reach_any (l : List UInt8) (hl : l.length ≤ 60000) (c : UInt8) (n : Int) (hn : n = (c.toNat : Int)) (w : World) : Calls Tryd.prog 61 #[.string (st l), .int .u8 n] w fun en w' => en = .returned (.string (st (l.map (· ^^^ c)))) ∧ Below w.heap.size w w' := by
  subst hn
  have hcv := run_bytes_of_string (P := Tryd.prog) w 9 37 5 (st l) Tryd.underlying9 Tryd.underlying37 Tryd.underlying5
  obtain ⟨cap, hcap⟩ : ∃ cap, grownCap w (st l).size 0 5 = cap := ⟨_, rfl⟩
  have hge : l.length ≤ cap := by rw [← hcap]; exact grownCap_ge w _ _ _
  rw [hcap, st_size] at hcv
  obtain ⟨Z, hZ⟩ : ∃ Z : List Value, bytesRow (st l) cap = (bv l ++ Z).toArray := ⟨List.replicate (cap - l.length) (.int .u8 0), by
    unfold bytesRow
    rw [st_size]
    apply Array.toList_inj.1
    simp [bv, st]⟩
  rw [hZ] at hcv
  have inv0 : EInv w (xk l c 0) Z (w.drew.alloc (.cells (bv l ++ Z).toArray 5 ((bv l ++ Z).toArray.size, (bv l ++ Z).toArray.size + 1))) := by
    refine ⟨((Below.refl _ _).drew).alloc (Nat.le_refl _) _, ?_⟩
    have e : xk l c 0 = l := by simp [xk]
    rw [e]
    exact heap_alloc_new w.drew _
  clear hcap hZ
  generalize hW : (w.drew.alloc (.cells (bv l ++ Z).toArray 5 ((bv l ++ Z).toArray.size, (bv l ++ Z).toArray.size + 1))) = w1 at *
  clear hW
  go_enter Tryd.func61, Tryd.ntmps61
  go_wp2_with fail
  go_loopw [6] (fun i wr => ∃ k : Nat, k ≤ l.length ∧ i = .int .i64 k ∧ EInv w (xk l c k) Z wr) (fun i _ => (l.length - intOf i).toNat)
  case atStart => exact ⟨0, by omega, rfl, inv0⟩
  case round =>
    clear inv0 hcv
    obtain ⟨k, hk, rfl, inv⟩ := hrel
    by_cases hlt : k < l.length
    · obtain ⟨a, ha⟩ : ∃ a, l[k] = a := ⟨_, rfl⟩
      have i1 : (k : Int) < (l.length : Nat) := by omega
      have hc := inv.cell k a (by rw [xk_at l c k hlt, ha])
      have hf := inv.frozen k (by rw [xk_len]; exact hlt)
      have hs := inv.set k (by rw [xk_len]; exact hlt) (a ^^^ c)
      have e : (xk l c k).set k (a ^^^ c) = xk l c (k + 1) := by rw [← ha]; exact xk_set l c k hlt
      rw [e] at hs
      have hx := u8_xor a c
      clear e inv ha
      generalize a ^^^ c = b at *
      go_wp2
      go_roundw
      case rel => exact ⟨k + 1, by omega, by go_num, hs⟩
      case measure => simp [intOf]; omega
    · obtain rfl : k = l.length := by omega
      have i1 : ¬ ((l.length : Nat) : Int) < (l.length : Nat) := by omega
      rw [xk_all l c _ (Nat.le_refl _)] at inv
      have hcv : (convert 37 9 (.slice (some ⟨w.heap.size, 0, none⟩) l.length cap)).run Tryd.prog wr = .ok (.string (st (l.map (· ^^^ c)))) wr := by
        have h := run_convert_bytes_back (P := Tryd.prog) wr 37 9 5 ⟨w.heap.size, 0, none⟩ cap (l.map (· ^^^ c)) Tryd.underlying37 Tryd.underlying5 Tryd.underlying9 (fun j hj => by
          rw [Addr.add_mid, Nat.zero_add]
          exact inv.cell j _ (List.getElem?_eq_getElem hj))
        rw [List.length_map] at h
        exact h
      have hb := inv.bel
      clear inv
      go_wp2
      go_ret
      exact ⟨rfl, hb⟩
theorem zerosI (nn : Int) (n : Nat) (h1 : nn = (n : Int)) (hn : n ≤ 64) (w : World) : Calls Tryd.prog 58 #[.int .i64 nn] w fun e w' => e = .returned (.string (st (List.replicate n 0))) ∧ Below w.heap.size w w' := by
  subst h1; exact zeros_any n hn w
set_option maxHeartbeats 1000000 in
set_option maxRecDepth 20000 in
/-- mac, behind the test of the key's length. -/
theorem rmac_any (k x : List UInt8) (hk' : k.length ≤ 5000) (hx : x.length ≤ 5000) (w : World) (hT : Tab2 w) : Calls Tryd.prog 39 #[.string (st k), .string (st x)] w fun en w' => en = .returned (.string (st (hmac k x))) ∧ Below w.heap.size w w' := by
  have HT : Hid (Tab2 w) := hT
  clear hT
  by_cases hl : 64 < k.length
  · have h1 : (64 : Int) < (k.length : Nat) := by omega
    have hs32 := sha_len k
    have HM : Hid (hmac k x = hm1 (sha k) x) := by show hm1 (hk k) x = _; unfold hk; rw [if_pos hl]
    go_enter Tryd.func39, Tryd.ntmps39
    go_wp2_with fail
    go_fit (rsum_any k (by omega) _ HT.out)
    rintro en w1 ⟨rfl, hb1⟩
    have HT1 : Hid (Tab2 w1) := HT.out.then hb1
    have hKl : (sha k).length ≤ 64 := by omega
    clear hs32
    generalize sha k = K at *
    have i2 : IntKind.i64.wrap (64 - (K.length : Int)) = 64 - (K.length : Int) := by rw [IntKind.wrap_i64]; omega
    go_wp2_with fail
    go_fit (zerosI (64 - (K.length : Int)) (64 - K.length) (by omega) (by omega) _)
    rintro en w2 ⟨rfl, hb2⟩
    have HK1 : Hid ((K ++ List.replicate (64 - K.length) 0).map (· ^^^ 0x36) = kc K 0x36) := rfl
    have HK2 : Hid ((K ++ List.replicate (64 - K.length) 0).map (· ^^^ 0x5c) = kc K 0x5c) := rfl
    have hrl : (List.replicate (64 - K.length) (0 : UInt8)).length = 64 - K.length := List.length_replicate
    have hPl : (K ++ List.replicate (64 - K.length) (0 : UInt8)).length = 64 := by rw [List.length_append, hrl]; omega
    go_wp2_with fail
    generalize K ++ List.replicate (64 - K.length) (0 : UInt8) = P at *
    go_fit (reach_any P (by omega) 0x36 54 rfl _)
    rintro en w3 ⟨rfl, hb3⟩
    rw [HK1.out]
    have hc1 := kc_len K 0x36 hKl
    go_wp2_with fail
    go_fit (rsum_any (kc K 0x36 ++ x) (by rw [List.length_append]; omega) _ (HT1.out.then hb2 |>.then hb3))
    rintro en w4 ⟨rfl, hb4⟩
    go_wp2_with fail
    go_fit (reach_any P (by omega) 0x5c 92 rfl _)
    rintro en w5 ⟨rfl, hb5⟩
    rw [HK2.out]
    have hc2 := kc_len K 0x5c hKl
    have hc3 := sha_len (kc K 0x36 ++ x)
    go_wp2_with fail
    go_fit (rsum_any (kc K 0x5c ++ sha (kc K 0x36 ++ x)) (by rw [List.length_append]; omega) _ (HT1.out.then hb2 |>.then hb3 |>.then hb4 |>.then hb5))
    rintro en w6 ⟨rfl, hb6⟩
    go_wp2_with fail
    go_ret
    exact ⟨by rw [HM.out]; rfl, bthen hb1 (bthen hb2 (bthen hb3 (bthen hb4 (bthen hb5 hb6))))⟩
  · have h1 : ¬ (64 : Int) < (k.length : Nat) := by omega
    have HM : Hid (hmac k x = hm1 k x) := by show hm1 (hk k) x = _; unfold hk; rw [if_neg hl]
    have hKl : k.length ≤ 64 := by omega
    go_enter Tryd.func39, Tryd.ntmps39
    have i2 : IntKind.i64.wrap (64 - (k.length : Int)) = 64 - (k.length : Int) := by rw [IntKind.wrap_i64]; omega
    go_wp2_with fail
    go_fit (zerosI (64 - (k.length : Int)) (64 - k.length) (by omega) (by omega) _)
    rintro en w2 ⟨rfl, hb2⟩
    have HK1 : Hid ((k ++ List.replicate (64 - k.length) 0).map (· ^^^ 0x36) = kc k 0x36) := rfl
    have HK2 : Hid ((k ++ List.replicate (64 - k.length) 0).map (· ^^^ 0x5c) = kc k 0x5c) := rfl
    have hrl : (List.replicate (64 - k.length) (0 : UInt8)).length = 64 - k.length := List.length_replicate
    have hPl : (k ++ List.replicate (64 - k.length) (0 : UInt8)).length = 64 := by rw [List.length_append, hrl]; omega
    go_wp2_with fail
    generalize k ++ List.replicate (64 - k.length) (0 : UInt8) = P at *
    go_fit (reach_any P (by omega) 0x36 54 rfl _)
    rintro en w3 ⟨rfl, hb3⟩
    rw [HK1.out]
    have hc1 := kc_len k 0x36 hKl
    go_wp2_with fail
    go_fit (rsum_any (kc k 0x36 ++ x) (by rw [List.length_append]; omega) _ (HT.out.then hb2 |>.then hb3))
    rintro en w4 ⟨rfl, hb4⟩
    go_wp2_with fail
    go_fit (reach_any P (by omega) 0x5c 92 rfl _)
    rintro en w5 ⟨rfl, hb5⟩
    rw [HK2.out]
    have hc2 := kc_len k 0x5c hKl
    have hc3 := sha_len (kc k 0x36 ++ x)
    go_wp2_with fail
    go_fit (rsum_any (kc k 0x5c ++ sha (kc k 0x36 ++ x)) (by rw [List.length_append]; omega) _ (HT.out.then hb2 |>.then hb3 |>.then hb4 |>.then hb5))
    rintro en w6 ⟨rfl, hb6⟩
    go_wp2_with fail
    go_ret
    exact ⟨by rw [HM.out]; rfl, bthen hb2 (bthen hb3 (bthen hb4 (bthen hb5 hb6)))⟩
theorem RSum_ok (l : List UInt8) (hl : l.length ≤ 4096) (w : World) (hT : Tab2 w) : Calls Tryd.prog 21 #[.string (st l)] w fun en w' => en = .returned (.tuple #[.string (st (sha l)), .int .i64 0]) ∧ Below w.heap.size w w' := by
  have HT : Hid (Tab2 w) := hT
  clear hT
  have h1 : ¬ (4096 : Int) < (l.length : Nat) := by omega
  go_enter Tryd.func21, Tryd.ntmps21
  go_wp2_with fail
  go_fit (rsum_any l (by omega) _ HT.out)
  rintro en w1 ⟨rfl, hb⟩
  go_wp2_with fail
  go_ret2
  exact ⟨rfl, hb⟩
theorem RSum_long (l : List UInt8) (hl : 4096 < l.length) (w : World) : Calls Tryd.prog 21 #[.string (st l)] w fun en w' => en = .returned (.tuple #[.string (st []), .int .i64 1]) ∧ w' = w := by
  have h1 : (4096 : Int) < (l.length : Nat) := by omega
  go_enter Tryd.func21, Tryd.ntmps21
  go_wp2_with fail
  go_ret2
  exact ⟨rfl, rfl⟩
theorem RMac_ok (k x : List UInt8) (hk' : k.length ≤ 4096) (hx : x.length ≤ 4096) (w : World) (hT : Tab2 w) : Calls Tryd.prog 22 #[.string (st k), .string (st x)] w fun en w' => en = .returned (.tuple #[.string (st (hmac k x)), .int .i64 0]) ∧ Below w.heap.size w w' := by
  have HT : Hid (Tab2 w) := hT
  clear hT
  have h1 : ¬ (4096 : Int) < (k.length : Nat) := by omega
  have h2 : ¬ (4096 : Int) < (x.length : Nat) := by omega
  go_enter Tryd.func22, Tryd.ntmps22
  go_wp2_with fail
  go_fit (rmac_any k x (by omega) (by omega) _ HT.out)
  rintro en w1 ⟨rfl, hb⟩
  go_wp2_with fail
  go_ret2
  exact ⟨rfl, hb⟩
theorem RMac_long1 (k x : List UInt8) (hk' : 4096 < k.length) (w : World) : Calls Tryd.prog 22 #[.string (st k), .string (st x)] w fun en w' => en = .returned (.tuple #[.string (st []), .int .i64 1]) ∧ w' = w := by
  have h1 : (4096 : Int) < (k.length : Nat) := by omega
  go_enter Tryd.func22, Tryd.ntmps22
  go_wp2_with fail
  go_ret2
  exact ⟨rfl, rfl⟩
theorem RMac_long2 (k x : List UInt8) (hk' : k.length ≤ 4096) (hx : 4096 < x.length) (w : World) : Calls Tryd.prog 22 #[.string (st k), .string (st x)] w fun en w' => en = .returned (.tuple #[.string (st []), .int .i64 1]) ∧ w' = w := by
  have h1 : ¬ (4096 : Int) < (k.length : Nat) := by omega
  have h2 : (4096 : Int) < (x.length : Nat) := by omega
  go_enter Tryd.func22, Tryd.ntmps22
  go_wp2_with fail
  go_ret2
  exact ⟨rfl, rfl⟩
theorem Mac_long1 (k x : List UInt8) (hk' : 4096 < k.length) (w : World) : Calls Tryd.prog 12 #[.string (st k), .string (st x)] w fun en w' => en = .returned (.tuple #[.string (st []), .int .i64 1]) ∧ w' = w := by
  have h1 : (4096 : Int) < (k.length : Nat) := by omega
  go_enter Tryd.func12, Tryd.ntmps12
  go_wp2_with fail
  go_ret2
  exact ⟨rfl, rfl⟩
theorem Mac_long2 (k x : List UInt8) (hk' : k.length ≤ 4096) (hx : 4096 < x.length) (w : World) : Calls Tryd.prog 12 #[.string (st k), .string (st x)] w fun en w' => en = .returned (.tuple #[.string (st []), .int .i64 1]) ∧ w' = w := by
  have h1 : ¬ (4096 : Int) < (k.length : Nat) := by omega
  have h2 : (4096 : Int) < (x.length : Nat) := by omega
  go_enter Tryd.func12, Tryd.ntmps12
  go_wp2_with fail
  go_ret2
  exact ⟨rfl, rfl⟩
end Go.Proofs.YtjnbhiamaabbgaaDoor
