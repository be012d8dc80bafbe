/-
  The document's answer: cofferref.root and Root.
-/
import Derived.Test.YtjnbhiamaabbgaaDoorRefF
namespace Go.Proofs.YtjnbhiamaabbgaaDoor
open Go.RowKit
attribute [local go_sem] st_size st_append st_cut
theorem rroot_nil (a : Option Addr) (cap : Nat) (w : World) (hT : Tab2 w) : Calls Tryd.prog 41 #[.slice a 0 cap] w fun en w' => en = .returned (.string (st (rootL []))) ∧ Below w.heap.size w w' := by
  have HT : Hid (Tab2 w) := hT
  clear hT
  go_enter Tryd.func41, Tryd.ntmps41
  go_wp2_with fail
  go_fit (rsum_any [] (by decide) _ HT.out)
  rintro en w1 ⟨rfl, hb⟩
  go_wp2_with fail
  go_ret
  exact ⟨rfl, hb⟩
theorem leaf_nb (p : List UInt8) : sha (nb 0 1 ++ p) = leaf p := rfl
theorem node_nb (a b : List UInt8) : sha (nb 1 1 ++ (a ++ b)) = node a b := rfl
set_option maxHeartbeats 1000000 in
set_option maxRecDepth 20000 in
theorem rroot_one (p : List UInt8) (hp : p.length ≤ 4095) (g off cap : Nat) (w : World) (hT : Tab2 w) (hc : w.cell? ⟨g, off, none⟩ = some (.string (st p))) :
    Calls Tryd.prog 41 #[.slice (some ⟨g, off, none⟩) 1 cap] w fun en w' => en = .returned (.string (st (rootL [p]))) ∧ Below w.heap.size w w' := by
  have HT : Hid (Tab2 w) := hT
  clear hT
  have hg : g < w.heap.size := block_lt_of_cell hc
  have hnl := nb_len 0 1
  have HR : Hid (sha (nb 0 1 ++ p) = rootL [p]) := by show _ = _; rw [rootL_one]; rfl
  have HNUM : Hid (∀ wx : World, Calls Tryd.prog 59 #[.int .i64 0, .int .i64 1] wx fun e w' => e = .returned (.string (st (nb 0 1))) ∧ Below wx.heap.size wx w') := fun wx => numberI 0 1 0 1 rfl rfl (by decide) wx
  generalize nb 0 1 = Z at *
  go_enter Tryd.func41, Tryd.ntmps41
  go_wp2_with fail
  go_region_with (first
    | (go_at_call 59; go_fit (HNUM.out _); rintro en w1 ⟨rfl, hb1⟩; have hc1 : w1.cell? ⟨g, off, none⟩ = some (.string (st p)) := (hb1.cell (p := ⟨g, off, none⟩) hg).trans hc; have HT1 : Hid (Tab2 w1) := Tab2.then (Tab2.below HT.out (Tab2.pos HT.out) (Below.refl _ _).drew) hb1)
    | (go_at_call 38; go_fit (rsum_any (Z ++ p) (by rw [List.length_append]; omega) _ HT1.out); rintro en w2 ⟨rfl, hb2⟩))
  all_goals go_wp2_with fail
  all_goals go_ret
  all_goals exact ⟨by rw [← HR.out]; rfl, belD (bthen hb1 hb2)⟩
set_option maxHeartbeats 1000000 in
set_option maxRecDepth 20000 in
theorem rroot_any : ∀ (m : Nat) (L : List (List UInt8)), L.length = m → 0 < m → m ≤ 256 → (∀ x ∈ L, x.length ≤ 4095) → ∀ (g off cap : Nat), m ≤ cap → ∀ w : World, Tab2 w → Lies w g off L →
    Calls Tryd.prog 41 #[.slice (some ⟨g, off, none⟩) m cap] w fun en w' => en = .returned (.string (st (rootL L))) ∧ Below w.heap.size w w' := by
  intro m
  induction m using Nat.strongRecOn with
  | _ m ih =>
  intro L hL h0 h256 hp g off cap hcap w hT hlies
  by_cases hone : m = 1
  · subst hone
    obtain ⟨p, rfl⟩ : ∃ p, L = [p] := List.length_eq_one_iff.1 hL
    exact rroot_one p (hp p (by simp)) g off cap w hT (hlies 0 (by simp))
  have HIH : Hid (∀ j, j < m → ∀ (L : List (List UInt8)), L.length = j → 0 < j → j ≤ 256 → (∀ x ∈ L, x.length ≤ 4095) → ∀ (g off cap : Nat), j ≤ cap → ∀ w : World, Tab2 w → Lies w g off L →
    Calls Tryd.prog 41 #[.slice (some ⟨g, off, none⟩) j cap] w fun en w' => en = .returned (.string (st (rootL L))) ∧ Below w.heap.size w w') := ih
  have HT : Hid (Tab2 w) := hT
  have HL : Hid (Lies w g off L) := hlies
  have HP : Hid (∀ x ∈ L, x.length ≤ 4095) := hp
  have HLL : Hid (L.length = m) := hL
  have hg : g < w.heap.size := block_lt_of_cell (hlies 0 (by omega))
  clear ih hT hlies hp hL
  have n0 : ¬ (m : Int) = 0 := by omega
  have n1 : ¬ (m : Int) = 1 := by omega
  have b0 : decide ((m : Int) = 0) = false := by simp; omega
  have b1 : decide ((m : Int) = 1) = false := by simp; omega
  have HNUM : Hid (∀ wx : World, Calls Tryd.prog 59 #[.int .i64 1, .int .i64 1] wx fun e w' => e = .returned (.string (st (nb 1 1))) ∧ Below wx.heap.size wx w') := fun wx => numberI 1 1 1 1 rfl rfl (by decide) wx
  go_enter Tryd.func41, Tryd.ntmps41
  go_wp2
  go_loopw [3] (fun i wr => ∃ k : Nat, k < 8 ∧ 2 ^ k < m ∧ i = .int .i64 ((2 ^ k : Nat) : Int) ∧ wr = w) (fun i _ => (m - intOf i).toNat)
  case atStart => exact ⟨0, by omega, by omega, rfl, rfl⟩
  case round =>
    obtain ⟨k, hk, hkm, rfl, rfl⟩ := hrel
    have HPW : Hid (2 ^ (k + 1) = 2 * 2 ^ k) := by show _ = _; rw [Nat.pow_succ]; omega
    have hpos : 0 < 2 ^ k := Nat.two_pow_pos k
    have hk7 : k < 7 ∨ 128 ≤ 2 ^ k := by
      by_cases h : k < 7
      · exact .inl h
      · obtain rfl : k = 7 := by omega
        exact .inr (by decide)
    have HSPL : Hid (∀ a b : List (List UInt8), a.length = 2 ^ k → 0 < b.length → b.length ≤ 2 ^ k → rootL (a ++ b) = node (rootL a) (rootL b)) := fun a b ha hb0 hb => rootL_split a b k hk ha hb0 hb
    by_cases hlt : 2 * 2 ^ k < m
    · generalize 2 ^ k = H at *
      have i1 : (2 * (H : Int)) < (m : Nat) := by omega
      go_wp2_with fail
      go_roundw
      case rel => exact ⟨k + 1, by omega, by rw [HPW.out]; omega, by rw [HPW.out]; go_num, trivial⟩
      case measure => simp [intOf]; omega
    · generalize 2 ^ k = H at *
      have i1 : ¬ (2 * (H : Int)) < (m : Nat) := by omega
      have i2 : (H : Int) ≤ (cap : Nat) := by omega
      have i3 : (H : Int) ≤ (m : Nat) := by omega
      have hA : (L.take H).length = H := by rw [List.length_take, HLL.out]; omega
      have hB : (L.drop H).length = m - H := by rw [List.length_drop, HLL.out]
      have HR : Hid (rootL L = node (rootL (L.take H)) (rootL (L.drop H))) := by
        show _ = _
        rw [← HSPL.out _ _ hA (by omega) (by omega), List.take_append_drop]
      have hla : Hid (∀ x ∈ L.take H, x.length ≤ 4095) := fun x hx => HP.out x (List.mem_of_mem_take hx)
      have hlb : Hid (∀ x ∈ L.drop H, x.length ≤ 4095) := fun x hx => HP.out x (List.mem_of_mem_drop hx)
      have LA : Hid (Lies wr g off (L.take H)) := by
        intro j hj
        rw [hA] at hj
        have := HL.out j (by rw [HLL.out]; omega)
        rw [this, List.getElem_take]
      have LB : Hid (Lies wr g (off + H) (L.drop H)) := by
        intro j hj
        rw [hB] at hj
        have := HL.out (H + j) (by rw [HLL.out]; omega)
        rw [Nat.add_assoc, this, List.getElem_drop]
      have ra := rootL_len (L.take H) (by omega)
      have rb := rootL_len (L.drop H) (by omega)
      have HA : Hid ((L.take H).length = H) := hA
      have HB : Hid ((L.drop H).length = m - H) := hB
      clear hA hB
      generalize L.take H = X at *
      generalize L.drop H = Y at *
      have i4 : (m : Int) ≤ (cap : Nat) := by omega
      go_wp2_with fail
      go_fit (HIH.out H (by omega) X HA.out (by omega) (by omega) hla.out g off cap (by omega) _ HT.out LA.out)
      rintro en w1 ⟨rfl, hb1⟩
      go_wp2_with fail
      go_fit (HIH.out (m - H) (by omega) Y HB.out (by omega) (by omega) hlb.out g (off + H) (cap - H) (by omega) _ (HT.out.then hb1) (LB.out.below hg hb1))
      rintro en w2 ⟨rfl, hb2⟩
      generalize rootL X = P at *
      generalize rootL Y = Q at *
      have hnl := nb_len 1 1
      have HN : Hid (sha (nb 1 1 ++ (P ++ Q)) = node P Q) := node_nb P Q
      generalize nb 1 1 = Z at *
      go_wp2_with fail
      go_fit (HNUM.out _)
      rintro en w3 ⟨rfl, hb3⟩
      go_wp2_with fail
      go_fit (rsum_any (Z ++ (P ++ Q)) (by simp only [List.length_append]; omega) _ (HT.out.then (bthen hb1 (bthen hb2 hb3))))
      rintro en w4 ⟨rfl, hb4⟩
      go_wp2_with fail
      go_ret
      exact ⟨by rw [HR.out, ← HN.out]; rfl, bthen hb1 (bthen hb2 (bthen hb3 hb4))⟩
theorem RRoot_nil (a : Option Addr) (cap : Nat) (w : World) (hT : Tab2 w) : Calls Tryd.prog 24 #[.slice a 0 cap] w fun en w' => en = .returned (.tuple #[.string (st (rootL [])), .int .i64 0]) ∧ Below w.heap.size w w' := by
  have HT : Hid (Tab2 w) := hT
  clear hT
  go_enter Tryd.func24, Tryd.ntmps24
  go_wp2
  go_loopw [4] (fun i wr => i = .int .i64 0 ∧ wr = w) (fun _ _ => 0)
  case atStart => exact ⟨rfl, rfl⟩
  case round =>
    obtain ⟨rfl, rfl⟩ := hrel
    go_wp2_with fail
    go_fit (rroot_nil a cap _ HT.out)
    rintro en w1 ⟨rfl, hb⟩
    go_wp2_with fail
    go_ret2
    exact ⟨rfl, hb⟩
theorem RRoot_many (a : Option Addr) (n cap : Nat) (hn : 256 < n) (w : World) : Calls Tryd.prog 24 #[.slice a n cap] w fun en w' => en = .returned (.tuple #[.string (st []), .int .i64 1]) ∧ w' = w := by
  have h1 : (256 : Int) < (n : Nat) := by omega
  go_enter Tryd.func24, Tryd.ntmps24
  go_wp2_with fail
  go_ret2
  exact ⟨rfl, rfl⟩
set_option maxHeartbeats 400000 in
set_option maxRecDepth 20000 in
theorem RRoot_ok (L : List (List UInt8)) (hL0 : 0 < L.length) (hL : L.length ≤ 256) (hp : ∀ x ∈ L, x.length ≤ 4095) (g off cap : Nat) (hcap : L.length ≤ cap) (w : World) (hT : Tab2 w) (hl : Lies w g off L) :
    Calls Tryd.prog 24 #[.slice (some ⟨g, off, none⟩) L.length cap] w fun en w' => en = .returned (.tuple #[.string (st (rootL L)), .int .i64 0]) ∧ Below w.heap.size w w' := by
  have HT : Hid (Tab2 w) := hT
  have HL : Hid (Lies w g off L) := hl
  have HP : Hid (∀ x ∈ L, x.length ≤ 4095) := hp
  clear hT hl hp
  have h1 : ¬ (256 : Int) < (L.length : Nat) := by omega
  have b1 : decide ((256 : Int) < (L.length : Nat)) = false := by simp; omega
  go_enter Tryd.func24, Tryd.ntmps24
  go_wp2
  go_loopw [4] (fun i wr => ∃ k : Nat, k ≤ L.length ∧ i = .int .i64 k ∧ wr = w) (fun i _ => (L.length - intOf i).toNat)
  case atStart => exact ⟨0, by omega, rfl, rfl⟩
  case round =>
    obtain ⟨k, hk, rfl, rfl⟩ := hrel
    by_cases hlt : k < L.length
    · obtain ⟨x, hx⟩ : ∃ x, L[k] = x := ⟨_, rfl⟩
      have lx : x.length ≤ 4095 := HP.out x (by rw [← hx]; exact List.getElem_mem _)
      have c0 : wr.cell? ⟨g, off + k, none⟩ = some (.string (st x)) := by have := HL.out k hlt; rw [hx] at this; exact this
      have i1 : (k : Int) < (L.length : Nat) := by omega
      have i2 : ¬ (4095 : Int) < (x.length : Nat) := by omega
      clear hx
      go_wp2_with fail
      go_roundw
      case rel => exact ⟨k + 1, by omega, by go_num, trivial⟩
      case measure => simp [intOf]; omega
    · obtain rfl : k = L.length := by omega
      have i1 : ¬ ((L.length : Nat) : Int) < (L.length : Nat) := by omega
      go_wp2_with fail
      go_fit (rroot_any L.length L rfl hL0 hL HP.out g off cap hcap _ HT.out HL.out)
      rintro en w1 ⟨rfl, hb⟩
      go_wp2_with fail
      go_ret2
      exact ⟨rfl, hb⟩
set_option maxHeartbeats 400000 in
set_option maxRecDepth 20000 in
theorem RRoot_part (L : List (List UInt8)) (hL : L.length ≤ 256) (j : Nat) (hj : j < L.length) (hbig : 4095 < L[j].length) (hp : ∀ k (hk : k < j), (L[k]'(by omega)).length ≤ 4095) (g off cap : Nat) (w : World) (hl : Lies w g off L) :
    Calls Tryd.prog 24 #[.slice (some ⟨g, off, none⟩) L.length cap] w fun en w' => en = .returned (.tuple #[.string (st []), .int .i64 1]) ∧ w' = w := by
  have HL : Hid (Lies w g off L) := hl
  have HP : Hid (∀ k (hk : k < j), (L[k]'(by omega)).length ≤ 4095) := hp
  have HB : Hid (4095 < L[j].length) := hbig
  clear hl hp hbig
  have h1 : ¬ (256 : Int) < (L.length : Nat) := by omega
  have b1 : decide ((256 : Int) < (L.length : Nat)) = false := by simp; omega
  go_enter Tryd.func24, Tryd.ntmps24
  go_wp2
  go_loopw [4] (fun i wr => ∃ k : Nat, k ≤ j ∧ i = .int .i64 k ∧ wr = w) (fun i _ => (L.length - intOf i).toNat)
  case atStart => exact ⟨0, by omega, rfl, rfl⟩
  case round =>
    obtain ⟨k, hk, rfl, rfl⟩ := hrel
    have hkL : k < L.length := by omega
    obtain ⟨x, hx⟩ : ∃ x, L[k] = x := ⟨_, rfl⟩
    have c0 : wr.cell? ⟨g, off + k, none⟩ = some (.string (st x)) := by have := HL.out k hkL; rw [hx] at this; exact this
    have i1 : (k : Int) < (L.length : Nat) := by omega
    by_cases hlt : k < j
    · have lx : x.length ≤ 4095 := by rw [← hx]; exact HP.out k hlt
      have i2 : ¬ (4095 : Int) < (x.length : Nat) := by omega
      clear hx
      go_wp2_with fail
      go_roundw
      case rel => exact ⟨k + 1, by omega, by go_num, trivial⟩
      case measure => simp [intOf]; omega
    · obtain rfl : k = j := by omega
      have lx : 4095 < x.length := by rw [← hx]; exact HB.out
      have i2 : (4095 : Int) < (x.length : Nat) := by omega
      clear hx
      go_wp2_with fail
      go_ret2
      exact ⟨rfl, rfl⟩
end Go.Proofs.YtjnbhiamaabbgaaDoor
