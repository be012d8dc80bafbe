/-
  prim's substituteAndShift and mixColumns.
-/
import Derived.Test.YtjnbhiamaabbgaaAesRow
namespace Go.Proofs.Ytjnbhiamaabbgaa
open Go.RowKit
attribute [local go_sem] e8_xor
/-- The box lies at the head of block g. -/
def BoxAt (w : World) (g : Nat) : Prop := ∀ i, i < 256 → w.cell? ⟨g, i, none⟩ = some (.int .u8 (e8 (Sn i)))
theorem BoxAt.below {w w' : World} {B g : Nat} (h : BoxAt w g) (hb : Below B w w') (hlt : g < B) : BoxAt w' g := fun i hi => (hb.cell (p := ⟨g, i, none⟩) hlt).trans (h i hi)
theorem BoxAt.byte {w : World} {g : Nat} (h : BoxAt w g) (x : UInt8) : w.cell? ⟨g, (e8 x).toNat, none⟩ = some (.int .u8 (e8 (Sx x))) := by
  rw [e8_nat, h _ x.toNat_lt, Sn_byte]
theorem BoxAt.lt {w : World} {g : Nat} (h : BoxAt w g) : g < w.heap.size := block_lt_of_cell (h 0 (by decide))
def shK (f : Nat → UInt8) (k i : Nat) : UInt8 := if i < k then shF f i else 0
set_option maxHeartbeats 1000000 in
set_option maxRecDepth 20000 in
theorem shift_any (f : Nat → UInt8) (g : Nat) (w : World) (hB : BoxAt w g) : Calls Try.prog 18 #[.pointer (some ⟨g, 0, none⟩), .agg (kb f 16).toArray] w fun en w' => en = .returned (.agg (kb (shF f) 16).toArray) ∧ Below w.heap.size w w' := by
  have HB : Hid (BoxAt w g) := hB
  have hg := hB.lt
  clear hB
  go_enter Try.func18, Try.ntmps18
  go_wp2
  go_loopw [8] (fun i wr => ∃ k : Nat, k ≤ 16 ∧ i = .int .i64 k ∧ R3 w f zF (shK f k) 16 33 wr) (fun i _ => (16 - intOf i).toNat)
  case atStart => exact ⟨0, by omega, rfl, R3.start w f zF zF 16 33⟩
  case round =>
    obtain ⟨k, hk, rfl, inv⟩ := hrel
    have hsz := inv.sz
    by_cases hlt : k < 16
    · obtain ⟨r, hr⟩ : ∃ r, k % 4 = r := ⟨_, rfl⟩
      obtain ⟨m, hm⟩ : ∃ m, (k + r * 4) % 16 = m := ⟨_, rfl⟩
      have e1 : (k : Int).tmod 4 = (r : Nat) := by rw [Int.tmod_eq_emod_of_nonneg (by omega)]; omega
      have e3 : ((k : Int) + (r : Int) * 4).tmod 16 = (m : Nat) := by rw [Int.tmod_eq_emod_of_nonneg (by omega)]; omega
      have r4 : r < 4 := by omega
      have e2 : IntKind.i64.wrap ((r : Int) * 4) = (r : Int) * 4 := by rw [IntKind.wrap_i64] <;> omega
      have e4 : IntKind.i64.wrap ((k : Int) + (r : Int) * 4) = (k : Int) + (r : Int) * 4 := by rw [IntKind.wrap_i64] <;> omega
      have m4 : m < 16 := by omega
      have m5 : (m : Int) < 16 := by omega
      have h1 : wr.cell? ⟨w.heap.size, m, none⟩ = some (.int .u8 (e8 (f m))) := inv.b0.cell m4
      have h2 : wr.cell? ⟨g, (e8 (f m)).toNat, none⟩ = some (.int .u8 (e8 (Sx (f m)))) := (HB.out.below inv.bel hg).byte _
      have h3 : wr.frozen? ⟨w.heap.size + 1 + 1, k, none⟩ = false := inv.b2.frozen
      have h4 : wr.cell? ⟨w.heap.size + 1 + 1, k, none⟩ = some (.int .u8 (e8 (shK f k k))) := inv.b2.cell hlt
      have p0 := e8_lo (f m)
      have p1 := e8_hi (f m)
      have HI : Hid (R3 w f zF (shK f (k + 1)) 16 33 (wr.drew.setCell ⟨w.heap.size + 1 + 1, k, none⟩ (.int .u8 (e8 (Sx (f m)))))) := by
        refine (inv.drew.set2 k (Sx (f m))).congr2 fun i _ => ?_
        unfold shK
        by_cases e : i = k
        · subst e; rw [if_pos rfl, if_pos (by omega)]; unfold shF; rw [hr, hm]
        · rw [if_neg e]
          by_cases e2 : i < k
          · rw [if_pos e2, if_pos (by omega)]
          · rw [if_neg e2, if_neg (by omega)]
      clear inv hr hm
      generalize f m = a at *
      generalize shK f k k = c at *
      go_wp2
      go_still_tail 14, (by kernel_rfl)
      go_wp2
      go_roundw
      case rel => first | exact ⟨k + 1, by omega, by go_num, HI.out⟩ | ((repeat apply Exists.intro); exact ⟨⟨k + 1, by omega, by go_num, HI.out⟩, rfl⟩)
      case measure => simp [intOf]; omega
    · obtain rfl : k = 16 := by omega
      have inv := inv.congr2 (f2' := shF f) (fun i hi => by simp [shK, hi])
      clear hk hlt hsz
      have hbs := inv.b2
      have hbr := inv.b1
      have hbel := inv.bel
      unfold Row at hbs hbr
      have hi := sizeKb (shF f)
      have h1 := kb_one (shF f) 16
      have hzs := kbs zF (shF f)
      have hout : (wr.setRow (w.heap.size + 1) (kb (shF f) 16).toArray).heap[(w.heap.size + 1)]? = some (.cells (kb (shF f) 16).toArray 33 (0, 0)) := setRow_heap _ _ _ _ _ _ hbr
      have hbl := setRow_below (b := (w.heap.size + 1)) (kb (shF f) 16).toArray hbel (by omega)
      clear inv
      generalize hKK : (kb (shF f) 16).toArray = K at *
      have HK : Hid ((kb (shF f) 16).toArray = K) := hKK
      clear hKK
      go_wp2_with (first | refine wpList_load_row rfl 33 _ rfl (w.heap.size + 1 + 1) rfl 33 _ (0, 0) _ hbs Try.underlying33 rfl hi ?_ | refine wpList_store_row rfl 33 _ _ rfl (w.heap.size + 1) _ rfl rfl 33 _ hbr hi hzs h1 ?_)
      exact bodyPost_ret (v := .agg K) (results_cell_row rfl _ _ (w.heap.size + 1) 33 _ (0, 0) _ rfl hout Try.underlying33 rfl hi) rfl ⟨by rw [← HK.out], hbl⟩

def mK (f : Nat → UInt8) (k i : Nat) : UInt8 := if i < k then mixF f i else 0
set_option maxHeartbeats 1000000 in
set_option maxRecDepth 20000 in
theorem mix_any (f : Nat → UInt8) (w : World) : Calls Try.prog 17 #[.agg (kb f 16).toArray] w fun en w' => en = .returned (.agg (kb (mixF f) 16).toArray) ∧ Below w.heap.size w w' := by
  go_enter Try.func17, Try.ntmps17
  go_wp2
  go_loopw [4] (fun i wr => ∃ p : Nat, p ≤ 16 ∧ p % 4 = 0 ∧ i = .int .i64 p ∧ R3 w f zF (mK f p) 16 33 wr) (fun i _ => (16 - intOf i).toNat)
  case atStart => exact ⟨0, by omega, by omega, rfl, R3.start w f zF zF 16 33⟩
  case round =>
    obtain ⟨p, hp, hp4, rfl, inv⟩ := hrel
    have hsz := inv.sz
    by_cases hlt : p < 16
    · have i3 : p + 3 < 16 := by omega
      have hd : decide ((p : Int) < 16) = true := decide_eq_true (by omega)
      have c0 : wr.cell? ⟨w.heap.size, p, none⟩ = some (.int .u8 (e8 (f p))) := inv.b0.cell (by omega)
      have c1 : wr.cell? ⟨w.heap.size, p + 1, none⟩ = some (.int .u8 (e8 (f (p + 1)))) := inv.b0.cell (by omega)
      have c2 : wr.cell? ⟨w.heap.size, p + 2, none⟩ = some (.int .u8 (e8 (f (p + 2)))) := inv.b0.cell (by omega)
      have c3 : wr.cell? ⟨w.heap.size, p + 3, none⟩ = some (.int .u8 (e8 (f (p + 3)))) := inv.b0.cell (by omega)
      have HA : Hid (∀ j, j < 4 → mixF f (p + j) = f p ^^^ f (p + 1) ^^^ f (p + 2) ^^^ f (p + 3) ^^^ f (p + j) ^^^ dbl (f (p + j) ^^^ f (p + (j + 1) % 4))) := fun j hj => by
        unfold mixF
        rw [show (p + j) / 4 * 4 = p by omega, show (p + j) % 4 = j by omega]
      have HV : Hid (R3 w f zF (mK f p) 16 33 wr) := inv
      clear inv
      go_wp2
      go_quiet (fail)
      go_wp2
      clear c0 c1 c2 c3
      obtain ⟨a, ha⟩ : ∃ a, f p ^^^ f (p + 1) ^^^ f (p + 2) ^^^ f (p + 3) = a := ⟨_, rfl⟩
      rw [ha] at HA ⊢
      try rw [hd]
      clear ha
      have hsz' : Hid (w.heap.size + 1 + 1 < wr.heap.size) := hsz
      clear hsz
      obtain ⟨wo, hwo⟩ : ∃ wo : World, wo = wr := ⟨_, rfl⟩
      go_loopw [31] (fun i wq => ∃ j : Nat, j ≤ 4 ∧ i = .int .i64 j ∧ R3 w f zF (mK f (p + j)) 16 33 wq) (fun i _ => (4 - intOf i).toNat)
      case atStart => exact ⟨0, by omega, rfl, by first | exact HV.out | exact HV.out.drewN _⟩
      case round =>
        clear HV hsz' hwo
        obtain ⟨j, hj, rfl, inv⟩ := hrel
        have hsz := inv.sz
        by_cases hlj : j < 4
        · obtain ⟨q, hq⟩ : ∃ q, (j + 1) % 4 = q := ⟨_, rfl⟩
          have e1 : ((j : Int) + 1).tmod 4 = (q : Nat) := by rw [Int.tmod_eq_emod_of_nonneg (by omega)]; omega
          have q4 : q < 4 := by omega
          have pj : p + j < 16 := by omega
          have pq : p + q < 16 := by omega
          have w1 : IntKind.i64.wrap ((p : Int) + (j : Int)) = (p : Int) + (j : Int) := by rw [IntKind.wrap_i64] <;> omega
          have w2 : IntKind.i64.wrap ((p : Int) + (q : Int)) = (p : Int) + (q : Int) := by rw [IntKind.wrap_i64] <;> omega
          have x1 : (p : Int) + (j : Int) < 16 := by omega
          have x2 : (p : Int) + (q : Int) < 16 := by omega
          have x3 : (0 : Int) ≤ (p : Int) + (j : Int) := by omega
          have x4 : (0 : Int) ≤ (p : Int) + (q : Int) := by omega
          have n1 : ((p : Int) + (j : Int)).toNat = p + j := by omega
          have n2 : ((p : Int) + (q : Int)).toNat = p + q := by omega
          have c1 : wr.cell? ⟨w.heap.size, p + j, none⟩ = some (.int .u8 (e8 (f (p + j)))) := inv.b0.cell pj
          have c2 : wr.cell? ⟨w.heap.size, p + q, none⟩ = some (.int .u8 (e8 (f (p + q)))) := inv.b0.cell pq
          have h3 : wr.frozen? ⟨w.heap.size + 1 + 1, p + j, none⟩ = false := inv.b2.frozen
          have h4 : wr.cell? ⟨w.heap.size + 1 + 1, p + j, none⟩ = some (.int .u8 (e8 (mK f (p + j) (p + j)))) := inv.b2.cell pj
          have HI : Hid (∀ wq, R3 w f zF (mK f (p + j)) 16 33 wq → R3 w f zF (mK f (p + (j + 1))) 16 33 (wq.setCell ⟨w.heap.size + 1 + 1, p + j, none⟩ (.int .u8 (e8 (a ^^^ f (p + j) ^^^ dbl (f (p + j) ^^^ f (p + q))))))) := fun wq h => by
            refine (h.set2 (p + j) _).congr2 fun i _ => ?_
            unfold mK
            by_cases e : i = p + j
            · subst e; rw [if_pos rfl, if_pos (by omega), HA.out j hlj, hq]
            · rw [if_neg e]
              by_cases e2 : i < p + j
              · rw [if_pos e2, if_pos (by omega)]
              · rw [if_neg e2, if_neg (by omega)]
          have HV : Hid (R3 w f zF (mK f (p + j)) 16 33 wr) := inv
          clear inv hq
          generalize f (p + j) = b at *
          generalize f (p + q) = c at *
          generalize mK f (p + j) (p + j) = z at *
          go_wp2
          go_quiet (fail)
          go_wp2_with fail
          refine (double_any (b ^^^ c) _).mono ?_
          rintro en w2 ⟨rfl, rfl⟩
          go_wp2_with fail
          go_roundw
          case rel => first | exact ⟨j + 1, by omega, by go_num, HI.out _ HV.out⟩ | exact ⟨j + 1, by omega, by go_num, HI.out _ (HV.out.drewN _)⟩ | ((repeat apply Exists.intro); exact ⟨⟨j + 1, by omega, by go_num, HI.out _ (HV.out.drewN _)⟩, rfl⟩)
          case measure => simp [intOf]; omega
        · obtain rfl : j = 4 := by omega
          have HV : Hid (R3 w f zF (mK f (p + 4)) 16 33 wr) := inv
          clear inv HA
          go_wp2
          go_roundw
          case rel => exact ⟨p + 4, by omega, by omega, by go_num, HV.out⟩
          case measure => simp [intOf]; omega
    · obtain rfl : p = 16 := by omega
      have inv := inv.congr2 (f2' := mixF f) (fun i hi => by simp [mK, hi])
      clear hp hp4 hlt hsz
      have hbs := inv.b2
      have hbr := inv.b1
      have hbel := inv.bel
      unfold Row at hbs hbr
      have hi := sizeKb (mixF f)
      have h1 := kb_one (mixF f) 16
      have hzs := kbs zF (mixF f)
      have hout : (wr.setRow (w.heap.size + 1) (kb (mixF f) 16).toArray).heap[(w.heap.size + 1)]? = some (.cells (kb (mixF f) 16).toArray 33 (0, 0)) := setRow_heap _ _ _ _ _ _ hbr
      have hbl := setRow_below (b := (w.heap.size + 1)) (kb (mixF f) 16).toArray hbel (by omega)
      clear inv
      generalize hKK : (kb (mixF f) 16).toArray = K at *
      have HK : Hid ((kb (mixF f) 16).toArray = K) := hKK
      clear hKK
      go_wp2_with (first | refine wpList_load_row rfl 33 _ rfl (w.heap.size + 1 + 1) rfl 33 _ (0, 0) _ hbs Try.underlying33 rfl hi ?_ | refine wpList_store_row rfl 33 _ _ rfl (w.heap.size + 1) _ rfl rfl 33 _ hbr hi hzs h1 ?_)
      exact bodyPost_ret (v := .agg K) (results_cell_row rfl _ _ (w.heap.size + 1) 33 _ (0, 0) _ rfl hout Try.underlying33 rfl hi) rfl ⟨by rw [← HK.out], hbl⟩
end Go.Proofs.Ytjnbhiamaabbgaa
