/-
  prim's nextKey: a round's key from the one ahead.
-/
import Derived.Test.YtjnbhiamaabbgaaDoorAesStep
import Derived.Deep.DeepCutAuto
import Derived.Deep.DeepFit
import Derived.Deep.RegionHeld3
namespace Go.Proofs.YtjnbhiamaabbgaaDoor
open Go.RowKit
attribute [local go_sem] e8_xor
/-- The word behind k bytes. -/
def wd (f : Nat → UInt8) (c : UInt8) (k j : Nat) : UInt8 := if j < k then nkF f c (j + 4 * ((k - 1 - j) / 4)) else hdF f c j
theorem wd_step (f : Nat → UInt8) (c : UInt8) (k : Nat) : wd f c k (k % 4) ^^^ f k = nkF f c k := by
  unfold wd
  by_cases h : 4 ≤ k
  · rw [if_pos (by omega), show k % 4 + 4 * ((k - 1 - k % 4) / 4) = k - 4 by omega]
    conv => rhs; rw [nkF]
    rw [dif_pos h]
  · rw [if_neg (by omega), show k % 4 = k by omega]
    conv => rhs; rw [nkF]
    rw [dif_neg h]
theorem wd_next (f : Nat → UInt8) (c : UInt8) (k j : Nat) (hj : j < 4) : (if j = k % 4 then nkF f c k else wd f c k j) = wd f c (k + 1) j := by
  unfold wd
  by_cases e : j = k % 4
  · rw [if_pos e, if_pos (by omega), show j + 4 * ((k + 1 - 1 - j) / 4) = k by omega]
  · rw [if_neg e]
    by_cases h : j < k
    · rw [if_pos h, if_pos (by omega), show (k + 1 - 1 - j) / 4 = (k - 1 - j) / 4 by omega]
    · rw [if_neg h, if_neg (by omega)]
def nK (f : Nat → UInt8) (c : UInt8) (k i : Nat) : UInt8 := if i < k then nkF f c i else f i
theorem z4_kb : (#[.int .u8 0, .int .u8 0, .int .u8 0, .int .u8 0] : Array Value) = (kb zF 4).toArray := rfl
/-- What the first word is read from. -/
def SN (w' : World) (b g : Nat) (a12 a13 a14 a15 : UInt8) : Prop := w'.cell? ⟨b, 12, none⟩ = some (.int .u8 (e8 a12)) ∧ w'.cell? ⟨b, 13, none⟩ = some (.int .u8 (e8 a13)) ∧ w'.cell? ⟨b, 14, none⟩ = some (.int .u8 (e8 a14)) ∧ w'.cell? ⟨b, 15, none⟩ = some (.int .u8 (e8 a15)) ∧ w'.cell? ⟨g, (e8 a12).toNat, none⟩ = some (.int .u8 (e8 (Sx a12))) ∧ w'.cell? ⟨g, (e8 a13).toNat, none⟩ = some (.int .u8 (e8 (Sx a13))) ∧ w'.cell? ⟨g, (e8 a14).toNat, none⟩ = some (.int .u8 (e8 (Sx a14))) ∧ w'.cell? ⟨g, (e8 a15).toNat, none⟩ = some (.int .u8 (e8 (Sx a15)))
theorem SN.below {w w' : World} {B b g : Nat} {a12 a13 a14 a15 : UInt8} (h : SN w b g a12 a13 a14 a15) (hb : Below B w w') (h1 : b < B) (h2 : g < B) : SN w' b g a12 a13 a14 a15 :=
  ⟨(hb.cell (p := ⟨b, 12, none⟩) h1).trans h.1, (hb.cell (p := ⟨b, 13, none⟩) h1).trans h.2.1, (hb.cell (p := ⟨b, 14, none⟩) h1).trans h.2.2.1, (hb.cell (p := ⟨b, 15, none⟩) h1).trans h.2.2.2.1, (hb.cell (p := ⟨g, _, none⟩) h2).trans h.2.2.2.2.1, (hb.cell (p := ⟨g, _, none⟩) h2).trans h.2.2.2.2.2.1, (hb.cell (p := ⟨g, _, none⟩) h2).trans h.2.2.2.2.2.2.1, (hb.cell (p := ⟨g, _, none⟩) h2).trans h.2.2.2.2.2.2.2⟩
set_option maxHeartbeats 1000000 in
set_option maxRecDepth 20000 in
theorem nextKey_any (f : Nat → UInt8) (c : UInt8) (g : Nat) (w : World) (hB : BoxAt w g) : Calls Tryd.prog 50 #[.pointer (some ⟨g, 0, none⟩), .agg (kb f 16).toArray, .int .u8 (e8 c)] w fun en w' => en = .returned (.agg (kb (nkF f c) 16).toArray) ∧ Below w.heap.size w w' := by
  have hg := hB.lt
  go_enter Tryd.func50, Tryd.ntmps50
  go_upto_region 1 with fail
  obtain ⟨w2, hw2⟩ : ∃ w2, (w.alloc (.cells (kb f 16).toArray 55)).alloc (.cells (kb zF 16).toArray 55) = w2 := ⟨_, rfl⟩
  have hb2 : Below w.heap.size w w2 := by rw [← hw2]; exact ((Below.refl _ _).alloc (Nat.le_refl _) _).alloc (by simp) _
  have hs2 : w2.heap.size = w.heap.size + 1 + 1 := by rw [← hw2]; simp
  have r0 : Row w2 w.heap.size f 16 55 := by
    rw [← hw2]; show ((w.heap.push _).push _)[_]? = _
    simp only [Array.getElem?_push, Array.size_push]
    rw [if_neg (by omega), if_pos trivial]
  have HS : Hid (R3 w f zF (hdF f c) 4 96 (w2.alloc (.cells #[.int .u8 (e8 (Sx (f 13) ^^^ c)), .int .u8 (e8 (Sx (f 14))), .int .u8 (e8 (Sx (f 15))), .int .u8 (e8 (Sx (f 12)))] 96)).drew) := by
    rw [← hw2]; exact (R3.start w f zF (hdF f c) 4 96).drew
  have hBox := hB.below hb2 hg
  have c12 : w2.cell? ⟨w.heap.size, 12, none⟩ = some (.int .u8 (e8 (f 12))) := r0.cell (by decide)
  have c13 : w2.cell? ⟨w.heap.size, 13, none⟩ = some (.int .u8 (e8 (f 13))) := r0.cell (by decide)
  have c14 : w2.cell? ⟨w.heap.size, 14, none⟩ = some (.int .u8 (e8 (f 14))) := r0.cell (by decide)
  have c15 : w2.cell? ⟨w.heap.size, 15, none⟩ = some (.int .u8 (e8 (f 15))) := r0.cell (by decide)
  have hg2 : g < w2.heap.size := by omega
  have hal : ∀ X, BoxAt (w2.alloc X) g := fun X => hBox.below ((Below.refl w2.heap.size w2).alloc (Nat.le_refl _) X) hg2
  have S0 : SN w2 w.heap.size g (f 12) (f 13) (f 14) (f 15) := ⟨c12, c13, c14, c15, hBox.byte _, hBox.byte _, hBox.byte _, hBox.byte _⟩
  have S1 : ∀ w3, Below w2.heap.size w2 w3 → SN w3 w.heap.size g (f 12) (f 13) (f 14) (f 15) := fun w3 hb => S0.below hb (by omega) hg2
  clear c12 c13 c14 c15
  have l12 := e8_lo (f 12)
  have l13 := e8_lo (f 13)
  have l14 := e8_lo (f 14)
  have l15 := e8_lo (f 15)
  have u12 := e8_hi (f 12)
  have u13 := e8_hi (f 13)
  have u14 := e8_hi (f 14)
  have u15 := e8_hi (f 15)
  clear r0 hBox hB hal
  unfold SN at S0 S1
  generalize f 12 = a12 at *
  generalize f 13 = a13 at *
  generalize f 14 = a14 at *
  generalize f 15 = a15 at *
  try rw [z16_kb]
  try rw [hw2]
  clear hw2
  have bb : ∀ X, Below w2.heap.size w2 (w2.alloc X) := fun X => (Below.refl _ _).alloc (Nat.le_refl _) X
  go_region_held3 (fun w' => w'.cell? ⟨w.heap.size, 12, none⟩ = some (.int .u8 (e8 a12)) ∧ w'.cell? ⟨w.heap.size, 13, none⟩ = some (.int .u8 (e8 a13)) ∧ w'.cell? ⟨w.heap.size, 14, none⟩ = some (.int .u8 (e8 a14)) ∧ w'.cell? ⟨w.heap.size, 15, none⟩ = some (.int .u8 (e8 a15)) ∧ w'.cell? ⟨g, (e8 a12).toNat, none⟩ = some (.int .u8 (e8 (Sx a12))) ∧ w'.cell? ⟨g, (e8 a13).toNat, none⟩ = some (.int .u8 (e8 (Sx a13))) ∧ w'.cell? ⟨g, (e8 a14).toNat, none⟩ = some (.int .u8 (e8 (Sx a14))) ∧ w'.cell? ⟨g, (e8 a15).toNat, none⟩ = some (.int .u8 (e8 (Sx a15)))) (first | exact S0 | exact S1 _ (bb _).drew | exact S1 _ (bb _) | (refine S1 _ ?_; (iterate 4 refine Below.setCell ?_ (by show w2.heap.size ≤ _; omega) _); first | exact (bb _).drew | exact bb _)) (fail)
  clear S0 S1 bb l12 l13 l14 l15 u12 u13 u14 u15 hg2 hs2 hb2
  generalize hw3 : (w2.alloc (.cells #[.int .u8 (e8 (Sx a13 ^^^ c)), .int .u8 (e8 (Sx a14)), .int .u8 (e8 (Sx a15)), .int .u8 (e8 (Sx a12))] 96)).drew = w3 at *
  clear hw3
  go_wp2
  go_loopw [40] (fun i wr => ∃ k : Nat, k ≤ 16 ∧ i = .int .i64 k ∧ R3 w (nK f c k) zF (wd f c k) 4 96 wr) (fun i _ => (16 - intOf i).toNat)
  case atStart => exact ⟨0, by omega, rfl, HS.out⟩
  case round =>
    clear HS
    obtain ⟨k, hk, rfl, inv⟩ := hrel
    have hsz := inv.sz
    by_cases hlt : k < 16
    · obtain ⟨r, hr⟩ : ∃ r, k % 4 = r := ⟨_, rfl⟩
      have e1 : (k : Int).tmod 4 = (r : Nat) := by rw [Int.tmod_eq_emod_of_nonneg (by omega)]; omega
      have r4 : r < 4 := by omega
      have r5 : (r : Int) < 4 := by omega
      have h1 : wr.cell? ⟨w.heap.size, k, none⟩ = some (.int .u8 (e8 (f k))) := by rw [inv.b0.cell hlt]; simp [nK]
      have h2 : wr.cell? ⟨w.heap.size + 1 + 1, r, none⟩ = some (.int .u8 (e8 (wd f c k r))) := inv.b2.cell r4
      have h3 : wr.frozen? ⟨w.heap.size + 1 + 1, r, none⟩ = false := inv.b2.frozen
      have hv : wd f c k r ^^^ f k = nkF f c k := by rw [← hr]; exact wd_step f c k
      have H1 : Hid (R3 w (nK f c k) zF (wd f c (k + 1)) 4 96 (wr.setCell ⟨w.heap.size + 1 + 1, r, none⟩ (.int .u8 (e8 (nkF f c k)))).drew) := by
        refine ((inv.set2 r (nkF f c k)).congr2 fun j hj => ?_).drew
        rw [← hr]; exact wd_next f c k j hj
      have H2 : Hid (∀ wq, R3 w (nK f c k) zF (wd f c (k + 1)) 4 96 wq → R3 w (nK f c (k + 1)) zF (wd f c (k + 1)) 4 96 (wq.setCell ⟨w.heap.size, k, none⟩ (.int .u8 (e8 (nkF f c k))))) := fun wq h => by
        refine (h.set0 k (nkF f c k)).congr0 fun i _ => ?_
        unfold nK
        by_cases e : i = k
        · subst e; rw [if_pos rfl, if_pos (by omega)]
        · rw [if_neg e]
          by_cases e2 : i < k
          · rw [if_pos e2, if_pos (by omega)]
          · rw [if_neg e2, if_neg (by omega)]
      have HW : Hid (wd f c (k + 1) r = nkF f c k) := by
        show _ = _
        rw [← wd_next f c k r r4, if_pos hr.symm]
      clear inv hr
      generalize wd f c k r = x at *
      generalize hfk : f k = y at *
      clear hfk
      generalize nkF f c k = v at *
      go_wp2
      go_still_tail 9, (by kernel_rfl)
      go_upto_region 6 with fail
      have inv := H1.out
      generalize (wr.setCell ⟨w.heap.size + 1 + 1, r, none⟩ (.int .u8 (e8 v))).drew = w4 at *
      clear H1 h1 h2 h3 hsz
      have hsz := inv.sz
      have h1 : w4.cell? ⟨w.heap.size + 1 + 1, r, none⟩ = some (.int .u8 (e8 v)) := by rw [inv.b2.cell r4, HW.out]
      have h2 : w4.cell? ⟨w.heap.size, k, none⟩ = some (.int .u8 (e8 (nK f c k k))) := inv.b0.cell hlt
      have h3 : w4.frozen? ⟨w.heap.size, k, none⟩ = false := inv.b0.frozen
      have HI := H2.out w4 inv
      clear H2 inv
      generalize nK f c k k = z at *
      go_wp2
      go_roundw
      case rel => first | exact ⟨k + 1, by omega, by go_num, HI⟩ | ((repeat apply Exists.intro); exact ⟨⟨k + 1, by omega, by go_num, HI⟩, rfl⟩)
      case measure => simp [intOf]; omega
    · obtain rfl : k = 16 := by omega
      have inv := inv.congr0 (f0' := nkF f c) (fun i hi => by simp [nK, hi])
      clear hk hlt hsz
      have hbs := inv.b0
      have hbr := inv.b1
      have hbel := inv.bel
      unfold Row at hbs hbr
      have hi := sizeKb (nkF f c)
      have h1 := kb_one (nkF f c) 16
      have hzs := kbs zF (nkF f c)
      have hout : (wr.setRow (w.heap.size + 1) (kb (nkF f c) 16).toArray).heap[(w.heap.size + 1)]? = some (.cells (kb (nkF f c) 16).toArray 55 (0, 0)) := setRow_heap _ _ _ _ _ _ hbr
      have hbl := setRow_below (b := (w.heap.size + 1)) (kb (nkF f c) 16).toArray hbel (by omega)
      clear inv
      generalize hKK : (kb (nkF f c) 16).toArray = K at *
      have HK : Hid ((kb (nkF f c) 16).toArray = K) := hKK
      clear hKK
      go_wp2_with (first | refine wpList_load_row rfl 55 _ rfl w.heap.size rfl 55 _ (0, 0) _ hbs Tryd.underlying55 rfl hi ?_ | refine wpList_store_row rfl 55 _ _ rfl (w.heap.size + 1) _ rfl rfl 55 _ hbr hi hzs h1 ?_)
      exact bodyPost_ret (v := .agg K) (results_cell_row rfl _ _ (w.heap.size + 1) 55 _ (0, 0) _ rfl hout Tryd.underlying55 rfl hi) rfl ⟨by rw [← HK.out], hbl⟩
end Go.Proofs.YtjnbhiamaabbgaaDoor
