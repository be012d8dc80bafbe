/-
  AES-128 by its rounds: two answers, and that it looks at sixteen bytes alone.
-/
import Derived.Test.YtjnbhiamaabbgaaDoorAes
namespace Go.Proofs.YtjnbhiamaabbgaaDoor
open Go.RowKit
theorem shF_congr {f g : Nat → UInt8} (h : ∀ i, i < 16 → f i = g i) : ∀ i, i < 16 → shF f i = shF g i := fun i _ => by unfold shF; rw [h _ (by omega)]
theorem mixF_congr {f g : Nat → UInt8} (h : ∀ i, i < 16 → f i = g i) : ∀ i, i < 16 → mixF f i = mixF g i := fun i hi => by
  unfold mixF
  rw [h (i / 4 * 4) (by omega), h (i / 4 * 4 + 1) (by omega), h (i / 4 * 4 + 2) (by omega), h (i / 4 * 4 + 3) (by omega), h i hi, h (i / 4 * 4 + (i % 4 + 1) % 4) (by omega)]
theorem xorF_congr {f g p q : Nat → UInt8} (h : ∀ i, i < 16 → f i = g i) (h2 : ∀ i, i < 16 → p i = q i) : ∀ i, i < 16 → xorF f p i = xorF g q i := fun i hi => by unfold xorF; rw [h i hi, h2 i hi]
theorem hdF_congr {f g : Nat → UInt8} (h : ∀ i, i < 16 → f i = g i) (c : UInt8) (j : Nat) : hdF f c j = hdF g c j := by
  unfold hdF; rw [h 12 (by omega), h 13 (by omega), h 14 (by omega), h 15 (by omega)]
theorem nkF_lo (f : Nat → UInt8) (c : UInt8) (i : Nat) (h : i < 4) : nkF f c i = hdF f c i ^^^ f i := by rw [nkF, dif_neg (by omega)]
theorem nkF_hi (f : Nat → UInt8) (c : UInt8) (i : Nat) : nkF f c (i + 4) = nkF f c i ^^^ f (i + 4) := by rw [nkF, dif_pos (by omega), Nat.add_sub_cancel]
theorem nkF_congr {f g : Nat → UInt8} (h : ∀ i, i < 16 → f i = g i) (c : UInt8) : ∀ i, i < 16 → nkF f c i = nkF g c i := by
  intro i
  induction i using Nat.strongRecOn with
  | _ i ih =>
    intro hi
    by_cases h4 : i < 4
    · rw [nkF_lo f c i h4, nkF_lo g c i h4, hdF_congr h, h i hi]
    · obtain ⟨j, rfl⟩ : ∃ j, i = j + 4 := ⟨i - 4, by omega⟩
      rw [nkF_hi, nkF_hi, ih j (by omega) (by omega), h _ hi]
theorem rkF_congr {f g : Nat → UInt8} (h : ∀ i, i < 16 → f i = g i) : ∀ n i, i < 16 → rkF f n i = rkF g n i
  | 0 => h
  | n + 1 => nkF_congr (rkF_congr h n) (conF n)
theorem rdF_congr {k k' x x' : Nat → UInt8} (h : ∀ i, i < 16 → k i = k' i) (h2 : ∀ i, i < 16 → x i = x' i) : ∀ n i, i < 16 → rdF k x n i = rdF k' x' n i
  | 0 => xorF_congr h2 (rkF_congr h 0)
  | n + 1 => xorF_congr (mixF_congr (shF_congr (rdF_congr h h2 n))) (rkF_congr h (n + 1))
theorem aesF_congr {k k' x x' : Nat → UInt8} (h : ∀ i, i < 16 → k i = k' i) (h2 : ∀ i, i < 16 → x i = x' i) : ∀ i, i < 16 → aesF k x i = aesF k' x' i :=
  xorF_congr (shF_congr (rdF_congr h h2 9)) (rkF_congr h 10)
theorem kl_congr {f g : Nat → UInt8} {n : Nat} (h : ∀ i, i < n → f i = g i) : kl f n = kl g n := by
  unfold kl
  apply List.map_congr_left
  intro i hi
  exact h i (by simpa using hi)
/-- A round's key without a walk back. -/
def nkC (f : Nat → UInt8) (c : UInt8) (i : Nat) : UInt8 := hdF f c (i % 4) ^^^ f (i % 4) ^^^ (if 4 ≤ i then f (i % 4 + 4) else 0) ^^^ (if 8 ≤ i then f (i % 4 + 8) else 0) ^^^ (if 12 ≤ i then f (i % 4 + 12) else 0)
theorem nkF_C (f : Nat → UInt8) (c : UInt8) (i : Nat) (hi : i < 16) : nkF f c i = nkC f c i := by
  unfold nkC
  by_cases h1 : i < 4
  · rw [nkF_lo f c i h1, show i % 4 = i by omega, if_neg (by omega), if_neg (by omega), if_neg (by omega)]; simp
  · obtain ⟨j, rfl⟩ : ∃ j, i = j + 4 := ⟨i - 4, by omega⟩
    rw [nkF_hi]
    by_cases h2 : j < 4
    · rw [nkF_lo f c j h2, show (j + 4) % 4 = j by omega, if_pos (by omega), if_neg (by omega), if_neg (by omega)]; simp
    · obtain ⟨l, rfl⟩ : ∃ l, j = l + 4 := ⟨j - 4, by omega⟩
      rw [nkF_hi]
      by_cases h3 : l < 4
      · rw [nkF_lo f c l h3, show (l + 4 + 4) % 4 = l by omega, if_pos (by omega), if_pos (by omega), if_neg (by omega)]; simp
      · obtain ⟨m, rfl⟩ : ∃ m, l = m + 4 := ⟨l - 4, by omega⟩
        rw [nkF_hi, nkF_lo f c m (by omega), show (m + 4 + 4 + 4) % 4 = m by omega, if_pos (by omega), if_pos (by omega), if_pos (by omega)]
def RKt : List UInt8 := [0, 1, 2, 3, 4, 5, 6, 7, 8, 9, 10, 11, 12, 13, 14, 15, 214, 170, 116, 253, 210, 175, 114, 250, 218, 166, 120, 241, 214, 171, 118, 254, 182, 146, 207, 11, 100, 61, 189, 241, 190, 155, 197, 0, 104, 48, 179, 254, 182, 255, 116, 78, 210, 194, 201, 191, 108, 89, 12, 191, 4, 105, 191, 65, 71, 247, 247, 188, 149, 53, 62, 3, 249, 108, 50, 188, 253, 5, 141, 253, 60, 170, 163, 232, 169, 159, 157, 235, 80, 243, 175, 87, 173, 246, 34, 170, 94, 57, 15, 125, 247, 166, 146, 150, 167, 85, 61, 193, 10, 163, 31, 107, 20, 249, 112, 26, 227, 95, 226, 140, 68, 10, 223, 77, 78, 169, 192, 38, 71, 67, 135, 53, 164, 28, 101, 185, 224, 22, 186, 244, 174, 191, 122, 210, 84, 153, 50, 209, 240, 133, 87, 104, 16, 147, 237, 156, 190, 44, 151, 78, 19, 17, 29, 127, 227, 148, 74, 23, 243, 7, 167, 139, 77, 43, 48, 197]
theorem rk_tab : ∀ n, n ≤ 10 → ∀ i, i < 16 → rkF (fun j => UInt8.ofNat j) n i = RKt.getD (16 * n + i) 0
  | 0, _, i, hi => (by decide +kernel : ∀ i : Fin 16, UInt8.ofNat i.val = RKt.getD (16 * 0 + i.val) 0) ⟨i, hi⟩
  | n + 1, h, i, hi => by
    show nkF (rkF _ n) (conF n) i = _
    rw [nkF_congr (rk_tab n (by omega)) (conF n) i hi, nkF_C _ _ i hi]
    exact (by decide +kernel : ∀ n : Fin 10, ∀ i : Fin 16, nkC (fun j => RKt.getD (16 * n.val + j) 0) (conF n.val) i.val = RKt.getD (16 * (n.val + 1) + i.val) 0) ⟨n, by omega⟩ ⟨i, hi⟩
def ST1 : List UInt8 := [0, 0, 0, 0, 0, 0, 0, 0, 0, 0, 0, 0, 0, 0, 0, 0, 181, 201, 23, 158, 177, 204, 17, 153, 185, 197, 27, 146, 181, 200, 21, 157, 43, 101, 246, 55, 76, 66, 124, 91, 47, 227, 169, 37, 104, 150, 117, 91, 209, 1, 95, 203, 180, 239, 101, 103, 150, 136, 70, 32, 118, 185, 214, 173, 142, 23, 6, 74, 42, 53, 161, 131, 114, 159, 229, 159, 243, 165, 145, 241, 215, 85, 125, 213, 89, 153, 219, 50, 89, 226, 24, 61, 85, 141, 205, 210, 115, 169, 106, 93, 119, 153, 165, 243, 17, 29, 43, 99, 104, 75, 31, 127, 27, 107, 133, 48, 105, 238, 252, 116, 154, 254, 253, 123, 87, 160, 76, 209, 16, 126, 234, 223, 182, 247, 121, 51, 181, 69, 122, 111, 8, 240, 70, 178, 142, 193, 102, 72, 26, 103, 122, 169, 106, 20, 255, 110, 206, 136, 192, 16]
theorem rd_tab1 : ∀ n, n ≤ 9 → ∀ i, i < 16 → rdF (fun j => UInt8.ofNat j) (fun j => ([0, 1, 2, 3, 4, 5, 6, 7, 8, 9, 10, 11, 12, 13, 14, 15] : List UInt8).getD j 0) n i = ST1.getD (16 * n + i) 0
  | 0, _, i, hi => (by decide +kernel : ∀ i : Fin 16, ([0, 1, 2, 3, 4, 5, 6, 7, 8, 9, 10, 11, 12, 13, 14, 15] : List UInt8).getD i.val 0 ^^^ UInt8.ofNat i.val = ST1.getD (16 * 0 + i.val) 0) ⟨i, hi⟩
  | n + 1, h, i, hi => by
    show xorF (mixF (shF (rdF _ _ n))) (rkF _ (n + 1)) i = _
    rw [xorF_congr (mixF_congr (shF_congr (rd_tab1 n (by omega)))) (rk_tab (n + 1) (by omega)) i hi]
    exact (by decide +kernel : ∀ n : Fin 9, ∀ i : Fin 16, xorF (mixF (shF (fun j => ST1.getD (16 * n.val + j) 0))) (fun j => RKt.getD (16 * (n.val + 1) + j) 0) i.val = ST1.getD (16 * (n.val + 1) + i.val) 0) ⟨n, by omega⟩ ⟨i, hi⟩
theorem aes_v1 (key x : List UInt8) (hk : key = [0, 1, 2, 3, 4, 5, 6, 7, 8, 9, 10, 11, 12, 13, 14, 15]) (hx : x = [0, 1, 2, 3, 4, 5, 6, 7, 8, 9, 10, 11, 12, 13, 14, 15]) : kl (aesF (fun j => key.getD j 0) (fun j => x.getD j 0)) 16 = [10, 148, 11, 181, 65, 110, 240, 69, 241, 195, 148, 88, 198, 83, 234, 90] := by
  subst hk hx
  have e : kl (aesF (fun j => ([0, 1, 2, 3, 4, 5, 6, 7, 8, 9, 10, 11, 12, 13, 14, 15] : List UInt8).getD j 0) (fun j => ([0, 1, 2, 3, 4, 5, 6, 7, 8, 9, 10, 11, 12, 13, 14, 15] : List UInt8).getD j 0)) 16 = kl (xorF (shF (fun j => ST1.getD (16 * 9 + j) 0)) (fun j => RKt.getD (16 * 10 + j) 0)) 16 := by
    apply kl_congr
    intro i hi
    have hkk : ∀ i, i < 16 → ([0, 1, 2, 3, 4, 5, 6, 7, 8, 9, 10, 11, 12, 13, 14, 15] : List UInt8).getD i 0 = UInt8.ofNat i := fun i hi => (by decide +kernel : ∀ i : Fin 16, ([0, 1, 2, 3, 4, 5, 6, 7, 8, 9, 10, 11, 12, 13, 14, 15] : List UInt8).getD i.val 0 = UInt8.ofNat i.val) ⟨i, hi⟩
    rw [aesF_congr hkk (fun _ _ => rfl) i hi]
    exact xorF_congr (shF_congr (rd_tab1 9 (by omega))) (rk_tab 10 (by omega)) i hi
  rw [e]
  decide +kernel
def ST2 : List UInt8 := [0, 16, 32, 48, 64, 80, 96, 112, 128, 144, 160, 176, 192, 208, 224, 240, 137, 216, 16, 232, 133, 90, 206, 104, 45, 24, 67, 216, 203, 18, 143, 228, 73, 21, 89, 143, 85, 229, 215, 160, 218, 202, 148, 250, 31, 10, 99, 247, 250, 99, 106, 40, 37, 179, 57, 201, 64, 102, 138, 49, 87, 36, 77, 23, 36, 114, 64, 35, 105, 102, 179, 250, 110, 210, 117, 50, 136, 66, 91, 108, 200, 22, 119, 188, 155, 122, 201, 59, 37, 2, 121, 146, 176, 38, 25, 150, 198, 47, 225, 9, 247, 94, 237, 195, 204, 121, 57, 93, 132, 249, 207, 93, 209, 135, 108, 15, 121, 196, 48, 10, 180, 85, 148, 173, 214, 111, 244, 31, 253, 227, 186, 210, 5, 229, 208, 215, 53, 71, 150, 78, 241, 254, 55, 241, 189, 110, 124, 61, 242, 181, 119, 158, 11, 97, 33, 110, 139, 16, 182, 137]
theorem rd_tab2 : ∀ n, n ≤ 9 → ∀ i, i < 16 → rdF (fun j => UInt8.ofNat j) (fun j => ([0, 17, 34, 51, 68, 85, 102, 119, 136, 153, 170, 187, 204, 221, 238, 255] : List UInt8).getD j 0) n i = ST2.getD (16 * n + i) 0
  | 0, _, i, hi => (by decide +kernel : ∀ i : Fin 16, ([0, 17, 34, 51, 68, 85, 102, 119, 136, 153, 170, 187, 204, 221, 238, 255] : List UInt8).getD i.val 0 ^^^ UInt8.ofNat i.val = ST2.getD (16 * 0 + i.val) 0) ⟨i, hi⟩
  | n + 1, h, i, hi => by
    show xorF (mixF (shF (rdF _ _ n))) (rkF _ (n + 1)) i = _
    rw [xorF_congr (mixF_congr (shF_congr (rd_tab2 n (by omega)))) (rk_tab (n + 1) (by omega)) i hi]
    exact (by decide +kernel : ∀ n : Fin 9, ∀ i : Fin 16, xorF (mixF (shF (fun j => ST2.getD (16 * n.val + j) 0))) (fun j => RKt.getD (16 * (n.val + 1) + j) 0) i.val = ST2.getD (16 * (n.val + 1) + i.val) 0) ⟨n, by omega⟩ ⟨i, hi⟩
theorem aes_v2 (key x : List UInt8) (hk : key = [0, 1, 2, 3, 4, 5, 6, 7, 8, 9, 10, 11, 12, 13, 14, 15]) (hx : x = [0, 17, 34, 51, 68, 85, 102, 119, 136, 153, 170, 187, 204, 221, 238, 255]) : kl (aesF (fun j => key.getD j 0) (fun j => x.getD j 0)) 16 = [105, 196, 224, 216, 106, 123, 4, 48, 216, 205, 183, 128, 112, 180, 197, 90] := by
  subst hk hx
  have e : kl (aesF (fun j => ([0, 1, 2, 3, 4, 5, 6, 7, 8, 9, 10, 11, 12, 13, 14, 15] : List UInt8).getD j 0) (fun j => ([0, 17, 34, 51, 68, 85, 102, 119, 136, 153, 170, 187, 204, 221, 238, 255] : List UInt8).getD j 0)) 16 = kl (xorF (shF (fun j => ST2.getD (16 * 9 + j) 0)) (fun j => RKt.getD (16 * 10 + j) 0)) 16 := by
    apply kl_congr
    intro i hi
    have hkk : ∀ i, i < 16 → ([0, 1, 2, 3, 4, 5, 6, 7, 8, 9, 10, 11, 12, 13, 14, 15] : List UInt8).getD i 0 = UInt8.ofNat i := fun i hi => (by decide +kernel : ∀ i : Fin 16, ([0, 1, 2, 3, 4, 5, 6, 7, 8, 9, 10, 11, 12, 13, 14, 15] : List UInt8).getD i.val 0 = UInt8.ofNat i.val) ⟨i, hi⟩
    rw [aesF_congr hkk (fun _ _ => rfl) i hi]
    exact xorF_congr (shF_congr (rd_tab2 9 (by omega))) (rk_tab 10 (by omega)) i hi
  rw [e]
  decide +kernel
end Go.Proofs.YtjnbhiamaabbgaaDoor
