/-
  The bytes of AES-128 as the model holds them, and our own cipher over functions from places to bytes: what the program's functions are shown to compute. No program in it.
-/
import Derived.Test.YtjnbhiamaabbgaaDoorKeep
import Derived.Deep.MidRow
namespace Go.Proofs.YtjnbhiamaabbgaaDoor
open Go.RowKit
/-- The number that a byte is. -/
def e8 (x : UInt8) : Int := (x.toNat : Int)
theorem e8_lo (x : UInt8) : 0 ≤ e8 x := by simp [e8]
theorem e8_hi (x : UInt8) : e8 x < 256 := by have := x.toNat_lt; simp only [e8]; omega
theorem e8_nat (x : UInt8) : (e8 x).toNat = x.toNat := by simp [e8]
theorem u8_all {p : UInt8 → Prop} (h : ∀ i : Fin 256, p (UInt8.ofNat i.val)) (x : UInt8) : p x := by
  have := h ⟨x.toNat, x.toNat_lt⟩
  simpa using this
theorem e8_xor (a b : UInt8) : bits .xor .u8 (e8 a) (e8 b) = e8 (a ^^^ b) := u8_xor a b
theorem e8_xor27 (a : UInt8) : bits .xor .u8 (e8 a) 27 = e8 (a ^^^ 27) := u8_xor a 27
theorem e8_xor9 (a : UInt8) : bits .xor .u8 (e8 a) 9 = e8 (a ^^^ 9) := u8_xor a 9
theorem e8_xor99 (a : UInt8) : bits .xor .u8 (e8 a) 99 = e8 (a ^^^ 99) := u8_xor a 99
theorem e8_or (a b : UInt8) : bits .or .u8 (e8 a) (e8 b) = e8 (a ||| b) := by
  show IntKind.u8.wrap ((BitVec.ofInt 8 (a.toNat : Int) ||| BitVec.ofInt 8 (b.toNat : Int)).toNat : Int) = _
  have ha : BitVec.ofInt 8 (a.toNat : Int) = a.toBitVec := by simp
  have hc : BitVec.ofInt 8 (b.toNat : Int) = b.toBitVec := by simp
  rw [ha, hc]
  have h := (a ||| b).toNat_lt
  have e : (a.toBitVec ||| b.toBitVec).toNat = (a ||| b).toNat := by simp
  rw [e]
  show _ = (((a ||| b).toNat : Nat) : Int)
  simp only [IntKind.wrap, IntKind.bits, IntKind.signed]
  generalize (a ||| b).toNat = q at *
  simp
  omega
theorem e8_shl (n : Nat) (hn : n < 8) (k : Int) (hk : k = ((2 ^ n : Nat) : Int)) (a : UInt8) : IntKind.u8.wrap (e8 a * k) = e8 (a <<< UInt8.ofNat n) := by
  subst hk
  obtain rfl | rfl | rfl | rfl | rfl | rfl | rfl | rfl : n = 0 ∨ n = 1 ∨ n = 2 ∨ n = 3 ∨ n = 4 ∨ n = 5 ∨ n = 6 ∨ n = 7 := by omega
  all_goals (revert a; exact u8_all (by decide +kernel))
theorem e8_shl1 (a : UInt8) : IntKind.u8.wrap (e8 a * (2 : Int)) = e8 (a <<< 1) := e8_shl 1 (by decide) _ rfl a
theorem e8_shl2 (a : UInt8) : IntKind.u8.wrap (e8 a * (4 : Int)) = e8 (a <<< 2) := e8_shl 2 (by decide) _ rfl a
theorem e8_shl3 (a : UInt8) : IntKind.u8.wrap (e8 a * (8 : Int)) = e8 (a <<< 3) := e8_shl 3 (by decide) _ rfl a
theorem e8_shl4 (a : UInt8) : IntKind.u8.wrap (e8 a * (16 : Int)) = e8 (a <<< 4) := e8_shl 4 (by decide) _ rfl a
theorem e8_shr (n : Nat) (hn : n < 8) (k : Int) (hk : k = ((2 ^ n : Nat) : Int)) (a : UInt8) : e8 a / k = e8 (a >>> UInt8.ofNat n) := by
  subst hk
  obtain rfl | rfl | rfl | rfl | rfl | rfl | rfl | rfl : n = 0 ∨ n = 1 ∨ n = 2 ∨ n = 3 ∨ n = 4 ∨ n = 5 ∨ n = 6 ∨ n = 7 := by omega
  all_goals (revert a; exact u8_all (by decide +kernel))
theorem e8_shr4 (a : UInt8) : e8 a / (16 : Int) = e8 (a >>> 4) := e8_shr 4 (by decide) _ rfl a
theorem e8_shr5 (a : UInt8) : e8 a / (32 : Int) = e8 (a >>> 5) := e8_shr 5 (by decide) _ rfl a
theorem e8_shr6 (a : UInt8) : e8 a / (64 : Int) = e8 (a >>> 6) := e8_shr 6 (by decide) _ rfl a
theorem e8_shr7 (a : UInt8) : e8 a / (128 : Int) = e8 (a >>> 7) := e8_shr 7 (by decide) _ rfl a
/-- Twice a byte, in the field. -/
def dbl (x : UInt8) : UInt8 := if 128 ≤ x.toNat then (x <<< 1) ^^^ 27 else x <<< 1
theorem dbl_hi (x : UInt8) (h : (128 : Int) ≤ e8 x) : dbl x = (x <<< 1) ^^^ 27 := by unfold dbl; rw [if_pos (by simp only [e8] at h; omega)]
theorem dbl_lo (x : UInt8) (h : ¬ (128 : Int) ≤ e8 x) : dbl x = x <<< 1 := by unfold dbl; rw [if_neg (by simp only [e8] at h; omega)]
/-- A third of it. -/
def th1 (x : UInt8) : UInt8 := x ^^^ x <<< 1
def th2 (x : UInt8) : UInt8 := th1 x ^^^ th1 x <<< 2
def th3 (x : UInt8) : UInt8 := th2 x ^^^ th2 x <<< 4
def thd (x : UInt8) : UInt8 := if 128 ≤ (th3 x).toNat then th3 x ^^^ 9 else th3 x
def rot (x : UInt8) (n : UInt8) : UInt8 := x <<< n ||| x >>> (8 - n)
/-- The affine map of FIPS 197, 5.1.1. -/
def aff (q : UInt8) : UInt8 := q ^^^ rot q 1 ^^^ rot q 2 ^^^ rot q 3 ^^^ rot q 4 ^^^ 99
/-- The powers of 3, and those of its inverse. -/
def Pt : List UInt8 := [1, 3, 5, 15, 17, 51, 85, 255, 26, 46, 114, 150, 161, 248, 19, 53, 95, 225, 56, 72, 216, 115, 149, 164, 247, 2, 6, 10, 30, 34, 102, 170, 229, 52, 92, 228, 55, 89, 235, 38, 106, 190, 217, 112, 144, 171, 230, 49, 83, 245, 4, 12, 20, 60, 68, 204, 79, 209, 104, 184, 211, 110, 178, 205, 76, 212, 103, 169, 224, 59, 77, 215, 98, 166, 241, 8, 24, 40, 120, 136, 131, 158, 185, 208, 107, 189, 220, 127, 129, 152, 179, 206, 73, 219, 118, 154, 181, 196, 87, 249, 16, 48, 80, 240, 11, 29, 39, 105, 187, 214, 97, 163, 254, 25, 43, 125, 135, 146, 173, 236, 47, 113, 147, 174, 233, 32, 96, 160, 251, 22, 58, 78, 210, 109, 183, 194, 93, 231, 50, 86, 250, 21, 63, 65, 195, 94, 226, 61, 71, 201, 64, 192, 91, 237, 44, 116, 156, 191, 218, 117, 159, 186, 213, 100, 172, 239, 42, 126, 130, 157, 188, 223, 122, 142, 137, 128, 155, 182, 193, 88, 232, 35, 101, 175, 234, 37, 111, 177, 200, 67, 197, 84, 252, 31, 33, 99, 165, 244, 7, 9, 27, 45, 119, 153, 176, 203, 70, 202, 69, 207, 74, 222, 121, 139, 134, 145, 168, 227, 62, 66, 198, 81, 243, 14, 18, 54, 90, 238, 41, 123, 141, 140, 143, 138, 133, 148, 167, 242, 13, 23, 57, 75, 221, 124, 132, 151, 162, 253, 28, 36, 108, 180, 199, 82, 246, 1]
def Qt : List UInt8 := [1, 246, 82, 199, 180, 108, 36, 28, 253, 162, 151, 132, 124, 221, 75, 57, 23, 13, 242, 167, 148, 133, 138, 143, 140, 141, 123, 41, 238, 90, 54, 18, 14, 243, 81, 198, 66, 62, 227, 168, 145, 134, 139, 121, 222, 74, 207, 69, 202, 70, 203, 176, 153, 119, 45, 27, 9, 7, 244, 165, 99, 33, 31, 252, 84, 197, 67, 200, 177, 111, 37, 234, 175, 101, 35, 232, 88, 193, 182, 155, 128, 137, 142, 122, 223, 188, 157, 130, 126, 42, 239, 172, 100, 213, 186, 159, 117, 218, 191, 156, 116, 44, 237, 91, 192, 64, 201, 71, 61, 226, 94, 195, 65, 63, 21, 250, 86, 50, 231, 93, 194, 183, 109, 210, 78, 58, 22, 251, 160, 96, 32, 233, 174, 147, 113, 47, 236, 173, 146, 135, 125, 43, 25, 254, 163, 97, 214, 187, 105, 39, 29, 11, 240, 80, 48, 16, 249, 87, 196, 181, 154, 118, 219, 73, 206, 179, 152, 129, 127, 220, 189, 107, 208, 185, 158, 131, 136, 120, 40, 24, 8, 241, 166, 98, 215, 77, 59, 224, 169, 103, 212, 76, 205, 178, 110, 211, 184, 104, 209, 79, 204, 68, 60, 20, 12, 4, 245, 83, 49, 230, 171, 144, 112, 217, 190, 106, 38, 235, 89, 55, 228, 92, 52, 229, 170, 102, 34, 30, 10, 6, 2, 247, 164, 149, 115, 216, 72, 56, 225, 95, 53, 19, 248, 161, 150, 114, 46, 26, 255, 85, 51, 17, 15, 5, 3, 1]
def Pw (n : Nat) : UInt8 := Pt.getD n 0
def Qw (n : Nat) : UInt8 := Qt.getD n 0
theorem Pw_next (n : Nat) (h : n < 255) : Pw (n + 1) = Pw n ^^^ dbl (Pw n) :=
  (by decide +kernel : ∀ n : Fin 255, Pw (n.val + 1) = Pw n.val ^^^ dbl (Pw n.val)) ⟨n, h⟩
theorem Qw_next (n : Nat) (h : n < 255) : Qw (n + 1) = thd (Qw n) :=
  (by decide +kernel : ∀ n : Fin 255, Qw (n.val + 1) = thd (Qw n.val)) ⟨n, h⟩
/-- The box. -/
def Bt : List UInt8 := [99, 124, 119, 123, 242, 107, 111, 197, 48, 1, 103, 43, 254, 215, 171, 118, 202, 130, 201, 125, 250, 89, 71, 240, 173, 212, 162, 175, 156, 164, 114, 192, 183, 253, 147, 38, 54, 63, 247, 204, 52, 165, 229, 241, 113, 216, 49, 21, 4, 199, 35, 195, 24, 150, 5, 154, 7, 18, 128, 226, 235, 39, 178, 117, 9, 131, 44, 26, 27, 110, 90, 160, 82, 59, 214, 179, 41, 227, 47, 132, 83, 209, 0, 237, 32, 252, 177, 91, 106, 203, 190, 57, 74, 76, 88, 207, 208, 239, 170, 251, 67, 77, 51, 133, 69, 249, 2, 127, 80, 60, 159, 168, 81, 163, 64, 143, 146, 157, 56, 245, 188, 182, 218, 33, 16, 255, 243, 210, 205, 12, 19, 236, 95, 151, 68, 23, 196, 167, 126, 61, 100, 93, 25, 115, 96, 129, 79, 220, 34, 42, 144, 136, 70, 238, 184, 20, 222, 94, 11, 219, 224, 50, 58, 10, 73, 6, 36, 92, 194, 211, 172, 98, 145, 149, 228, 121, 231, 200, 55, 109, 141, 213, 78, 169, 108, 86, 244, 234, 101, 122, 174, 8, 186, 120, 37, 46, 28, 166, 180, 198, 232, 221, 116, 31, 75, 189, 139, 138, 112, 62, 181, 102, 72, 3, 246, 14, 97, 53, 87, 185, 134, 193, 29, 158, 225, 248, 152, 17, 105, 217, 142, 148, 155, 30, 135, 233, 206, 85, 40, 223, 140, 161, 137, 13, 191, 230, 66, 104, 65, 153, 45, 15, 176, 84, 187, 22]
def Sx (x : UInt8) : UInt8 := Bt.getD x.toNat 0
def Sn (n : Nat) : UInt8 := Bt.getD n 0
theorem Sn_byte (x : UInt8) : Sn x.toNat = Sx x := rfl
/-- The box as far as it is filled behind n turns. -/
def bxK : Nat → List UInt8
  | 0 => 99 :: List.replicate 255 0
  | n + 1 => (bxK n).set (Pw n).toNat (aff (Qw n))
theorem bxK_len : ∀ n, (bxK n).length = 256
  | 0 => by rw [bxK, List.length_cons, List.length_replicate]
  | n + 1 => by rw [bxK, List.length_set, bxK_len n]
theorem bxK_all : bxK 255 = Bt := by decide +kernel
/-- So many bytes as a row's values. -/
def kb (f : Nat → UInt8) (n : Nat) : List Value := (List.range n).map fun i => .int .u8 (e8 (f i))
theorem kb_len (f : Nat → UInt8) (n : Nat) : (kb f n).length = n := by simp [kb]
theorem kb_size (f : Nat → UInt8) (n : Nat) : (kb f n).toArray.size = n := by simp [kb]
theorem kb_at (f : Nat → UInt8) (n i : Nat) (h : i < n) : (kb f n)[i]? = some (.int .u8 (e8 (f i))) := by simp [kb, h]
theorem kb_atA (f : Nat → UInt8) (n i : Nat) (h : i < n) : (kb f n).toArray[i]? = some (.int .u8 (e8 (f i))) := by simp [kb, h]
theorem kb_one (f : Nat → UInt8) (n : Nat) : (kb f n).toArray.all (·.oneCell') = true := by
  rw [Array.all_eq_true_iff_forall_mem]
  intro v hv
  simp only [kb, List.mem_toArray, List.mem_map] at hv
  obtain ⟨i, _, rfl⟩ := hv
  rfl
theorem kb_congr {f g : Nat → UInt8} {n : Nat} (h : ∀ i, i < n → f i = g i) : kb f n = kb g n := by
  unfold kb
  apply List.map_congr_left
  intro i hi
  rw [h i (by simpa using hi)]
theorem kb_set (f : Nat → UInt8) (n k : Nat) (v : UInt8) : (kb f n).set k (.int .u8 (e8 v)) = kb (fun i => if i = k then v else f i) n := by
  apply List.ext_getElem?
  intro i
  rw [List.getElem?_set]
  by_cases hi : i < n
  · rw [kb_at _ _ _ hi, kb_at _ _ _ hi, kb_len]
    by_cases e : k = i
    · subst e; simp [hi]
    · rw [if_neg e, if_neg (fun q => e q.symm)]
  · have h1 : (kb f n)[i]? = none := by rw [List.getElem?_eq_none]; rw [kb_len]; omega
    have h2 : (kb (fun i => if i = k then v else f i) n)[i]? = none := by rw [List.getElem?_eq_none]; rw [kb_len]; omega
    rw [h1, h2, kb_len]
    by_cases e : k = i
    · rw [if_pos e, if_neg (by omega)]
    · rw [if_neg e]
theorem kb_setA (f : Nat → UInt8) (n k : Nat) (v : UInt8) : (kb f n).toArray.setIfInBounds k (.int .u8 (e8 v)) = (kb (fun i => if i = k then v else f i) n).toArray := by
  rw [List.setIfInBounds_toArray, kb_set]
theorem bv_kb (l : List UInt8) : bv l = kb (fun i => l.getD i 0) l.length := by
  apply List.ext_getElem?
  intro i
  by_cases hi : i < l.length
  · rw [kb_at _ _ _ hi]; simp [bv, hi, e8]
  · rw [List.getElem?_eq_none (by rw [bv_len]; omega), List.getElem?_eq_none (by rw [kb_len]; omega)]
/-- The text that a row of so many bytes is. -/
def kl (f : Nat → UInt8) (n : Nat) : List UInt8 := (List.range n).map f
theorem kl_len (f : Nat → UInt8) (n : Nat) : (kl f n).length = n := by simp [kl]
theorem kl_getD (f : Nat → UInt8) (n i : Nat) (h : i < n) : (kl f n).getD i 0 = f i := by simp [kl, h]
theorem bv_kl (f : Nat → UInt8) (n : Nat) : bv (kl f n) = kb f n := by simp [bv, kl, kb, e8]
theorem kl_of (l : List UInt8) (n : Nat) (h : l.length = n) : kl (fun i => l.getD i 0) n = l := by
  subst h
  apply List.ext_getElem?
  intro i
  by_cases hi : i < l.length
  · simp [kl, hi]
  · rw [List.getElem?_eq_none (by rw [kl_len]; omega), List.getElem?_eq_none (by omega)]
/-- The steps of FIPS 197 over sixteen bytes. -/
def xorF (f g : Nat → UInt8) (i : Nat) : UInt8 := f i ^^^ g i
def shF (f : Nat → UInt8) (i : Nat) : UInt8 := Sx (f ((i + i % 4 * 4) % 16))
def mixF (f : Nat → UInt8) (i : Nat) : UInt8 := f (i / 4 * 4) ^^^ f (i / 4 * 4 + 1) ^^^ f (i / 4 * 4 + 2) ^^^ f (i / 4 * 4 + 3) ^^^ f i ^^^ dbl (f i ^^^ f (i / 4 * 4 + (i % 4 + 1) % 4))
/-- A round's key from the one ahead. -/
def hdF (f : Nat → UInt8) (c : UInt8) (j : Nat) : UInt8 := if j = 0 then Sx (f 13) ^^^ c else if j = 1 then Sx (f 14) else if j = 2 then Sx (f 15) else Sx (f 12)
def nkF (f : Nat → UInt8) (c : UInt8) (i : Nat) : UInt8 := if _h : 4 ≤ i then nkF f c (i - 4) ^^^ f i else hdF f c i ^^^ f i
  termination_by i
def conF : Nat → UInt8
  | 0 => 1
  | n + 1 => dbl (conF n)
def rkF (f : Nat → UInt8) : Nat → Nat → UInt8
  | 0 => f
  | n + 1 => nkF (rkF f n) (conF n)
/-- The state behind n rounds (n at most 9). -/
def rdF (k x : Nat → UInt8) : Nat → Nat → UInt8
  | 0 => xorF x (rkF k 0)
  | n + 1 => xorF (mixF (shF (rdF k x n))) (rkF k (n + 1))
/-- AES-128. -/
def aesF (k x : Nat → UInt8) : Nat → UInt8 := xorF (shF (rdF k x 9)) (rkF k 10)
end Go.Proofs.YtjnbhiamaabbgaaDoor
