/-
  Plain words of 32 bits as the model holds them, and our own SHA-256, HMAC, HKDF and tree of hashes over lists of bytes: what the program's functions are shown to compute. No program in it.
-/
import Derived.WalkKit
namespace Go.Proofs.YtjnbhiamaabbgaaDoor
open Go

/-- The number that a word of 32 bits is. -/
def u (x : BitVec 32) : Int := (x.toNat : Int)
theorem u_def (x : BitVec 32) : u x = (x.toNat : Int) := rfl
theorem u_lo (x : BitVec 32) : 0 ≤ u x := by simp [u]
theorem u_hi (x : BitVec 32) : u x < 4294967296 := by simp only [u]; have := x.isLt; omega
theorem ofInt_u (x : BitVec 32) : BitVec.ofInt 32 (u x) = x := by simp [u]
theorem u_inj {x y : BitVec 32} (h : u x = u y) : x = y := by
  simp only [u] at h; exact BitVec.eq_of_toNat_eq (by omega)
theorem u32_wrap (n : Int) (h0 : 0 ≤ n) (h : n < 4294967296) : IntKind.u32.wrap n = n := by
  simp [IntKind.wrap, IntKind.bits, IntKind.signed]; omega
theorem u_xor (a b : BitVec 32) : bits .xor .u32 (u a) (u b) = u (a ^^^ b) := by
  show IntKind.u32.wrap ((BitVec.ofInt 32 (u a) ^^^ BitVec.ofInt 32 (u b)).toNat : Int) = _
  rw [ofInt_u, ofInt_u]; exact u32_wrap _ (u_lo _) (u_hi _)
theorem u_and (a b : BitVec 32) : bits .and .u32 (u a) (u b) = u (a &&& b) := by
  show IntKind.u32.wrap ((BitVec.ofInt 32 (u a) &&& BitVec.ofInt 32 (u b)).toNat : Int) = _
  rw [ofInt_u, ofInt_u]; exact u32_wrap _ (u_lo _) (u_hi _)
theorem u_or (a b : BitVec 32) : bits .or .u32 (u a) (u b) = u (a ||| b) := by
  show IntKind.u32.wrap ((BitVec.ofInt 32 (u a) ||| BitVec.ofInt 32 (u b)).toNat : Int) = _
  rw [ofInt_u, ofInt_u]; exact u32_wrap _ (u_lo _) (u_hi _)
theorem u_add (a b : BitVec 32) : IntKind.u32.wrap (u a + u b) = u (a + b) := by
  simp [IntKind.wrap, IntKind.bits, IntKind.signed, u, BitVec.toNat_add]
theorem u_not (a : BitVec 32) : bits .xor .u32 IntKind.u32.max (u a) = u (~~~ a) := by
  show IntKind.u32.wrap ((BitVec.ofInt 32 4294967295 ^^^ BitVec.ofInt 32 (u a)).toNat : Int) = _
  rw [ofInt_u, show BitVec.ofInt 32 4294967295 = BitVec.allOnes 32 from by decide, BitVec.allOnes_xor]; exact u32_wrap _ (u_lo _) (u_hi _)
theorem u_shl (a : BitVec 32) (n : Nat) (k : Int) (hk : k = ((2 ^ n : Nat) : Int)) : IntKind.u32.wrap (u a * k) = u (a <<< n) := by
  subst hk
  simp only [IntKind.wrap, IntKind.bits, IntKind.signed, u, BitVec.toNat_shiftLeft, Nat.shiftLeft_eq]
  simp
theorem u_shr (a : BitVec 32) (n : Nat) (k : Int) (hk : k = ((2 ^ n : Nat) : Int)) : u a / k = u (a >>> n) := by
  subst hk
  simp only [u, BitVec.toNat_ushiftRight, Nat.shiftRight_eq_div_pow]
  simp
theorem u_shl1 (a : BitVec 32) : IntKind.u32.wrap (u a * (2 : Int)) = u (a <<< 1) := u_shl a 1 _ rfl
theorem u_shr1 (a : BitVec 32) : u a / (2 : Int) = u (a >>> 1) := u_shr a 1 _ rfl
theorem u_shl2 (a : BitVec 32) : IntKind.u32.wrap (u a * (4 : Int)) = u (a <<< 2) := u_shl a 2 _ rfl
theorem u_shr2 (a : BitVec 32) : u a / (4 : Int) = u (a >>> 2) := u_shr a 2 _ rfl
theorem u_shl3 (a : BitVec 32) : IntKind.u32.wrap (u a * (8 : Int)) = u (a <<< 3) := u_shl a 3 _ rfl
theorem u_shr3 (a : BitVec 32) : u a / (8 : Int) = u (a >>> 3) := u_shr a 3 _ rfl
theorem u_shl4 (a : BitVec 32) : IntKind.u32.wrap (u a * (16 : Int)) = u (a <<< 4) := u_shl a 4 _ rfl
theorem u_shr4 (a : BitVec 32) : u a / (16 : Int) = u (a >>> 4) := u_shr a 4 _ rfl
theorem u_shl5 (a : BitVec 32) : IntKind.u32.wrap (u a * (32 : Int)) = u (a <<< 5) := u_shl a 5 _ rfl
theorem u_shr5 (a : BitVec 32) : u a / (32 : Int) = u (a >>> 5) := u_shr a 5 _ rfl
theorem u_shl6 (a : BitVec 32) : IntKind.u32.wrap (u a * (64 : Int)) = u (a <<< 6) := u_shl a 6 _ rfl
theorem u_shr6 (a : BitVec 32) : u a / (64 : Int) = u (a >>> 6) := u_shr a 6 _ rfl
theorem u_shl7 (a : BitVec 32) : IntKind.u32.wrap (u a * (128 : Int)) = u (a <<< 7) := u_shl a 7 _ rfl
theorem u_shr7 (a : BitVec 32) : u a / (128 : Int) = u (a >>> 7) := u_shr a 7 _ rfl
theorem u_shl8 (a : BitVec 32) : IntKind.u32.wrap (u a * (256 : Int)) = u (a <<< 8) := u_shl a 8 _ rfl
theorem u_shr8 (a : BitVec 32) : u a / (256 : Int) = u (a >>> 8) := u_shr a 8 _ rfl
theorem u_shl9 (a : BitVec 32) : IntKind.u32.wrap (u a * (512 : Int)) = u (a <<< 9) := u_shl a 9 _ rfl
theorem u_shr9 (a : BitVec 32) : u a / (512 : Int) = u (a >>> 9) := u_shr a 9 _ rfl
theorem u_shl10 (a : BitVec 32) : IntKind.u32.wrap (u a * (1024 : Int)) = u (a <<< 10) := u_shl a 10 _ rfl
theorem u_shr10 (a : BitVec 32) : u a / (1024 : Int) = u (a >>> 10) := u_shr a 10 _ rfl
theorem u_shl11 (a : BitVec 32) : IntKind.u32.wrap (u a * (2048 : Int)) = u (a <<< 11) := u_shl a 11 _ rfl
theorem u_shr11 (a : BitVec 32) : u a / (2048 : Int) = u (a >>> 11) := u_shr a 11 _ rfl
theorem u_shl12 (a : BitVec 32) : IntKind.u32.wrap (u a * (4096 : Int)) = u (a <<< 12) := u_shl a 12 _ rfl
theorem u_shr12 (a : BitVec 32) : u a / (4096 : Int) = u (a >>> 12) := u_shr a 12 _ rfl
theorem u_shl13 (a : BitVec 32) : IntKind.u32.wrap (u a * (8192 : Int)) = u (a <<< 13) := u_shl a 13 _ rfl
theorem u_shr13 (a : BitVec 32) : u a / (8192 : Int) = u (a >>> 13) := u_shr a 13 _ rfl
theorem u_shl14 (a : BitVec 32) : IntKind.u32.wrap (u a * (16384 : Int)) = u (a <<< 14) := u_shl a 14 _ rfl
theorem u_shr14 (a : BitVec 32) : u a / (16384 : Int) = u (a >>> 14) := u_shr a 14 _ rfl
theorem u_shl15 (a : BitVec 32) : IntKind.u32.wrap (u a * (32768 : Int)) = u (a <<< 15) := u_shl a 15 _ rfl
theorem u_shr15 (a : BitVec 32) : u a / (32768 : Int) = u (a >>> 15) := u_shr a 15 _ rfl
theorem u_shl16 (a : BitVec 32) : IntKind.u32.wrap (u a * (65536 : Int)) = u (a <<< 16) := u_shl a 16 _ rfl
theorem u_shr16 (a : BitVec 32) : u a / (65536 : Int) = u (a >>> 16) := u_shr a 16 _ rfl
theorem u_shl17 (a : BitVec 32) : IntKind.u32.wrap (u a * (131072 : Int)) = u (a <<< 17) := u_shl a 17 _ rfl
theorem u_shr17 (a : BitVec 32) : u a / (131072 : Int) = u (a >>> 17) := u_shr a 17 _ rfl
theorem u_shl18 (a : BitVec 32) : IntKind.u32.wrap (u a * (262144 : Int)) = u (a <<< 18) := u_shl a 18 _ rfl
theorem u_shr18 (a : BitVec 32) : u a / (262144 : Int) = u (a >>> 18) := u_shr a 18 _ rfl
theorem u_shl19 (a : BitVec 32) : IntKind.u32.wrap (u a * (524288 : Int)) = u (a <<< 19) := u_shl a 19 _ rfl
theorem u_shr19 (a : BitVec 32) : u a / (524288 : Int) = u (a >>> 19) := u_shr a 19 _ rfl
theorem u_shl20 (a : BitVec 32) : IntKind.u32.wrap (u a * (1048576 : Int)) = u (a <<< 20) := u_shl a 20 _ rfl
theorem u_shr20 (a : BitVec 32) : u a / (1048576 : Int) = u (a >>> 20) := u_shr a 20 _ rfl
theorem u_shl21 (a : BitVec 32) : IntKind.u32.wrap (u a * (2097152 : Int)) = u (a <<< 21) := u_shl a 21 _ rfl
theorem u_shr21 (a : BitVec 32) : u a / (2097152 : Int) = u (a >>> 21) := u_shr a 21 _ rfl
theorem u_shl22 (a : BitVec 32) : IntKind.u32.wrap (u a * (4194304 : Int)) = u (a <<< 22) := u_shl a 22 _ rfl
theorem u_shr22 (a : BitVec 32) : u a / (4194304 : Int) = u (a >>> 22) := u_shr a 22 _ rfl
theorem u_shl23 (a : BitVec 32) : IntKind.u32.wrap (u a * (8388608 : Int)) = u (a <<< 23) := u_shl a 23 _ rfl
theorem u_shr23 (a : BitVec 32) : u a / (8388608 : Int) = u (a >>> 23) := u_shr a 23 _ rfl
theorem u_shl24 (a : BitVec 32) : IntKind.u32.wrap (u a * (16777216 : Int)) = u (a <<< 24) := u_shl a 24 _ rfl
theorem u_shr24 (a : BitVec 32) : u a / (16777216 : Int) = u (a >>> 24) := u_shr a 24 _ rfl
theorem u_shl25 (a : BitVec 32) : IntKind.u32.wrap (u a * (33554432 : Int)) = u (a <<< 25) := u_shl a 25 _ rfl
theorem u_shr25 (a : BitVec 32) : u a / (33554432 : Int) = u (a >>> 25) := u_shr a 25 _ rfl
theorem u_shl26 (a : BitVec 32) : IntKind.u32.wrap (u a * (67108864 : Int)) = u (a <<< 26) := u_shl a 26 _ rfl
theorem u_shr26 (a : BitVec 32) : u a / (67108864 : Int) = u (a >>> 26) := u_shr a 26 _ rfl
theorem u_shl27 (a : BitVec 32) : IntKind.u32.wrap (u a * (134217728 : Int)) = u (a <<< 27) := u_shl a 27 _ rfl
theorem u_shr27 (a : BitVec 32) : u a / (134217728 : Int) = u (a >>> 27) := u_shr a 27 _ rfl
theorem u_shl28 (a : BitVec 32) : IntKind.u32.wrap (u a * (268435456 : Int)) = u (a <<< 28) := u_shl a 28 _ rfl
theorem u_shr28 (a : BitVec 32) : u a / (268435456 : Int) = u (a >>> 28) := u_shr a 28 _ rfl
theorem u_shl29 (a : BitVec 32) : IntKind.u32.wrap (u a * (536870912 : Int)) = u (a <<< 29) := u_shl a 29 _ rfl
theorem u_shr29 (a : BitVec 32) : u a / (536870912 : Int) = u (a >>> 29) := u_shr a 29 _ rfl
theorem u_shl30 (a : BitVec 32) : IntKind.u32.wrap (u a * (1073741824 : Int)) = u (a <<< 30) := u_shl a 30 _ rfl
theorem u_shr30 (a : BitVec 32) : u a / (1073741824 : Int) = u (a >>> 30) := u_shr a 30 _ rfl
theorem u_shl31 (a : BitVec 32) : IntKind.u32.wrap (u a * (2147483648 : Int)) = u (a <<< 31) := u_shl a 31 _ rfl
theorem u_shr31 (a : BitVec 32) : u a / (2147483648 : Int) = u (a >>> 31) := u_shr a 31 _ rfl

/-- A word turned to the right. -/
def rr (x : BitVec 32) (n : Nat) : BitVec 32 := x >>> n ||| x <<< (32 - n)
theorem rr_l2 (x : BitVec 32) : x <<< 30 ||| x >>> 2 = rr x 2 := BitVec.or_comm _ _
theorem rr_r2 (x : BitVec 32) : x >>> 2 ||| x <<< 30 = rr x 2 := rfl
theorem back2 : bits .and .u64 (IntKind.u64.wrap (-2)) 31 = 30 := by decide +kernel
theorem rr_l13 (x : BitVec 32) : x <<< 19 ||| x >>> 13 = rr x 13 := BitVec.or_comm _ _
theorem rr_r13 (x : BitVec 32) : x >>> 13 ||| x <<< 19 = rr x 13 := rfl
theorem back13 : bits .and .u64 (IntKind.u64.wrap (-13)) 31 = 19 := by decide +kernel
theorem rr_l22 (x : BitVec 32) : x <<< 10 ||| x >>> 22 = rr x 22 := BitVec.or_comm _ _
theorem rr_r22 (x : BitVec 32) : x >>> 22 ||| x <<< 10 = rr x 22 := rfl
theorem back22 : bits .and .u64 (IntKind.u64.wrap (-22)) 31 = 10 := by decide +kernel
theorem rr_l6 (x : BitVec 32) : x <<< 26 ||| x >>> 6 = rr x 6 := BitVec.or_comm _ _
theorem rr_r6 (x : BitVec 32) : x >>> 6 ||| x <<< 26 = rr x 6 := rfl
theorem back6 : bits .and .u64 (IntKind.u64.wrap (-6)) 31 = 26 := by decide +kernel
theorem rr_l11 (x : BitVec 32) : x <<< 21 ||| x >>> 11 = rr x 11 := BitVec.or_comm _ _
theorem rr_r11 (x : BitVec 32) : x >>> 11 ||| x <<< 21 = rr x 11 := rfl
theorem back11 : bits .and .u64 (IntKind.u64.wrap (-11)) 31 = 21 := by decide +kernel
theorem rr_l25 (x : BitVec 32) : x <<< 7 ||| x >>> 25 = rr x 25 := BitVec.or_comm _ _
theorem rr_r25 (x : BitVec 32) : x >>> 25 ||| x <<< 7 = rr x 25 := rfl
theorem back25 : bits .and .u64 (IntKind.u64.wrap (-25)) 31 = 7 := by decide +kernel
theorem rr_l7 (x : BitVec 32) : x <<< 25 ||| x >>> 7 = rr x 7 := BitVec.or_comm _ _
theorem rr_r7 (x : BitVec 32) : x >>> 7 ||| x <<< 25 = rr x 7 := rfl
theorem back7 : bits .and .u64 (IntKind.u64.wrap (-7)) 31 = 25 := by decide +kernel
theorem rr_l18 (x : BitVec 32) : x <<< 14 ||| x >>> 18 = rr x 18 := BitVec.or_comm _ _
theorem rr_r18 (x : BitVec 32) : x >>> 18 ||| x <<< 14 = rr x 18 := rfl
theorem back18 : bits .and .u64 (IntKind.u64.wrap (-18)) 31 = 14 := by decide +kernel
theorem rr_l17 (x : BitVec 32) : x <<< 15 ||| x >>> 17 = rr x 17 := BitVec.or_comm _ _
theorem rr_r17 (x : BitVec 32) : x >>> 17 ||| x <<< 15 = rr x 17 := rfl
theorem back17 : bits .and .u64 (IntKind.u64.wrap (-17)) 31 = 15 := by decide +kernel
theorem rr_l19 (x : BitVec 32) : x <<< 13 ||| x >>> 19 = rr x 19 := BitVec.or_comm _ _
theorem rr_r19 (x : BitVec 32) : x >>> 19 ||| x <<< 13 = rr x 19 := rfl
theorem back19 : bits .and .u64 (IntKind.u64.wrap (-19)) 31 = 13 := by decide +kernel

def ch (x y z : BitVec 32) : BitVec 32 := (x &&& y) ^^^ (~~~ x &&& z)
def maj (x y z : BitVec 32) : BitVec 32 := (x &&& y) ^^^ (x &&& z) ^^^ (y &&& z)
def bS0 (x : BitVec 32) : BitVec 32 := rr x 2 ^^^ rr x 13 ^^^ rr x 22
def bS1 (x : BitVec 32) : BitVec 32 := rr x 6 ^^^ rr x 11 ^^^ rr x 25
def sS0 (x : BitVec 32) : BitVec 32 := rr x 7 ^^^ rr x 18 ^^^ x >>> 3
def sS1 (x : BitVec 32) : BitVec 32 := rr x 17 ^^^ rr x 19 ^^^ x >>> 10

/-- The state: eight words. -/
structure St where
  a : BitVec 32
  b : BitVec 32
  c : BitVec 32
  d : BitVec 32
  e : BitVec 32
  f : BitVec 32
  g : BitVec 32
  h : BitVec 32
def T1 (e f g h k : BitVec 32) : BitVec 32 := h + bS1 e + ch e f g + k
def T2 (a b c : BitVec 32) : BitVec 32 := bS0 a + maj a b c
/-- One round. -/
def turnF (s : St) (k : BitVec 32) : St := ⟨T1 s.e s.f s.g s.h k + T2 s.a s.b s.c, s.a, s.b, s.c, s.d + T1 s.e s.f s.g s.h k, s.e, s.f, s.g⟩
/-- The constants of the rounds. -/
def Kt : List (BitVec 32) := [1116352408, 1899447441, 3049323471, 3921009573, 961987163, 1508970993, 2453635748, 2870763221, 3624381080, 310598401, 607225278, 1426881987, 1925078388, 2162078206, 2614888103, 3248222580, 3835390401, 4022224774, 264347078, 604807628, 770255983, 1249150122, 1555081692, 1996064986, 2554220882, 2821834349, 2952996808, 3210313671, 3336571891, 3584528711, 113926993, 338241895, 666307205, 773529912, 1294757372, 1396182291, 1695183700, 1986661051, 2177026350, 2456956037, 2730485921, 2820302411, 3259730800, 3345764771, 3516065817, 3600352804, 4094571909, 275423344, 430227734, 506948616, 659060556, 883997877, 958139571, 1322822218, 1537002063, 1747873779, 1955562222, 2024104815, 2227730452, 2361852424, 2428436474, 2756734187, 3204031479, 3329325298]
def Kc (i : Nat) : BitVec 32 := Kt.getD i 0
/-- The first n rounds over the words W. -/
def rnd (s : St) (W : Nat → BitVec 32) : Nat → St
  | 0 => s
  | n + 1 => turnF (rnd s W n) (Kc n + W n)
def addSt (s t : St) : St := ⟨s.a + t.a, s.b + t.b, s.c + t.c, s.d + t.d, s.e + t.e, s.f + t.f, s.g + t.g, s.h + t.h⟩
/-- A block more. -/
def takeF (s : St) (W : Nat → BitVec 32) : St := addSt (rnd s W 64) s
end Go.Proofs.YtjnbhiamaabbgaaDoor
