/-
  Rows of whole numbers that are bytes; cofferref's double, mixed and boxes.
-/
import Derived.Test.YtjnbhiamaabbgaaDoorAesRow
import Derived.Deep.DeepCutAuto
namespace Go.Proofs.YtjnbhiamaabbgaaDoor
open Go.RowKit
theorem e8_wrap64 (a : UInt8) : IntKind.i64.wrap (e8 a) = e8 a := by have h1 := e8_lo a; have h2 := e8_hi a; rw [IntKind.wrap_i64] <;> omega
theorem e8_xor64 (a b : UInt8) : bits .xor .i64 (e8 a) (e8 b) = e8 (a ^^^ b) := by
  show IntKind.i64.wrap ((BitVec.ofInt 64 (a.toNat : Int) ^^^ BitVec.ofInt 64 (b.toNat : Int)).toNat : Int) = _
  have ha : BitVec.ofInt 64 (a.toNat : Int) = BitVec.ofNat 64 a.toNat := by simp
  have hb : BitVec.ofInt 64 (b.toNat : Int) = BitVec.ofNat 64 b.toNat := by simp
  have h1 := a.toNat_lt
  have h2 := b.toNat_lt
  have e : (BitVec.ofNat 64 a.toNat ^^^ BitVec.ofNat 64 b.toNat).toNat = (a ^^^ b).toNat := by
    rw [BitVec.toNat_xor, BitVec.toNat_ofNat, BitVec.toNat_ofNat, Nat.mod_eq_of_lt (by omega), Nat.mod_eq_of_lt (by omega)]; simp
  rw [ha, hb, e]
  exact e8_wrap64 (a ^^^ b)
theorem e8_xor64c (a : UInt8) : bits .xor .i64 (e8 a) 99 = e8 (a ^^^ 99) := e8_xor64 a 99
/-- So many bytes as a row's values. -/
def ki (f : Nat → UInt8) (n : Nat) : List Value := (List.range n).map fun i => .int .i64 (e8 (f i))
theorem ki_len (f : Nat → UInt8) (n : Nat) : (ki f n).length = n := by simp [ki]
theorem ki_size (f : Nat → UInt8) (n : Nat) : (ki f n).toArray.size = n := by simp [ki]
theorem ki_at (f : Nat → UInt8) (n i : Nat) (h : i < n) : (ki f n)[i]? = some (.int .i64 (e8 (f i))) := by simp [ki, h]
theorem ki_atA (f : Nat → UInt8) (n i : Nat) (h : i < n) : (ki f n).toArray[i]? = some (.int .i64 (e8 (f i))) := by simp [ki, h]
theorem ki_one (f : Nat → UInt8) (n : Nat) : (ki f n).toArray.all (·.oneCell') = true := by
  rw [Array.all_eq_true_iff_forall_mem]
  intro v hv
  simp only [ki, List.mem_toArray, List.mem_map] at hv
  obtain ⟨i, _, rfl⟩ := hv
  rfl
theorem ki_congr {f g : Nat → UInt8} {n : Nat} (h : ∀ i, i < n → f i = g i) : ki f n = ki g n := by
  unfold ki
  apply List.map_congr_left
  intro i hi
  rw [h i (by simpa using hi)]
theorem ki_set (f : Nat → UInt8) (n k : Nat) (v : UInt8) : (ki f n).set k (.int .i64 (e8 v)) = ki (fun i => if i = k then v else f i) n := by
  apply List.ext_getElem?
  intro i
  rw [List.getElem?_set]
  by_cases hi : i < n
  · rw [ki_at _ _ _ hi, ki_at _ _ _ hi, ki_len]
    by_cases e : k = i
    · subst e; simp [hi]
    · rw [if_neg e, if_neg (fun q => e q.symm)]
  · have h1 : (ki f n)[i]? = none := by rw [List.getElem?_eq_none]; rw [ki_len]; omega
    have h2 : (ki (fun i => if i = k then v else f i) n)[i]? = none := by rw [List.getElem?_eq_none]; rw [ki_len]; omega
    rw [h1, h2, ki_len]
    by_cases e : k = i
    · rw [if_pos e, if_neg (by omega)]
    · rw [if_neg e]
theorem ki_setA (f : Nat → UInt8) (n k : Nat) (v : UInt8) : (ki f n).toArray.setIfInBounds k (.int .i64 (e8 v)) = (ki (fun i => if i = k then v else f i) n).toArray := by
  rw [List.setIfInBounds_toArray, ki_set]
/-- Block b holds so many bytes. -/
def RowI (w : World) (b : Nat) (f : Nat → UInt8) (n : Nat) (t : TypeId) : Prop := w.heap[b]? = some (.cells (ki f n).toArray t (0, 0))
theorem RowI.cell {w : World} {b n k : Nat} {f : Nat → UInt8} {t : TypeId} (h : RowI w b f n t) (hk : k < n) : w.cell? ⟨b, k, none⟩ = some (.int .i64 (e8 (f k))) := by
  rw [cell_of_row _ _ _ _ _ _ h, ki_atA _ _ _ hk]
theorem RowI.frozen {w : World} {b n k : Nat} {f : Nat → UInt8} {t : TypeId} (h : RowI w b f n t) : w.frozen? ⟨b, k, none⟩ = false := frozen_of_row _ _ _ _ _ h
theorem RowI.congr {w : World} {b n : Nat} {f g : Nat → UInt8} {t : TypeId} (h : RowI w b f n t) (e : ∀ i, i < n → f i = g i) : RowI w b g n t := by
  unfold RowI at *; rw [h, ki_congr e]
theorem RowI.set {w : World} {b n : Nat} {f : Nat → UInt8} {t : TypeId} (h : RowI w b f n t) (k : Nat) (v : UInt8) : RowI (w.setCell ⟨b, k, none⟩ (.int .i64 (e8 v))) b (fun i => if i = k then v else f i) n t := by
  unfold RowI at *; rw [heap_setCell_same _ _ _ _ _ _ h, ki_setA]
theorem RowI.other {w : World} {b b' n k : Nat} {f : Nat → UInt8} {t : TypeId} {v : Value} (h : RowI w b f n t) (hb : b ≠ b') : RowI (w.setCell ⟨b', k, none⟩ v) b f n t := by
  unfold RowI at *; rw [heap_setCell_other _ _ _ _ hb]; exact h
theorem RowI.below {w w' : World} {B b n : Nat} {f : Nat → UInt8} {t : TypeId} (h : RowI w b f n t) (hb : Below B w w') (hlt : b < B) : RowI w' b f n t := (hb.block _ hlt).trans h
theorem ki_oneL (f : Nat → UInt8) (n : Nat) : ∀ v ∈ ki f n, v.oneCell' = true := by
  intro v hv
  simp only [ki, List.mem_map] at hv
  obtain ⟨i, _, rfl⟩ := hv
  rfl
attribute [local go_sem] e8_xor64 e8_xor64c
theorem rd_hi : ∀ x : UInt8, 128 ≤ x.toNat → bits .xor .i64 (2 * e8 x) 283 = e8 (dbl x) := u8_all (by decide +kernel)
theorem rd_lo : ∀ x : UInt8, ¬ 128 ≤ x.toNat → 2 * e8 x = e8 (dbl x) := u8_all (by decide +kernel)
theorem rdouble_any (x : UInt8) (w : World) : Calls Tryd.prog 62 #[.int .i64 (e8 x)] w fun en w' => en = .returned (.int .i64 (e8 (dbl x))) ∧ w' = w := by
  have l := e8_lo x
  have u := e8_hi x
  have ew : IntKind.i64.wrap (2 * e8 x) = 2 * e8 x := by rw [IntKind.wrap_i64] <;> omega
  by_cases h : 128 ≤ x.toNat
  · have h1 : (255 : Int) < 2 * e8 x := by simp only [e8]; omega
    have h2 := rd_hi x h
    go_enter Tryd.func62, Tryd.ntmps62
    go_wp2
    go_ret
    exact ⟨rfl, rfl⟩
  · have h1 : ¬ (255 : Int) < 2 * e8 x := by simp only [e8]; omega
    have h2 : Hid (2 * e8 x = e8 (dbl x)) := rd_lo x h
    go_enter Tryd.func62, Tryd.ntmps62
    go_wp2
    go_ret
    exact ⟨by rw [← h2.out]; rfl, rfl⟩
/-- One byte of a mixed column, as the document says it. -/
def mxF (a b c d : UInt8) : UInt8 := dbl a ^^^ dbl b ^^^ b ^^^ c ^^^ d
theorem mixed_any (a b c d : UInt8) (w : World) : Calls Tryd.prog 63 #[.int .i64 (e8 a), .int .i64 (e8 b), .int .i64 (e8 c), .int .i64 (e8 d)] w fun en w' => en = .returned (.int .i64 (e8 (mxF a b c d))) ∧ w' = w := by
  go_enter Tryd.func63, Tryd.ntmps63
  go_wp2_with fail
  refine (rdouble_any a _).mono ?_
  rintro en w1 ⟨rfl, rfl⟩
  go_wp2_with fail
  refine (rdouble_any b _).mono ?_
  rintro en w1 ⟨rfl, rfl⟩
  go_wp2_with fail
  go_ret
  exact ⟨rfl, rfl⟩
/-- The powers so far, the logarithms so far. -/
def pwK (k j : Nat) : UInt8 := if j < k then Pw j else 0
def lgK : Nat → Nat → UInt8
  | 0, _ => 0
  | k + 1, j => if j = (Pw k).toNat then UInt8.ofNat k else lgK k j
def Lt : List UInt8 := [0, 0, 25, 1, 50, 2, 26, 198, 75, 199, 27, 104, 51, 238, 223, 3, 100, 4, 224, 14, 52, 141, 129, 239, 76, 113, 8, 200, 248, 105, 28, 193, 125, 194, 29, 181, 249, 185, 39, 106, 77, 228, 166, 114, 154, 201, 9, 120, 101, 47, 138, 5, 33, 15, 225, 36, 18, 240, 130, 69, 53, 147, 218, 142, 150, 143, 219, 189, 54, 208, 206, 148, 19, 92, 210, 241, 64, 70, 131, 56, 102, 221, 253, 48, 191, 6, 139, 98, 179, 37, 226, 152, 34, 136, 145, 16, 126, 110, 72, 195, 163, 182, 30, 66, 58, 107, 40, 84, 250, 133, 61, 186, 43, 121, 10, 21, 155, 159, 94, 202, 78, 212, 172, 229, 243, 115, 167, 87, 175, 88, 168, 80, 244, 234, 214, 116, 79, 174, 233, 213, 231, 230, 173, 232, 44, 215, 117, 122, 235, 22, 11, 245, 89, 203, 95, 176, 156, 169, 81, 160, 127, 12, 246, 111, 23, 196, 73, 236, 216, 67, 31, 45, 164, 118, 123, 183, 204, 187, 62, 90, 251, 96, 177, 134, 59, 82, 161, 108, 170, 85, 41, 157, 151, 178, 135, 144, 97, 190, 220, 252, 188, 149, 207, 205, 55, 63, 91, 209, 83, 57, 132, 60, 65, 162, 109, 71, 20, 42, 158, 93, 86, 242, 211, 171, 68, 17, 146, 217, 35, 32, 46, 137, 180, 124, 184, 38, 119, 153, 227, 165, 103, 74, 237, 222, 197, 49, 254, 24, 13, 99, 140, 128, 192, 247, 112, 7]
def lgL : Nat → List UInt8
  | 0 => List.replicate 256 0
  | k + 1 => (lgL k).set (Pw k).toNat (UInt8.ofNat k)
theorem lgL_len : ∀ k, (lgL k).length = 256
  | 0 => by rw [lgL, List.length_replicate]
  | k + 1 => by rw [lgL, List.length_set, lgL_len k]
theorem lgL_all : lgL 255 = Lt := by decide +kernel
theorem lgK_L : ∀ k j, j < 256 → lgK k j = (lgL k).getD j 0
  | 0, j, h => by rw [lgK, lgL, List.getD, List.getElem?_replicate, if_pos h]; rfl
  | k + 1, j, h => by
    rw [lgK, lgL]
    by_cases e : j = (Pw k).toNat
    · rw [if_pos e, e]; simp [List.getD, lgL_len, (Pw k).toNat_lt]
    · rw [if_neg e, lgK_L k j h]
      simp only [List.getD]
      rw [List.getElem?_set_ne (fun q => e q.symm)]
theorem lg_all (j : Nat) (h : j < 256) : lgK 255 j = Lt.getD j 0 := by rw [lgK_L 255 j h, lgL_all]
/-- The inverse of a byte. -/
def ivF (a : Nat) : UInt8 := if a = 0 then 0 else Pw ((255 - (Lt.getD a 0).toNat) % 255)
theorem iv_aff (a : Nat) (h : a < 256) : aff (ivF a) = Sn a := (by decide +kernel : ∀ a : Fin 256, aff (ivF a.val) = Sn a.val) ⟨a, h⟩
theorem lg_lt (a : Nat) (h : a < 256) : (Lt.getD a 0).toNat < 255 := (by decide +kernel : ∀ a : Fin 256, (Lt.getD a.val 0).toNat < 255) ⟨a, h⟩
def acF (b : UInt8) : Nat → UInt8
  | 0 => b
  | 1 => b ^^^ rot b 1
  | 2 => b ^^^ rot b 1 ^^^ rot b 2
  | 3 => b ^^^ rot b 1 ^^^ rot b 2 ^^^ rot b 3
  | _ => b ^^^ rot b 1 ^^^ rot b 2 ^^^ rot b 3 ^^^ rot b 4
theorem rr64_1 : ∀ b : UInt8, bits .and .i64 (bits .or .i64 (e8 b * 2) (e8 b / 128)) 255 = e8 (rot b 1) := u8_all (by decide +kernel)
theorem rr64_2 : ∀ b : UInt8, bits .and .i64 (bits .or .i64 (e8 b * 4) (e8 b / 64)) 255 = e8 (rot b 2) := u8_all (by decide +kernel)
theorem rr64_3 : ∀ b : UInt8, bits .and .i64 (bits .or .i64 (e8 b * 8) (e8 b / 32)) 255 = e8 (rot b 3) := u8_all (by decide +kernel)
theorem rr64_4 : ∀ b : UInt8, bits .and .i64 (bits .or .i64 (e8 b * 16) (e8 b / 16)) 255 = e8 (rot b 4) := u8_all (by decide +kernel)
def zi256 : Array Value := Array.replicate 256 (.int .i64 0)
def zi255 : Array Value := Array.replicate 255 (.int .i64 0)
theorem info256 : ((Tryd.prog.info? 68).map fun i => (i.zero, i.size)) = some (some (.agg zi256), 256) := by kernel_rfl
theorem info255 : ((Tryd.prog.info? 88).map fun i => (i.zero, i.size)) = some (some (.agg zi255), 255) := by kernel_rfl
theorem size256 : (Tryd.prog.info? 68).map (·.size) = some 256 := by kernel_rfl
theorem repl_ki (n : Nat) : Array.replicate n (Value.int .i64 0) = (ki zF n).toArray := by
  apply Array.ext_getElem?
  intro i
  rw [Array.getElem?_replicate, List.getElem?_toArray]
  by_cases h : i < n
  · rw [if_pos h, ki_at _ _ _ h]; rfl
  · rw [if_neg h, List.getElem?_eq_none (by rw [ki_len]; omega)]
theorem zi256_ki : zi256 = (ki zF 256).toArray := repl_ki 256
theorem zi255_ki : zi255 = (ki zF 255).toArray := repl_ki 255
end Go.Proofs.YtjnbhiamaabbgaaDoor
