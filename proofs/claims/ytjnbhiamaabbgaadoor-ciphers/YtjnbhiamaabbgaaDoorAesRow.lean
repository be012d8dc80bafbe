/-
  Rows of bytes in memory; prim's xor.
-/
import Derived.Test.YtjnbhiamaabbgaaDoorAesBox
namespace Go.Proofs.YtjnbhiamaabbgaaDoor
open Go.RowKit
attribute [local go_sem] e8_xor
/-- Block b holds so many bytes. -/
def Row (w : World) (b : Nat) (f : Nat → UInt8) (n : Nat) (t : TypeId) : Prop := w.heap[b]? = some (.cells (kb f n).toArray t (0, 0))
theorem Row.cell {w : World} {b n k : Nat} {f : Nat → UInt8} {t : TypeId} (h : Row w b f n t) (hk : k < n) : w.cell? ⟨b, k, none⟩ = some (.int .u8 (e8 (f k))) := by
  rw [cell_of_row _ _ _ _ _ _ h, kb_atA _ _ _ hk]
theorem Row.frozen {w : World} {b n k : Nat} {f : Nat → UInt8} {t : TypeId} (h : Row w b f n t) : w.frozen? ⟨b, k, none⟩ = false := frozen_of_row _ _ _ _ _ h
theorem Row.congr {w : World} {b n : Nat} {f g : Nat → UInt8} {t : TypeId} (h : Row w b f n t) (e : ∀ i, i < n → f i = g i) : Row w b g n t := by
  unfold Row at *; rw [h, kb_congr e]
theorem Row.set {w : World} {b n : Nat} {f : Nat → UInt8} {t : TypeId} (h : Row w b f n t) (k : Nat) (v : UInt8) : Row (w.setCell ⟨b, k, none⟩ (.int .u8 (e8 v))) b (fun i => if i = k then v else f i) n t := by
  unfold Row at *; rw [heap_setCell_same _ _ _ _ _ _ h, kb_setA]
theorem Row.other {w : World} {b b' n k : Nat} {f : Nat → UInt8} {t : TypeId} {v : Value} (h : Row w b f n t) (hb : b ≠ b') : Row (w.setCell ⟨b', k, none⟩ v) b f n t := by
  unfold Row at *; rw [heap_setCell_other _ _ _ _ hb]; exact h
theorem Row.below {w w' : World} {B b n : Nat} {f : Nat → UInt8} {t : TypeId} (h : Row w b f n t) (hb : Below B w w') (hlt : b < B) : Row w' b f n t := (hb.block _ hlt).trans h
/-- Three blocks of a function's own: sixteen bytes, sixteen bytes, and n2. -/
structure R3 (w : World) (f0 f1 f2 : Nat → UInt8) (n2 : Nat) (t2 : TypeId) (wr : World) : Prop where
  bel : Below w.heap.size w wr
  sz : w.heap.size + 1 + 1 < wr.heap.size
  b0 : Row wr w.heap.size f0 16 55
  b1 : Row wr (w.heap.size + 1) f1 16 55
  b2 : Row wr (w.heap.size + 1 + 1) f2 n2 t2
theorem R3.start (w : World) (f0 f1 f2 : Nat → UInt8) (n2 : Nat) (t2 : TypeId) : R3 w f0 f1 f2 n2 t2 (((w.alloc (.cells (kb f0 16).toArray 55)).alloc (.cells (kb f1 16).toArray 55)).alloc (.cells (kb f2 n2).toArray t2)) := by
  refine ⟨(((Below.refl _ _).alloc (Nat.le_refl _) _).alloc (by simp) _).alloc (by simp; omega) _, by simp, ?_, ?_, ?_⟩
  all_goals (show (((w.heap.push _).push _).push _)[_]? = _)
  all_goals (simp only [Array.getElem?_push, Array.size_push])
  · rw [if_neg (by omega), if_neg (by omega), if_pos trivial]
  · rw [if_neg (by omega), if_pos trivial]
  · rw [if_pos trivial]
theorem R3.drew {w wr : World} {f0 f1 f2 : Nat → UInt8} {n2 : Nat} {t2 : TypeId} (h : R3 w f0 f1 f2 n2 t2 wr) : R3 w f0 f1 f2 n2 t2 wr.drew := ⟨h.bel.drew, h.sz, h.b0, h.b1, h.b2⟩
theorem R3.drewN {w wr : World} {f0 f1 f2 : Nat → UInt8} {n2 : Nat} {t2 : TypeId} (h : R3 w f0 f1 f2 n2 t2 wr) (n : Nat) : R3 w f0 f1 f2 n2 t2 (wr.drewN n) := ⟨below_drewN h.bel _, h.sz, h.b0, h.b1, h.b2⟩
theorem R3.then {w wr w' : World} {f0 f1 f2 : Nat → UInt8} {n2 : Nat} {t2 : TypeId} (h : R3 w f0 f1 f2 n2 t2 wr) (hb : Below wr.heap.size wr w') : R3 w f0 f1 f2 n2 t2 w' :=
  have hs := h.sz
  ⟨h.bel.trans (hb.mono h.bel.size), Nat.lt_of_lt_of_le h.sz hb.size, h.b0.below hb (by omega), h.b1.below hb (by omega), h.b2.below hb (by omega)⟩
theorem R3.set0 {w wr : World} {f0 f1 f2 : Nat → UInt8} {n2 : Nat} {t2 : TypeId} (h : R3 w f0 f1 f2 n2 t2 wr) (k : Nat) (v : UInt8) : R3 w (fun i => if i = k then v else f0 i) f1 f2 n2 t2 (wr.setCell ⟨w.heap.size, k, none⟩ (.int .u8 (e8 v))) :=
  ⟨h.bel.setCell (Nat.le_refl _) _, by simpa [World.setCell] using h.sz, h.b0.set k v, h.b1.other (by omega), h.b2.other (by omega)⟩
theorem R3.set2 {w wr : World} {f0 f1 f2 : Nat → UInt8} {n2 : Nat} {t2 : TypeId} (h : R3 w f0 f1 f2 n2 t2 wr) (k : Nat) (v : UInt8) : R3 w f0 f1 (fun i => if i = k then v else f2 i) n2 t2 (wr.setCell ⟨w.heap.size + 1 + 1, k, none⟩ (.int .u8 (e8 v))) :=
  ⟨h.bel.setCell (by show w.heap.size ≤ w.heap.size + 1 + 1; omega) _, by simpa [World.setCell] using h.sz, h.b0.other (by omega), h.b1.other (by omega), h.b2.set k v⟩
theorem R3.congr0 {w wr : World} {f0 f0' f1 f2 : Nat → UInt8} {n2 : Nat} {t2 : TypeId} (h : R3 w f0 f1 f2 n2 t2 wr) (e : ∀ i, i < 16 → f0 i = f0' i) : R3 w f0' f1 f2 n2 t2 wr := ⟨h.bel, h.sz, h.b0.congr e, h.b1, h.b2⟩
theorem R3.congr2 {w wr : World} {f0 f1 f2 f2' : Nat → UInt8} {n2 : Nat} {t2 : TypeId} (h : R3 w f0 f1 f2 n2 t2 wr) (e : ∀ i, i < n2 → f2 i = f2' i) : R3 w f0 f1 f2' n2 t2 wr := ⟨h.bel, h.sz, h.b0, h.b1, h.b2.congr e⟩
/-- Nothing. -/
def zF (_ : Nat) : UInt8 := 0
theorem z16_kb : (#[.int .u8 0, .int .u8 0, .int .u8 0, .int .u8 0, .int .u8 0, .int .u8 0, .int .u8 0, .int .u8 0, .int .u8 0, .int .u8 0, .int .u8 0, .int .u8 0, .int .u8 0, .int .u8 0, .int .u8 0, .int .u8 0] : Array Value) = (kb zF 16).toArray := rfl
theorem sizeBlk : (Tryd.prog.info? 55).map (·.size) = some 16 := by kernel_rfl
theorem sizeKb (f : Nat → UInt8) : (Tryd.prog.info? 55).map (·.size) = some (kb f 16).toArray.size := by rw [kb_size]; exact sizeBlk
theorem setRow_below {w wr : World} {b : Nat} (c : Array Value) (h : Below w.heap.size w wr) (hb : w.heap.size ≤ b) : Below w.heap.size w (wr.setRow b c) := h.trans ⟨rfl, rfl, rfl, by simp, fun j hj => setRow_other _ _ _ _ (by omega)⟩
theorem kbs (f g : Nat → UInt8) : (kb f 16).toArray.size = (kb g 16).toArray.size := by rw [kb_size, kb_size]
/-- The first k bytes XOR. -/
def xK (f g : Nat → UInt8) (k i : Nat) : UInt8 := if i < k then f i ^^^ g i else f i
set_option maxHeartbeats 1000000 in
set_option maxRecDepth 20000 in
theorem xor_any (f g : Nat → UInt8) (w : World) : Calls Tryd.prog 52 #[.agg (kb f 16).toArray, .agg (kb g 16).toArray] w fun en w' => en = .returned (.agg (kb (xorF f g) 16).toArray) ∧ Below w.heap.size w w' := by
  go_enter Tryd.func52, Tryd.ntmps52
  go_wp2
  go_loopw [6] (fun i wr => ∃ k : Nat, k ≤ 16 ∧ i = .int .i64 k ∧ R3 w (xK f g k) g zF 16 55 wr) (fun i _ => (16 - intOf i).toNat)
  case atStart => exact ⟨0, by omega, rfl, R3.start w f g zF 16 55⟩
  case round =>
    obtain ⟨k, hk, rfl, inv⟩ := hrel
    have hsz := inv.sz
    by_cases hlt : k < 16
    · have h1 : wr.cell? ⟨w.heap.size, k, none⟩ = some (.int .u8 (e8 (f k))) := by rw [inv.b0.cell hlt]; simp [xK]
      have h2 : wr.cell? ⟨w.heap.size + 1, k, none⟩ = some (.int .u8 (e8 (g k))) := inv.b1.cell hlt
      have h3 : wr.frozen? ⟨w.heap.size, k, none⟩ = false := inv.b0.frozen
      have HI : Hid (R3 w (xK f g (k + 1)) g zF 16 55 (wr.drew.setCell ⟨w.heap.size, k, none⟩ (.int .u8 (e8 (f k ^^^ g k))))) := by
        refine (inv.drew.set0 k (f k ^^^ g k)).congr0 fun i _ => ?_
        unfold xK
        by_cases e : i = k
        · subst e; simp
        · rw [if_neg e]
          by_cases e2 : i < k
          · rw [if_pos e2, if_pos (by omega)]
          · rw [if_neg e2, if_neg (by omega)]
      clear inv
      generalize f k = a at *
      generalize g k = b at *
      go_wp2
      go_still_tail 8, (by kernel_rfl)
      go_wp2
      go_roundw
      case rel => exact ⟨k + 1, by omega, by go_num, HI.out⟩
      case measure => simp [intOf]; omega
    · obtain rfl : k = 16 := by omega
      have inv := inv.congr0 (f0' := xorF f g) (fun i hi => by simp [xK, hi, xorF])
      clear hk hlt hsz
      have hbs := inv.b0
      have hbr := inv.b2
      have hbel := inv.bel
      unfold Row at hbs hbr
      have hi := sizeKb (xorF f g)
      have h1 := kb_one (xorF f g) 16
      have hzs := kbs zF (xorF f g)
      have hout : (wr.setRow (w.heap.size + 1 + 1) (kb (xorF f g) 16).toArray).heap[(w.heap.size + 1 + 1)]? = some (.cells (kb (xorF f g) 16).toArray 55 (0, 0)) := setRow_heap _ _ _ _ _ _ hbr
      have hbl := setRow_below (b := (w.heap.size + 1 + 1)) (kb (xorF f g) 16).toArray hbel (by omega)
      clear inv
      generalize hKK : (kb (xorF f g) 16).toArray = K at *
      have HK : Hid ((kb (xorF f g) 16).toArray = K) := hKK
      clear hKK
      go_wp2_with (first | refine wpList_load_row rfl 55 _ rfl w.heap.size rfl 55 _ (0, 0) _ hbs Tryd.underlying55 rfl hi ?_ | refine wpList_store_row rfl 55 _ _ rfl (w.heap.size + 1 + 1) _ rfl rfl 55 _ hbr hi hzs h1 ?_)
      exact bodyPost_ret (v := .agg K) (results_cell_row rfl _ _ (w.heap.size + 1 + 1) 55 _ (0, 0) _ rfl hout Tryd.underlying55 rfl hi) rfl ⟨by rw [← HK.out], hbl⟩
end Go.Proofs.YtjnbhiamaabbgaaDoor
