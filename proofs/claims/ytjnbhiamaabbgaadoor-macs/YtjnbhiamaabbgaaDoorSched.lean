/-
  prim.schedule: the words of one block.
-/
import Derived.Test.YtjnbhiamaabbgaaDoorTake
namespace Go.Proofs.YtjnbhiamaabbgaaDoor
open Go.RowKit
/-- A byte as a word. -/
def b2w (x : UInt8) : BitVec 32 := BitVec.ofNat 32 x.toNat
theorem u_b2w (x : UInt8) : u (b2w x) = (x.toNat : Int) := by
  have := x.toNat_lt
  simp only [u, b2w, BitVec.toNat_ofNat]
  rw [Nat.mod_eq_of_lt (by omega)]
theorem u_wrap (x : BitVec 32) : IntKind.u32.wrap (u x) = u x := u32_wrap _ (u_lo _) (u_hi _)
/-- The word number k of a block's bytes. -/
def w16 (m : Nat → UInt8) (k : Nat) : BitVec 32 := b2w (m (4 * k)) <<< 24 ||| b2w (m (4 * k + 1)) <<< 16 ||| b2w (m (4 * k + 2)) <<< 8 ||| b2w (m (4 * k + 3))
/-- The first n words, one by one. -/
def wl (m : Nat → UInt8) : Nat → List (BitVec 32)
  | 0 => []
  | n + 1 => wl m n ++ [if n < 16 then w16 m n else (wl m n).getD (n - 16) 0 + sS0 ((wl m n).getD (n - 15) 0) + (wl m n).getD (n - 7) 0 + sS1 ((wl m n).getD (n - 2) 0)]
def Wf (m : Nat → UInt8) (i : Nat) : BitVec 32 := (wl m (i + 1)).getD i 0
theorem wl_len (m : Nat → UInt8) : ∀ n, (wl m n).length = n
  | 0 => rfl
  | n + 1 => by simp [wl, wl_len m n]
theorem wl_at (m : Nat → UInt8) (i : Nat) : ∀ n, i < n → (wl m n).getD i 0 = Wf m i
  | 0, h => by omega
  | n + 1, h => by
    by_cases e : i = n
    · subst e; rfl
    · have hl := wl_len m n
      rw [← wl_at m i n (by omega)]
      simp only [wl, List.getD_eq_getElem?_getD]
      rw [List.getElem?_append_left (by omega)]
theorem Wf_lo (m : Nat → UInt8) (i : Nat) (h : i < 16) : Wf m i = w16 m i := by
  have hl := wl_len m i
  simp only [Wf, wl, List.getD_eq_getElem?_getD]
  rw [List.getElem?_append_right (by omega)]
  simp [hl, h]
theorem Wf_hi (m : Nat → UInt8) (i : Nat) (h : 16 ≤ i) : Wf m i = Wf m (i - 16) + sS0 (Wf m (i - 15)) + Wf m (i - 7) + sS1 (Wf m (i - 2)) := by
  have hl := wl_len m i
  have e : Wf m i = (wl m i).getD (i - 16) 0 + sS0 ((wl m i).getD (i - 15) 0) + (wl m i).getD (i - 7) 0 + sS1 ((wl m i).getD (i - 2) 0) := by
    simp only [Wf, wl, List.getD_eq_getElem?_getD]
    rw [List.getElem?_append_right (by omega)]
    simp [hl, show ¬ i < 16 by omega]
  rw [e, wl_at m _ i (by omega), wl_at m _ i (by omega), wl_at m _ i (by omega), wl_at m _ i (by omega)]
attribute [local go_sem] u_xor u_and u_or u_add u_not u_wrap u_shl24 u_shl16 u_shl8
def z64 : Array Value := #[.int .u32 0, .int .u32 0, .int .u32 0, .int .u32 0, .int .u32 0, .int .u32 0, .int .u32 0, .int .u32 0, .int .u32 0, .int .u32 0, .int .u32 0, .int .u32 0, .int .u32 0, .int .u32 0, .int .u32 0, .int .u32 0, .int .u32 0, .int .u32 0, .int .u32 0, .int .u32 0, .int .u32 0, .int .u32 0, .int .u32 0, .int .u32 0, .int .u32 0, .int .u32 0, .int .u32 0, .int .u32 0, .int .u32 0, .int .u32 0, .int .u32 0, .int .u32 0, .int .u32 0, .int .u32 0, .int .u32 0, .int .u32 0, .int .u32 0, .int .u32 0, .int .u32 0, .int .u32 0, .int .u32 0, .int .u32 0, .int .u32 0, .int .u32 0, .int .u32 0, .int .u32 0, .int .u32 0, .int .u32 0, .int .u32 0, .int .u32 0, .int .u32 0, .int .u32 0, .int .u32 0, .int .u32 0, .int .u32 0, .int .u32 0, .int .u32 0, .int .u32 0, .int .u32 0, .int .u32 0, .int .u32 0, .int .u32 0, .int .u32 0, .int .u32 0]
/-- What holds of the two blocks that schedule makes. -/
structure SchedInv (w : World) (C : Array Value) (wr : World) : Prop where
  bel : Below w.heap.size w wr
  sz : w.heap.size + 1 < wr.heap.size
  b0 : wr.heap[w.heap.size]? = some (.cells z64 64 (0, 0))
  b1 : wr.heap[w.heap.size + 1]? = some (.cells C 64 (0, 0))
theorem SchedInv.start (w : World) : SchedInv w z64 ((w.alloc (.cells z64 64)).alloc (.cells z64 64)) := by
  refine ⟨((Below.refl _ _).alloc (Nat.le_refl _) _).alloc (by simp) _, by simp, ?_, ?_⟩
  all_goals (show ((w.heap.push _).push _)[_]? = _)
  all_goals (simp only [Array.getElem?_push, Array.size_push])
  · rw [if_neg (by omega), if_pos trivial]
  · rw [if_pos trivial]
theorem SchedInv.set {w wr : World} {C : Array Value} (h : SchedInv w C wr) (k : Nat) (v : Value) : SchedInv w (C.setIfInBounds k v) (wr.drew.setCell ⟨w.heap.size + 1, k, none⟩ v) := by
  refine ⟨(h.bel.drew).setCell (by show w.heap.size ≤ w.heap.size + 1; omega) _, by simpa [World.setCell] using h.sz, ?_, heap_setCell_same _ _ _ _ _ _ h.b1⟩
  rw [heap_setCell_other _ _ _ _ (by show w.heap.size ≠ w.heap.size + 1; omega)]; exact h.b0
theorem set_upto {C : Array Value} {k : Nat} {W : Nat → BitVec 32} (hs : C.size = 64) (hk : k < 64) (h : ∀ i, i < k → C[i]? = some (.int .u32 (u (W i)))) :
    ∀ i, i < k + 1 → (C.setIfInBounds k (.int .u32 (u (W k))))[i]? = some (.int .u32 (u (W i))) := by
  intro i hi
  rw [Array.getElem?_setIfInBounds]
  by_cases e : k = i
  · subst e; rw [if_pos rfl, if_pos (by omega)]
  · rw [if_neg e, h i (by omega)]
theorem all_wv {C : Array Value} {W : Nat → BitVec 32} (hs : C.size = 64) (h : ∀ i, i < 64 → C[i]? = some (.int .u32 (u (W i)))) : C = (wv W).toArray := by
  apply Array.ext_getElem?
  intro i
  by_cases hi : i < 64
  · rw [h i hi]; simpa using (wv_at W i hi).symm
  · rw [Array.getElem?_eq_none (by omega), Array.getElem?_eq_none (by simp [wv_len]; omega)]
theorem z64_size : z64.size = 64 := rfl
theorem info57 : (Tryd.prog.info? 64).map (·.size) = some 64 := by kernel_rfl
theorem wv_one (W : Nat → BitVec 32) : (wv W).toArray.all (·.oneCell') = true := by
  refine Array.all_eq_true_iff_forall_mem.2 fun v hv => ?_
  simp only [wv, List.mem_toArray, List.mem_map] at hv
  obtain ⟨i, _, rfl⟩ := hv
  rfl
set_option maxHeartbeats 1000000 in
set_option maxRecDepth 20000 in
theorem schedule_any (m : Nat → UInt8) (g off cap : Nat) (w : World) (hm : ∀ j, j < 64 → w.cell? ⟨g, off + j, none⟩ = some (.int .u8 (u (b2w (m j))))) :
    Calls Tryd.prog 36 #[.slice (some ⟨g, off, none⟩) 64 cap] w fun en w' => en = .returned (.agg (wv (Wf m)).toArray) ∧ Below w.heap.size w w' := by
  have hg : g < w.heap.size := block_lt_of_cell (hm 0 (by decide))
  have HM : Hid (∀ j, j < 64 → w.cell? ⟨g, off + j, none⟩ = some (.int .u8 (u (b2w (m j))))) := hm
  clear hm
  go_enter Tryd.func36, Tryd.ntmps36
  go_wp2
  go_loopw [7] (fun i wr => ∃ (k : Nat) (C : Array Value), k ≤ 16 ∧ i = .int .i64 k ∧ SchedInv w C wr ∧ C.size = 64 ∧ ∀ i, i < k → C[i]? = some (.int .u32 (u (Wf m i)))) (fun i _ => (16 - intOf i).toNat)
  case atStart =>
    exact ⟨0, z64, by omega, rfl, SchedInv.start w, rfl, fun i hi => by omega⟩
  case round =>
    obtain ⟨k, C, hk, rfl, inv, hCs, hC⟩ := hrel
    have hsz := inv.sz
    by_cases hlt : k < 16
    · have hx0 : wr.cell? ⟨g, off + (4 * (k : Int)).toNat, none⟩ = some (.int .u8 (u (b2w (m (4 * k))))) := by
        rw [show (4 * (k : Int)).toNat = 4 * k by omega]; exact (inv.bel.cell (p := ⟨g, off + 4 * k, none⟩) hg).trans (HM.out _ (by omega))
      have hx1 : wr.cell? ⟨g, off + (4 * (k : Int) + 1).toNat, none⟩ = some (.int .u8 (u (b2w (m (4 * k + 1))))) := by
        rw [show (4 * (k : Int) + 1).toNat = 4 * k + 1 by omega]; exact (inv.bel.cell (p := ⟨g, off + (4 * k + 1), none⟩) hg).trans (HM.out _ (by omega))
      have hx2 : wr.cell? ⟨g, off + (4 * (k : Int) + 2).toNat, none⟩ = some (.int .u8 (u (b2w (m (4 * k + 2))))) := by
        rw [show (4 * (k : Int) + 2).toNat = 4 * k + 2 by omega]; exact (inv.bel.cell (p := ⟨g, off + (4 * k + 2), none⟩) hg).trans (HM.out _ (by omega))
      have hx3 : wr.cell? ⟨g, off + (4 * (k : Int) + 3).toNat, none⟩ = some (.int .u8 (u (b2w (m (4 * k + 3))))) := by
        rw [show (4 * (k : Int) + 3).toNat = 4 * k + 3 by omega]; exact (inv.bel.cell (p := ⟨g, off + (4 * k + 3), none⟩) hg).trans (HM.out _ (by omega))
      have i0 : (0 : Int) ≤ 4 * (k : Int) := by omega
      have i0' : 4 * (k : Int) < 64 := by omega
      have i1 : (0 : Int) ≤ 4 * (k : Int) + 1 := by omega
      have i1' : 4 * (k : Int) + 1 < 64 := by omega
      have i2 : (0 : Int) ≤ 4 * (k : Int) + 2 := by omega
      have i2' : 4 * (k : Int) + 2 < 64 := by omega
      have i3 : (0 : Int) ≤ 4 * (k : Int) + 3 := by omega
      have i3' : 4 * (k : Int) + 3 < 64 := by omega
      have e1 : IntKind.i64.wrap (4 * (k : Int) + 1) = 4 * (k : Int) + 1 := by rw [IntKind.wrap_i64] <;> omega
      have e2 : IntKind.i64.wrap (4 * (k : Int) + 2) = 4 * (k : Int) + 2 := by rw [IntKind.wrap_i64] <;> omega
      have e3 : IntKind.i64.wrap (4 * (k : Int) + 3) = 4 * (k : Int) + 3 := by rw [IntKind.wrap_i64] <;> omega
      have i4 : (k : Int) < 64 := by omega
      obtain ⟨c, hc⟩ : ∃ c, wr.cell? ⟨w.heap.size + 1, k, none⟩ = some c := ⟨C[k]'(by omega), by rw [cell_of_row _ _ k _ _ _ inv.b1]; simp⟩
      have hf : wr.frozen? ⟨w.heap.size + 1, k, none⟩ = false := frozen_of_row _ _ _ _ _ inv.b1
      have HC : Hid (∀ i, i < k + 1 → (C.setIfInBounds k (.int .u32 (u (Wf m k))))[i]? = some (.int .u32 (u (Wf m i)))) := set_upto hCs (by omega) hC
      have hi := inv.set k (.int .u32 (u (Wf m k)))
      rw [Wf_lo m k hlt] at hi HC
      clear hC
      unfold w16 at hi HC
      go_wp2
      go_still_tail 31, (by kernel_rfl)
      go_wp2
      go_roundw
      case rel => exact ⟨k + 1, _, by omega, by go_num, hi, by simpa using hCs, HC.out⟩
      case measure => simp [intOf]; omega
    · obtain rfl : k = 16 := by omega
      clear hk hlt
      go_wp2
      go_loopw [6] (fun i w2 => ∃ (k : Nat) (C : Array Value), 16 ≤ k ∧ k ≤ 64 ∧ i = .int .i64 k ∧ SchedInv w C w2 ∧ C.size = 64 ∧ ∀ i, i < k → C[i]? = some (.int .u32 (u (Wf m i)))) (fun i _ => (64 - intOf i).toNat)
      case atStart =>
        exact ⟨16, C, by omega, by omega, rfl, inv, hCs, hC⟩
      case round =>
        clear inv hCs hC hsz
        obtain ⟨k, C, hk0, hk, rfl, inv, hCs, hC⟩ := hrel
        have hsz := inv.sz
        by_cases hlt : k < 64
        · have i4 : (k : Int) < 64 := by omega
          have e16 : IntKind.i64.wrap ((k : Int) - 16) = (k : Int) - 16 := by rw [IntKind.wrap_i64] <;> omega
          have p16 : (16 : Int) ≤ (k : Int) := by omega
          have r16 : (k : Int) < 80 := by omega
          have q16 : (k : Int) - 16 < 64 := by omega
          have c16 : wr.cell? ⟨w.heap.size + 1, ((k : Int) - 16).toNat, none⟩ = some (.int .u32 (u (Wf m (k - 16)))) := by
            rw [show ((k : Int) - 16).toNat = k - 16 by omega, cell_of_row _ _ _ _ _ _ inv.b1, hC _ (by omega)]
          have e15 : IntKind.i64.wrap ((k : Int) - 15) = (k : Int) - 15 := by rw [IntKind.wrap_i64] <;> omega
          have p15 : (15 : Int) ≤ (k : Int) := by omega
          have r15 : (k : Int) < 79 := by omega
          have q15 : (k : Int) - 15 < 64 := by omega
          have c15 : wr.cell? ⟨w.heap.size + 1, ((k : Int) - 15).toNat, none⟩ = some (.int .u32 (u (Wf m (k - 15)))) := by
            rw [show ((k : Int) - 15).toNat = k - 15 by omega, cell_of_row _ _ _ _ _ _ inv.b1, hC _ (by omega)]
          have e7 : IntKind.i64.wrap ((k : Int) - 7) = (k : Int) - 7 := by rw [IntKind.wrap_i64] <;> omega
          have p7 : (7 : Int) ≤ (k : Int) := by omega
          have r7 : (k : Int) < 71 := by omega
          have q7 : (k : Int) - 7 < 64 := by omega
          have c7 : wr.cell? ⟨w.heap.size + 1, ((k : Int) - 7).toNat, none⟩ = some (.int .u32 (u (Wf m (k - 7)))) := by
            rw [show ((k : Int) - 7).toNat = k - 7 by omega, cell_of_row _ _ _ _ _ _ inv.b1, hC _ (by omega)]
          have e2 : IntKind.i64.wrap ((k : Int) - 2) = (k : Int) - 2 := by rw [IntKind.wrap_i64] <;> omega
          have p2 : (2 : Int) ≤ (k : Int) := by omega
          have r2 : (k : Int) < 66 := by omega
          have q2 : (k : Int) - 2 < 64 := by omega
          have c2 : wr.cell? ⟨w.heap.size + 1, ((k : Int) - 2).toNat, none⟩ = some (.int .u32 (u (Wf m (k - 2)))) := by
            rw [show ((k : Int) - 2).toNat = k - 2 by omega, cell_of_row _ _ _ _ _ _ inv.b1, hC _ (by omega)]
          obtain ⟨c, hc⟩ : ∃ c, wr.cell? ⟨w.heap.size + 1, k, none⟩ = some c := ⟨C[k]'(by omega), by rw [cell_of_row _ _ k _ _ _ inv.b1]; simp⟩
          have hf : wr.frozen? ⟨w.heap.size + 1, k, none⟩ = false := frozen_of_row _ _ _ _ _ inv.b1
          have HC : Hid (∀ i, i < k + 1 → (C.setIfInBounds k (.int .u32 (u (Wf m k))))[i]? = some (.int .u32 (u (Wf m i)))) := set_upto hCs (by omega) hC
          have hi := inv.set k (.int .u32 (u (Wf m k)))
          rw [Wf_hi m k hk0] at hi HC
          clear hC
          go_wp2
          go_still_tail 23, (by kernel_rfl)
          still_call (sS0_any _ _)
          repeat still_step
          still_call (sS1_any _ _)
          repeat still_step
          refine wpStill_nil ?_
          go_wp2
          go_roundw
          case rel => (repeat apply Exists.intro); exact ⟨⟨k + 1, _, by omega, by omega, by go_num, hi, by simpa using hCs, HC.out⟩, rfl⟩
          case measure => simp [intOf]; omega
        · obtain rfl : k = 64 := by omega
          have hCe : C = (wv (Wf m)).toArray := all_wv hCs hC
          subst hCe
          clear hC hk hk0 hlt
          have hi57 : (Tryd.prog.info? 64).map (·.size) = some (wv (Wf m)).toArray.size := by rw [List.size_toArray, wv_len]; exact info57
          have h1c : (wv (Wf m)).toArray.all (·.oneCell') = true := wv_one _
          have hz : z64.size = (wv (Wf m)).toArray.size := by rw [z64_size, List.size_toArray, wv_len]
          have hout : (wr.setRow w.heap.size (wv (Wf m)).toArray).heap[w.heap.size]? = some (.cells (wv (Wf m)).toArray 64 (0, 0)) := setRow_heap _ _ _ _ _ _ inv.b0
          have hbl : Below w.heap.size w (wr.setRow w.heap.size (wv (Wf m)).toArray) := inv.bel.trans ⟨rfl, rfl, rfl, by simp, fun j hj => setRow_other _ _ _ _ (by omega)⟩
          go_wp2_with (first | refine wpList_load_row rfl 64 _ rfl (w.heap.size + 1) rfl 64 _ (0, 0) _ inv.b1 Tryd.underlying64 rfl hi57 ?_ | refine wpList_store_row rfl 64 _ _ rfl w.heap.size _ rfl rfl 64 _ inv.b0 hi57 hz h1c ?_)
          exact bodyPost_ret (v := .agg (wv (Wf m)).toArray) (results_cell_row rfl _ _ w.heap.size 64 _ (0, 0) _ rfl hout Tryd.underlying64 rfl hi57) rfl ⟨rfl, hbl⟩
end Go.Proofs.YtjnbhiamaabbgaaDoor
