/-
  The document's answer: cofferref.words, the words of a block.
-/
import Derived.Test.YtjnbhiamaabbgaaDoorRefA
namespace Go.Proofs.YtjnbhiamaabbgaaDoor
open Go.RowKit
attribute [local go_sem] u_xor u_and u_or u_add u_not st_size st_append u_shr3 u_shr10
/-- A block's bytes, out of a text of 64. -/
def bm (l : List UInt8) (j : Nat) : UInt8 := l.getD j 0
theorem w16_val (m : Nat → UInt8) (k : Nat) : IntKind.u32.wrap ((valL [m (4 * k), m (4 * k + 1), m (4 * k + 2), m (4 * k + 3)] : Nat) : Int) = u (w16 m k) := by
  have e : valL [m (4 * k), m (4 * k + 1), m (4 * k + 2), m (4 * k + 3)] = (((m (4 * k)).toNat * 256 + (m (4 * k + 1)).toNat) * 256 + (m (4 * k + 2)).toNat) * 256 + (m (4 * k + 3)).toNat := by simp [valL]
  rw [e]
  unfold w16 b2w
  have h0 := (m (4 * k)).toNat_lt
  have h1 := (m (4 * k + 1)).toNat_lt
  have h2 := (m (4 * k + 2)).toNat_lt
  have h3 := (m (4 * k + 3)).toNat_lt
  generalize (m (4 * k)).toNat = a at *
  generalize (m (4 * k + 1)).toNat = b at *
  generalize (m (4 * k + 2)).toNat = c at *
  generalize (m (4 * k + 3)).toNat = d at *
  rw [u32_wrap _ (by omega) (by omega), u_def]
  simp only [BitVec.toNat_or, BitVec.toNat_shiftLeft, BitVec.toNat_ofNat, Nat.shiftLeft_eq]
  have q0 : a % 2 ^ 32 * 2 ^ 24 % 2 ^ 32 = 2 ^ 24 * a := by rw [Nat.mod_eq_of_lt (show a < 2 ^ 32 by omega), Nat.mod_eq_of_lt (by omega), Nat.mul_comm]
  have q1 : b % 2 ^ 32 * 2 ^ 16 % 2 ^ 32 = 2 ^ 16 * b := by rw [Nat.mod_eq_of_lt (show b < 2 ^ 32 by omega), Nat.mod_eq_of_lt (by omega), Nat.mul_comm]
  have q2 : c % 2 ^ 32 * 2 ^ 8 % 2 ^ 32 = 2 ^ 8 * c := by rw [Nat.mod_eq_of_lt (show c < 2 ^ 32 by omega), Nat.mod_eq_of_lt (by omega), Nat.mul_comm]
  have q3 : d % 2 ^ 32 = d := Nat.mod_eq_of_lt (by omega)
  rw [q0, q1, q2, q3, ← Nat.two_pow_add_eq_or_of_lt (i := 24) (b := 2 ^ 16 * b) (by omega) a]
  rw [show 2 ^ 24 * a + 2 ^ 16 * b = 2 ^ 16 * (a * 256 + b) by omega, ← Nat.two_pow_add_eq_or_of_lt (i := 16) (b := 2 ^ 8 * c) (by omega) (a * 256 + b)]
  rw [show 2 ^ 16 * (a * 256 + b) + 2 ^ 8 * c = 2 ^ 8 * ((a * 256 + b) * 256 + c) by omega, ← Nat.two_pow_add_eq_or_of_lt (i := 8) (b := d) (by omega) ((a * 256 + b) * 256 + c)]
  omega
theorem ext4 (l : List UInt8) (k : Nat) (h : 4 * k + 4 ≤ l.length) : (st l).extract (4 * k) (4 * k + 4) = st [bm l (4 * k), bm l (4 * k + 1), bm l (4 * k + 2), bm l (4 * k + 3)] := by
  apply ByteArray.ext
  apply Array.toList_inj.1
  simp only [st, ByteArray.data_extract, List.extract_toArray, List.toList_toArray]
  rw [List.extract_eq_take_drop, show 4 * k + 4 - 4 * k = 4 by omega]
  apply List.ext_getElem?
  intro i
  match i with
  | 0 => simp [bm, show 4 * k < l.length by omega]
  | 1 => simp [bm, show 4 * k + 1 < l.length by omega]
  | 2 => simp [bm, show 4 * k + 2 < l.length by omega]
  | 3 => simp [bm, show 4 * k + 3 < l.length by omega]
  | n + 4 => rw [List.getElem?_eq_none (by simp; omega)]; rfl
theorem Wf_hi' (m : Nat → UInt8) (i : Nat) (h : 16 ≤ i) : Wf m i = sS1 (Wf m (i - 2)) + Wf m (i - 7) + sS0 (Wf m (i - 15)) + Wf m (i - 16) := by
  rw [Wf_hi m i h]
  ac_rfl
theorem SchedInv.drewN {w wr : World} {C : Array Value} (h : SchedInv w C wr) (n : Nat) : SchedInv w C (wr.drewN n) := ⟨below_drewN h.bel n, h.sz, h.b0, h.b1⟩
theorem SchedInv.put {w wr : World} {C : Array Value} (h : SchedInv w C wr) (k : Nat) (v : Value) : SchedInv w (C.setIfInBounds k v) (wr.setCell ⟨w.heap.size + 1, k, none⟩ v) := by
  refine ⟨(h.bel).setCell (by show w.heap.size ≤ w.heap.size + 1; omega) _, by simpa [World.setCell] using h.sz, ?_, heap_setCell_same _ _ _ _ _ _ h.b1⟩
  rw [heap_setCell_other _ _ _ _ (by show w.heap.size ≠ w.heap.size + 1; omega)]; exact h.b0
set_option maxHeartbeats 1000000 in
set_option maxRecDepth 20000 in
theorem words_any (l : List UInt8) (hl : l.length = 64) (w : World) :
    Calls Tryd.prog 72 #[.string (st l)] w fun en w' => en = .returned (.agg (wv (Wf (bm l))).toArray) ∧ Below w.heap.size w w' := by
  go_enter Tryd.func72, Tryd.ntmps72
  go_wp2
  go_loopw [4] (fun i wr => ∃ (k : Nat) (C : Array Value), k ≤ 16 ∧ i = .int .i64 k ∧ SchedInv w C wr ∧ C.size = 64 ∧ ∀ i, i < k → C[i]? = some (.int .u32 (u (Wf (bm l) i)))) (fun i _ => (16 - intOf i).toNat)
  case atStart =>
    exact ⟨0, z64, by omega, rfl, SchedInv.start w, rfl, fun i hi => by omega⟩
  case round =>
    obtain ⟨k, C, hk, rfl, inv, hCs, hC⟩ := hrel
    have hsz := inv.sz
    by_cases hlt : k < 16
    · have i4 : (k : Int) < 64 := by omega
      have i5 : (0 : Int) ≤ 4 * (k : Int) := by omega
      have i6 : 4 * (k : Int) + 4 ≤ 64 := by omega
      obtain ⟨c, hc⟩ : ∃ c, wr.cell? ⟨w.heap.size + 1, k, none⟩ = some c := ⟨C[k]'(by omega), by rw [cell_of_row _ _ k _ _ _ inv.b1]; simp⟩
      have hf : wr.frozen? ⟨w.heap.size + 1, k, none⟩ = false := frozen_of_row _ _ _ _ _ inv.b1
      have HC : Hid (∀ i, i < k + 1 → (C.setIfInBounds k (.int .u32 (u (Wf (bm l) k))))[i]? = some (.int .u32 (u (Wf (bm l) i)))) := set_upto hCs (by omega) hC
      have hi := inv.put k (.int .u32 (u (Wf (bm l) k)))
      rw [Wf_lo (bm l) k hlt] at hi HC
      have hval := w16_val (bm l) k
      clear hC
      go_wp2_with fail
      rw [ext4 l k (by omega)]
      refine (value_any [bm l (4 * k), bm l (4 * k + 1), bm l (4 * k + 2), bm l (4 * k + 3)] (by simp) _).mono ?_
      rintro en w2 ⟨rfl, rfl⟩
      generalize valL [bm l (4 * k), bm l (4 * k + 1), bm l (4 * k + 2), bm l (4 * k + 3)] = q at *
      generalize w16 (bm l) k = W at *
      go_wp2_with fail
      go_roundw
      case rel => exact ⟨k + 1, _, by omega, by go_num, hi, by simpa using hCs, HC.out⟩
      case measure => simp [intOf]; omega
    · obtain rfl : k = 16 := by omega
      clear hk hlt
      go_wp2
      go_loopw [5] (fun i w2 => ∃ (k : Nat) (C : Array Value), 16 ≤ k ∧ k ≤ 64 ∧ i = .int .i64 k ∧ SchedInv w C w2 ∧ C.size = 64 ∧ ∀ i, i < k → C[i]? = some (.int .u32 (u (Wf (bm l) i)))) (fun i _ => (64 - intOf i).toNat)
      case atStart =>
        exact ⟨16, C, by omega, by omega, rfl, inv, hCs, hC⟩
      case round =>
        clear inv hCs hC hsz
        obtain ⟨k, C, hk0, hk, rfl, inv, hCs, hC⟩ := hrel
        have hsz := inv.sz
        by_cases hlt : k < 64
        · have i4 : (k : Int) < 64 := by omega
          have e16 : IntKind.i64.wrap ((k : Int) - 16) = (k : Int) - 16 := by rw [IntKind.wrap_i64] <;> omega
          have p16 : (16 : Int) ≤ (k : Int) := by omega
          have r16 : (k : Int) < 80 := by omega
          have q16 : (k : Int) - 16 < 64 := by omega
          have c16 : wr.cell? ⟨w.heap.size + 1, ((k : Int) - 16).toNat, none⟩ = some (.int .u32 (u (Wf (bm l) (k - 16)))) := by
            rw [show ((k : Int) - 16).toNat = k - 16 by omega, cell_of_row _ _ _ _ _ _ inv.b1, hC _ (by omega)]
          have d16 : wr.cell? ⟨w.heap.size + 1, k - 16, none⟩ = some (.int .u32 (u (Wf (bm l) (k - 16)))) := by
            rw [cell_of_row _ _ _ _ _ _ inv.b1, hC _ (by omega)]
          have e15 : IntKind.i64.wrap ((k : Int) - 15) = (k : Int) - 15 := by rw [IntKind.wrap_i64] <;> omega
          have p15 : (15 : Int) ≤ (k : Int) := by omega
          have r15 : (k : Int) < 79 := by omega
          have q15 : (k : Int) - 15 < 64 := by omega
          have c15 : wr.cell? ⟨w.heap.size + 1, ((k : Int) - 15).toNat, none⟩ = some (.int .u32 (u (Wf (bm l) (k - 15)))) := by
            rw [show ((k : Int) - 15).toNat = k - 15 by omega, cell_of_row _ _ _ _ _ _ inv.b1, hC _ (by omega)]
          have d15 : wr.cell? ⟨w.heap.size + 1, k - 15, none⟩ = some (.int .u32 (u (Wf (bm l) (k - 15)))) := by
            rw [cell_of_row _ _ _ _ _ _ inv.b1, hC _ (by omega)]
          have e7 : IntKind.i64.wrap ((k : Int) - 7) = (k : Int) - 7 := by rw [IntKind.wrap_i64] <;> omega
          have p7 : (7 : Int) ≤ (k : Int) := by omega
          have r7 : (k : Int) < 71 := by omega
          have q7 : (k : Int) - 7 < 64 := by omega
          have c7 : wr.cell? ⟨w.heap.size + 1, ((k : Int) - 7).toNat, none⟩ = some (.int .u32 (u (Wf (bm l) (k - 7)))) := by
            rw [show ((k : Int) - 7).toNat = k - 7 by omega, cell_of_row _ _ _ _ _ _ inv.b1, hC _ (by omega)]
          have d7 : wr.cell? ⟨w.heap.size + 1, k - 7, none⟩ = some (.int .u32 (u (Wf (bm l) (k - 7)))) := by
            rw [cell_of_row _ _ _ _ _ _ inv.b1, hC _ (by omega)]
          have e2 : IntKind.i64.wrap ((k : Int) - 2) = (k : Int) - 2 := by rw [IntKind.wrap_i64] <;> omega
          have p2 : (2 : Int) ≤ (k : Int) := by omega
          have r2 : (k : Int) < 66 := by omega
          have q2 : (k : Int) - 2 < 64 := by omega
          have c2 : wr.cell? ⟨w.heap.size + 1, ((k : Int) - 2).toNat, none⟩ = some (.int .u32 (u (Wf (bm l) (k - 2)))) := by
            rw [show ((k : Int) - 2).toNat = k - 2 by omega, cell_of_row _ _ _ _ _ _ inv.b1, hC _ (by omega)]
          have d2 : wr.cell? ⟨w.heap.size + 1, k - 2, none⟩ = some (.int .u32 (u (Wf (bm l) (k - 2)))) := by
            rw [cell_of_row _ _ _ _ _ _ inv.b1, hC _ (by omega)]
          obtain ⟨c, hc⟩ : ∃ c, wr.cell? ⟨w.heap.size + 1, k, none⟩ = some c := ⟨C[k]'(by omega), by rw [cell_of_row _ _ k _ _ _ inv.b1]; simp⟩
          have hf : wr.frozen? ⟨w.heap.size + 1, k, none⟩ = false := frozen_of_row _ _ _ _ _ inv.b1
          have HC : Hid (∀ i, i < k + 1 → (C.setIfInBounds k (.int .u32 (u (Wf (bm l) k))))[i]? = some (.int .u32 (u (Wf (bm l) i)))) := set_upto hCs (by omega) hC
          have HI : Hid (∀ wq, SchedInv w C wq → SchedInv w (C.setIfInBounds k (.int .u32 (u (Wf (bm l) k)))) (wq.drew.setCell ⟨w.heap.size + 1, k, none⟩ (.int .u32 (u (Wf (bm l) k))))) := fun wq h => h.set k _
          rw [Wf_hi' (bm l) k hk0] at HI HC
          unfold sS0 sS1 at HI HC
          clear hC
          generalize Wf (bm l) (k - 16) = x16 at *
          generalize Wf (bm l) (k - 15) = x15 at *
          generalize Wf (bm l) (k - 7) = x7 at *
          generalize Wf (bm l) (k - 2) = x2 at *
          go_wp2_with fail
          refine (rturn7 x15 _).mono ?_
          rintro en w2 ⟨rfl, n1, rfl⟩
          go_wp2_with fail
          refine (rturn18 x15 _).mono ?_
          rintro en w2 ⟨rfl, n2, rfl⟩
          go_wp2_with fail
          refine (rturn17 x2 _).mono ?_
          rintro en w2 ⟨rfl, n3, rfl⟩
          go_wp2_with fail
          refine (rturn19 x2 _).mono ?_
          rintro en w2 ⟨rfl, n4, rfl⟩
          go_wp2_with fail
          obtain ⟨wq, hwq⟩ : ∃ wq, wr.drewN (n1 + n2 + n3 + n4) = wq := ⟨_, rfl⟩
          have invq : SchedInv w C wq := by rw [← hwq]; exact inv.drewN _
          have x1 : wq.cell? ⟨w.heap.size + 1, ((k : Int) - 7).toNat, none⟩ = some (.int .u32 (u x7)) := by rw [← hwq]; exact c7
          have x3 : wq.cell? ⟨w.heap.size + 1, ((k : Int) - 16).toNat, none⟩ = some (.int .u32 (u x16)) := by rw [← hwq]; exact c16
          have x4 : wq.cell? ⟨w.heap.size + 1, k - 7, none⟩ = some (.int .u32 (u x7)) := by rw [← hwq]; exact d7
          have x5 : wq.cell? ⟨w.heap.size + 1, k - 16, none⟩ = some (.int .u32 (u x16)) := by rw [← hwq]; exact d16
          have x6 : wq.cell? ⟨w.heap.size + 1, k, none⟩ = some c := by rw [← hwq]; exact hc
          have x8 : wq.frozen? ⟨w.heap.size + 1, k, none⟩ = false := by rw [← hwq]; exact hf
          have hi := HI.out wq invq
          rw [hwq]
          clear hwq c16 c15 c7 c2 d16 d15 d7 d2 hc hf inv
          go_still_tail 15, (by kernel_rfl)
          go_wp2_with fail
          go_roundw
          case rel => (repeat apply Exists.intro); exact ⟨⟨k + 1, _, by omega, by omega, by go_num, hi, by simpa using hCs, HC.out⟩, rfl⟩
          case measure => simp [intOf]; omega
        · obtain rfl : k = 64 := by omega
          have hCe : C = (wv (Wf (bm l))).toArray := all_wv hCs hC
          subst hCe
          clear hC hk hk0 hlt
          have hi57 : (Tryd.prog.info? 64).map (·.size) = some (wv (Wf (bm l))).toArray.size := by rw [List.size_toArray, wv_len]; exact info57
          have h1c : (wv (Wf (bm l))).toArray.all (·.oneCell') = true := wv_one _
          have hz : z64.size = (wv (Wf (bm l))).toArray.size := by rw [z64_size, List.size_toArray, wv_len]
          have hout : (wr.setRow w.heap.size (wv (Wf (bm l))).toArray).heap[w.heap.size]? = some (.cells (wv (Wf (bm l))).toArray 64 (0, 0)) := setRow_heap _ _ _ _ _ _ inv.b0
          have hbl : Below w.heap.size w (wr.setRow w.heap.size (wv (Wf (bm l))).toArray) := inv.bel.trans ⟨rfl, rfl, rfl, by simp, fun j hj => setRow_other _ _ _ _ (by omega)⟩
          go_wp2_with (first | refine wpList_load_row rfl 64 _ rfl (w.heap.size + 1) rfl 64 _ (0, 0) _ inv.b1 Tryd.underlying64 rfl hi57 ?_ | refine wpList_store_row rfl 64 _ _ rfl w.heap.size _ rfl rfl 64 _ inv.b0 hi57 hz h1c ?_)
          exact bodyPost_ret (v := .agg (wv (Wf (bm l))).toArray) (results_cell_row rfl _ _ w.heap.size 64 _ (0, 0) _ rfl hout Tryd.underlying64 rfl hi57) rfl ⟨rfl, hbl⟩
end Go.Proofs.YtjnbhiamaabbgaaDoor
