/-
  prim.sum: SHA-256 of a text.
-/
import Derived.Test.YtjnbhiamaabbgaaDoorPad
import Derived.Deep.RegionWith
namespace Go.Proofs.YtjnbhiamaabbgaaDoor
open Go.RowKit
def iv : St := ⟨1779033703, 3144134277, 1013904242, 2773480762, 1359893119, 2600822924, 528734635, 1541459225⟩
/-- The bytes of block k. -/
def blk (l : List UInt8) (k j : Nat) : UInt8 := l.getD (64 * k + j) 0
/-- The state behind k blocks. -/
def dig (m : List UInt8) : Nat → St
  | 0 => iv
  | k + 1 => takeF (dig m k) (Wf (blk m k))
/-- SHA-256. -/
def sha (x : List UInt8) : List UInt8 := sb (dig (padL x) (padN x.length / 64)) 8
theorem sha_len (x : List UInt8) : (sha x).length = 32 := sb_len _ 8
theorem bcell {W w1 : World} (hb : Below W.heap.size W w1) : (∀ b o, b < W.heap.size → w1.cell? ⟨b, o, none⟩ = W.cell? ⟨b, o, none⟩) ∧ (∀ b o, b < W.heap.size → w1.frozen? ⟨b, o, none⟩ = W.frozen? ⟨b, o, none⟩) :=
  ⟨fun b o h => hb.cell (p := ⟨b, o, none⟩) h, fun b o h => hb.frozen (p := ⟨b, o, none⟩) h⟩
/-- The table of the rounds' constants lies where it should. -/
def Tab (w : World) : Prop := ∀ i, i < 64 → w.cell? ⟨0, i, none⟩ = some (.int .u32 (u (Kc i)))
theorem Tab.below {w w' : World} {B : Nat} (h : Tab w) (hB : 0 < B) (hb : Below B w w') : Tab w' := fun i hi => (hb.cell (p := ⟨0, i, none⟩) hB).trans (h i hi)
theorem Tab.pos {w : World} (h : Tab w) : 0 < w.heap.size := block_lt_of_cell (h 0 (by decide))
/-- The bytes of a block of a text that lies in memory. -/
theorem text_block {w : World} {g : Nat} {l : List UInt8} (hg : w.heap[g]? = some (.cells (bv l).toArray 5 (0, 0))) (k : Nat) (hk : 64 * k + 64 ≤ l.length) : ∀ j, j < 64 → w.cell? ⟨g, 64 * k + j, none⟩ = some (.int .u8 (u (b2w (blk l k j)))) := by
  intro j hj
  rw [cell_of_row _ _ _ _ _ _ hg, u_b2w]
  have h : 64 * k + j < l.length := by omega
  simp [bv, h, blk]
theorem st_cells {w : World} {g : Nat} {s : St} (h : w.heap[g]? = some (.cells #[.int .u32 (u s.a), .int .u32 (u s.b), .int .u32 (u s.c), .int .u32 (u s.d), .int .u32 (u s.e), .int .u32 (u s.f), .int .u32 (u s.g), .int .u32 (u s.h)] 61 (0, 0))) : w.cell? ⟨g, 0, none⟩ = some (.int .u32 (u s.a)) ∧ w.frozen? ⟨g, 0, none⟩ = false ∧ w.cell? ⟨g, 1, none⟩ = some (.int .u32 (u s.b)) ∧ w.frozen? ⟨g, 1, none⟩ = false ∧ w.cell? ⟨g, 2, none⟩ = some (.int .u32 (u s.c)) ∧ w.frozen? ⟨g, 2, none⟩ = false ∧ w.cell? ⟨g, 3, none⟩ = some (.int .u32 (u s.d)) ∧ w.frozen? ⟨g, 3, none⟩ = false ∧ w.cell? ⟨g, 4, none⟩ = some (.int .u32 (u s.e)) ∧ w.frozen? ⟨g, 4, none⟩ = false ∧ w.cell? ⟨g, 5, none⟩ = some (.int .u32 (u s.f)) ∧ w.frozen? ⟨g, 5, none⟩ = false ∧ w.cell? ⟨g, 6, none⟩ = some (.int .u32 (u s.g)) ∧ w.frozen? ⟨g, 6, none⟩ = false ∧ w.cell? ⟨g, 7, none⟩ = some (.int .u32 (u s.h)) ∧ w.frozen? ⟨g, 7, none⟩ = false := by
  refine ⟨?_, frozen_of_row _ _ _ _ _ h, ?_, frozen_of_row _ _ _ _ _ h, ?_, frozen_of_row _ _ _ _ _ h, ?_, frozen_of_row _ _ _ _ _ h, ?_, frozen_of_row _ _ _ _ _ h, ?_, frozen_of_row _ _ _ _ _ h, ?_, frozen_of_row _ _ _ _ _ h, ?_, frozen_of_row _ _ _ _ _ h⟩
  all_goals (rw [cell_of_row _ _ _ _ _ _ h]; rfl)
/-- What holds of sum's two blocks. -/
structure SumInv (w : World) (l : List UInt8) (s : St) (wr : World) : Prop where
  bel : Below w.heap.size w wr
  sz : w.heap.size + 1 < wr.heap.size
  b0 : wr.heap[w.heap.size]? = some (.cells #[.int .u32 (u s.a), .int .u32 (u s.b), .int .u32 (u s.c), .int .u32 (u s.d), .int .u32 (u s.e), .int .u32 (u s.f), .int .u32 (u s.g), .int .u32 (u s.h)] 61 (0, 0))
  b1 : wr.heap[w.heap.size + 1]? = some (.cells (bv l).toArray 5 (0, 0))
theorem SumInv.next {w w1 w2 w3 : World} {l : List UInt8} {s : St} (h : SumInv w l s w1) (hb2 : Below w1.drew.heap.size w1.drew w2) (hb3 : Below w2.heap.size w2 w3) (t : St) : SumInv w l t ((((((((w3.setCell ⟨w.heap.size, 0, none⟩ (.int .u32 (u t.a))).setCell ⟨w.heap.size, 1, none⟩ (.int .u32 (u t.b))).setCell ⟨w.heap.size, 2, none⟩ (.int .u32 (u t.c))).setCell ⟨w.heap.size, 3, none⟩ (.int .u32 (u t.d))).setCell ⟨w.heap.size, 4, none⟩ (.int .u32 (u t.e))).setCell ⟨w.heap.size, 5, none⟩ (.int .u32 (u t.f))).setCell ⟨w.heap.size, 6, none⟩ (.int .u32 (u t.g))).setCell ⟨w.heap.size, 7, none⟩ (.int .u32 (u t.h))) := by
  have hz : w.heap.size + 1 < w2.heap.size := Nat.lt_of_lt_of_le h.sz hb2.size
  have h2 : Below w.heap.size w w2 := h.bel.drew.trans (hb2.mono h.bel.size)
  have h3 : Below w.heap.size w w3 := h2.trans (hb3.mono h2.size)
  refine ⟨set8_below _ _ _ _ _ _ _ _ _ _ _ _ (Nat.le_refl _) h3, by rw [set8_size]; exact Nat.lt_of_lt_of_le hz hb3.size, ?_, ?_⟩
  · exact set8 _ _ _ _ _ _ _ _ _ _ _ _ _ _ _ _ _ _ _ ((hb3.block _ (by omega)).trans ((hb2.block _ (by have := h.sz; show w.heap.size < w1.heap.size; omega)).trans h.b0))
  · rw [set8_other _ _ _ _ _ _ _ _ _ _ _ (by omega)]
    exact (hb3.block _ hz).trans ((hb2.block _ (by exact h.sz)).trans h.b1)
set_option maxHeartbeats 2000000 in
set_option maxRecDepth 20000 in
theorem sum_any (x : ByteArray) (hx : x.size ≤ 60000) (w : World) (hT : Tab w) : Calls Tryd.prog 20 #[.string x] w fun en w' => en = .returned (.string ⟨(sha x.data.toList).toArray⟩) ∧ Below w.heap.size w w' := by
  have HT : Hid (Tab w) := hT
  have hw0 := hT.pos
  clear hT
  have hp := padN_le x.size
  have hdv : 64 * (padN x.size / 64) = padN x.size := by unfold padN; omega
  obtain ⟨c, hc⟩ : ∃ c, padN x.size / 64 = c := ⟨_, rfl⟩
  rw [hc] at hdv
  have hL : (padL x.data.toList).length = 64 * c := (padK_len x.data.toList 8 (by omega)).trans hdv.symm
  have HL : Hid ((padL x.data.toList).length = 64 * c) := hL
  have HC : Hid (padN x.size / 64 = c) := hc
  have HD : Hid (64 * c = padN x.size) := hdv
  have hcl : 64 * c ≤ 60072 := by omega
  go_enter Tryd.func20, Tryd.ntmps20
  go_wp2_with fail
  refine (pad_any x hx _).mono ?_
  rintro en w1 ⟨rfl, hg1, hb1⟩
  rw [← hdv]
  clear hdv hc hL hp
  go_wp2_with fail
  have inv0 : SumInv w (padL x.data.toList) iv w1 := by
    have hz : w.heap.size < w1.heap.size := Nat.lt_of_lt_of_le (by simp) hb1.size
    refine ⟨((Below.refl _ _).alloc (Nat.le_refl _) _).trans (hb1.mono (by simp)), ?_, (hb1.block _ (by simp)).trans ?_, ?_⟩
    · have := (Array.getElem?_eq_some_iff.1 hg1).1; simpa using this
    · rw [heap_alloc_new]; rfl
    · simpa using hg1
  clear hg1 hb1
  go_loopw [5] (fun i wr => ∃ k : Nat, k ≤ c ∧ i = .int .i64 (64 * (k : Int)) ∧ SumInv w (padL x.data.toList) (dig (padL x.data.toList) k) wr) (fun i _ => (64 * (c : Int) - intOf i).toNat)
  case atStart => exact ⟨0, by omega, by go_num, inv0⟩
  case round =>
    clear inv0
    obtain ⟨k, hk, rfl, inv⟩ := hrel
    have hsz := inv.sz
    by_cases hlt : k < c
    · have i0 : (0 : Int) ≤ 64 * (k : Int) := by omega
      have i1 : 64 * (k : Int) < 64 * (c : Int) := by omega
      have i2 : 64 * (k : Int) + 64 ≤ 64 * (c : Int) := by omega
      have i3 : (64 * (k : Int)).toNat = 64 * k := by omega
      have iw : IntKind.i64.wrap (64 * (k : Int) + 64) = 64 * (k : Int) + 64 := by rw [IntKind.wrap_i64]; omega
      have hz0 : w.heap.size < wr.heap.size := by omega
      generalize hm : padL x.data.toList = l at *
      have hmt : ∀ j, j < 64 → wr.cell? ⟨w.heap.size + 1, 64 * k + j, none⟩ = some (.int .u8 (u (b2w (blk l k j)))) := text_block inv.b1 k (by rw [HL.out]; omega)
      have HM : Hid (∀ j, j < 64 → wr.cell? ⟨w.heap.size + 1, 64 * k + j, none⟩ = some (.int .u8 (u (b2w (blk l k j))))) := hmt
      clear hmt
      have HTr : Hid (Tab wr.drew) := HT.out.below hw0 inv.bel.drew
      obtain ⟨s, hs⟩ : ∃ s, dig l k = s := ⟨_, rfl⟩
      rw [hs] at inv
      have HS : Hid (dig l k = s) := hs
      clear hs
      have hs0 : wr.cell? ⟨w.heap.size, 0, none⟩ = some (.int .u32 (u s.a)) := by rw [cell_of_row _ _ 0 _ _ _ inv.b0]; rfl
      have hf0 : wr.frozen? ⟨w.heap.size, 0, none⟩ = false := frozen_of_row _ _ _ _ _ inv.b0
      have hs1 : wr.cell? ⟨w.heap.size, 1, none⟩ = some (.int .u32 (u s.b)) := by rw [cell_of_row _ _ 1 _ _ _ inv.b0]; rfl
      have hf1 : wr.frozen? ⟨w.heap.size, 1, none⟩ = false := frozen_of_row _ _ _ _ _ inv.b0
      have hs2 : wr.cell? ⟨w.heap.size, 2, none⟩ = some (.int .u32 (u s.c)) := by rw [cell_of_row _ _ 2 _ _ _ inv.b0]; rfl
      have hf2 : wr.frozen? ⟨w.heap.size, 2, none⟩ = false := frozen_of_row _ _ _ _ _ inv.b0
      have hs3 : wr.cell? ⟨w.heap.size, 3, none⟩ = some (.int .u32 (u s.d)) := by rw [cell_of_row _ _ 3 _ _ _ inv.b0]; rfl
      have hf3 : wr.frozen? ⟨w.heap.size, 3, none⟩ = false := frozen_of_row _ _ _ _ _ inv.b0
      have hs4 : wr.cell? ⟨w.heap.size, 4, none⟩ = some (.int .u32 (u s.e)) := by rw [cell_of_row _ _ 4 _ _ _ inv.b0]; rfl
      have hf4 : wr.frozen? ⟨w.heap.size, 4, none⟩ = false := frozen_of_row _ _ _ _ _ inv.b0
      have hs5 : wr.cell? ⟨w.heap.size, 5, none⟩ = some (.int .u32 (u s.f)) := by rw [cell_of_row _ _ 5 _ _ _ inv.b0]; rfl
      have hf5 : wr.frozen? ⟨w.heap.size, 5, none⟩ = false := frozen_of_row _ _ _ _ _ inv.b0
      have hs6 : wr.cell? ⟨w.heap.size, 6, none⟩ = some (.int .u32 (u s.g)) := by rw [cell_of_row _ _ 6 _ _ _ inv.b0]; rfl
      have hf6 : wr.frozen? ⟨w.heap.size, 6, none⟩ = false := frozen_of_row _ _ _ _ _ inv.b0
      have hs7 : wr.cell? ⟨w.heap.size, 7, none⟩ = some (.int .u32 (u s.h)) := by rw [cell_of_row _ _ 7 _ _ _ inv.b0]; rfl
      have hf7 : wr.frozen? ⟨w.heap.size, 7, none⟩ = false := frozen_of_row _ _ _ _ _ inv.b0
      go_wp2
      go_region_with (first
        | (go_at_call 36; refine (schedule_any (blk l k) (w.heap.size + 1) (64 * k) _ _ ?_).mono ?_; exact HM.out; rintro en w2 ⟨rfl, hb2⟩; obtain ⟨pc0, pf0, pc1, pf1, pc2, pf2, pc3, pf3, pc4, pf4, pc5, pf5, pc6, pf6, pc7, pf7⟩ := st_cells ((hb2.block _ hz0).trans inv.b0); have hz2 : w.heap.size < w2.heap.size := Nat.lt_of_lt_of_le hz0 hb2.size)
        | (go_at_call 35; refine (takeIn_any s (Wf (blk l k)) _ ?_).mono ?_; exact HTr.out.below (Nat.lt_trans hw0 hz0) hb2; rintro en w3 ⟨rfl, hb3⟩; obtain ⟨qc0, qf0, qc1, qf1, qc2, qf2, qc3, qf3, qc4, qf4, qc5, qf5, qc6, qf6, qc7, qf7⟩ := st_cells ((hb3.block _ hz2).trans ((hb2.block _ hz0).trans inv.b0))))
      all_goals go_wp2
      all_goals go_roundw
      case rel =>
        refine ⟨k + 1, by omega, by go_num, ?_⟩
        show SumInv w l (takeF (dig l k) _) _
        rw [HS.out]
        exact inv.next hb2 hb3 _
      case measure => simp [intOf]; omega
      case rel =>
        refine ⟨k + 1, by omega, by go_num, ?_⟩
        show SumInv w l (takeF (dig l k) _) _
        rw [HS.out]
        exact inv.next hb2 hb3 _
      case measure => simp [intOf]; omega
      case rel =>
        refine ⟨k + 1, by omega, by go_num, ?_⟩
        show SumInv w l (takeF (dig l k) _) _
        rw [HS.out]
        exact inv.next hb2 hb3 _
      case measure => simp [intOf]; omega
    · obtain rfl : k = c := by omega
      obtain ⟨s, hs⟩ : ∃ s, dig (padL x.data.toList) k = s := ⟨_, rfl⟩
      rw [hs] at inv
      have HS : Hid (sha x.data.toList = sb s 8) := by show sb (dig (padL x.data.toList) (padN x.size / 64)) 8 = _; rw [HC.out, hs]
      clear hs
      obtain ⟨qc0, qf0, qc1, qf1, qc2, qf2, qc3, qf3, qc4, qf4, qc5, qf5, qc6, qf6, qc7, qf7⟩ := st_cells inv.b0
      have hbl := inv.bel
      have hle : ¬ 64 * (k : Int) < 64 * (k : Int) := by omega
      go_wp2_with fail
      refine (wordBytes_any s _).mono ?_
      rintro en w2 ⟨rfl, hb2⟩
      go_wp2_with fail
      go_ret
      exact ⟨by rw [HS.out]; rfl, hbl.trans (hb2.mono hbl.size)⟩
end Go.Proofs.YtjnbhiamaabbgaaDoor
