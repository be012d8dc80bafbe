/-
  The document's answer: cofferref.compress, one block more.
-/
import Derived.Test.YtjnbhiamaabbgaaDoorRefB
import Derived.Deep.RegionWith
import Derived.StillTailTactics
import Derived.Test.YtjnbhiamaabbgaaDoorSum
namespace Go.Proofs.YtjnbhiamaabbgaaDoor
open Go.RowKit
attribute [local go_sem] u_xor u_and u_or u_add u_not st_size st_append
theorem st_cells0 {w : World} {g : Nat} {s : St} (h : w.heap[g]? = some (.cells #[.int .u32 (u s.a), .int .u32 (u s.b), .int .u32 (u s.c), .int .u32 (u s.d), .int .u32 (u s.e), .int .u32 (u s.f), .int .u32 (u s.g), .int .u32 (u s.h)] 61 (0, 0))) : w.cell? ⟨g, 0, none⟩ = some (.int .u32 (u s.a)) ∧ w.cell? ⟨g, 1, none⟩ = some (.int .u32 (u s.b)) ∧ w.cell? ⟨g, 2, none⟩ = some (.int .u32 (u s.c)) ∧ w.cell? ⟨g, 3, none⟩ = some (.int .u32 (u s.d)) ∧ w.cell? ⟨g, 4, none⟩ = some (.int .u32 (u s.e)) ∧ w.cell? ⟨g, 5, none⟩ = some (.int .u32 (u s.f)) ∧ w.cell? ⟨g, 6, none⟩ = some (.int .u32 (u s.g)) ∧ w.cell? ⟨g, 7, none⟩ = some (.int .u32 (u s.h)) := by
  refine ⟨?_, ?_, ?_, ?_, ?_, ?_, ?_, ?_⟩
  all_goals (rw [cell_of_row _ _ _ _ _ _ h]; rfl)
/-- The reference's own table of the rounds' constants lies where it should. -/
def Tab2 (w : World) : Prop := ∀ i, i < 64 → w.cell? ⟨1, i, none⟩ = some (.int .u32 (u (Kc i)))
theorem Tab2.below {w w' : World} {B : Nat} (h : Tab2 w) (hB : 1 < B) (hb : Below B w w') : Tab2 w' := fun i hi => (hb.cell (p := ⟨1, i, none⟩) hB).trans (h i hi)
theorem Tab2.pos {w : World} (h : Tab2 w) : 1 < w.heap.size := block_lt_of_cell (h 0 (by decide))
/-- What holds of the blocks that compress works in. -/
structure CompInv (w : World) (b2 b3 : Nat) (W : Nat → BitVec 32) (C D : Array Value) (wr : World) : Prop where
  bel : Below w.heap.size w wr
  sz : b3 < wr.heap.size
  lt1 : w.heap.size + 1 < b2
  lt2 : b2 < b3
  h0 : wr.heap[w.heap.size]? = some (.cells D 61 (0, 0))
  h1 : wr.heap[w.heap.size + 1]? = some (.cells #[.int .u32 0, .int .u32 0, .int .u32 0, .int .u32 0, .int .u32 0, .int .u32 0, .int .u32 0, .int .u32 0] 61 (0, 0))
  h2 : wr.heap[b2]? = some (.cells (wv W).toArray 64 (0, 0))
  h3 : wr.heap[b3]? = some (.cells C 61 (0, 0))
theorem CompInv.start {w w1 : World} {s : St} {W : Nat → BitVec 32} (hb : Below w.heap.size w w1) (hz : w.heap.size + 1 < w1.heap.size) (k0 : w1.heap[w.heap.size]? = some (.cells #[.int .u32 (u s.a), .int .u32 (u s.b), .int .u32 (u s.c), .int .u32 (u s.d), .int .u32 (u s.e), .int .u32 (u s.f), .int .u32 (u s.g), .int .u32 (u s.h)] 61 (0, 0))) (k1 : w1.heap[w.heap.size + 1]? = some (.cells #[.int .u32 0, .int .u32 0, .int .u32 0, .int .u32 0, .int .u32 0, .int .u32 0, .int .u32 0, .int .u32 0] 61 (0, 0))) :
    CompInv w w1.heap.size (w1.heap.size + 1) W #[.int .u32 (u s.a), .int .u32 (u s.b), .int .u32 (u s.c), .int .u32 (u s.d), .int .u32 (u s.e), .int .u32 (u s.f), .int .u32 (u s.g), .int .u32 (u s.h)] #[.int .u32 (u s.a), .int .u32 (u s.b), .int .u32 (u s.c), .int .u32 (u s.d), .int .u32 (u s.e), .int .u32 (u s.f), .int .u32 (u s.g), .int .u32 (u s.h)] ((w1.alloc (.cells (wv W).toArray 64)).alloc (.cells #[.int .u32 (u s.a), .int .u32 (u s.b), .int .u32 (u s.c), .int .u32 (u s.d), .int .u32 (u s.e), .int .u32 (u s.f), .int .u32 (u s.g), .int .u32 (u s.h)] 61)) := by
  refine ⟨(hb.alloc hb.size _).alloc (by have := hb.size; simp; omega) _, by simp, hz, by omega, ?_, ?_, heap_alloc2_old _ _ _, heap_alloc2_new _ _ _⟩
  · rw [Below.heap_alloc _ _ _ (by simp; omega), Below.heap_alloc _ _ _ (by omega)]; exact k0
  · rw [Below.heap_alloc _ _ _ (by simp; omega), Below.heap_alloc _ _ _ (by omega)]; exact k1
theorem CompInv.put {w wr : World} {b2 b3 : Nat} {W : Nat → BitVec 32} {C D : Array Value} (h : CompInv w b2 b3 W C D wr) (k : Nat) (v : Value) : CompInv w b2 b3 W C (D.setIfInBounds k v) (wr.drew.setCell ⟨w.heap.size, k, none⟩ v) := by
  have l1 := h.lt1
  have l2 := h.lt2
  refine ⟨(h.bel.drew).setCell (Nat.le_refl _) _, by simpa [World.setCell] using h.sz, h.lt1, h.lt2, heap_setCell_same _ _ _ _ _ _ h.h0, ?_, ?_, ?_⟩
  · rw [heap_setCell_other _ _ _ _ (by show w.heap.size + 1 ≠ w.heap.size; omega)]; exact h.h1
  · rw [heap_setCell_other _ _ _ _ (by show b2 ≠ w.heap.size; omega)]; exact h.h2
  · rw [heap_setCell_other _ _ _ _ (by show b3 ≠ w.heap.size; omega)]; exact h.h3
theorem CompInv.drewN {w wr : World} {b2 b3 : Nat} {W : Nat → BitVec 32} {C D : Array Value} (h : CompInv w b2 b3 W C D wr) (n : Nat) : CompInv w b2 b3 W C D (wr.drewN n) :=
  ⟨below_drewN h.bel n, h.sz, h.lt1, h.lt2, h.h0, h.h1, h.h2, h.h3⟩
theorem CompInv.set8 {w wr : World} {b2 b3 : Nat} {W : Nat → BitVec 32} {D : Array Value} {c0 c1 c2 c3 c4 c5 c6 c7 : Value} (h : CompInv w b2 b3 W #[c0, c1, c2, c3, c4, c5, c6, c7] D wr) (v0 v1 v2 v3 v4 v5 v6 v7 : Value) :
    CompInv w b2 b3 W #[v0, v1, v2, v3, v4, v5, v6, v7] D ((((((((wr.setCell ⟨b3, 0, none⟩ v0).setCell ⟨b3, 1, none⟩ v1).setCell ⟨b3, 2, none⟩ v2).setCell ⟨b3, 3, none⟩ v3).setCell ⟨b3, 4, none⟩ v4).setCell ⟨b3, 5, none⟩ v5).setCell ⟨b3, 6, none⟩ v6).setCell ⟨b3, 7, none⟩ v7) := by
  have l1 := h.lt1
  have l2 := h.lt2
  refine ⟨set8_below _ _ _ _ _ _ _ _ _ _ _ _ (by omega) h.bel, by rw [set8_size]; exact h.sz, h.lt1, h.lt2, ?_, ?_, ?_, Go.Proofs.YtjnbhiamaabbgaaDoor.set8 _ _ _ _ _ _ _ _ _ _ _ _ _ _ _ _ _ _ _ h.h3⟩
  · rw [set8_other _ _ _ _ _ _ _ _ _ _ _ (by omega)]; exact h.h0
  · rw [set8_other _ _ _ _ _ _ _ _ _ _ _ (by omega)]; exact h.h1
  · rw [set8_other _ _ _ _ _ _ _ _ _ _ _ (by omega)]; exact h.h2
set_option maxHeartbeats 1000000 in
set_option maxRecDepth 20000 in
theorem compress_any (s : St) (l : List UInt8) (hl : l.length = 64) (w : World) (hT : Tab2 w) :
    Calls Tryd.prog 60 #[.agg #[.int .u32 (u s.a), .int .u32 (u s.b), .int .u32 (u s.c), .int .u32 (u s.d), .int .u32 (u s.e), .int .u32 (u s.f), .int .u32 (u s.g), .int .u32 (u s.h)], .string (st l)] w fun en w' => en = .returned (.agg #[.int .u32 (u (takeF s (Wf (bm l))).a), .int .u32 (u (takeF s (Wf (bm l))).b), .int .u32 (u (takeF s (Wf (bm l))).c), .int .u32 (u (takeF s (Wf (bm l))).d), .int .u32 (u (takeF s (Wf (bm l))).e), .int .u32 (u (takeF s (Wf (bm l))).f), .int .u32 (u (takeF s (Wf (bm l))).g), .int .u32 (u (takeF s (Wf (bm l))).h)]) ∧ Below w.heap.size w w' := by
  have HT : Hid (Tab2 w) := hT
  have hw1 := hT.pos
  clear hT
  go_enter Tryd.func60, Tryd.ntmps60
  go_wp2_with fail
  refine (words_any l hl _).mono ?_
  rintro en w1 ⟨rfl, hb1⟩
  have bx := (st_cells0 (w := w1) (s := s) ((hb1.block w.heap.size (by simp; omega)).trans (heap_alloc2_old _ _ _)))
  obtain ⟨x0, x1, x2, x3, x4, x5, x6, x7⟩ := bx
  have hz1 : w.heap.size + 1 < w1.heap.size := by have := hb1.size; simp at this; omega
  have hz0 : w.heap.size < w1.heap.size := by omega
  have hbw1 : Below w.heap.size w w1 := (((Below.refl _ _).alloc (Nat.le_refl _) _).alloc (by simp) _).trans (hb1.mono (by simp; omega))
  have hk0 : w1.heap[w.heap.size]? = some (.cells #[.int .u32 (u s.a), .int .u32 (u s.b), .int .u32 (u s.c), .int .u32 (u s.d), .int .u32 (u s.e), .int .u32 (u s.f), .int .u32 (u s.g), .int .u32 (u s.h)] 61 (0, 0)) := (hb1.block w.heap.size (by simp; omega)).trans (heap_alloc2_old _ _ _)
  have hk1 : w1.heap[w.heap.size + 1]? = some (.cells #[.int .u32 0, .int .u32 0, .int .u32 0, .int .u32 0, .int .u32 0, .int .u32 0, .int .u32 0, .int .u32 0] 61 (0, 0)) := (hb1.block (w.heap.size + 1) (by simp)).trans (heap_alloc2_new _ _ _)
  clear hb1
  obtain ⟨W, hW⟩ : ∃ W, Wf (bm l) = W := ⟨_, rfl⟩
  rw [hW]
  have HW : Hid (Wf (bm l) = W) := hW
  have HK0 : Hid (w1.heap[w.heap.size]? = some (.cells #[.int .u32 (u s.a), .int .u32 (u s.b), .int .u32 (u s.c), .int .u32 (u s.d), .int .u32 (u s.e), .int .u32 (u s.f), .int .u32 (u s.g), .int .u32 (u s.h)] 61 (0, 0))) := hk0
  have HK1 : Hid (w1.heap[w.heap.size + 1]? = some (.cells #[.int .u32 0, .int .u32 0, .int .u32 0, .int .u32 0, .int .u32 0, .int .u32 0, .int .u32 0, .int .u32 0] 61 (0, 0))) := hk1
  clear hW hk0 hk1
  have hi57 : (Tryd.prog.info? 64).map (·.size) = some (wv W).toArray.size := by rw [List.size_toArray, wv_len]; exact info57
  have h1c : (wv W).toArray.all (·.oneCell') = true := wv_one _
  have hz : z64.size = (wv W).toArray.size := by rw [z64_size, List.size_toArray, wv_len]
  go_wp2_with (refine wpList_store_row rfl 64 _ _ rfl w1.heap.size _ rfl rfl 64 z64 (heap_alloc_new _ _) hi57 hz h1c ?_; rw [World.setRow_alloc_new])
  go_loopw [7] (fun i wr => ∃ k : Nat, k ≤ 64 ∧ i = .int .i64 k ∧ CompInv w w1.heap.size (w1.heap.size + 1) W #[.int .u32 (u (rnd s W k).a), .int .u32 (u (rnd s W k).b), .int .u32 (u (rnd s W k).c), .int .u32 (u (rnd s W k).d), .int .u32 (u (rnd s W k).e), .int .u32 (u (rnd s W k).f), .int .u32 (u (rnd s W k).g), .int .u32 (u (rnd s W k).h)] #[.int .u32 (u s.a), .int .u32 (u s.b), .int .u32 (u s.c), .int .u32 (u s.d), .int .u32 (u s.e), .int .u32 (u s.f), .int .u32 (u s.g), .int .u32 (u s.h)] wr) (fun i _ => (64 - intOf i).toNat)
  case atStart => exact ⟨0, by omega, rfl, CompInv.start hbw1 hz1 HK0.out HK1.out⟩
  case round =>
    clear x0 x1 x2 x3 x4 x5 x6 x7 hi57 h1c hz
    obtain ⟨k, hk, rfl, inv⟩ := hrel
    have hsz := inv.sz
    by_cases hlt : k < 64
    · have i1 : (k : Int) < 64 := by omega
      have hKk : wr.cell? ⟨1, k, none⟩ = some (.int .u32 (u (Kc k))) := (inv.bel.cell (p := ⟨1, k, none⟩) hw1).trans (HT.out k hlt)
      have hWk : wr.cell? ⟨w1.heap.size, k, none⟩ = some (.int .u32 (u (W k))) := by rw [cell_of_row _ _ k _ _ _ inv.h2]; simpa using wv_at W k hlt
      obtain ⟨r, hr⟩ : ∃ r, rnd s W k = r := ⟨_, rfl⟩
      rw [hr] at inv
      have HR : Hid (rnd s W k = r) := hr
      obtain ⟨qc0, qf0, qc1, qf1, qc2, qf2, qc3, qf3, qc4, qf4, qc5, qf5, qc6, qf6, qc7, qf7⟩ := st_cells inv.h3
      clear hr
      go_wp2_with fail
      go_quiet ((first | (go_at_call_of 73 (Value.int IntKind.i64 6); exact Calls.quiet_of (rturn6 _ _)) | (go_at_call_of 73 (Value.int IntKind.i64 11); exact Calls.quiet_of (rturn11 _ _)) | (go_at_call_of 73 (Value.int IntKind.i64 25); exact Calls.quiet_of (rturn25 _ _))))
      go_wp2_with fail
      refine (rturn2 r.a _).mono ?_
      rintro en w2 ⟨rfl, n1, rfl⟩
      go_wp2_with fail
      refine (rturn13 r.a _).mono ?_
      rintro en w2 ⟨rfl, n2, rfl⟩
      go_wp2_with fail
      refine (rturn22 r.a _).mono ?_
      rintro en w2 ⟨rfl, n3, rfl⟩
      obtain ⟨wq, hwq⟩ : ∃ wq, (wr.drewN (nq + n1 + n2)).drewN n3 = wq := ⟨_, rfl⟩
      have invq : CompInv w w1.heap.size (w1.heap.size + 1) W #[.int .u32 (u r.a), .int .u32 (u r.b), .int .u32 (u r.c), .int .u32 (u r.d), .int .u32 (u r.e), .int .u32 (u r.f), .int .u32 (u r.g), .int .u32 (u r.h)] #[.int .u32 (u s.a), .int .u32 (u s.b), .int .u32 (u s.c), .int .u32 (u s.d), .int .u32 (u s.e), .int .u32 (u s.f), .int .u32 (u s.g), .int .u32 (u s.h)] wq := by rw [← hwq]; exact (inv.drewN _).drewN _
      rw [hwq]
      clear hwq inv hKk hWk qc0 qf0 qc1 qf1 qc2 qf2 qc3 qf3 qc4 qf4 qc5 qf5 qc6 qf6 qc7 qf7
      obtain ⟨qc0, qf0, qc1, qf1, qc2, qf2, qc3, qf3, qc4, qf4, qc5, qf5, qc6, qf6, qc7, qf7⟩ := st_cells invq.h3
      obtain ⟨t1, ht1⟩ : ∃ t1, r.h + (rr r.e 6 ^^^ rr r.e 11 ^^^ rr r.e 25) + (r.e &&& r.f ^^^ ~~~r.e &&& r.g) + Kc k + W k = t1 := ⟨_, rfl⟩
      rw [ht1]
      have inv1 : CompInv w w1.heap.size (w1.heap.size + 1) W #[.int .u32 (u (rnd s W (k + 1)).a), .int .u32 (u (rnd s W (k + 1)).b), .int .u32 (u (rnd s W (k + 1)).c), .int .u32 (u (rnd s W (k + 1)).d), .int .u32 (u (rnd s W (k + 1)).e), .int .u32 (u (rnd s W (k + 1)).f), .int .u32 (u (rnd s W (k + 1)).g), .int .u32 (u (rnd s W (k + 1)).h)] #[.int .u32 (u s.a), .int .u32 (u s.b), .int .u32 (u s.c), .int .u32 (u s.d), .int .u32 (u s.e), .int .u32 (u s.f), .int .u32 (u s.g), .int .u32 (u s.h)] ((((((((wq.setCell ⟨w1.heap.size + 1, 0, none⟩ (.int .u32 (u (t1 + ((rr r.a 2 ^^^ rr r.a 13 ^^^ rr r.a 22) + (r.a &&& r.b ^^^ r.a &&& r.c ^^^ r.b &&& r.c)))))).setCell ⟨w1.heap.size + 1, 1, none⟩ (.int .u32 (u r.a))).setCell ⟨w1.heap.size + 1, 2, none⟩ (.int .u32 (u r.b))).setCell ⟨w1.heap.size + 1, 3, none⟩ (.int .u32 (u r.c))).setCell ⟨w1.heap.size + 1, 4, none⟩ (.int .u32 (u (r.d + t1)))).setCell ⟨w1.heap.size + 1, 5, none⟩ (.int .u32 (u r.e))).setCell ⟨w1.heap.size + 1, 6, none⟩ (.int .u32 (u r.f))).setCell ⟨w1.heap.size + 1, 7, none⟩ (.int .u32 (u r.g))) := by
        have e : #[.int .u32 (u (rnd s W (k + 1)).a), .int .u32 (u (rnd s W (k + 1)).b), .int .u32 (u (rnd s W (k + 1)).c), .int .u32 (u (rnd s W (k + 1)).d), .int .u32 (u (rnd s W (k + 1)).e), .int .u32 (u (rnd s W (k + 1)).f), .int .u32 (u (rnd s W (k + 1)).g), .int .u32 (u (rnd s W (k + 1)).h)] = (#[.int .u32 (u (t1 + ((rr r.a 2 ^^^ rr r.a 13 ^^^ rr r.a 22) + (r.a &&& r.b ^^^ r.a &&& r.c ^^^ r.b &&& r.c)))), .int .u32 (u r.a), .int .u32 (u r.b), .int .u32 (u r.c), .int .u32 (u (r.d + t1)), .int .u32 (u r.e), .int .u32 (u r.f), .int .u32 (u r.g)] : Array Value) := by
          have e1 : T1 r.e r.f r.g r.h (Kc k + W k) = t1 := by rw [← ht1]; unfold T1 bS1 ch; ac_rfl
          show _ = _
          simp only [rnd, turnF, HR.out, e1, T2, bS0, maj]
        rw [e]
        exact invq.set8 _ _ _ _ _ _ _ _
      clear ht1 invq
      go_wp2_with fail
      go_roundw
      case rel => exact ⟨k + 1, by omega, by go_num, inv1⟩
      case measure => simp [intOf]; omega
    · obtain rfl : k = 64 := by omega
      clear hk hlt
      go_wp2
      go_loopw [14] (fun i w2 => ∃ (k : Nat) (D : Array Value), k ≤ 8 ∧ i = .int .i64 k ∧ CompInv w w1.heap.size (w1.heap.size + 1) W #[.int .u32 (u (rnd s W 64).a), .int .u32 (u (rnd s W 64).b), .int .u32 (u (rnd s W 64).c), .int .u32 (u (rnd s W 64).d), .int .u32 (u (rnd s W 64).e), .int .u32 (u (rnd s W 64).f), .int .u32 (u (rnd s W 64).g), .int .u32 (u (rnd s W 64).h)] D w2 ∧ D.size = 8 ∧ ∀ i, i < 8 → D[i]? = some (.int .u32 (u (if i < k then at8 (rnd s W 64) i + at8 s i else at8 s i)))) (fun i _ => (8 - intOf i).toNat)
      case atStart =>
        exact ⟨0, _, by omega, rfl, inv, rfl, fun i hi => by rw [if_neg (by omega)]; exact stv_at _ i hi⟩
      case round =>
        clear inv
        obtain ⟨k, D, hk, rfl, inv2, hDs, hD⟩ := hrel
        have hsz2 := inv2.sz
        by_cases hlt : k < 8
        · have h1 : wr.cell? ⟨w.heap.size, k, none⟩ = some (.int .u32 (u (at8 s k))) := by rw [cell_of_row _ _ k _ _ _ inv2.h0, hD k hlt, if_neg (by omega)]
          have h2 : wr.cell? ⟨w1.heap.size + 1, k, none⟩ = some (.int .u32 (u (at8 (rnd s W 64) k))) := by rw [cell_of_row _ _ k _ _ _ inv2.h3, stv_at _ k hlt]
          have h3 : wr.frozen? ⟨w.heap.size, k, none⟩ = false := frozen_of_row _ _ _ _ _ inv2.h0
          have hcm : at8 (rnd s W 64) k + at8 s k = at8 s k + at8 (rnd s W 64) k := BitVec.add_comm _ _
          have inv3 : CompInv w w1.heap.size (w1.heap.size + 1) W #[.int .u32 (u (rnd s W 64).a), .int .u32 (u (rnd s W 64).b), .int .u32 (u (rnd s W 64).c), .int .u32 (u (rnd s W 64).d), .int .u32 (u (rnd s W 64).e), .int .u32 (u (rnd s W 64).f), .int .u32 (u (rnd s W 64).g), .int .u32 (u (rnd s W 64).h)] (D.setIfInBounds k (.int .u32 (u (at8 s k + at8 (rnd s W 64) k)))) (wr.drew.setCell ⟨w.heap.size, k, none⟩ (.int .u32 (u (at8 s k + at8 (rnd s W 64) k)))) := inv2.put k _
          have hD' : Hid (∀ i, i < 8 → (D.setIfInBounds k (.int .u32 (u (at8 s k + at8 (rnd s W 64) k))))[i]? = some (.int .u32 (u (if i < k + 1 then at8 (rnd s W 64) i + at8 s i else at8 s i)))) := by
            intro i hi
            rw [Array.getElem?_setIfInBounds]
            by_cases e : k = i
            · subst e; rw [if_pos rfl, if_pos (by omega), if_pos (by omega), hcm]
            · rw [if_neg e, hD i hi]
              by_cases e2 : i < k
              · rw [if_pos e2, if_pos (by omega)]
              · rw [if_neg e2, if_neg (by omega)]
          clear hD hcm
          go_wp2
          go_still_tail 9, (by kernel_rfl)
          go_wp2
          go_roundw
          case rel => (repeat apply Exists.intro); exact ⟨⟨k + 1, _, by omega, by go_num, inv3, by simpa using hDs, hD'.out⟩, rfl⟩
          case measure => simp [intOf]; omega
        · obtain rfl : k = 8 := by omega
          have hDe : D = #[.int .u32 (u (takeF s W).a), .int .u32 (u (takeF s W).b), .int .u32 (u (takeF s W).c), .int .u32 (u (takeF s W).d), .int .u32 (u (takeF s W).e), .int .u32 (u (takeF s W).f), .int .u32 (u (takeF s W).g), .int .u32 (u (takeF s W).h)] := stv_of hDs (fun i hi => by rw [hD i hi, if_pos hi])
          subst hDe
          obtain ⟨gc0, gf0, gc1, gf1, gc2, gf2, gc3, gf3, gc4, gf4, gc5, gf5, gc6, gf6, gc7, gf7⟩ := st_cells inv2.h0
          have z0 : wr.cell? ⟨w.heap.size + 1, 0, none⟩ = some (.int .u32 0) := by rw [cell_of_row _ _ 0 _ _ _ inv2.h1]; rfl
          have f0 : wr.frozen? ⟨w.heap.size + 1, 0, none⟩ = false := frozen_of_row _ _ _ _ _ inv2.h1
          have z1 : wr.cell? ⟨w.heap.size + 1, 1, none⟩ = some (.int .u32 0) := by rw [cell_of_row _ _ 1 _ _ _ inv2.h1]; rfl
          have f1 : wr.frozen? ⟨w.heap.size + 1, 1, none⟩ = false := frozen_of_row _ _ _ _ _ inv2.h1
          have z2 : wr.cell? ⟨w.heap.size + 1, 2, none⟩ = some (.int .u32 0) := by rw [cell_of_row _ _ 2 _ _ _ inv2.h1]; rfl
          have f2 : wr.frozen? ⟨w.heap.size + 1, 2, none⟩ = false := frozen_of_row _ _ _ _ _ inv2.h1
          have z3 : wr.cell? ⟨w.heap.size + 1, 3, none⟩ = some (.int .u32 0) := by rw [cell_of_row _ _ 3 _ _ _ inv2.h1]; rfl
          have f3 : wr.frozen? ⟨w.heap.size + 1, 3, none⟩ = false := frozen_of_row _ _ _ _ _ inv2.h1
          have z4 : wr.cell? ⟨w.heap.size + 1, 4, none⟩ = some (.int .u32 0) := by rw [cell_of_row _ _ 4 _ _ _ inv2.h1]; rfl
          have f4 : wr.frozen? ⟨w.heap.size + 1, 4, none⟩ = false := frozen_of_row _ _ _ _ _ inv2.h1
          have z5 : wr.cell? ⟨w.heap.size + 1, 5, none⟩ = some (.int .u32 0) := by rw [cell_of_row _ _ 5 _ _ _ inv2.h1]; rfl
          have f5 : wr.frozen? ⟨w.heap.size + 1, 5, none⟩ = false := frozen_of_row _ _ _ _ _ inv2.h1
          have z6 : wr.cell? ⟨w.heap.size + 1, 6, none⟩ = some (.int .u32 0) := by rw [cell_of_row _ _ 6 _ _ _ inv2.h1]; rfl
          have f6 : wr.frozen? ⟨w.heap.size + 1, 6, none⟩ = false := frozen_of_row _ _ _ _ _ inv2.h1
          have z7 : wr.cell? ⟨w.heap.size + 1, 7, none⟩ = some (.int .u32 0) := by rw [cell_of_row _ _ 7 _ _ _ inv2.h1]; rfl
          have f7 : wr.frozen? ⟨w.heap.size + 1, 7, none⟩ = false := frozen_of_row _ _ _ _ _ inv2.h1
          have HB : Hid (Below w.heap.size w wr) := inv2.bel
          clear hD hk hlt inv2
          go_wp2
          refine bodyPost_ret (v := .agg #[.int .u32 (u (takeF s W).a), .int .u32 (u (takeF s W).b), .int .u32 (u (takeF s W).c), .int .u32 (u (takeF s W).d), .int .u32 (u (takeF s W).e), .int .u32 (u (takeF s W).f), .int .u32 (u (takeF s W).g), .int .u32 (u (takeF s W).h)]) ?_ rfl ⟨by rw [HW.out], ?_⟩
          · simp [results, Tryd.results60, go_sem, *]
          · exact set8_below _ _ _ _ _ _ _ _ _ _ _ _ (by omega) HB.out
end Go.Proofs.YtjnbhiamaabbgaaDoor
