/-
  prim.takeIn: the rounds over one block's words.
-/
import Derived.Test.YtjnbhiamaabbgaaDoorTurn
import Derived.StillTailTactics
import Derived.Deep.WholeRow
namespace Go.Proofs.YtjnbhiamaabbgaaDoor
open Go.RowKit
attribute [local go_sem] u_xor u_and u_or u_add u_not
/-- The words as an array's values. -/
def wv (W : Nat → BitVec 32) : List Value := (List.range 64).map fun i => .int .u32 (u (W i))
theorem wv_len (W : Nat → BitVec 32) : (wv W).length = 64 := by simp [wv]
theorem wv_at (W : Nat → BitVec 32) (i : Nat) (h : i < 64) : (wv W)[i]? = some (.int .u32 (u (W i))) := by simp [wv, h]
/-- The state's word number i. -/
def at8 (s : St) (i : Nat) : BitVec 32 := [s.a, s.b, s.c, s.d, s.e, s.f, s.g, s.h].getD i 0
theorem stv_at (s : St) (i : Nat) (h : i < 8) : (#[.int .u32 (u s.a), .int .u32 (u s.b), .int .u32 (u s.c), .int .u32 (u s.d), .int .u32 (u s.e), .int .u32 (u s.f), .int .u32 (u s.g), .int .u32 (u s.h)] : Array Value)[i]? = some (.int .u32 (u (at8 s i))) := by
  match i, h with
  | 0, _ => rfl
  | 1, _ => rfl
  | 2, _ => rfl
  | 3, _ => rfl
  | 4, _ => rfl
  | 5, _ => rfl
  | 6, _ => rfl
  | 7, _ => rfl
  | n + 8, h => omega
theorem stv_of {C : Array Value} {r s : St} (hs : C.size = 8) (h : ∀ i, i < 8 → C[i]? = some (.int .u32 (u (at8 r i + at8 s i)))) : C = #[.int .u32 (u (addSt r s).a), .int .u32 (u (addSt r s).b), .int .u32 (u (addSt r s).c), .int .u32 (u (addSt r s).d), .int .u32 (u (addSt r s).e), .int .u32 (u (addSt r s).f), .int .u32 (u (addSt r s).g), .int .u32 (u (addSt r s).h)] := by
  apply Array.ext_getElem?
  intro i
  by_cases hi : i < 8
  · rw [h i hi, stv_at _ i hi]
    match i, hi with
    | 0, _ => rfl
    | 1, _ => rfl
    | 2, _ => rfl
    | 3, _ => rfl
    | 4, _ => rfl
    | 5, _ => rfl
    | 6, _ => rfl
    | 7, _ => rfl
    | n + 8, h => omega
  · rw [Array.getElem?_eq_none (by omega), Array.getElem?_eq_none (by simp; omega)]
theorem set8 (w : World) (g : Nat) (t : TypeId) (c0 c1 c2 c3 c4 c5 c6 c7 v0 v1 v2 v3 v4 v5 v6 v7 : Value) (hg : w.heap[g]? = some (.cells #[c0, c1, c2, c3, c4, c5, c6, c7] t (0, 0))) :
    ((((((((w.setCell ⟨g, 0, none⟩ v0).setCell ⟨g, 1, none⟩ v1).setCell ⟨g, 2, none⟩ v2).setCell ⟨g, 3, none⟩ v3).setCell ⟨g, 4, none⟩ v4).setCell ⟨g, 5, none⟩ v5).setCell ⟨g, 6, none⟩ v6).setCell ⟨g, 7, none⟩ v7).heap[g]? = some (.cells #[v0, v1, v2, v3, v4, v5, v6, v7] t (0, 0)) := by
  have h0 := heap_setCell_same w g 0 _ t v0 hg
  have h1 := heap_setCell_same _ g 1 _ t v1 h0
  have h2 := heap_setCell_same _ g 2 _ t v2 h1
  have h3 := heap_setCell_same _ g 3 _ t v3 h2
  have h4 := heap_setCell_same _ g 4 _ t v4 h3
  have h5 := heap_setCell_same _ g 5 _ t v5 h4
  have h6 := heap_setCell_same _ g 6 _ t v6 h5
  have h7 := heap_setCell_same _ g 7 _ t v7 h6
  rw [h7]; simp
theorem set8_other (w : World) (g k : Nat) (v0 v1 v2 v3 v4 v5 v6 v7 : Value) (hk : k ≠ g) : ((((((((w.setCell ⟨g, 0, none⟩ v0).setCell ⟨g, 1, none⟩ v1).setCell ⟨g, 2, none⟩ v2).setCell ⟨g, 3, none⟩ v3).setCell ⟨g, 4, none⟩ v4).setCell ⟨g, 5, none⟩ v5).setCell ⟨g, 6, none⟩ v6).setCell ⟨g, 7, none⟩ v7).heap[k]? = w.heap[k]? := by
  rw [heap_setCell_other _ _ _ _ (by exact hk), heap_setCell_other _ _ _ _ (by exact hk), heap_setCell_other _ _ _ _ (by exact hk), heap_setCell_other _ _ _ _ (by exact hk), heap_setCell_other _ _ _ _ (by exact hk), heap_setCell_other _ _ _ _ (by exact hk), heap_setCell_other _ _ _ _ (by exact hk), heap_setCell_other _ _ _ _ (by exact hk)]
theorem set8_below (B : Nat) (w0 w : World) (g : Nat) (v0 v1 v2 v3 v4 v5 v6 v7 : Value) (hg : B ≤ g) (h : Below B w0 w) : Below B w0 ((((((((w.setCell ⟨g, 0, none⟩ v0).setCell ⟨g, 1, none⟩ v1).setCell ⟨g, 2, none⟩ v2).setCell ⟨g, 3, none⟩ v3).setCell ⟨g, 4, none⟩ v4).setCell ⟨g, 5, none⟩ v5).setCell ⟨g, 6, none⟩ v6).setCell ⟨g, 7, none⟩ v7) := by
  iterate 8 refine Below.setCell ?_ hg _
  exact h
theorem set8_size (w : World) (g : Nat) (v0 v1 v2 v3 v4 v5 v6 v7 : Value) : ((((((((w.setCell ⟨g, 0, none⟩ v0).setCell ⟨g, 1, none⟩ v1).setCell ⟨g, 2, none⟩ v2).setCell ⟨g, 3, none⟩ v3).setCell ⟨g, 4, none⟩ v4).setCell ⟨g, 5, none⟩ v5).setCell ⟨g, 6, none⟩ v6).setCell ⟨g, 7, none⟩ v7).heap.size = w.heap.size := by
  simp [World.setCell]
/-- What holds of the blocks that takeIn makes, behind k rounds. -/
structure TakeInv (s : St) (W : Nat → BitVec 32) (w : World) (C : Array Value) (wr : World) : Prop where
  bel : Below w.heap.size w wr
  sz : w.heap.size + 1 + 1 + 1 < wr.heap.size
  b0 : wr.heap[w.heap.size]? = some (.cells #[.int .u32 (u s.a), .int .u32 (u s.b), .int .u32 (u s.c), .int .u32 (u s.d), .int .u32 (u s.e), .int .u32 (u s.f), .int .u32 (u s.g), .int .u32 (u s.h)] 61 (0, 0))
  b1 : wr.heap[w.heap.size + 1]? = some (.cells (wv W).toArray 64 (0, 0))
  b2 : wr.heap[w.heap.size + 1 + 1]? = some (.cells #[.int .u32 0, .int .u32 0, .int .u32 0, .int .u32 0, .int .u32 0, .int .u32 0, .int .u32 0, .int .u32 0] 61 (0, 0))
  b3 : wr.heap[w.heap.size + 1 + 1 + 1]? = some (.cells C 61 (0, 0))
theorem TakeInv.start (s : St) (W : Nat → BitVec 32) (w : World) : TakeInv s W w #[.int .u32 (u s.a), .int .u32 (u s.b), .int .u32 (u s.c), .int .u32 (u s.d), .int .u32 (u s.e), .int .u32 (u s.f), .int .u32 (u s.g), .int .u32 (u s.h)] ((((w.alloc (.cells #[.int .u32 (u s.a), .int .u32 (u s.b), .int .u32 (u s.c), .int .u32 (u s.d), .int .u32 (u s.e), .int .u32 (u s.f), .int .u32 (u s.g), .int .u32 (u s.h)] 61)).alloc (.cells (wv W).toArray 64)).alloc (.cells #[.int .u32 0, .int .u32 0, .int .u32 0, .int .u32 0, .int .u32 0, .int .u32 0, .int .u32 0, .int .u32 0] 61)).alloc (.cells #[.int .u32 (u s.a), .int .u32 (u s.b), .int .u32 (u s.c), .int .u32 (u s.d), .int .u32 (u s.e), .int .u32 (u s.f), .int .u32 (u s.g), .int .u32 (u s.h)] 61)) := by
  refine ⟨?_, ?_, ?_, ?_, ?_, ?_⟩
  · exact ((((Below.refl _ _).alloc (Nat.le_refl _) _).alloc (by simp) _).alloc (by simp; omega) _).alloc (by simp; omega) _
  · simp
  all_goals (show ((((w.heap.push _).push _).push _).push _)[_]? = _)
  all_goals (simp only [Array.getElem?_push, Array.size_push])
  · rw [if_neg (by omega), if_neg (by omega), if_neg (by omega), if_pos trivial]
  · rw [if_neg (by omega), if_neg (by omega), if_pos trivial]
  · rw [if_neg (by omega), if_pos trivial]
  · rw [if_pos trivial]
set_option maxHeartbeats 1000000 in
set_option maxRecDepth 20000 in
theorem takeIn_any (s : St) (W : Nat → BitVec 32) (w : World) (hK : ∀ i, i < 64 → w.cell? ⟨0, i, none⟩ = some (.int .u32 (u (Kc i)))) :
    Calls Tryd.prog 35 #[.agg #[.int .u32 (u s.a), .int .u32 (u s.b), .int .u32 (u s.c), .int .u32 (u s.d), .int .u32 (u s.e), .int .u32 (u s.f), .int .u32 (u s.g), .int .u32 (u s.h)], .agg (wv W).toArray] w fun en w' => en = .returned (.agg #[.int .u32 (u (takeF s W).a), .int .u32 (u (takeF s W).b), .int .u32 (u (takeF s W).c), .int .u32 (u (takeF s W).d), .int .u32 (u (takeF s W).e), .int .u32 (u (takeF s W).f), .int .u32 (u (takeF s W).g), .int .u32 (u (takeF s W).h)]) ∧ Below w.heap.size w w' := by
  have hw0 : 0 < w.heap.size := block_lt_of_cell (hK 0 (by decide))
  have HK : Hid (∀ i, i < 64 → w.cell? ⟨0, i, none⟩ = some (.int .u32 (u (Kc i)))) := hK
  clear hK
  go_enter Tryd.func35, Tryd.ntmps35
  go_wp2
  go_loopw [9] (fun i wr => ∃ k : Nat, k ≤ 64 ∧ i = .int .i64 k ∧ TakeInv s W w #[.int .u32 (u (rnd s W k).a), .int .u32 (u (rnd s W k).b), .int .u32 (u (rnd s W k).c), .int .u32 (u (rnd s W k).d), .int .u32 (u (rnd s W k).e), .int .u32 (u (rnd s W k).f), .int .u32 (u (rnd s W k).g), .int .u32 (u (rnd s W k).h)] wr) (fun i _ => (64 - intOf i).toNat)
  case atStart =>
    exact ⟨0, by omega, rfl, TakeInv.start s W w⟩
  case round =>
    obtain ⟨k, hk, rfl, inv⟩ := hrel
    have hsz := inv.sz
    by_cases hlt : k < 64
    · have hKk : wr.cell? ⟨0, k, none⟩ = some (.int .u32 (u (Kc k))) := (inv.bel.cell (p := ⟨0, k, none⟩) hw0).trans (HK.out k hlt)
      have hWk : wr.cell? ⟨w.heap.size + 1, k, none⟩ = some (.int .u32 (u (W k))) := by rw [cell_of_row _ _ k _ _ _ inv.b1]; simpa using wv_at W k hlt
      have hs0 : wr.cell? ⟨w.heap.size + 1 + 1 + 1, 0, none⟩ = some (.int .u32 (u (rnd s W k).a)) := by rw [cell_of_row _ _ 0 _ _ _ inv.b3]; rfl
      have hs1 : wr.cell? ⟨w.heap.size + 1 + 1 + 1, 1, none⟩ = some (.int .u32 (u (rnd s W k).b)) := by rw [cell_of_row _ _ 1 _ _ _ inv.b3]; rfl
      have hs2 : wr.cell? ⟨w.heap.size + 1 + 1 + 1, 2, none⟩ = some (.int .u32 (u (rnd s W k).c)) := by rw [cell_of_row _ _ 2 _ _ _ inv.b3]; rfl
      have hs3 : wr.cell? ⟨w.heap.size + 1 + 1 + 1, 3, none⟩ = some (.int .u32 (u (rnd s W k).d)) := by rw [cell_of_row _ _ 3 _ _ _ inv.b3]; rfl
      have hs4 : wr.cell? ⟨w.heap.size + 1 + 1 + 1, 4, none⟩ = some (.int .u32 (u (rnd s W k).e)) := by rw [cell_of_row _ _ 4 _ _ _ inv.b3]; rfl
      have hs5 : wr.cell? ⟨w.heap.size + 1 + 1 + 1, 5, none⟩ = some (.int .u32 (u (rnd s W k).f)) := by rw [cell_of_row _ _ 5 _ _ _ inv.b3]; rfl
      have hs6 : wr.cell? ⟨w.heap.size + 1 + 1 + 1, 6, none⟩ = some (.int .u32 (u (rnd s W k).g)) := by rw [cell_of_row _ _ 6 _ _ _ inv.b3]; rfl
      have hs7 : wr.cell? ⟨w.heap.size + 1 + 1 + 1, 7, none⟩ = some (.int .u32 (u (rnd s W k).h)) := by rw [cell_of_row _ _ 7 _ _ _ inv.b3]; rfl
      go_wp2
      go_still_tail 8, (by kernel_rfl)
      go_wp2_with fail
      refine (turn_any _ _ _ _ _ _ _ _ _ _).mono ?_
      rintro en w1 ⟨rfl, hb⟩
      have e3 : w1.heap[w.heap.size + 1 + 1 + 1]? = some (.cells #[.int .u32 (u (rnd s W k).a), .int .u32 (u (rnd s W k).b), .int .u32 (u (rnd s W k).c), .int .u32 (u (rnd s W k).d), .int .u32 (u (rnd s W k).e), .int .u32 (u (rnd s W k).f), .int .u32 (u (rnd s W k).g), .int .u32 (u (rnd s W k).h)] 61 (0, 0)) := (hb.block _ (by exact inv.sz)).trans inv.b3
      clear hKk hWk hs0 hs1 hs2 hs3 hs4 hs5 hs6 hs7
      have hs0 : w1.cell? ⟨w.heap.size + 1 + 1 + 1, 0, none⟩ = some (.int .u32 (u (rnd s W k).a)) := by rw [cell_of_row _ _ 0 _ _ _ e3]; rfl
      have hf0 : w1.frozen? ⟨w.heap.size + 1 + 1 + 1, 0, none⟩ = false := frozen_of_row _ _ _ _ _ e3
      have hs1 : w1.cell? ⟨w.heap.size + 1 + 1 + 1, 1, none⟩ = some (.int .u32 (u (rnd s W k).b)) := by rw [cell_of_row _ _ 1 _ _ _ e3]; rfl
      have hf1 : w1.frozen? ⟨w.heap.size + 1 + 1 + 1, 1, none⟩ = false := frozen_of_row _ _ _ _ _ e3
      have hs2 : w1.cell? ⟨w.heap.size + 1 + 1 + 1, 2, none⟩ = some (.int .u32 (u (rnd s W k).c)) := by rw [cell_of_row _ _ 2 _ _ _ e3]; rfl
      have hf2 : w1.frozen? ⟨w.heap.size + 1 + 1 + 1, 2, none⟩ = false := frozen_of_row _ _ _ _ _ e3
      have hs3 : w1.cell? ⟨w.heap.size + 1 + 1 + 1, 3, none⟩ = some (.int .u32 (u (rnd s W k).d)) := by rw [cell_of_row _ _ 3 _ _ _ e3]; rfl
      have hf3 : w1.frozen? ⟨w.heap.size + 1 + 1 + 1, 3, none⟩ = false := frozen_of_row _ _ _ _ _ e3
      have hs4 : w1.cell? ⟨w.heap.size + 1 + 1 + 1, 4, none⟩ = some (.int .u32 (u (rnd s W k).e)) := by rw [cell_of_row _ _ 4 _ _ _ e3]; rfl
      have hf4 : w1.frozen? ⟨w.heap.size + 1 + 1 + 1, 4, none⟩ = false := frozen_of_row _ _ _ _ _ e3
      have hs5 : w1.cell? ⟨w.heap.size + 1 + 1 + 1, 5, none⟩ = some (.int .u32 (u (rnd s W k).f)) := by rw [cell_of_row _ _ 5 _ _ _ e3]; rfl
      have hf5 : w1.frozen? ⟨w.heap.size + 1 + 1 + 1, 5, none⟩ = false := frozen_of_row _ _ _ _ _ e3
      have hs6 : w1.cell? ⟨w.heap.size + 1 + 1 + 1, 6, none⟩ = some (.int .u32 (u (rnd s W k).g)) := by rw [cell_of_row _ _ 6 _ _ _ e3]; rfl
      have hf6 : w1.frozen? ⟨w.heap.size + 1 + 1 + 1, 6, none⟩ = false := frozen_of_row _ _ _ _ _ e3
      have hs7 : w1.cell? ⟨w.heap.size + 1 + 1 + 1, 7, none⟩ = some (.int .u32 (u (rnd s W k).h)) := by rw [cell_of_row _ _ 7 _ _ _ e3]; rfl
      have hf7 : w1.frozen? ⟨w.heap.size + 1 + 1 + 1, 7, none⟩ = false := frozen_of_row _ _ _ _ _ e3
      have hz1 : w.heap.size + 1 + 1 + 1 < w1.heap.size := Nat.lt_of_lt_of_le inv.sz hb.size
      have hbel1 : Below w.heap.size w w1 := (inv.bel.drew).trans (hb.mono inv.bel.size)
      have inv1 : TakeInv s W w #[.int .u32 (u (rnd s W (k + 1)).a), .int .u32 (u (rnd s W (k + 1)).b), .int .u32 (u (rnd s W (k + 1)).c), .int .u32 (u (rnd s W (k + 1)).d), .int .u32 (u (rnd s W (k + 1)).e), .int .u32 (u (rnd s W (k + 1)).f), .int .u32 (u (rnd s W (k + 1)).g), .int .u32 (u (rnd s W (k + 1)).h)] ((((((((w1.setCell ⟨w.heap.size + 1 + 1 + 1, 0, none⟩ (.int .u32 (u (T1 (rnd s W k).e (rnd s W k).f (rnd s W k).g (rnd s W k).h (Kc k + W k) + T2 (rnd s W k).a (rnd s W k).b (rnd s W k).c)))).setCell ⟨w.heap.size + 1 + 1 + 1, 1, none⟩ (.int .u32 (u (rnd s W k).a))).setCell ⟨w.heap.size + 1 + 1 + 1, 2, none⟩ (.int .u32 (u (rnd s W k).b))).setCell ⟨w.heap.size + 1 + 1 + 1, 3, none⟩ (.int .u32 (u (rnd s W k).c))).setCell ⟨w.heap.size + 1 + 1 + 1, 4, none⟩ (.int .u32 (u ((rnd s W k).d + T1 (rnd s W k).e (rnd s W k).f (rnd s W k).g (rnd s W k).h (Kc k + W k))))).setCell ⟨w.heap.size + 1 + 1 + 1, 5, none⟩ (.int .u32 (u (rnd s W k).e))).setCell ⟨w.heap.size + 1 + 1 + 1, 6, none⟩ (.int .u32 (u (rnd s W k).f))).setCell ⟨w.heap.size + 1 + 1 + 1, 7, none⟩ (.int .u32 (u (rnd s W k).g))) := by
        refine ⟨set8_below _ _ _ _ _ _ _ _ _ _ _ _ (by omega) hbel1, by rw [set8_size]; exact hz1, ?_, ?_, ?_, set8 _ _ _ _ _ _ _ _ _ _ _ _ _ _ _ _ _ _ _ e3⟩
        · rw [set8_other _ _ _ _ _ _ _ _ _ _ _ (by omega)]; exact (hb.block _ (by show w.heap.size < wr.heap.size; omega)).trans inv.b0
        · rw [set8_other _ _ _ _ _ _ _ _ _ _ _ (by omega)]; exact (hb.block _ (by show w.heap.size + 1 < wr.heap.size; omega)).trans inv.b1
        · rw [set8_other _ _ _ _ _ _ _ _ _ _ _ (by omega)]; exact (hb.block _ (by show w.heap.size + 1 + 1 < wr.heap.size; omega)).trans inv.b2
      clear e3 hb hbel1
      go_wp2
      go_roundw
      case rel => exact ⟨k + 1, by omega, by go_num, inv1⟩
      case measure => simp [intOf]; omega
    · obtain rfl : k = 64 := by omega
      clear hk hlt
      go_wp2
      go_loopw [22] (fun i w2 => ∃ (k : Nat) (C : Array Value), k ≤ 8 ∧ i = .int .i64 k ∧ TakeInv s W w C w2 ∧ C.size = 8 ∧ ∀ i, i < 8 → C[i]? = some (.int .u32 (u (if i < k then at8 (rnd s W 64) i + at8 s i else at8 (rnd s W 64) i)))) (fun i _ => (8 - intOf i).toNat)
      case atStart =>
        exact ⟨0, _, by omega, rfl, inv, rfl, fun i hi => by rw [if_neg (by omega)]; exact stv_at _ i hi⟩
      case round =>
        obtain ⟨k, C, hk, rfl, inv2, hCs, hC⟩ := hrel
        have hsz2 := inv2.sz
        by_cases hlt : k < 8
        · have h1 : wr.cell? ⟨w.heap.size + 1 + 1 + 1, k, none⟩ = some (.int .u32 (u (at8 (rnd s W 64) k))) := by rw [cell_of_row _ _ k _ _ _ inv2.b3, hC k hlt, if_neg (by omega)]
          have h2 : wr.cell? ⟨w.heap.size, k, none⟩ = some (.int .u32 (u (at8 s k))) := by rw [cell_of_row _ _ k _ _ _ inv2.b0, stv_at s k hlt]
          have h3 : wr.frozen? ⟨w.heap.size + 1 + 1 + 1, k, none⟩ = false := frozen_of_row _ _ _ _ _ inv2.b3
          have inv3 : TakeInv s W w (C.setIfInBounds k (.int .u32 (u (at8 (rnd s W 64) k + at8 s k)))) (wr.drew.setCell ⟨w.heap.size + 1 + 1 + 1, k, none⟩ (.int .u32 (u (at8 (rnd s W 64) k + at8 s k)))) := by
            refine ⟨(inv2.bel.drew).setCell (by show w.heap.size ≤ w.heap.size + 1 + 1 + 1; omega) _, by simpa [World.setCell] using inv2.sz, ?_, ?_, ?_, heap_setCell_same _ _ _ _ _ _ inv2.b3⟩
            · rw [heap_setCell_other _ _ _ _ (by show w.heap.size ≠ w.heap.size + 1 + 1 + 1; omega)]; exact inv2.b0
            · rw [heap_setCell_other _ _ _ _ (by show w.heap.size + 1 ≠ w.heap.size + 1 + 1 + 1; omega)]; exact inv2.b1
            · rw [heap_setCell_other _ _ _ _ (by show w.heap.size + 1 + 1 ≠ w.heap.size + 1 + 1 + 1; omega)]; exact inv2.b2
          have hC' : Hid (∀ i, i < 8 → (C.setIfInBounds k (.int .u32 (u (at8 (rnd s W 64) k + at8 s k))))[i]? = some (.int .u32 (u (if i < k + 1 then at8 (rnd s W 64) i + at8 s i else at8 (rnd s W 64) i)))) := by
            intro i hi
            rw [Array.getElem?_setIfInBounds]
            by_cases e : k = i
            · subst e; rw [if_pos rfl, if_pos (by omega), if_pos (by omega)]
            · rw [if_neg e, hC i hi]
              by_cases e2 : i < k
              · rw [if_pos e2, if_pos (by omega)]
              · rw [if_neg e2, if_neg (by omega)]
          clear hC
          go_wp2
          go_still_tail 8, (by kernel_rfl)
          go_wp2
          go_roundw
          case rel => (repeat apply Exists.intro); exact ⟨⟨k + 1, _, by omega, by go_num, inv3, by simpa using hCs, hC'.out⟩, rfl⟩
          case measure => simp [intOf]; omega
        · obtain rfl : k = 8 := by omega
          have hCe : C = #[.int .u32 (u (takeF s W).a), .int .u32 (u (takeF s W).b), .int .u32 (u (takeF s W).c), .int .u32 (u (takeF s W).d), .int .u32 (u (takeF s W).e), .int .u32 (u (takeF s W).f), .int .u32 (u (takeF s W).g), .int .u32 (u (takeF s W).h)] := stv_of hCs (fun i hi => by rw [hC i hi, if_pos hi])
          subst hCe
          have g0 : wr.cell? ⟨w.heap.size + 1 + 1 + 1, 0, none⟩ = some (.int .u32 (u (takeF s W).a)) := by rw [cell_of_row _ _ 0 _ _ _ inv2.b3]; rfl
          have z0 : wr.cell? ⟨w.heap.size + 1 + 1, 0, none⟩ = some (.int .u32 0) := by rw [cell_of_row _ _ 0 _ _ _ inv2.b2]; rfl
          have f0 : wr.frozen? ⟨w.heap.size + 1 + 1, 0, none⟩ = false := frozen_of_row _ _ _ _ _ inv2.b2
          have g1 : wr.cell? ⟨w.heap.size + 1 + 1 + 1, 1, none⟩ = some (.int .u32 (u (takeF s W).b)) := by rw [cell_of_row _ _ 1 _ _ _ inv2.b3]; rfl
          have z1 : wr.cell? ⟨w.heap.size + 1 + 1, 1, none⟩ = some (.int .u32 0) := by rw [cell_of_row _ _ 1 _ _ _ inv2.b2]; rfl
          have f1 : wr.frozen? ⟨w.heap.size + 1 + 1, 1, none⟩ = false := frozen_of_row _ _ _ _ _ inv2.b2
          have g2 : wr.cell? ⟨w.heap.size + 1 + 1 + 1, 2, none⟩ = some (.int .u32 (u (takeF s W).c)) := by rw [cell_of_row _ _ 2 _ _ _ inv2.b3]; rfl
          have z2 : wr.cell? ⟨w.heap.size + 1 + 1, 2, none⟩ = some (.int .u32 0) := by rw [cell_of_row _ _ 2 _ _ _ inv2.b2]; rfl
          have f2 : wr.frozen? ⟨w.heap.size + 1 + 1, 2, none⟩ = false := frozen_of_row _ _ _ _ _ inv2.b2
          have g3 : wr.cell? ⟨w.heap.size + 1 + 1 + 1, 3, none⟩ = some (.int .u32 (u (takeF s W).d)) := by rw [cell_of_row _ _ 3 _ _ _ inv2.b3]; rfl
          have z3 : wr.cell? ⟨w.heap.size + 1 + 1, 3, none⟩ = some (.int .u32 0) := by rw [cell_of_row _ _ 3 _ _ _ inv2.b2]; rfl
          have f3 : wr.frozen? ⟨w.heap.size + 1 + 1, 3, none⟩ = false := frozen_of_row _ _ _ _ _ inv2.b2
          have g4 : wr.cell? ⟨w.heap.size + 1 + 1 + 1, 4, none⟩ = some (.int .u32 (u (takeF s W).e)) := by rw [cell_of_row _ _ 4 _ _ _ inv2.b3]; rfl
          have z4 : wr.cell? ⟨w.heap.size + 1 + 1, 4, none⟩ = some (.int .u32 0) := by rw [cell_of_row _ _ 4 _ _ _ inv2.b2]; rfl
          have f4 : wr.frozen? ⟨w.heap.size + 1 + 1, 4, none⟩ = false := frozen_of_row _ _ _ _ _ inv2.b2
          have g5 : wr.cell? ⟨w.heap.size + 1 + 1 + 1, 5, none⟩ = some (.int .u32 (u (takeF s W).f)) := by rw [cell_of_row _ _ 5 _ _ _ inv2.b3]; rfl
          have z5 : wr.cell? ⟨w.heap.size + 1 + 1, 5, none⟩ = some (.int .u32 0) := by rw [cell_of_row _ _ 5 _ _ _ inv2.b2]; rfl
          have f5 : wr.frozen? ⟨w.heap.size + 1 + 1, 5, none⟩ = false := frozen_of_row _ _ _ _ _ inv2.b2
          have g6 : wr.cell? ⟨w.heap.size + 1 + 1 + 1, 6, none⟩ = some (.int .u32 (u (takeF s W).g)) := by rw [cell_of_row _ _ 6 _ _ _ inv2.b3]; rfl
          have z6 : wr.cell? ⟨w.heap.size + 1 + 1, 6, none⟩ = some (.int .u32 0) := by rw [cell_of_row _ _ 6 _ _ _ inv2.b2]; rfl
          have f6 : wr.frozen? ⟨w.heap.size + 1 + 1, 6, none⟩ = false := frozen_of_row _ _ _ _ _ inv2.b2
          have g7 : wr.cell? ⟨w.heap.size + 1 + 1 + 1, 7, none⟩ = some (.int .u32 (u (takeF s W).h)) := by rw [cell_of_row _ _ 7 _ _ _ inv2.b3]; rfl
          have z7 : wr.cell? ⟨w.heap.size + 1 + 1, 7, none⟩ = some (.int .u32 0) := by rw [cell_of_row _ _ 7 _ _ _ inv2.b2]; rfl
          have f7 : wr.frozen? ⟨w.heap.size + 1 + 1, 7, none⟩ = false := frozen_of_row _ _ _ _ _ inv2.b2
          clear hC hk hlt inv
          go_wp2
          refine bodyPost_ret (v := .agg #[.int .u32 (u (takeF s W).a), .int .u32 (u (takeF s W).b), .int .u32 (u (takeF s W).c), .int .u32 (u (takeF s W).d), .int .u32 (u (takeF s W).e), .int .u32 (u (takeF s W).f), .int .u32 (u (takeF s W).g), .int .u32 (u (takeF s W).h)]) ?_ rfl ⟨rfl, ?_⟩
          · simp [results, Tryd.results35, go_sem, *]
          · exact set8_below _ _ _ _ _ _ _ _ _ _ _ _ (by omega) inv2.bel
end Go.Proofs.YtjnbhiamaabbgaaDoor
