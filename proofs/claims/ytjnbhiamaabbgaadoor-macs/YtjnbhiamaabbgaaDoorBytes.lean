/-
  prim.wordBytes: the state's words as a text of 32 bytes.
-/
import Derived.Test.YtjnbhiamaabbgaaDoorSched
namespace Go.Proofs.YtjnbhiamaabbgaaDoor
open Go.RowKit
/-- A word's last byte. -/
def by8 (x : BitVec 32) : UInt8 := UInt8.ofNat x.toNat
theorem u_by8 (x : BitVec 32) : IntKind.u8.wrap (u x) = ((by8 x).toNat : Int) := by
  simp [IntKind.wrap, IntKind.bits, IntKind.signed, u, by8]
/-- A word's four bytes, the greatest first. -/
def wb (x : BitVec 32) : List UInt8 := [by8 (x >>> 24), by8 (x >>> 16), by8 (x >>> 8), by8 x]
/-- The first n words' bytes. -/
def sb (s : St) : Nat → List UInt8
  | 0 => []
  | n + 1 => sb s n ++ wb (at8 s n)
theorem sb_len (s : St) : ∀ n, (sb s n).length = 4 * n
  | 0 => rfl
  | n + 1 => by simp [sb, sb_len s n, wb]; omega
/-- Bytes as values. -/
def bv (l : List UInt8) : List Value := l.map fun b => .int .u8 (b.toNat : Int)
theorem bv_len (l : List UInt8) : (bv l).length = l.length := by simp [bv]
theorem bv_append (a b : List UInt8) : bv (a ++ b) = bv a ++ bv b := by simp [bv]
theorem info5 : ∃ i, Tryd.prog.info? 5 = some i ∧ i.zero = some (.int .u8 0) ∧ i.size = 1 ∧ i.bytes = 1 := by
  have h : (Tryd.prog.info? 5).map (fun i => (i.zero, i.size, i.bytes)) = some (some (.int .u8 0), 1, 1) := by kernel_rfl
  cases hq : Tryd.prog.info? 5 with
  | none => simp [hq] at h
  | some i => simp [hq] at h; exact ⟨i, rfl, h.1, h.2.1, h.2.2⟩
theorem index8 (s : St) (k : Nat) (hk : k < 8) (w : World) : (Instr.index 61 (.agg #[.int .u32 (u s.a), .int .u32 (u s.b), .int .u32 (u s.c), .int .u32 (u s.d), .int .u32 (u s.e), .int .u32 (u s.f), .int .u32 (u s.g), .int .u32 (u s.h)]) (.int .i64 (k : Int))).run Tryd.prog w = .ok (.int .u32 (u (at8 s k))) w := by
  obtain rfl | rfl | rfl | rfl | rfl | rfl | rfl | rfl : k = 0 ∨ k = 1 ∨ k = 2 ∨ k = 3 ∨ k = 4 ∨ k = 5 ∨ k = 6 ∨ k = 7 := by omega
  all_goals kernel_rfl
theorem bv_one (l : List UInt8) : ∀ v ∈ bv l, v.oneCell' = true := by
  intro v hv
  simp only [bv, List.mem_map] at hv
  obtain ⟨b, _, rfl⟩ := hv
  rfl
/-- An owned row of bytes reads as a text. -/
theorem owned_text {w : World} {base g n cap : Nat} {l : List UInt8} (h : w.ownsRow base 5 1 (.slice (some ⟨g, 0, none⟩) n cap) n (bv l)) : n = l.length ∧ ∀ j (hj : j < l.length), w.cell? ((⟨g, 0, none⟩ : Addr).add j) = some (.int .u8 (l[j].toNat : Int)) := by
  obtain ⟨h1, h2⟩ := h
  simp only [bv_len, Nat.mul_one] at h1
  refine ⟨h1.symm, fun j hj => ?_⟩
  rcases h2 with ⟨h2, _⟩ | ⟨g', cap', cur, hv, hb, hh, hn, _, hs, ht⟩
  · cases h2
  · cases hv
    rw [Addr.add_mid, Nat.zero_add, cell_of_row _ _ j _ _ _ hh]
    have : (cur.toList.take (n * 1))[j]? = (bv l)[j]? := by rw [ht]
    rw [List.getElem?_take] at this
    rw [if_pos (by omega)] at this
    simpa [bv, hj] using this
attribute [local go_sem] u_shr24 u_shr16 u_shr8 u_by8
set_option maxHeartbeats 1000000 in
set_option maxRecDepth 20000 in
theorem wordBytes_any (s : St) (w : World) : Calls Tryd.prog 37 #[.agg #[.int .u32 (u s.a), .int .u32 (u s.b), .int .u32 (u s.c), .int .u32 (u s.d), .int .u32 (u s.e), .int .u32 (u s.f), .int .u32 (u s.g), .int .u32 (u s.h)]] w fun en w' => en = .returned (.string ⟨(sb s 8).toArray⟩) ∧ Below w.heap.size w w' := by
  obtain ⟨i5, hi, hz0, hz1, hz2⟩ := info5
  go_enter Tryd.func37, Tryd.ntmps37
  go_wp2_with (refine wpList_make_own _ rfl _ _ 37 rfl (w.heap.size + 1) 5 i5 (.int .u8 0) 1 Tryd.underlying37 hi hz0 hz1 .i64 .i64 32 32 rfl rfl rfl ?b1 ?b2 ?b3 ?_)
  case b1 => rw [hz2]; decide
  case b2 => decide
  case b3 => simp
  intro w1 hown hgr
  have hbox : w1.heap[w.heap.size]? = some (.cells #[.int .u32 (u s.a), .int .u32 (u s.b), .int .u32 (u s.c), .int .u32 (u s.d), .int .u32 (u s.e), .int .u32 (u s.f), .int .u32 (u s.g), .int .u32 (u s.h)] 61 (0, 0)) := (hgr.block _ (by simp) (by simp)).trans (heap_alloc_new _ _)
  have hs0 : w1.cell? ⟨w.heap.size, 0, none⟩ = some (.int .u32 (u s.a)) := by rw [cell_of_row _ _ 0 _ _ _ hbox]; rfl
  have hs1 : w1.cell? ⟨w.heap.size, 1, none⟩ = some (.int .u32 (u s.b)) := by rw [cell_of_row _ _ 1 _ _ _ hbox]; rfl
  have hs2 : w1.cell? ⟨w.heap.size, 2, none⟩ = some (.int .u32 (u s.c)) := by rw [cell_of_row _ _ 2 _ _ _ hbox]; rfl
  have hs3 : w1.cell? ⟨w.heap.size, 3, none⟩ = some (.int .u32 (u s.d)) := by rw [cell_of_row _ _ 3 _ _ _ hbox]; rfl
  have hs4 : w1.cell? ⟨w.heap.size, 4, none⟩ = some (.int .u32 (u s.e)) := by rw [cell_of_row _ _ 4 _ _ _ hbox]; rfl
  have hs5 : w1.cell? ⟨w.heap.size, 5, none⟩ = some (.int .u32 (u s.f)) := by rw [cell_of_row _ _ 5 _ _ _ hbox]; rfl
  have hs6 : w1.cell? ⟨w.heap.size, 6, none⟩ = some (.int .u32 (u s.g)) := by rw [cell_of_row _ _ 6 _ _ _ hbox]; rfl
  have hs7 : w1.cell? ⟨w.heap.size, 7, none⟩ = some (.int .u32 (u s.h)) := by rw [cell_of_row _ _ 7 _ _ _ hbox]; rfl
  have hb1 : Below w.heap.size w w1 := ((Below.refl _ _).alloc (Nat.le_refl _) _).grown hgr (by simp) (fun _ h => by cases h)
  have hz : w.heap.size + 1 < w1.heap.size := by
    rcases hown.2 with ⟨h, _⟩ | ⟨g', cap', cur, hv, _, hh, _⟩
    · cases h
    · cases hv
      simpa using (Array.getElem?_eq_some_iff.1 hh).1
  clear hgr hbox
  go_wp2
  go_loopw [3, 8] (fun v i wr => ∃ k : Nat, k ≤ 8 ∧ i = .int .i64 k ∧ v = .slice (some ⟨w.heap.size + 1, 0, none⟩) (4 * k) 32 ∧ Below w.heap.size w wr ∧ wr.ownsRow (w.heap.size + 1) 5 1 (.slice (some ⟨w.heap.size + 1, 0, none⟩) (4 * k) 32) (4 * k) (bv (sb s k)) ∧ w.heap.size + 1 < wr.heap.size) (fun _ i _ => (8 - intOf i).toNat)
  case atStart => exact ⟨0, by omega, rfl, rfl, hb1, by simpa [bv, sb] using hown, hz⟩
  case round =>
    clear hown hb1 hz hs0 hs1 hs2 hs3 hs4 hs5 hs6 hs7
    obtain ⟨k, hk, rfl, rfl, hbel, hown, hsz⟩ := hrel
    by_cases hlt : k < 8
    · have hix := index8 s k hlt
      go_wp2_with (at_builtin; refine wpList_append_fits _ rfl _ _ 37 rfl (w.heap.size + 1) 5 i5 1 Tryd.underlying37 hi hz1 (w.heap.size + 1) (4 * k) 32 (bv (sb s k)) rfl ?own ⟨wr.heap.size, 0, none⟩ 4 4 (bv (wb (at8 s k))) rfl rfl ?c1 ?c2 ?c3 ?_)
      case own => exact hown.alloc _
      case c1 =>
        intro j v hv
        rw [Addr.add_mid, Nat.zero_add, cell_of_row _ _ j _ _ _ (heap_alloc_new _ _), ← hv]
        simp [bv, wb]
      case c2 => exact bv_one _
      case c3 => omega
      intro w2 hown2 hgr2
      rw [← bv_append] at hown2
      have hb2 : Below w.heap.size w w2 := (hbel.alloc hbel.size _).grown hgr2 (by simp; omega) (fun _ h => by cases h; omega)
      have hz2 : w.heap.size + 1 < w2.heap.size := Nat.lt_of_lt_of_le hsz (Nat.le_trans (by simp) hgr2.size)
      have hgo : 4 * k + 4 = 4 * (k + 1) := by omega
      rw [hgo] at hown2
      clear hgr2 hown
      go_wp2
      go_roundw
      case rel => exact ⟨k + 1, by omega, by go_num, by rw [← hgo], hb2, hown2, hz2⟩
      case measure => simp [intOf]; omega
    · obtain rfl : k = 8 := by omega
      have hcv : (convert 37 9 (.slice (some ⟨w.heap.size + 1, 0, none⟩) 32 32)).run Tryd.prog wr = .ok (.string ⟨(sb s 8).toArray⟩) wr := by
        have h := run_convert_bytes_back (P := Tryd.prog) wr 37 9 5 ⟨w.heap.size + 1, 0, none⟩ 32 (sb s 8) Tryd.underlying37 Tryd.underlying5 Tryd.underlying9 (owned_text hown).2
        rw [sb_len] at h
        exact h
      clear hown
      go_wp2
      go_ret
      exact ⟨rfl, hbel⟩
end Go.Proofs.YtjnbhiamaabbgaaDoor
