/-
  prim.pad: a text with its padding.
-/
import Derived.Test.YtjnbhiamaabbgaaDoorBytes
import Derived.Lib.BufferWrite
import Derived.Laws.CopyOwn
namespace Go.Proofs.YtjnbhiamaabbgaaDoor
open Go.RowKit
/-- A number's last byte. -/
def bq (q : Nat) : UInt8 := UInt8.ofNat q
/-- The last k bytes of a number, the greatest first. -/
def nb (n : Nat) : Nat → List UInt8
  | 0 => []
  | k + 1 => bq (n / 256 ^ k) :: nb n k
theorem nb_len (n : Nat) : ∀ k, (nb n k).length = k
  | 0 => rfl
  | k + 1 => by simp [nb, nb_len n k]
/-- How many bytes a text of n has with its padding. -/
def padN (n : Nat) : Nat := 64 * ((n + 72) / 64)
/-- A text, its mark, bytes 0, and k bytes of its length. -/
def padK (x : List UInt8) (k : Nat) : List UInt8 := x ++ 128 :: (List.replicate (padN x.length - x.length - 1 - k) 0 ++ nb (x.length * 8) k)
def padL (x : List UInt8) : List UInt8 := padK x 8
theorem padN_le (n : Nat) : n + 9 ≤ padN n ∧ padN n ≤ n + 72 := by unfold padN; omega
theorem padK_len (x : List UInt8) (k : Nat) (hk : k ≤ 8) : (padK x k).length = padN x.length := by
  have := padN_le x.length
  simp [padK, nb_len]; omega
theorem padK_set (x : List UInt8) (k : Nat) (hk : k < 8) : (padK x k).set (padN x.length - (k + 1)) (bq (x.length * 8 / 256 ^ k)) = padK x (k + 1) := by
  have h := padN_le x.length
  unfold padK
  have e : padN x.length - x.length - 1 - k = (padN x.length - x.length - 1 - (k + 1)) + 1 := by omega
  rw [e, List.replicate_succ']
  generalize hm : padN x.length - x.length - 1 - (k + 1) = m at *
  have e2 : padN x.length - (k + 1) = x.length + (1 + m) := by omega
  rw [e2, List.set_append_right _ _ (by omega)]
  congr 1
  rw [show x.length + (1 + m) - x.length = m + 1 by omega, List.set_cons_succ]
  congr 1
  rw [List.append_assoc, List.set_append_right _ _ (by simp)]
  simp [nb]
theorem bv_set (l : List UInt8) (i : Nat) (b : UInt8) : (bv l).set i (.int .u8 (b.toNat : Int)) = bv (l.set i b) := by
  simp [bv, List.map_set]
/-- copy(dst, s) at a plain region's list. -/
theorem wpList_copy_text {P : Program} {w : World} {ops : Array Oper} {rest : List Oper} {o : Oper} {a : Act} {Q : Exit → Act → World → Prop} (hgd : o.guard = none) (d s : Operand) (dT sT : TypeId)
    (ho : o.op = .call { callee := .builtin .copy, args := #[d, s], argTypes := #[dT, sT] }) (elem : TypeId) (hu : P.underlying dT = some (.slice elem)) (hsz : (P.info? elem).map (·.size) = some 1)
    (g off dLen dCap : Nat) (x : ByteArray) (hd : a.eval d = .slice (some ⟨g, off, none⟩) dLen dCap) (hs : a.eval s = .string x)
    (cur : Array Value) (t : TypeId) (hg : w.heap[g]? = some (.cells cur t (0, 0))) (hle : x.size ≤ dLen) (hfit : off + x.size ≤ cur.size) (B : Nat) (w0 : World) (hb : Below B w0 w) (hBg : B ≤ g)
    (h : ∀ w', w'.heap[g]? = some (.cells (cur.toList.take off ++ Lib.byteCells x.data.toList ++ cur.toList.drop (off + x.size)).toArray t (0, 0)) → Below B w0 w' → wpList P ops Q rest (a.put o.dst (goInt x.size)) w') : wpList P ops Q (o :: rest) a w := by
  refine wpList_plain hgd fun K hK => ?_
  have hrun := Lib.run_copy_row_string (P := P) w dT sT o.type elem g off dLen dCap x cur t hu hsz hg hle hfit
  have hres := hK _ _ (h _ (setRow_heap w g cur _ t _ hg) (below_setRow hb hBg _))
  unfold Oper.wp
  simp only [List.append_assoc] at hrun hres
  simp [execOp, ho, resolve, invoke, builtin, hd, hs, hrun, Result.andThen]
  exact hres
theorem made_zeros {w : World} {base g n : Nat} (h : w.ownsRow base 5 1 (.slice (some ⟨g, 0, none⟩) n n) n (madeCells #[Value.int .u8 0] n).toList) : w.heap[g]? = some (.cells (bv (List.replicate n 0)).toArray 5 (0, 0)) := by
  rcases h.2 with ⟨h2, _⟩ | ⟨g', cap', cur, hv, hb, hh, hn, _, hs, ht⟩
  · cases h2
  · cases hv
    rw [hh]
    have e : cur.toList = bv (List.replicate n 0) := by
      rw [List.take_of_length_le (by simp; omega)] at ht
      rw [ht]
      apply List.ext_getElem?
      intro i
      by_cases hi : i < n
      · simp [madeCells, bv, hi, Nat.mod_one]
      · rw [List.getElem?_eq_none (by simp [madeCells]; omega), List.getElem?_eq_none (by simp [bv]; omega)]
    rw [← e]
theorem info5s : (Tryd.prog.info? 5).map (·.size) = some 1 := by kernel_rfl
set_option maxHeartbeats 1000000 in
set_option maxRecDepth 20000 in
theorem pad_any (x : ByteArray) (hx : x.size ≤ 60000) (w : World) : Calls Tryd.prog 34 #[.string x] w fun en w' => en = .returned (.slice (some ⟨w.heap.size, 0, none⟩) (padN x.size) (padN x.size)) ∧ w'.heap[w.heap.size]? = some (.cells (bv (padL x.data.toList)).toArray 5 (0, 0)) ∧ Below w.heap.size w w' := by
  obtain ⟨i5, hi, hz0, hz1, hz2⟩ := info5
  go_enter Tryd.func34, Tryd.ntmps34
  have hp := padN_le x.size
  have hL : ((x.size : Int) + 1 + 8 + 64 - 1) / 64 * 64 = ((padN x.size : Nat) : Int) := by unfold padN; omega
  have HL : Hid (((x.size : Int) + 1 + 8 + 64 - 1) / 64 * 64 = ((padN x.size : Nat) : Int)) := hL
  clear hL
  have xs : x.data.toList.length = x.size := rfl
  have XS : Hid (x.data.toList.length = x.size) := xs
  clear xs
  go_wp2_with (refine wpList_make_full _ rfl _ _ 37 rfl w.heap.size 5 i5 (.int .u8 0) 1 Tryd.underlying37 hi hz0 hz1 .i64 .i64 _ _ (padN x.size) rfl rfl ?l1 ?l2 ?b1 ?b2 ?b3 ?_)
  case l1 => exact HL.out
  case l2 => exact HL.out
  case b1 => rw [hz2]; omega
  case b2 => unfold maxLen; omega
  case b3 => simp
  intro w1 hown hgr
  have hg1 : w1.heap[w.heap.size]? = some (.cells (bv (List.replicate (padN x.size) 0)).toArray 5 (0, 0)) := made_zeros hown
  have hb1 : Below w.heap.size w w1 := (Below.refl _ _).grown hgr (Nat.le_refl _) (fun _ h => by cases h)
  clear hgr hown
  go_wp2_with (refine wpList_copy_text rfl _ _ 37 9 rfl 5 Tryd.underlying37 info5s w.heap.size 0 _ _ x rfl rfl _ 5 hg1 ?c1 ?c2 w.heap.size w hb1 (Nat.le_refl _) ?_)
  case c1 => omega
  case c2 => simp [bv_len]; omega
  intro w2 hg2 hb2
  have hg3 : w2.heap[w.heap.size]? = some (.cells (bv (x.data.toList ++ List.replicate (padN x.size - x.size) 0)).toArray 5 (0, 0)) := by
    rw [hg2]
    congr 2
    simp [bv, Lib.byteCells]
  have hc3 : w2.cell? ⟨w.heap.size, x.size, none⟩ = some (.int .u8 0) := by
    rw [cell_of_row _ _ _ _ _ _ hg3]
    simp only [List.getElem?_toArray, bv, List.map_append]
    rw [List.getElem?_append_right (by simp), List.length_map, XS.out, Nat.sub_self, List.map_replicate, List.getElem?_replicate, if_pos (by omega)]
    rfl
  have hf3 : w2.frozen? ⟨w.heap.size, x.size, none⟩ = false := frozen_of_row _ _ _ _ _ hg3
  have hg4 : (w2.setCell ⟨w.heap.size, x.size, none⟩ (.int .u8 128)).heap[w.heap.size]? = some (.cells (bv (padK x.data.toList 0)).toArray 5 (0, 0)) := by
    rw [heap_setCell_same _ _ _ _ _ _ hg3]
    congr 2
    rw [List.setIfInBounds_toArray]
    congr 1
    rw [show (Value.int .u8 128) = .int .u8 ((128 : UInt8).toNat : Int) from rfl, bv_set]
    congr 1
    rw [List.set_append_right _ _ (by simp)]
    obtain ⟨m, hm⟩ : ∃ m, padN x.size - x.size = m + 1 := ⟨padN x.size - x.size - 1, by omega⟩
    unfold padK
    rw [XS.out, hm]
    simp [nb, List.replicate_succ]
  have hb4 : Below w.heap.size w (w2.setCell ⟨w.heap.size, x.size, none⟩ (.int .u8 128)) := hb2.setCell (Nat.le_refl _) _
  clear hg1 hg2 hg3 hb2 hb1
  have hlt0 : (x.size : Int) < (padN x.size : Nat) := by omega
  have h18 : ((x.size : Nat) : Int) * 8 < 18446744073709551616 := by omega
  go_wp2
  go_loopw [5, 6] (fun q i wr => ∃ k : Nat, k ≤ 8 ∧ i = .int .i64 (k + 1) ∧ q = .int .u64 ((x.size * 8 / 256 ^ k : Nat) : Int) ∧ wr.heap[w.heap.size]? = some (.cells (bv (padK x.data.toList k)).toArray 5 (0, 0)) ∧ Below w.heap.size w wr) (fun _ i _ => (9 - intOf i).toNat)
  case atStart =>
    exact ⟨0, by omega, rfl, by go_num, hg4, hb4⟩
  case round =>
    clear hc3 hf3 hg4 hb4
    obtain ⟨k, hk, rfl, rfl, hg, hb⟩ := hrel
    have hql : x.size * 8 / 256 ^ k ≤ x.size * 8 := Nat.div_le_self _ _
    have HQ : Hid (x.size * 8 / 256 ^ k / 256 = x.size * 8 / 256 ^ (k + 1)) := by show _ = _; rw [Nat.div_div_eq_div_mul, Nat.pow_succ]
    by_cases hlt : k < 8
    · have hl := padK_len x.data.toList k hk
      rw [XS.out] at hl
      have hgs : (wr.setCell ⟨w.heap.size, padN x.size - (k + 1), none⟩ (.int .u8 ((bq (x.size * 8 / 256 ^ k)).toNat : Int))).heap[w.heap.size]? = some (.cells (bv (padK x.data.toList (k + 1))).toArray 5 (0, 0)) := by
        rw [heap_setCell_same _ _ _ _ _ _ hg, List.setIfInBounds_toArray, bv_set]
        have e := padK_set x.data.toList k hlt
        rw [XS.out] at e
        rw [e]
      have hbs : Below w.heap.size w (wr.setCell ⟨w.heap.size, padN x.size - (k + 1), none⟩ (.int .u8 ((bq (x.size * 8 / 256 ^ k)).toNat : Int))) := hb.setCell (Nat.le_refl _) _
      obtain ⟨c, hc⟩ : ∃ c, wr.cell? ⟨w.heap.size, padN x.size - (k + 1), none⟩ = some c := by
        refine ⟨(bv (padK x.data.toList k))[padN x.size - (k + 1)]'(by rw [bv_len, hl]; omega), ?_⟩
        rw [cell_of_row _ _ _ _ _ _ hg]; simp
      have hf : wr.frozen? ⟨w.heap.size, padN x.size - (k + 1), none⟩ = false := frozen_of_row _ _ _ _ _ hg
      clear hg hb hl
      have j0 : (0 : Int) ≤ ((padN x.size : Nat) : Int) - ((k : Int) + 1) := by omega
      have j1 : ((padN x.size : Nat) : Int) - ((k : Int) + 1) < ((padN x.size : Nat) : Int) := by omega
      generalize x.size * 8 / 256 ^ k = q at *
      have hby : IntKind.u8.wrap (q : Int) = ((bq q).toNat : Int) := by simp [IntKind.wrap, IntKind.bits, IntKind.signed, bq]
      clear h18
      go_wp2
      go_roundw
      case rel => exact ⟨k + 1, by omega, by go_num, by rw [← HQ.out]; go_num, hgs, hbs⟩
      case measure => simp [intOf]; omega
    · obtain rfl : k = 8 := by omega
      go_wp2
      go_ret
      exact ⟨rfl, hg, hb⟩
end Go.Proofs.YtjnbhiamaabbgaaDoor
