/-
  Texts as lists of bytes, what lies in memory of them, and cofferkeep's hex.
-/
import Derived.Test.YtjnbhiamaabbgaaRows
import Derived.WalkKit
import Derived.WalkSpells
import Derived.WalkLawsBesides
import Derived.Deep.WholeRow
import Derived.Deep.MidRow
import Derived.Deep.QuietTactic
import Derived.BigQuiet
import Derived.StillTailTactics
import Derived.Laws.CopyOwn
import Derived.Lib.BufferWrite
namespace Go.Proofs.Ytjnbhiamaabbgaa
open Go.RowKit
/-- Bytes as values. -/
def bv (l : List UInt8) : List Value := l.map fun b => .int .u8 (b.toNat : Int)
theorem bv_len (l : List UInt8) : (bv l).length = l.length := by simp [bv]
theorem bv_append (a b : List UInt8) : bv (a ++ b) = bv a ++ bv b := by simp [bv]
theorem info5 : ∃ i, Try.prog.info? 5 = some i ∧ i.zero = some (.int .u8 0) ∧ i.size = 1 ∧ i.bytes = 1 := by
  have h : (Try.prog.info? 5).map (fun i => (i.zero, i.size, i.bytes)) = some (some (.int .u8 0), 1, 1) := by kernel_rfl
  cases hq : Try.prog.info? 5 with
  | none => simp [hq] at h
  | some i => simp [hq] at h; exact ⟨i, rfl, h.1, h.2.1, h.2.2⟩
theorem bv_one (l : List UInt8) : ∀ v ∈ bv l, v.oneCell' = true := by
  intro v hv
  simp only [bv, List.mem_map] at hv
  obtain ⟨b, _, rfl⟩ := hv
  rfl
/-- An owned row of bytes reads as a text. -/
theorem owned_text {w : World} {base g n cap : Nat} {l : List UInt8} (h : w.ownsRow base 5 1 (.slice (some ⟨g, 0, none⟩) n cap) n (bv l)) : n = l.length ∧ ∀ j (hj : j < l.length), w.cell? ((⟨g, 0, none⟩ : Addr).add j) = some (.int .u8 (l[j].toNat : Int)) := by
  obtain ⟨h1, h2⟩ := h
  simp only [bv_len, Nat.mul_one] at h1
  refine ⟨h1.symm, fun j hj => ?_⟩
  rcases h2 with ⟨h2, _⟩ | ⟨g', cap', cur, hv, hb, hh, hn, _, hs, ht⟩
  · cases h2
  · cases hv
    rw [Addr.add_mid, Nat.zero_add, cell_of_row _ _ j _ _ _ hh]
    have : (cur.toList.take (n * 1))[j]? = (bv l)[j]? := by rw [ht]
    rw [List.getElem?_take] at this
    rw [if_pos (by omega)] at this
    simpa [bv, hj] using this
theorem bv_set (l : List UInt8) (i : Nat) (b : UInt8) : (bv l).set i (.int .u8 (b.toNat : Int)) = bv (l.set i b) := by
  simp [bv, List.map_set]
/-- copy(dst, s) at a plain region's list. -/
theorem wpList_copy_text {P : Program} {w : World} {ops : Array Oper} {rest : List Oper} {o : Oper} {a : Act} {Q : Exit → Act → World → Prop} (hgd : o.guard = none) (d s : Operand) (dT sT : TypeId)
    (ho : o.op = .call { callee := .builtin .copy, args := #[d, s], argTypes := #[dT, sT] }) (elem : TypeId) (hu : P.underlying dT = some (.slice elem)) (hsz : (P.info? elem).map (·.size) = some 1)
    (g off dLen dCap : Nat) (x : ByteArray) (hd : a.eval d = .slice (some ⟨g, off, none⟩) dLen dCap) (hs : a.eval s = .string x)
    (cur : Array Value) (t : TypeId) (hg : w.heap[g]? = some (.cells cur t (0, 0))) (hle : x.size ≤ dLen) (hfit : off + x.size ≤ cur.size) (B : Nat) (w0 : World) (hb : Below B w0 w) (hBg : B ≤ g)
    (h : ∀ w', w'.heap[g]? = some (.cells (cur.toList.take off ++ Lib.byteCells x.data.toList ++ cur.toList.drop (off + x.size)).toArray t (0, 0)) → Below B w0 w' → wpList P ops Q rest (a.put o.dst (goInt x.size)) w') : wpList P ops Q (o :: rest) a w := by
  refine wpList_plain hgd fun K hK => ?_
  have hrun := Lib.run_copy_row_string (P := P) w dT sT o.type elem g off dLen dCap x cur t hu hsz hg hle hfit
  have hres := hK _ _ (h _ (setRow_heap w g cur _ t _ hg) (below_setRow hb hBg _))
  unfold Oper.wp
  simp only [List.append_assoc] at hrun hres
  simp [execOp, ho, resolve, invoke, builtin, hd, hs, hrun, Result.andThen]
  exact hres
theorem info5s : (Try.prog.info? 5).map (·.size) = some 1 := by kernel_rfl
theorem bcell {W w1 : World} (hb : Below W.heap.size W w1) : (∀ b o, b < W.heap.size → w1.cell? ⟨b, o, none⟩ = W.cell? ⟨b, o, none⟩) ∧ (∀ b o, b < W.heap.size → w1.frozen? ⟨b, o, none⟩ = W.frozen? ⟨b, o, none⟩) :=
  ⟨fun b o h => hb.cell (p := ⟨b, o, none⟩) h, fun b o h => hb.frozen (p := ⟨b, o, none⟩) h⟩
theorem bthen {a b c : World} (h : Below a.heap.size a b) (k : Below b.heap.size b c) : Below a.heap.size a c := h.trans (k.mono h.size)
/-- The text that has these bytes. -/
def st (l : List UInt8) : ByteArray := ⟨l.toArray⟩
theorem st_size (l : List UInt8) : (st l).size = l.length := rfl
theorem st_bl (x : ByteArray) : st x.data.toList = x := rfl
theorem st_append (a b : List UInt8) : st a ++ st b = st (a ++ b) := by
  apply ByteArray.ext
  simp [st]
theorem u8_xor (a c : UInt8) : bits .xor .u8 (a.toNat : Int) (c.toNat : Int) = ((a ^^^ c).toNat : Int) := by
  show IntKind.u8.wrap ((BitVec.ofInt 8 (a.toNat : Int) ^^^ BitVec.ofInt 8 (c.toNat : Int)).toNat : Int) = _
  have ha : BitVec.ofInt 8 (a.toNat : Int) = a.toBitVec := by simp
  have hc : BitVec.ofInt 8 (c.toNat : Int) = c.toBitVec := by simp
  rw [ha, hc]
  have h := (a ^^^ c).toNat_lt
  have e : (a.toBitVec ^^^ c.toBitVec).toNat = (a ^^^ c).toNat := by simp
  rw [e]
  simp only [IntKind.wrap, IntKind.bits, IntKind.signed]
  generalize (a ^^^ c).toNat = q at *
  simp
  omega
theorem bv_zeros (n : Nat) : bv (List.replicate n 0) = List.replicate n (.int .u8 0) := by simp [bv]
/-- A hexadecimal digit. -/
def hd (n : Nat) : UInt8 := UInt8.ofNat (if n < 10 then 48 + n else 87 + n)
def hexL : List UInt8 → List UInt8
  | [] => []
  | b :: r => hd (b.toNat / 16) :: hd (b.toNat % 16) :: hexL r
theorem hexL_len : ∀ l : List UInt8, (hexL l).length = 2 * l.length
  | [] => rfl
  | b :: r => by simp [hexL, hexL_len r]; omega
theorem hexL_append : ∀ a b : List UInt8, hexL (a ++ b) = hexL a ++ hexL b
  | [], _ => rfl
  | x :: r, b => by simp [hexL, hexL_append r b]
theorem and15 (b : UInt8) : bits .and .u8 (b.toNat : Int) 15 = ((b.toNat % 16 : Nat) : Int) := by
  have h := b.toNat_lt
  show IntKind.u8.wrap ((BitVec.ofInt 8 (b.toNat : Int) &&& BitVec.ofInt 8 15).toNat : Int) = _
  have e : (BitVec.ofInt 8 (b.toNat : Int)).toNat = b.toNat := by simp
  have e2 : (BitVec.ofInt 8 15).toNat = 2 ^ 4 - 1 := by decide
  rw [BitVec.toNat_and, e, e2, Nat.and_two_pow_sub_one_eq_mod]
  simp only [IntKind.wrap, IntKind.bits, IntKind.signed]
  simp
  omega
attribute [local go_sem] st_size st_append
theorem slice_hex (p : Nat) (hp : p < 16) (w : World) : (Instr.slice 9 (.string { data := #[48, 49, 50, 51, 52, 53, 54, 55, 56, 57, 97, 98, 99, 100, 101, 102] }) (some (.int .i64 (p : Int))) (some (.int .i64 ((p : Int) + 1))) none).run Try.prog w = .ok (.string (st [hd p])) w := by
  obtain rfl | rfl | rfl | rfl | rfl | rfl | rfl | rfl | rfl | rfl | rfl | rfl | rfl | rfl | rfl | rfl : p = 0 ∨ p = 1 ∨ p = 2 ∨ p = 3 ∨ p = 4 ∨ p = 5 ∨ p = 6 ∨ p = 7 ∨ p = 8 ∨ p = 9 ∨ p = 10 ∨ p = 11 ∨ p = 12 ∨ p = 13 ∨ p = 14 ∨ p = 15 := by omega
  all_goals kernel_rfl
set_option maxHeartbeats 1000000 in
set_option maxRecDepth 20000 in
theorem hex_any (l : List UInt8) (hl : l.length ≤ 5000) (w : World) : Calls Try.prog 8 #[.string (st l)] w fun en w' => en = .returned (.string (st (hexL l))) ∧ Below w.heap.size w w' := by
  go_enter Try.func8, Try.ntmps8
  go_wp2
  go_loopw [3, 4] (fun v i wr => ∃ k : Nat, k ≤ l.length ∧ i = .int .i64 k ∧ v = .string (st (hexL (l.take k))) ∧ Below w.heap.size w wr) (fun _ i _ => (l.length - intOf i).toNat)
  case atStart => exact ⟨0, by omega, rfl, rfl, Below.refl _ _⟩
  case round =>
    obtain ⟨k, hk, rfl, rfl, hb⟩ := hrel
    by_cases hlt : k < l.length
    · have i1 : (k : Int) < (l.length : Nat) := by omega
      obtain ⟨b, hb0⟩ : ∃ b, (st l)[k]'(by rw [st_size]; exact hlt) = b := ⟨_, rfl⟩
      obtain ⟨p, hp⟩ : ∃ p, b.toNat / 16 = p := ⟨_, rfl⟩
      obtain ⟨q, hq⟩ : ∃ q, b.toNat % 16 = q := ⟨_, rfl⟩
      have hb1 := b.toNat_lt
      have hp1 : (b.toNat : Int) / 16 = p := by omega
      have hp2 : (p : Int) < 16 := by omega
      have hq1 : bits .and .u8 (b.toNat : Int) 15 = q := by rw [and15, hq]
      have hq2 : (q : Int) < 16 := by omega
      have HP : Hid (b.toNat / 16 = p) := hp
      have HQ : Hid (b.toNat % 16 = q) := hq
      have hs1 := slice_hex p (by omega)
      have hs2 := slice_hex q (by omega)
      have ew1 : IntKind.i64.wrap ((p : Int) + 1) = (p : Int) + 1 := by rw [IntKind.wrap_i64]; omega
      have ew2 : IntKind.i64.wrap ((q : Int) + 1) = (q : Int) + 1 := by rw [IntKind.wrap_i64]; omega
      have hxl := hexL_len (l.take k)
      have hxk : (l.take k).length = k := by simp; omega
      rw [hxk] at hxl
      have HS : Hid (hexL (l.take (k + 1)) = hexL (l.take k) ++ [hd p, hd q]) := by
        show _ = _
        rw [List.take_succ_eq_append_getElem hlt, hexL_append, show l[k] = b from hb0]
        simp only [hexL, hp, hq]
      clear hp hq hxk
      generalize hexL (l.take k) = X at *
      go_wp2
      go_quiet (fail)
      go_wp2
      go_roundw
      case rel => exact ⟨k + 1, by omega, by go_num, by rw [HS.out], below_drewN hb _⟩
      case measure => simp [intOf]; omega
    · obtain rfl : k = l.length := by omega
      rw [List.take_length]
      have i1 : ¬ ((l.length : Nat) : Int) < (l.length : Nat) := by omega
      go_wp2
      go_ret
      exact ⟨rfl, hb⟩
theorem one_text (v : UInt8) (w : World) : (convert 29 9 (.slice (some ⟨w.heap.size, 0, none⟩) 1 1)).run Try.prog (w.alloc (.cells #[.int .u8 (v.toNat : Int)] 5)) = .ok (.string (st [v])) (w.alloc (.cells #[.int .u8 (v.toNat : Int)] 5)) := by
  have h := run_convert_bytes_back (P := Try.prog) (w.alloc (.cells #[.int .u8 (v.toNat : Int)] 5)) 29 9 5 ⟨w.heap.size, 0, none⟩ 1 [v] Try.underlying29 Try.underlying5 Try.underlying9 (fun j hj => by
    rw [Addr.add_mid, Nat.zero_add, cell_of_row _ _ _ _ _ _ (heap_alloc_new _ _)]
    obtain rfl : j = 0 := by simpa using hj
    rfl)
  exact h
theorem one_textN (n : Int) (v : UInt8) (hn : n = (v.toNat : Int)) (w : World) : (convert 29 9 (.slice (some ⟨w.heap.size, 0, none⟩) 1 1)).run Try.prog (w.alloc (.cells #[.int .u8 n] 5)) = .ok (.string (st [v])) (w.alloc (.cells #[.int .u8 n] 5)) := by
  subst hn; exact one_text v w
end Go.Proofs.Ytjnbhiamaabbgaa
