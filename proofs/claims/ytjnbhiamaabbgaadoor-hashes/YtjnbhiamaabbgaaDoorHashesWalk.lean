/-
  cofferlaw.Hashes: the walk over a list of calls.
-/
import Derived.Test.YtjnbhiamaabbgaaDoorCalledR
namespace Go.Proofs.YtjnbhiamaabbgaaDoor
open Go.RowKit
attribute [local go_sem] st_size st_append st_cut
/-- One call, as it was handed in. -/
structure CD where
  kind : Int
  n : Int
  S : List UInt8
  T : List UInt8
  U : List UInt8
  v : Value
  P : List (List UInt8)
/-- Its six cells. -/
def At (w : World) (g o : Nat) (d : CD) : Prop :=
  w.cell? ⟨g, o, none⟩ = some (.int .i64 d.kind) ∧ w.cell? ⟨g, o + 1, none⟩ = some (.int .i64 d.n) ∧ w.cell? ⟨g, o + 2, none⟩ = some (.string (st d.S)) ∧ w.cell? ⟨g, o + 3, none⟩ = some (.string (st d.T)) ∧ w.cell? ⟨g, o + 4, none⟩ = some (.string (st d.U)) ∧ w.cell? ⟨g, o + 5, none⟩ = some d.v
theorem At.then {w w' : World} {g o : Nat} {d : CD} (h : At w g o d) (hb : Below w.heap.size w w') : At w' g o d := by
  obtain ⟨c0, c1, c2, c3, c4, c5⟩ := h
  have hg : g < w.heap.size := block_lt_of_cell c0
  exact ⟨(hb.cell (p := ⟨g, _, none⟩) hg).trans c0, (hb.cell (p := ⟨g, _, none⟩) hg).trans c1, (hb.cell (p := ⟨g, _, none⟩) hg).trans c2, (hb.cell (p := ⟨g, _, none⟩) hg).trans c3, (hb.cell (p := ⟨g, _, none⟩) hg).trans c4, (hb.cell (p := ⟨g, _, none⟩) hg).trans c5⟩
/-- What is asked of one call of the list. -/
def Good (w : World) (d : CD) : Prop := SL2 w d.v d.P ∧ d.P.length * 16 ≤ 140737488351232
theorem Good.then {w w' : World} {d : CD} (h : Good w d) (hb : Below w.heap.size w w') : Good w' d := by
  obtain ⟨⟨a, cap, e, hc, hh⟩, hr⟩ := h
  exact ⟨⟨a, cap, e, hc, hh.then hb⟩, hr⟩
/-- A slice of calls. -/
def CL (w : World) (v : Value) (D : List CD) : Prop := ∃ a cap, v = .slice a D.length cap ∧ D.length ≤ maxLen ∧ ∀ i (h : i < D.length), (∃ g off, a = some ⟨g, off, none⟩ ∧ At w g (off + i * 6) D[i]) ∧ Good w D[i]
theorem abc_head : (sha [97, 98, 99]).take 4 = [186, 120, 22, 191] := by rw [sha_abc]; rfl
set_option maxHeartbeats 1000000 in
set_option maxRecDepth 20000 in
theorem Hashes_loop (D : List CD) (v : Value) (w : World) (h1 : Tab w) (h2 : Tab2 w) (hv : CL w v D) :
    Calls Tryd.prog 3 #[v] w fun en w' => en = .returned (.bool true) ∧ Below w.heap.size w w' := by
  obtain ⟨a, cap, rfl, hmax, hD⟩ := hv
  have HD : Hid (∀ i (h : i < D.length), (∃ g off, a = some ⟨g, off, none⟩ ∧ At w g (off + i * 6) D[i]) ∧ Good w D[i]) := hD
  have T0 : Hid (Tab w) := h1
  have R0 : Hid (Tab2 w) := h2
  clear h1 h2 hD
  unfold maxLen at hmax
  have hsl := sha_len [97, 98, 99]
  have habc := abc_head
  go_enter Tryd.func3, Tryd.ntmps3
  go_wp2_with fail
  go_fit (Sum_ok [97, 98, 99] (by decide) _ T0.out)
  rintro en w1 ⟨rfl, hb1⟩
  generalize sha [97, 98, 99] = Y at *
  have hst : st [186, 120, 22, 191] = { data := #[186, 120, 22, 191] } := rfl
  go_wp2_with fail
  clear hsl habc hst
  go_loopw [5, 6] (fun i _ wr => ∃ k : Nat, k ≤ D.length ∧ i = .int .i64 k ∧ Below w.heap.size w wr) (fun i _ _ => (D.length - intOf i).toNat)
  case atStart => exact ⟨0, by omega, rfl, hb1⟩
  case round =>
    clear hb1
    obtain ⟨k, hk, rfl, hb⟩ := hrel
    by_cases hlt : k < D.length
    · have Tr : Hid (Tab wr) := T0.out.below T0.out.pos hb
      have Rr : Hid (Tab2 wr) := R0.out.then hb
      obtain ⟨⟨g, off, rfl, hat⟩, hgood⟩ := HD.out k hlt
      have hat := hat.then hb
      have HG : Hid (Good wr D[k]) := hgood.then hb
      clear hgood
      have i1 : (k : Int) < (D.length : Nat) := by omega
      generalize D[k] = d at *
      obtain ⟨kind, n, S, T, U, v, P⟩ := d
      obtain ⟨c0, c1, c2, c3, c4, c5⟩ := hat
      generalize hq : off + k * 6 = q at *
      by_cases hk4 : kind ≤ 4
      · go_wp2_with fail
        go_fit (called_any kind n hk4 S T U v P HG.out.2 _ Tr.out Rr.out HG.out.1)
        rintro en w2 ⟨rfl, hb2⟩
        go_wp2_with fail
        go_roundw
        case rel => exact ⟨k + 1, by omega, by go_num, bthen hb hb2⟩
        case measure => simp [intOf]; omega
      · go_wp2_with fail
        go_roundw
        case rel => exact ⟨k + 1, by omega, by go_num, hb⟩
        case measure => simp [intOf]; omega
    · obtain rfl : k = D.length := by omega
      have i1 : ¬ ((D.length : Nat) : Int) < (D.length : Nat) := by omega
      go_wp2_with fail
      go_ret
      exact ⟨rfl, hb⟩
end Go.Proofs.YtjnbhiamaabbgaaDoor
