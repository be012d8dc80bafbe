/-
  cofferlaw.called: Root; and called as a whole.
-/
import Derived.Test.YtjnbhiamaabbgaaDoorCalled
import Derived.Deep.QuietTactic
import Derived.OwnWalk
namespace Go.Proofs.YtjnbhiamaabbgaaDoor
open Go.RowKit
attribute [local go_sem] st_size st_append
/-- These texts lie where a slice points to, if there are any. -/
def Has (w : World) (a : Option Addr) (P : List (List UInt8)) : Prop := 0 < P.length → ∃ g off, a = some ⟨g, off, none⟩ ∧ Lies w g off P
theorem Has.then {w w' : World} {a : Option Addr} {P : List (List UInt8)} (h : Has w a P) (hb : Below w.heap.size w w') : Has w' a P := fun h0 => by
  obtain ⟨g, off, e, hl⟩ := h h0
  exact ⟨g, off, e, hl.below (block_lt_of_cell (hl 0 h0)) hb⟩
/-- Both sides' Root give the same answer. -/
theorem root_both (P : List (List UInt8)) : ∃ (r : List UInt8) (e : Int),
    (∀ (w : World) (a : Option Addr) (cap : Nat), Tab w → Has w a P → Calls Tryd.prog 16 #[.slice a P.length cap] w fun en w' => en = .returned (.tuple #[.string (st r), .int .i64 e]) ∧ Below w.heap.size w w') ∧
    (∀ (w : World) (a : Option Addr) (cap : Nat), P.length ≤ cap → Tab2 w → Has w a P → Calls Tryd.prog 24 #[.slice a P.length cap] w fun en w' => en = .returned (.tuple #[.string (st r), .int .i64 e]) ∧ Below w.heap.size w w') := by
  have same : ∀ {w : World} {en : Ending} {w' : World} {x : Ending}, (en = x ∧ w' = w) → en = x ∧ Below w.heap.size w w' := by
    rintro w en w' x ⟨h, rfl⟩
    exact ⟨h, Below.refl _ _⟩
  by_cases h0 : P.length = 0
  · obtain rfl : P = [] := List.eq_nil_of_length_eq_zero h0
    exact ⟨rootL [], 0, fun w a cap hT _ => Root_nil a cap w hT, fun w a cap _ hT _ => RRoot_nil a cap w hT⟩
  by_cases hm : 256 < P.length
  · exact ⟨[], 1, fun w a cap _ _ => (Root_many a P.length cap hm w).mono fun _ _ h => same h, fun w a cap _ _ _ => (RRoot_many a P.length cap hm w).mono fun _ _ h => same h⟩
  by_cases hp : ∀ x ∈ P, x.length ≤ 4095
  · refine ⟨rootL P, 0, fun w a cap hT hH => ?_, fun w a cap hcap hT hH => ?_⟩
    · obtain ⟨g, off, rfl, hl⟩ := hH (by omega)
      exact Root_ok P (by omega) (by omega) hp g off cap w hT hl
    · obtain ⟨g, off, rfl, hl⟩ := hH (by omega)
      exact RRoot_ok P (by omega) (by omega) hp g off cap hcap w hT hl
  have hex : ∃ j, ∃ h : j < P.length, 4095 < (P[j]'h).length := by
    apply Classical.byContradiction
    intro hn
    apply hp
    intro x hx
    obtain ⟨j, hj, rfl⟩ := List.getElem_of_mem hx
    apply Classical.byContradiction
    intro hx2
    exact hn ⟨j, hj, by omega⟩
  have hfirst : ∀ n, (∃ j, j ≤ n ∧ ∃ h : j < P.length, 4095 < (P[j]'h).length) → ∃ j, ∃ h : j < P.length, 4095 < (P[j]'h).length ∧ ∀ k (hk : k < j), (P[k]'(by omega)).length ≤ 4095 := by
    intro n
    induction n with
    | zero =>
      rintro ⟨j, hj, h, hb⟩
      exact ⟨j, h, hb, fun k hk => by omega⟩
    | succ n ih =>
      rintro ⟨j, hj, h, hb⟩
      by_cases hs : ∃ j, j ≤ n ∧ ∃ h : j < P.length, 4095 < (P[j]'h).length
      · exact ih hs
      · refine ⟨j, h, hb, fun k hk => ?_⟩
        apply Classical.byContradiction
        intro hx
        exact hs ⟨k, by omega, by omega, by omega⟩
  obtain ⟨j0, hj0, hb0⟩ := hex
  obtain ⟨j, hj, hb, hf⟩ := hfirst j0 ⟨j0, Nat.le_refl _, hj0, hb0⟩
  refine ⟨[], 1, fun w a cap hT hH => ?_, fun w a cap hcap hT hH => ?_⟩
  · obtain ⟨g, off, rfl, hl⟩ := hH (by omega)
    exact (Root_part P (by omega) j hj hb hf g off cap w hl).mono fun _ _ h => same h
  · obtain ⟨g, off, rfl, hl⟩ := hH (by omega)
    exact (RRoot_part P (by omega) j hj hb hf g off cap w hl).mono fun _ _ h => same h
/-- A slice of texts: nothing in it, or its texts lie in memory. -/
def SL2 (w : World) (v : Value) (P : List (List UInt8)) : Prop := ∃ a cap, v = .slice a P.length cap ∧ P.length ≤ cap ∧ Has w a P
set_option maxHeartbeats 1000000 in
set_option maxRecDepth 20000 in
theorem called_root0 (n : Int) (S T U : List UInt8) (a : Option Addr) (cap : Nat) (w : World) (h1 : Tab w) (h2 : Tab2 w) :
    Calls Tryd.prog 10 #[.agg #[.int .i64 4, .int .i64 n, .string (st S), .string (st T), .string (st U), .slice a 0 cap]] w fun en w' => en = .returned (.bool true) ∧ Below w.heap.size w w' := by
  go_enter Tryd.func10, Tryd.ntmps10
  go_upto_region 1 with fail
  have hB := Box.new w 4 n S T U (.slice a 0 cap)
  have hb0 : Below w.heap.size w (w.alloc (.cells #[.int .i64 4, .int .i64 n, .string (st S), .string (st T), .string (st U), .slice a 0 cap] 28)) := (Below.refl _ _).alloc (Nat.le_refl _) _
  generalize w.alloc (.cells #[.int .i64 4, .int .i64 n, .string (st S), .string (st T), .string (st U), .slice a 0 cap] 28) = w0 at *
  have T0 : Hid (Tab w0) := h1.below h1.pos hb0
  have R0 : Hid (Tab2 w0) := h2.then hb0
  have HB : Hid (Box w0 w.heap.size 4 n S T U (.slice a 0 cap)) := hB
  obtain ⟨c0, c1, c2, c3, c4, c5⟩ := hB
  clear h1 h2
  have hlt0 : w.heap.size < w0.heap.size := block_lt_of_cell c0
  have hbA : Below w0.heap.size w0 (w0.alloc (.cells #[] 9)) := (Below.refl _ w0).alloc (Nat.le_refl _) _
  have TA : Hid (Tab (w0.alloc (.cells #[] 9))) := T0.out.below T0.out.pos hbA
  have RA : Hid (Tab2 (w0.alloc (.cells #[] 9))) := R0.out.then hbA
  have BA : Hid (Box (w0.alloc (.cells #[] 9)) w.heap.size 4 n S T U (.slice a 0 cap)) := HB.out.then hbA
  cases a
  · go_wp2_with fail
    generalize w0.alloc (.cells #[] 9) = wA at *
    go_fit (Root_nil _ _ _ TA.out)
    rintro en w1 ⟨rfl, hb1⟩
    have B1 : Hid (Box w1 w.heap.size 4 n S T U (.slice none 0 cap)) := BA.out.then hb1
    have R1 : Hid (Tab2 w1) := RA.out.then hb1
    clear c0 c1 c2 c3 c4 c5
    obtain ⟨c0, c1, c2, c3, c4, c5⟩ := B1.out
    go_wp2_with fail
    go_fit (RRoot_nil none cap _ R1.out)
    rintro en w2 ⟨rfl, hb2⟩
    generalize rootL [] = Y at *
    go_wp2_with fail
    go_loopw [8] (fun i wr => i = .int .i64 0 ∧ wr = w2) (fun _ _ => 0)
    case atStart => exact ⟨rfl, rfl⟩
    case round =>
      obtain ⟨rfl, rfl⟩ := hrel
      go_wp2_with fail
      go_fit (num_any _ _)
      rintro en w3 ⟨rfl, rfl⟩
      go_wp2_with fail
      go_ret
      exact ⟨rfl, bthen hb0 (bthen hbA (bthen hb1 hb2))⟩
  · rename_i val; go_wp2_with fail
    generalize w0.alloc (.cells #[] 9) = wA at *
    go_fit (Root_nil _ _ _ TA.out)
    rintro en w1 ⟨rfl, hb1⟩
    have B1 : Hid (Box w1 w.heap.size 4 n S T U (.slice (some val) 0 cap)) := BA.out.then hb1
    have R1 : Hid (Tab2 w1) := RA.out.then hb1
    clear c0 c1 c2 c3 c4 c5
    obtain ⟨c0, c1, c2, c3, c4, c5⟩ := B1.out
    go_wp2_with fail
    go_fit (RRoot_nil (some val) cap _ R1.out)
    rintro en w2 ⟨rfl, hb2⟩
    generalize rootL [] = Y at *
    go_wp2_with fail
    go_loopw [8] (fun i wr => i = .int .i64 0 ∧ wr = w2) (fun _ _ => 0)
    case atStart => exact ⟨rfl, rfl⟩
    case round =>
      obtain ⟨rfl, rfl⟩ := hrel
      go_wp2_with fail
      go_fit (num_any _ _)
      rintro en w3 ⟨rfl, rfl⟩
      go_wp2_with fail
      go_ret
      exact ⟨rfl, bthen hb0 (bthen hbA (bthen hb1 hb2))⟩
set_option maxHeartbeats 1000000 in
set_option maxRecDepth 20000 in
theorem called_root1 (n : Int) (S T U : List UInt8) (P : List (List UInt8)) (hP : 0 < P.length) (hreach : P.length * 16 ≤ 140737488351232) (g off cap : Nat) (hcap : P.length ≤ cap) (w : World) (h1 : Tab w) (h2 : Tab2 w) (hl : Lies w g off P) :
    Calls Tryd.prog 10 #[.agg #[.int .i64 4, .int .i64 n, .string (st S), .string (st T), .string (st U), .slice (some ⟨g, off, none⟩) P.length cap]] w fun en w' => en = .returned (.bool true) ∧ Below w.heap.size w w' := by
  obtain ⟨i9, hi, hz0, hz1, hz2⟩ := info9
  obtain ⟨r, e, HR1', HR2'⟩ := root_both P
  have HR1 : Hid (∀ (w : World) (a : Option Addr) (cap : Nat), Tab w → Has w a P → Calls Tryd.prog 16 #[.slice a P.length cap] w fun en w' => en = .returned (.tuple #[.string (st r), .int .i64 e]) ∧ Below w.heap.size w w') := HR1'
  have HR2 : Hid (∀ (w : World) (a : Option Addr) (cap : Nat), P.length ≤ cap → Tab2 w → Has w a P → Calls Tryd.prog 24 #[.slice a P.length cap] w fun en w' => en = .returned (.tuple #[.string (st r), .int .i64 e]) ∧ Below w.heap.size w w') := HR2'
  clear HR1' HR2'
  go_enter Tryd.func10, Tryd.ntmps10
  go_upto_region 1 with fail
  have hB := Box.new w 4 n S T U (.slice (some ⟨g, off, none⟩) P.length cap)
  have hb0 : Below w.heap.size w (w.alloc (.cells #[.int .i64 4, .int .i64 n, .string (st S), .string (st T), .string (st U), .slice (some ⟨g, off, none⟩) P.length cap] 28)) := (Below.refl _ _).alloc (Nat.le_refl _) _
  generalize w.alloc (.cells #[.int .i64 4, .int .i64 n, .string (st S), .string (st T), .string (st U), .slice (some ⟨g, off, none⟩) P.length cap] 28) = w0 at *
  have T0 : Hid (Tab w0) := h1.below h1.pos hb0
  have R0 : Hid (Tab2 w0) := h2.then hb0
  have HB : Hid (Box w0 w.heap.size 4 n S T U (.slice (some ⟨g, off, none⟩) P.length cap)) := hB
  obtain ⟨c0, c1, c2, c3, c4, c5⟩ := hB
  clear h1 h2
  have hlt0 : w.heap.size < w0.heap.size := block_lt_of_cell c0
  have hgw : g < w.heap.size := block_lt_of_cell (hl 0 hP)
  have hl0 : Lies w0 g off P := hl.below hgw hb0
  clear hl
  have hlA : Lies (w0.alloc (.cells #[] 9)) g off P := hl0.below (by omega) ((Below.refl _ w0).alloc (Nat.le_refl _) _)
  have HL0 : Hid (Lies w0 g off P) := hl0
  have HLA : Hid (Lies (w0.alloc (.cells #[] 9)) g off P) := hlA
  clear hl0 hlA
  go_wp2_with (at_builtin; refine wpList_append_own _ rfl _ _ 26 rfl w0.heap.size 9 i9 (.string ⟨#[]⟩) 1 16 Tryd.underlying26 hi hz0 hz1 hz2 rfl (by decide) (.slice (some ⟨w0.heap.size, 0, none⟩) 0 0) 0 [] rfl ?own ⟨g, off, none⟩ P.length cap (sv P) rfl ?l1 ?l2 (sv_one P) ?l3 ?l4 ?l5 ?_)
  case own => exact ⟨rfl, .inr ⟨w0.heap.size, 0, #[], rfl, Nat.le_refl _, heap_alloc_new _ _, Nat.le_refl _, by decide, rfl, rfl⟩⟩
  case l1 => rw [sv_len]; omega
  case l2 =>
    intro j u hj
    have hjl : j < P.length := by have := (List.getElem?_eq_some_iff.1 hj).1; rwa [sv_len] at this
    rw [sv_at P j hjl] at hj
    rw [Addr.add_mid, HLA.out j hjl]
    exact hj
  case l3 => unfold maxLen; omega
  case l4 => omega
  case l5 => simp
  intro v' w1 ho1 hgr1 _
  have hbA : Below w0.heap.size w0 (w0.alloc (.cells #[] 9)) := (Below.refl _ w0).alloc (Nat.le_refl _) _
  have hb1 : Below w0.heap.size w0 w1 := hbA.grown hgr1 hbA.size (fun q hq => by cases hq; exact Nat.le_refl _)
  obtain ⟨g', cap3, rfl, hbg, hgw1⟩ := ho1.form hP
  have hls := (lies_of_owns ho1).2.2.2
  have HLN : Hid (Lies w1 g' 0 P) := hls
  have HL1 : Hid (Lies w1 g off P) := HL0.out.below (by omega) hb1
  clear hls ho1 hgr1 hbA HLA
  have B1 : Hid (Box w1 w.heap.size 4 n S T U (.slice (some ⟨g, off, none⟩) P.length cap)) := HB.out.then hb1
  have T1 : Hid (Tab w1) := T0.out.below T0.out.pos hb1
  have R1 : Hid (Tab2 w1) := R0.out.then hb1
  clear c0 c1 c2 c3 c4 c5
  obtain ⟨c0, c1, c2, c3, c4, c5⟩ := B1.out
  have hlt1 : w.heap.size < w1.heap.size := block_lt_of_cell c0
  go_wp2_with fail
  go_fit (HR1.out w1 (some ⟨g', 0, none⟩) cap3 T1.out (fun _ => ⟨g', 0, rfl, HLN.out⟩))
  rintro en w2 ⟨rfl, hb2⟩
  have B2 : Hid (Box w2 w.heap.size 4 n S T U (.slice (some ⟨g, off, none⟩) P.length cap)) := B1.out.then hb2
  have R2 : Hid (Tab2 w2) := R1.out.then hb2
  have LN2 : Hid (Lies w2 g' 0 P) := HLN.out.below hgw1 hb2
  have L2 : Hid (Lies w2 g off P) := HL1.out.below (by omega) hb2
  clear c0 c1 c2 c3 c4 c5
  obtain ⟨c0, c1, c2, c3, c4, c5⟩ := B2.out
  have hlt2 : w1.heap.size ≤ w2.heap.size := hb2.size
  go_wp2_with fail
  go_fit (HR2.out w2 (some ⟨g, off, none⟩) cap hcap R2.out (fun _ => ⟨g, off, rfl, L2.out⟩))
  rintro en w3 ⟨rfl, hb3⟩
  have B3 : Box w3 w.heap.size 4 n S T U (.slice (some ⟨g, off, none⟩) P.length cap) := B2.out.then hb3
  have LN3 : Lies w3 g' 0 P := LN2.out.below (by omega) hb3
  have L3 : Lies w3 g off P := L2.out.below (by omega) hb3
  have hbW : Below w.heap.size w w3 := bthen hb0 (bthen hb1 (bthen hb2 hb3))
  clear c0 c1 c2 c3 c4 c5 B1 B2 LN2 L2 HLN HL1 HL0
  go_wp2_with fail
  go_loopw [8] (fun i wr => ∃ k : Nat, k ≤ P.length ∧ i = .int .i64 k ∧ Box wr w.heap.size 4 n S T U (.slice (some ⟨g, off, none⟩) P.length cap) ∧ Lies wr g' 0 P ∧ Lies wr g off P ∧ Below w.heap.size w wr) (fun i _ => (P.length - intOf i).toNat)
  case atStart => exact ⟨0, by omega, rfl, B3, LN3, L3, hbW⟩
  case round =>
    clear B3 LN3 L3 hbW
    obtain ⟨k, hk, rfl, hBx, hLN, hLO, hbW⟩ := hrel
    by_cases hlt : k < P.length
    · have d0 : wr.cell? ⟨g', k, none⟩ = some (.string (st P[k])) := by have := hLN k hlt; rwa [Nat.zero_add] at this
      have d1 : wr.cell? ⟨g, off + k, none⟩ = some (.string (st P[k])) := hLO k hlt
      have HBx : Hid (Box wr w.heap.size 4 n S T U (.slice (some ⟨g, off, none⟩) P.length cap)) := hBx
      have HLN : Hid (Lies wr g' 0 P) := hLN
      have HLO : Hid (Lies wr g off P) := hLO
      have c5 := hBx.c5
      have i1 : (k : Int) < (P.length : Nat) := by omega
      have i2 : (k : Int) < 9223372036854775807 := by omega
      generalize P[k] = x at *
      clear hBx hLN hLO
      go_wp2_with fail
      go_quiet (fail)
      go_wp2_with fail
      go_roundw
      case rel =>
        have hq : Below wr.heap.size wr (wr.drewN nq) := ⟨rfl, rfl, rfl, Nat.le_refl _, fun _ _ => rfl⟩
        exact ⟨k + 1, by omega, by go_num, HBx.out.then hq, HLN.out.below (block_lt_of_cell d0) hq, HLO.out.below (block_lt_of_cell d1) hq, bthen hbW hq⟩
      case measure => simp [intOf]; omega
    · obtain rfl : k = P.length := by omega
      have i1 : ¬ ((P.length : Nat) : Int) < (P.length : Nat) := by omega
      clear hBx hLN hLO
      go_wp2_with fail
      go_fit (num_any _ _)
      rintro en w4 ⟨rfl, rfl⟩
      go_wp2_with fail
      go_ret
      exact ⟨rfl, hbW⟩
theorem called_any (kind n : Int) (hk : kind ≤ 4) (S T U : List UInt8) (v : Value) (P : List (List UInt8)) (hreach : P.length * 16 ≤ 140737488351232) (w : World) (h1 : Tab w) (h2 : Tab2 w) (hv : SL2 w v P) :
    Calls Tryd.prog 10 #[.agg #[.int .i64 kind, .int .i64 n, .string (st S), .string (st T), .string (st U), v]] w fun en w' => en = .returned (.bool true) ∧ Below w.heap.size w w' := by
  by_cases k1 : kind = 1
  · subst k1; exact called_sum n S T U v w h1 h2
  by_cases k2 : kind = 2
  · subst k2; exact called_mac n S T U v w h1 h2
  by_cases k3 : kind = 3
  · subst k3; exact called_derive n S T U v w h1 h2
  by_cases k4 : kind = 4
  · subst k4
    obtain ⟨a, cap, rfl, hcap, hH⟩ := hv
    by_cases h0 : P.length = 0
    · rw [h0]; exact called_root0 n S T U a cap w h1 h2
    · obtain ⟨g, off, rfl, hl⟩ := hH (by omega)
      exact called_root1 n S T U P (by omega) hreach g off cap hcap w h1 h2 hl
  exact called_other kind n (by omega) S T U v w
end Go.Proofs.YtjnbhiamaabbgaaDoor
