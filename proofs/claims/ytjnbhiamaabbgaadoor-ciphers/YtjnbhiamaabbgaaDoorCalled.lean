/-
  cofferlaw.called: the program's answer is the document's, for every call of Sum, Mac, Derive and Root.
-/
import Derived.Test.YtjnbhiamaabbgaaDoorRefG
namespace Go.Proofs.YtjnbhiamaabbgaaDoor
open Go.RowKit
attribute [local go_sem] st_size st_append
/-- The copy of a call's words in memory. -/
structure Box (w : World) (g : Nat) (kind n : Int) (S T U : List UInt8) (v : Value) : Prop where
  c0 : w.cell? ⟨g, 0, none⟩ = some (.int .i64 kind)
  c1 : w.cell? ⟨g, 1, none⟩ = some (.int .i64 n)
  c2 : w.cell? ⟨g, 2, none⟩ = some (.string (st S))
  c3 : w.cell? ⟨g, 3, none⟩ = some (.string (st T))
  c4 : w.cell? ⟨g, 4, none⟩ = some (.string (st U))
  c5 : w.cell? ⟨g, 5, none⟩ = some v
theorem Box.then {w w' : World} {g : Nat} {kind n : Int} {S T U : List UInt8} {v : Value} (h : Box w g kind n S T U v) (hb : Below w.heap.size w w') : Box w' g kind n S T U v := by
  have hg : g < w.heap.size := block_lt_of_cell h.c0
  exact ⟨(hb.cell (p := ⟨g, 0, none⟩) hg).trans h.c0, (hb.cell (p := ⟨g, 1, none⟩) hg).trans h.c1, (hb.cell (p := ⟨g, 2, none⟩) hg).trans h.c2, (hb.cell (p := ⟨g, 3, none⟩) hg).trans h.c3, (hb.cell (p := ⟨g, 4, none⟩) hg).trans h.c4, (hb.cell (p := ⟨g, 5, none⟩) hg).trans h.c5⟩
theorem Box.new (w : World) (kind n : Int) (S T U : List UInt8) (v : Value) : Box (w.alloc (.cells #[.int .i64 kind, .int .i64 n, .string (st S), .string (st T), .string (st U), v] 28)) w.heap.size kind n S T U v := by
  have h := heap_alloc_new w (.cells #[.int .i64 kind, .int .i64 n, .string (st S), .string (st T), .string (st U), v] 28)
  refine ⟨?_, ?_, ?_, ?_, ?_, ?_⟩
  all_goals (rw [cell_of_row _ _ _ _ _ _ h]; rfl)
theorem num_any (e : Int) (w : World) : Calls Tryd.prog 28 #[.int .i64 e] w fun en w' => en = .returned (.int .i64 e) ∧ w' = w := by
  go_enter Tryd.func28, Tryd.ntmps28
  go_wp2_with fail
  go_ret
  exact ⟨rfl, rfl⟩
set_option maxHeartbeats 1000000 in
set_option maxRecDepth 20000 in
theorem called_sum (n : Int) (S T U : List UInt8) (v : Value) (w : World) (h1 : Tab w) (h2 : Tab2 w) :
    Calls Tryd.prog 10 #[.agg #[.int .i64 1, .int .i64 n, .string (st S), .string (st T), .string (st U), v]] w fun en w' => en = .returned (.bool true) ∧ Below w.heap.size w w' := by
  go_enter Tryd.func10, Tryd.ntmps10
  go_upto_region 1 with fail
  have hB := Box.new w 1 n S T U v
  have hb0 : Below w.heap.size w (w.alloc (.cells #[.int .i64 1, .int .i64 n, .string (st S), .string (st T), .string (st U), v] 28)) := (Below.refl _ _).alloc (Nat.le_refl _) _
  generalize w.alloc (.cells #[.int .i64 1, .int .i64 n, .string (st S), .string (st T), .string (st U), v] 28) = w0 at *
  have T0 : Hid (Tab w0) := h1.below h1.pos hb0
  have R0 : Hid (Tab2 w0) := h2.then hb0
  have HB : Hid (Box w0 w.heap.size 1 n S T U v) := hB
  obtain ⟨c0, c1, c2, c3, c4, c5⟩ := hB
  clear h1 h2
  by_cases hs : S.length ≤ 4096
  · skip
    go_wp2_with fail
    go_fit (Sum_ok S hs _ T0.out)
    rintro en w1 ⟨rfl, hb1⟩
    have B1 : Hid (Box w1 w.heap.size 1 n S T U v) := HB.out.then hb1
    have R1 : Hid (Tab2 w1) := R0.out.then hb1
    clear c0 c1 c2 c3 c4 c5
    obtain ⟨c0, c1, c2, c3, c4, c5⟩ := B1.out
    go_wp2_with fail
    go_fit (RSum_ok S hs _ R1.out)
    rintro en w2 ⟨rfl, hb2⟩
    generalize sha S = Y at *
    go_wp2_with fail
    go_fit (num_any _ _)
    rintro en w3 ⟨rfl, rfl⟩
    go_wp2_with fail
    go_ret
    exact ⟨rfl, bthen hb0 (bthen hb1 hb2)⟩
  · have hs : 4096 < S.length := by omega
    go_wp2_with fail
    go_fit (Sum_long S hs _)
    rintro en w1 ⟨rfl, rfl⟩
    have R1 := R0
    go_wp2_with fail
    go_fit (RSum_long S hs _)
    rintro en w2 ⟨rfl, rfl⟩
    skip
    go_wp2_with fail
    go_fit (num_any _ _)
    rintro en w3 ⟨rfl, rfl⟩
    go_wp2_with fail
    go_ret
    exact ⟨rfl, hb0⟩

set_option maxHeartbeats 1000000 in
set_option maxRecDepth 20000 in
theorem called_mac (n : Int) (S T U : List UInt8) (v : Value) (w : World) (h1 : Tab w) (h2 : Tab2 w) :
    Calls Tryd.prog 10 #[.agg #[.int .i64 2, .int .i64 n, .string (st S), .string (st T), .string (st U), v]] w fun en w' => en = .returned (.bool true) ∧ Below w.heap.size w w' := by
  go_enter Tryd.func10, Tryd.ntmps10
  go_upto_region 1 with fail
  have hB := Box.new w 2 n S T U v
  have hb0 : Below w.heap.size w (w.alloc (.cells #[.int .i64 2, .int .i64 n, .string (st S), .string (st T), .string (st U), v] 28)) := (Below.refl _ _).alloc (Nat.le_refl _) _
  generalize w.alloc (.cells #[.int .i64 2, .int .i64 n, .string (st S), .string (st T), .string (st U), v] 28) = w0 at *
  have T0 : Hid (Tab w0) := h1.below h1.pos hb0
  have R0 : Hid (Tab2 w0) := h2.then hb0
  have HB : Hid (Box w0 w.heap.size 2 n S T U v) := hB
  obtain ⟨c0, c1, c2, c3, c4, c5⟩ := hB
  clear h1 h2
  by_cases hs : S.length ≤ 4096
  · by_cases ht : T.length ≤ 4096
    · skip
      go_wp2_with fail
      go_fit (Mac_ok S T hs ht _ T0.out)
      rintro en w1 ⟨rfl, hb1⟩
      have B1 : Hid (Box w1 w.heap.size 2 n S T U v) := HB.out.then hb1
      have R1 : Hid (Tab2 w1) := R0.out.then hb1
      clear c0 c1 c2 c3 c4 c5
      obtain ⟨c0, c1, c2, c3, c4, c5⟩ := B1.out
      go_wp2_with fail
      go_fit (RMac_ok S T hs ht _ R1.out)
      rintro en w2 ⟨rfl, hb2⟩
      generalize hmac S T = Y at *
      go_wp2_with fail
      go_fit (num_any _ _)
      rintro en w3 ⟨rfl, rfl⟩
      go_wp2_with fail
      go_ret
      exact ⟨rfl, bthen hb0 (bthen hb1 hb2)⟩
    · have ht : 4096 < T.length := by omega
      go_wp2_with fail
      go_fit (Mac_long2 S T hs ht _)
      rintro en w1 ⟨rfl, rfl⟩
      have R1 := R0
      go_wp2_with fail
      go_fit (RMac_long2 S T hs ht _)
      rintro en w2 ⟨rfl, rfl⟩
      skip
      go_wp2_with fail
      go_fit (num_any _ _)
      rintro en w3 ⟨rfl, rfl⟩
      go_wp2_with fail
      go_ret
      exact ⟨rfl, hb0⟩
  · have hs : 4096 < S.length := by omega
    go_wp2_with fail
    go_fit (Mac_long1 S T hs _)
    rintro en w1 ⟨rfl, rfl⟩
    have R1 := R0
    go_wp2_with fail
    go_fit (RMac_long1 S T hs _)
    rintro en w2 ⟨rfl, rfl⟩
    skip
    go_wp2_with fail
    go_fit (num_any _ _)
    rintro en w3 ⟨rfl, rfl⟩
    go_wp2_with fail
    go_ret
    exact ⟨rfl, hb0⟩

set_option maxHeartbeats 1000000 in
set_option maxRecDepth 20000 in
theorem called_derive1 (n : Int) (S T U : List UInt8) (v : Value) (hs : 4096 < S.length) (w : World) (h1 : Tab w) (h2 : Tab2 w) :
    Calls Tryd.prog 10 #[.agg #[.int .i64 3, .int .i64 n, .string (st S), .string (st T), .string (st U), v]] w fun en w' => en = .returned (.bool true) ∧ Below w.heap.size w w' := by
  go_enter Tryd.func10, Tryd.ntmps10
  go_upto_region 1 with fail
  have hB := Box.new w 3 n S T U v
  have hb0 : Below w.heap.size w (w.alloc (.cells #[.int .i64 3, .int .i64 n, .string (st S), .string (st T), .string (st U), v] 28)) := (Below.refl _ _).alloc (Nat.le_refl _) _
  generalize w.alloc (.cells #[.int .i64 3, .int .i64 n, .string (st S), .string (st T), .string (st U), v] 28) = w0 at *
  have T0 : Hid (Tab w0) := h1.below h1.pos hb0
  have R0 : Hid (Tab2 w0) := h2.then hb0
  have HB : Hid (Box w0 w.heap.size 3 n S T U v) := hB
  obtain ⟨c0, c1, c2, c3, c4, c5⟩ := hB
  clear h1 h2
  · skip
    go_wp2_with fail
    go_fit (Derive_long1 S T U hs n _)
    rintro en w1 ⟨rfl, rfl⟩
    have R1 := R0
    go_wp2_with fail
    go_fit (RDerive_long1 S T U hs n _)
    rintro en w2 ⟨rfl, rfl⟩
    skip
    go_wp2_with fail
    go_fit (num_any _ _)
    rintro en w3 ⟨rfl, rfl⟩
    go_wp2_with fail
    go_ret
    exact ⟨rfl, hb0⟩

set_option maxHeartbeats 1000000 in
set_option maxRecDepth 20000 in
theorem called_derive2 (n : Int) (S T U : List UInt8) (v : Value) (hs : S.length ≤ 4096) (ht : 4096 < T.length) (w : World) (h1 : Tab w) (h2 : Tab2 w) :
    Calls Tryd.prog 10 #[.agg #[.int .i64 3, .int .i64 n, .string (st S), .string (st T), .string (st U), v]] w fun en w' => en = .returned (.bool true) ∧ Below w.heap.size w w' := by
  go_enter Tryd.func10, Tryd.ntmps10
  go_upto_region 1 with fail
  have hB := Box.new w 3 n S T U v
  have hb0 : Below w.heap.size w (w.alloc (.cells #[.int .i64 3, .int .i64 n, .string (st S), .string (st T), .string (st U), v] 28)) := (Below.refl _ _).alloc (Nat.le_refl _) _
  generalize w.alloc (.cells #[.int .i64 3, .int .i64 n, .string (st S), .string (st T), .string (st U), v] 28) = w0 at *
  have T0 : Hid (Tab w0) := h1.below h1.pos hb0
  have R0 : Hid (Tab2 w0) := h2.then hb0
  have HB : Hid (Box w0 w.heap.size 3 n S T U v) := hB
  obtain ⟨c0, c1, c2, c3, c4, c5⟩ := hB
  clear h1 h2
  · skip
    go_wp2_with fail
    go_fit (Derive_long2 S T U hs ht n _)
    rintro en w1 ⟨rfl, rfl⟩
    have R1 := R0
    go_wp2_with fail
    go_fit (RDerive_long2 S T U hs ht n _)
    rintro en w2 ⟨rfl, rfl⟩
    skip
    go_wp2_with fail
    go_fit (num_any _ _)
    rintro en w3 ⟨rfl, rfl⟩
    go_wp2_with fail
    go_ret
    exact ⟨rfl, hb0⟩

set_option maxHeartbeats 1000000 in
set_option maxRecDepth 20000 in
theorem called_derive3 (n : Int) (S T U : List UInt8) (v : Value) (hs : S.length ≤ 4096) (ht : T.length ≤ 4096) (hu : 4063 < U.length) (w : World) (h1 : Tab w) (h2 : Tab2 w) :
    Calls Tryd.prog 10 #[.agg #[.int .i64 3, .int .i64 n, .string (st S), .string (st T), .string (st U), v]] w fun en w' => en = .returned (.bool true) ∧ Below w.heap.size w w' := by
  go_enter Tryd.func10, Tryd.ntmps10
  go_upto_region 1 with fail
  have hB := Box.new w 3 n S T U v
  have hb0 : Below w.heap.size w (w.alloc (.cells #[.int .i64 3, .int .i64 n, .string (st S), .string (st T), .string (st U), v] 28)) := (Below.refl _ _).alloc (Nat.le_refl _) _
  generalize w.alloc (.cells #[.int .i64 3, .int .i64 n, .string (st S), .string (st T), .string (st U), v] 28) = w0 at *
  have T0 : Hid (Tab w0) := h1.below h1.pos hb0
  have R0 : Hid (Tab2 w0) := h2.then hb0
  have HB : Hid (Box w0 w.heap.size 3 n S T U v) := hB
  obtain ⟨c0, c1, c2, c3, c4, c5⟩ := hB
  clear h1 h2
  · skip
    go_wp2_with fail
    go_fit (Derive_long3 S T U hs ht hu n _)
    rintro en w1 ⟨rfl, rfl⟩
    have R1 := R0
    go_wp2_with fail
    go_fit (RDerive_long3 S T U hs ht hu n _)
    rintro en w2 ⟨rfl, rfl⟩
    skip
    go_wp2_with fail
    go_fit (num_any _ _)
    rintro en w3 ⟨rfl, rfl⟩
    go_wp2_with fail
    go_ret
    exact ⟨rfl, hb0⟩

set_option maxHeartbeats 1000000 in
set_option maxRecDepth 20000 in
theorem called_derive4 (n : Int) (S T U : List UInt8) (v : Value) (hs : S.length ≤ 4096) (ht : T.length ≤ 4096) (hu : U.length ≤ 4063) (hn : n < 0) (w : World) (h1 : Tab w) (h2 : Tab2 w) :
    Calls Tryd.prog 10 #[.agg #[.int .i64 3, .int .i64 n, .string (st S), .string (st T), .string (st U), v]] w fun en w' => en = .returned (.bool true) ∧ Below w.heap.size w w' := by
  go_enter Tryd.func10, Tryd.ntmps10
  go_upto_region 1 with fail
  have hB := Box.new w 3 n S T U v
  have hb0 : Below w.heap.size w (w.alloc (.cells #[.int .i64 3, .int .i64 n, .string (st S), .string (st T), .string (st U), v] 28)) := (Below.refl _ _).alloc (Nat.le_refl _) _
  generalize w.alloc (.cells #[.int .i64 3, .int .i64 n, .string (st S), .string (st T), .string (st U), v] 28) = w0 at *
  have T0 : Hid (Tab w0) := h1.below h1.pos hb0
  have R0 : Hid (Tab2 w0) := h2.then hb0
  have HB : Hid (Box w0 w.heap.size 3 n S T U v) := hB
  obtain ⟨c0, c1, c2, c3, c4, c5⟩ := hB
  clear h1 h2
  · skip
    go_wp2_with fail
    go_fit (Derive_neg S T U hs ht hu n hn _)
    rintro en w1 ⟨rfl, rfl⟩
    have R1 := R0
    go_wp2_with fail
    go_fit (RDerive_neg S T U hs ht hu n hn _)
    rintro en w2 ⟨rfl, rfl⟩
    skip
    go_wp2_with fail
    go_fit (num_any _ _)
    rintro en w3 ⟨rfl, rfl⟩
    go_wp2_with fail
    go_ret
    exact ⟨rfl, hb0⟩

set_option maxHeartbeats 1000000 in
set_option maxRecDepth 20000 in
theorem called_derive5 (n : Int) (S T U : List UInt8) (v : Value) (hs : S.length ≤ 4096) (ht : T.length ≤ 4096) (hu : U.length ≤ 4063) (hn : 255 < n) (w : World) (h1 : Tab w) (h2 : Tab2 w) :
    Calls Tryd.prog 10 #[.agg #[.int .i64 3, .int .i64 n, .string (st S), .string (st T), .string (st U), v]] w fun en w' => en = .returned (.bool true) ∧ Below w.heap.size w w' := by
  go_enter Tryd.func10, Tryd.ntmps10
  go_upto_region 1 with fail
  have hB := Box.new w 3 n S T U v
  have hb0 : Below w.heap.size w (w.alloc (.cells #[.int .i64 3, .int .i64 n, .string (st S), .string (st T), .string (st U), v] 28)) := (Below.refl _ _).alloc (Nat.le_refl _) _
  generalize w.alloc (.cells #[.int .i64 3, .int .i64 n, .string (st S), .string (st T), .string (st U), v] 28) = w0 at *
  have T0 : Hid (Tab w0) := h1.below h1.pos hb0
  have R0 : Hid (Tab2 w0) := h2.then hb0
  have HB : Hid (Box w0 w.heap.size 3 n S T U v) := hB
  obtain ⟨c0, c1, c2, c3, c4, c5⟩ := hB
  clear h1 h2
  · skip
    go_wp2_with fail
    go_fit (Derive_big S T U hs ht hu n hn _)
    rintro en w1 ⟨rfl, rfl⟩
    have R1 := R0
    go_wp2_with fail
    go_fit (RDerive_big S T U hs ht hu n hn _)
    rintro en w2 ⟨rfl, rfl⟩
    skip
    go_wp2_with fail
    go_fit (num_any _ _)
    rintro en w3 ⟨rfl, rfl⟩
    go_wp2_with fail
    go_ret
    exact ⟨rfl, hb0⟩

set_option maxHeartbeats 1000000 in
set_option maxRecDepth 20000 in
theorem called_derive6 (n : Int) (S T U : List UInt8) (v : Value) (hs : S.length ≤ 4096) (ht : T.length ≤ 4096) (hu : U.length ≤ 4063) (hn0 : 0 ≤ n) (hn : n ≤ 255) (w : World) (h1 : Tab w) (h2 : Tab2 w) :
    Calls Tryd.prog 10 #[.agg #[.int .i64 3, .int .i64 n, .string (st S), .string (st T), .string (st U), v]] w fun en w' => en = .returned (.bool true) ∧ Below w.heap.size w w' := by
  go_enter Tryd.func10, Tryd.ntmps10
  go_upto_region 1 with fail
  have hB := Box.new w 3 n S T U v
  have hb0 : Below w.heap.size w (w.alloc (.cells #[.int .i64 3, .int .i64 n, .string (st S), .string (st T), .string (st U), v] 28)) := (Below.refl _ _).alloc (Nat.le_refl _) _
  generalize w.alloc (.cells #[.int .i64 3, .int .i64 n, .string (st S), .string (st T), .string (st U), v] 28) = w0 at *
  have T0 : Hid (Tab w0) := h1.below h1.pos hb0
  have R0 : Hid (Tab2 w0) := h2.then hb0
  have HB : Hid (Box w0 w.heap.size 3 n S T U v) := hB
  obtain ⟨c0, c1, c2, c3, c4, c5⟩ := hB
  clear h1 h2
  · obtain ⟨m, rfl⟩ : ∃ m : Nat, n = (m : Int) := ⟨n.toNat, by omega⟩
    have hm : m ≤ 255 := by omega
    clear hn0 hn
    go_wp2_with fail
    go_fit (Derive_ok S T U hs ht hu m hm _ T0.out)
    rintro en w1 ⟨rfl, hb1⟩
    have B1 : Hid (Box w1 w.heap.size 3 (m : Int) S T U v) := HB.out.then hb1
    have R1 : Hid (Tab2 w1) := R0.out.then hb1
    clear c0 c1 c2 c3 c4 c5
    obtain ⟨c0, c1, c2, c3, c4, c5⟩ := B1.out
    go_wp2_with fail
    go_fit (RDerive_ok S T U hs ht hu m hm _ R1.out)
    rintro en w2 ⟨rfl, hb2⟩
    generalize exL (hmac T S) U m = Y at *
    go_wp2_with fail
    go_fit (num_any _ _)
    rintro en w3 ⟨rfl, rfl⟩
    go_wp2_with fail
    go_ret
    exact ⟨rfl, bthen hb0 (bthen hb1 hb2)⟩

theorem called_derive (n : Int) (S T U : List UInt8) (v : Value) (w : World) (h1 : Tab w) (h2 : Tab2 w) :
    Calls Tryd.prog 10 #[.agg #[.int .i64 3, .int .i64 n, .string (st S), .string (st T), .string (st U), v]] w fun en w' => en = .returned (.bool true) ∧ Below w.heap.size w w' := by
  by_cases hs : 4096 < S.length
  · exact called_derive1 n S T U v hs w h1 h2
  by_cases ht : 4096 < T.length
  · exact called_derive2 n S T U v (by omega) ht w h1 h2
  by_cases hu : 4063 < U.length
  · exact called_derive3 n S T U v (by omega) (by omega) hu w h1 h2
  by_cases hn : n < 0
  · exact called_derive4 n S T U v (by omega) (by omega) (by omega) hn w h1 h2
  by_cases hm : 255 < n
  · exact called_derive5 n S T U v (by omega) (by omega) (by omega) hm w h1 h2
  exact called_derive6 n S T U v (by omega) (by omega) (by omega) (by omega) (by omega) w h1 h2
set_option maxHeartbeats 1000000 in
set_option maxRecDepth 20000 in
theorem called_other (kind n : Int) (hk : kind ≤ 0) (S T U : List UInt8) (v : Value) (w : World) :
    Calls Tryd.prog 10 #[.agg #[.int .i64 kind, .int .i64 n, .string (st S), .string (st T), .string (st U), v]] w fun en w' => en = .returned (.bool true) ∧ Below w.heap.size w w' := by
  have k1 : ¬ kind = 1 := by omega
  have k2 : ¬ kind = 2 := by omega
  have k3 : ¬ kind = 3 := by omega
  have k4 : ¬ kind = 4 := by omega
  have k5 : ¬ kind = 5 := by omega
  have k6 : ¬ kind = 6 := by omega
  go_enter Tryd.func10, Tryd.ntmps10
  go_upto_region 1 with fail
  have hB := Box.new w kind n S T U v
  have hb0 : Below w.heap.size w (w.alloc (.cells #[.int .i64 kind, .int .i64 n, .string (st S), .string (st T), .string (st U), v] 28)) := (Below.refl _ _).alloc (Nat.le_refl _) _
  generalize w.alloc (.cells #[.int .i64 kind, .int .i64 n, .string (st S), .string (st T), .string (st U), v] 28) = w0 at *
  obtain ⟨c0, c1, c2, c3, c4, c5⟩ := hB
  go_wp2_with fail
  go_fit (num_any _ _)
  rintro en w3 ⟨rfl, rfl⟩
  go_wp2_with fail
  go_ret
  exact ⟨rfl, hb0⟩
end Go.Proofs.YtjnbhiamaabbgaaDoor
