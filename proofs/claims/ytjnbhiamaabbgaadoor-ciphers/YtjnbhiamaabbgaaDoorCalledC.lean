/-
  cofferlaw.called: the program's answer is the document's, for every call of Block and Stream, and of no kind.
-/
import Derived.Test.YtjnbhiamaabbgaaDoorCipRs
import Derived.Test.YtjnbhiamaabbgaaDoorAesBlock
import Derived.Test.YtjnbhiamaabbgaaDoorHashesWalk
namespace Go.Proofs.YtjnbhiamaabbgaaDoor
open Go.RowKit
attribute [local go_sem] st_size st_append
set_option maxHeartbeats 1000000 in
set_option maxRecDepth 20000 in
theorem called_block1 (n : Int) (S T U : List UInt8) (v : Value) (hs : S.length ≠ 16) (w : World) :
    Calls Tryd.prog 10 #[.agg #[.int .i64 5, .int .i64 n, .string (st S), .string (st T), .string (st U), v]] w fun en w' => en = .returned (.bool true) ∧ Below w.heap.size w w' := by
  go_enter Tryd.func10, Tryd.ntmps10
  go_upto_region 1 with fail
  have hB := Box.new w 5 n S T U v
  have hb0 : Below w.heap.size w (w.alloc (.cells #[.int .i64 5, .int .i64 n, .string (st S), .string (st T), .string (st U), v] 28)) := (Below.refl _ _).alloc (Nat.le_refl _) _
  generalize w.alloc (.cells #[.int .i64 5, .int .i64 n, .string (st S), .string (st T), .string (st U), v] 28) = w0 at *
  have HB : Hid (Box w0 w.heap.size 5 n S T U v) := hB
  obtain ⟨c0, c1, c2, c3, c4, c5⟩ := hB
  go_wp2_with fail
  go_fit (Block_key S T hs _)
  rintro en w1 ⟨rfl, rfl⟩
  go_wp2_with fail
  go_fit (RBlock_key S T hs _)
  rintro en w2 ⟨rfl, rfl⟩
  go_wp2_with fail
  go_fit (num_any _ _)
  rintro en w3 ⟨rfl, rfl⟩
  go_wp2_with fail
  go_ret
  exact ⟨rfl, hb0⟩
set_option maxHeartbeats 1000000 in
set_option maxRecDepth 20000 in
theorem called_block2 (n : Int) (S T U : List UInt8) (v : Value) (hs : S.length = 16) (ht : T.length ≠ 16) (w : World) :
    Calls Tryd.prog 10 #[.agg #[.int .i64 5, .int .i64 n, .string (st S), .string (st T), .string (st U), v]] w fun en w' => en = .returned (.bool true) ∧ Below w.heap.size w w' := by
  go_enter Tryd.func10, Tryd.ntmps10
  go_upto_region 1 with fail
  have hB := Box.new w 5 n S T U v
  have hb0 : Below w.heap.size w (w.alloc (.cells #[.int .i64 5, .int .i64 n, .string (st S), .string (st T), .string (st U), v] 28)) := (Below.refl _ _).alloc (Nat.le_refl _) _
  generalize w.alloc (.cells #[.int .i64 5, .int .i64 n, .string (st S), .string (st T), .string (st U), v] 28) = w0 at *
  have HB : Hid (Box w0 w.heap.size 5 n S T U v) := hB
  obtain ⟨c0, c1, c2, c3, c4, c5⟩ := hB
  go_wp2_with fail
  go_fit (Block_x S T hs ht _)
  rintro en w1 ⟨rfl, rfl⟩
  go_wp2_with fail
  go_fit (RBlock_x S T hs ht _)
  rintro en w2 ⟨rfl, rfl⟩
  go_wp2_with fail
  go_fit (num_any _ _)
  rintro en w3 ⟨rfl, rfl⟩
  go_wp2_with fail
  go_ret
  exact ⟨rfl, hb0⟩
set_option maxHeartbeats 1000000 in
set_option maxRecDepth 20000 in
theorem called_block3 (n : Int) (S T U : List UInt8) (v : Value) (hs : S.length = 16) (ht : T.length = 16) (w : World) :
    Calls Tryd.prog 10 #[.agg #[.int .i64 5, .int .i64 n, .string (st S), .string (st T), .string (st U), v]] w fun en w' => en = .returned (.bool true) ∧ Below w.heap.size w w' := by
  obtain ⟨Y, hY⟩ : ∃ Y, kl (aesF (fun i => S.getD i 0) (fun i => T.getD i 0)) 16 = Y := ⟨_, rfl⟩
  have C1 : Hid (∀ W, Calls Tryd.prog 17 #[.string (st S), .string (st T)] W fun en w' => en = .returned (.tuple #[.string (st Y), .int .i64 0]) ∧ Below W.heap.size W w') := fun W => by rw [← hY]; exact Block_ok S T hs ht W
  have C2 : Hid (∀ W, Calls Tryd.prog 25 #[.string (st S), .string (st T)] W fun en w' => en = .returned (.tuple #[.string (st Y), .int .i64 0]) ∧ Below W.heap.size W w') := fun W => by rw [← hY]; exact RBlock_ok S T hs ht W
  clear hY hs ht
  go_enter Tryd.func10, Tryd.ntmps10
  go_upto_region 1 with fail
  have hB := Box.new w 5 n S T U v
  have hb0 : Below w.heap.size w (w.alloc (.cells #[.int .i64 5, .int .i64 n, .string (st S), .string (st T), .string (st U), v] 28)) := (Below.refl _ _).alloc (Nat.le_refl _) _
  generalize w.alloc (.cells #[.int .i64 5, .int .i64 n, .string (st S), .string (st T), .string (st U), v] 28) = w0 at *
  have HB : Hid (Box w0 w.heap.size 5 n S T U v) := hB
  obtain ⟨c0, c1, c2, c3, c4, c5⟩ := hB
  go_wp2_with fail
  go_fit (C1.out _)
  rintro en w1 ⟨rfl, hb1⟩
  have B1 : Hid (Box w1 w.heap.size 5 n S T U v) := HB.out.then hb1
  clear c0 c1 c2 c3 c4 c5
  obtain ⟨c0, c1, c2, c3, c4, c5⟩ := B1.out
  go_wp2_with fail
  go_fit (C2.out _)
  rintro en w2 ⟨rfl, hb2⟩
  go_wp2_with fail
  go_fit (num_any _ _)
  rintro en w3 ⟨rfl, rfl⟩
  go_wp2_with fail
  go_ret
  exact ⟨rfl, bthen hb0 (bthen hb1 hb2)⟩
set_option maxHeartbeats 1000000 in
set_option maxRecDepth 20000 in
theorem called_stream1 (n : Int) (S T U : List UInt8) (v : Value) (hs : S.length ≠ 16) (w : World) :
    Calls Tryd.prog 10 #[.agg #[.int .i64 6, .int .i64 n, .string (st S), .string (st T), .string (st U), v]] w fun en w' => en = .returned (.bool true) ∧ Below w.heap.size w w' := by
  go_enter Tryd.func10, Tryd.ntmps10
  go_upto_region 1 with fail
  have hB := Box.new w 6 n S T U v
  have hb0 : Below w.heap.size w (w.alloc (.cells #[.int .i64 6, .int .i64 n, .string (st S), .string (st T), .string (st U), v] 28)) := (Below.refl _ _).alloc (Nat.le_refl _) _
  generalize w.alloc (.cells #[.int .i64 6, .int .i64 n, .string (st S), .string (st T), .string (st U), v] 28) = w0 at *
  have HB : Hid (Box w0 w.heap.size 6 n S T U v) := hB
  obtain ⟨c0, c1, c2, c3, c4, c5⟩ := hB
  go_wp2_with fail
  go_fit (Stream_key S T U hs _)
  rintro en w1 ⟨rfl, rfl⟩
  go_wp2_with fail
  go_fit (RStream_key S T U hs _)
  rintro en w2 ⟨rfl, rfl⟩
  go_wp2_with fail
  go_fit (num_any _ _)
  rintro en w3 ⟨rfl, rfl⟩
  go_wp2_with fail
  go_ret
  exact ⟨rfl, hb0⟩
set_option maxHeartbeats 1000000 in
set_option maxRecDepth 20000 in
theorem called_stream2 (n : Int) (S T U : List UInt8) (v : Value) (hs : S.length = 16) (ht : T.length ≠ 8) (w : World) :
    Calls Tryd.prog 10 #[.agg #[.int .i64 6, .int .i64 n, .string (st S), .string (st T), .string (st U), v]] w fun en w' => en = .returned (.bool true) ∧ Below w.heap.size w w' := by
  go_enter Tryd.func10, Tryd.ntmps10
  go_upto_region 1 with fail
  have hB := Box.new w 6 n S T U v
  have hb0 : Below w.heap.size w (w.alloc (.cells #[.int .i64 6, .int .i64 n, .string (st S), .string (st T), .string (st U), v] 28)) := (Below.refl _ _).alloc (Nat.le_refl _) _
  generalize w.alloc (.cells #[.int .i64 6, .int .i64 n, .string (st S), .string (st T), .string (st U), v] 28) = w0 at *
  have HB : Hid (Box w0 w.heap.size 6 n S T U v) := hB
  obtain ⟨c0, c1, c2, c3, c4, c5⟩ := hB
  go_wp2_with fail
  go_fit (Stream_nonce S T U hs ht _)
  rintro en w1 ⟨rfl, rfl⟩
  go_wp2_with fail
  go_fit (RStream_nonce S T U hs ht _)
  rintro en w2 ⟨rfl, rfl⟩
  go_wp2_with fail
  go_fit (num_any _ _)
  rintro en w3 ⟨rfl, rfl⟩
  go_wp2_with fail
  go_ret
  exact ⟨rfl, hb0⟩
set_option maxHeartbeats 1000000 in
set_option maxRecDepth 20000 in
theorem called_stream3 (n : Int) (S T U : List UInt8) (v : Value) (hs : S.length = 16) (ht : T.length = 8) (hu : 4096 < U.length) (w : World) :
    Calls Tryd.prog 10 #[.agg #[.int .i64 6, .int .i64 n, .string (st S), .string (st T), .string (st U), v]] w fun en w' => en = .returned (.bool true) ∧ Below w.heap.size w w' := by
  go_enter Tryd.func10, Tryd.ntmps10
  go_upto_region 1 with fail
  have hB := Box.new w 6 n S T U v
  have hb0 : Below w.heap.size w (w.alloc (.cells #[.int .i64 6, .int .i64 n, .string (st S), .string (st T), .string (st U), v] 28)) := (Below.refl _ _).alloc (Nat.le_refl _) _
  generalize w.alloc (.cells #[.int .i64 6, .int .i64 n, .string (st S), .string (st T), .string (st U), v] 28) = w0 at *
  have HB : Hid (Box w0 w.heap.size 6 n S T U v) := hB
  obtain ⟨c0, c1, c2, c3, c4, c5⟩ := hB
  go_wp2_with fail
  go_fit (Stream_long S T U hs ht hu _)
  rintro en w1 ⟨rfl, rfl⟩
  go_wp2_with fail
  go_fit (RStream_long S T U hs ht hu _)
  rintro en w2 ⟨rfl, rfl⟩
  go_wp2_with fail
  go_fit (num_any _ _)
  rintro en w3 ⟨rfl, rfl⟩
  go_wp2_with fail
  go_ret
  exact ⟨rfl, hb0⟩
set_option maxHeartbeats 1000000 in
set_option maxRecDepth 20000 in
theorem called_stream4 (n : Int) (S T U : List UInt8) (v : Value) (hs : S.length = 16) (ht : T.length = 8) (hu : U.length ≤ 4096) (w : World) :
    Calls Tryd.prog 10 #[.agg #[.int .i64 6, .int .i64 n, .string (st S), .string (st T), .string (st U), v]] w fun en w' => en = .returned (.bool true) ∧ Below w.heap.size w w' := by
  go_enter Tryd.func10, Tryd.ntmps10
  go_upto_region 1 with fail
  have hB := Box.new w 6 n S T U v
  have hb0 : Below w.heap.size w (w.alloc (.cells #[.int .i64 6, .int .i64 n, .string (st S), .string (st T), .string (st U), v] 28)) := (Below.refl _ _).alloc (Nat.le_refl _) _
  generalize w.alloc (.cells #[.int .i64 6, .int .i64 n, .string (st S), .string (st T), .string (st U), v] 28) = w0 at *
  have HB : Hid (Box w0 w.heap.size 6 n S T U v) := hB
  obtain ⟨c0, c1, c2, c3, c4, c5⟩ := hB
  go_wp2_with fail
  go_fit (Stream_ok S T U hs ht hu _)
  rintro en w1 ⟨rfl, hb1⟩
  have B1 : Hid (Box w1 w.heap.size 6 n S T U v) := HB.out.then hb1
  clear c0 c1 c2 c3 c4 c5
  obtain ⟨c0, c1, c2, c3, c4, c5⟩ := B1.out
  go_wp2_with fail
  go_fit (RStream_ok S T U hs ht hu _)
  rintro en w2 ⟨rfl, hb2⟩
  generalize strL S T U = Y at *
  go_wp2_with fail
  go_fit (num_any _ _)
  rintro en w3 ⟨rfl, rfl⟩
  go_wp2_with fail
  go_ret
  exact ⟨rfl, bthen hb0 (bthen hb1 hb2)⟩
set_option maxHeartbeats 1000000 in
set_option maxRecDepth 20000 in
theorem called_more (kind n : Int) (hk : 7 ≤ kind) (S T U : List UInt8) (v : Value) (w : World) :
    Calls Tryd.prog 10 #[.agg #[.int .i64 kind, .int .i64 n, .string (st S), .string (st T), .string (st U), v]] w fun en w' => en = .returned (.bool true) ∧ Below w.heap.size w w' := by
  have k1 : ¬ kind = 1 := by omega
  have k2 : ¬ kind = 2 := by omega
  have k3 : ¬ kind = 3 := by omega
  have k4 : ¬ kind = 4 := by omega
  have k5 : ¬ kind = 5 := by omega
  have k6 : ¬ kind = 6 := by omega
  go_enter Tryd.func10, Tryd.ntmps10
  go_upto_region 1 with fail
  have hB := Box.new w kind n S T U v
  have hb0 : Below w.heap.size w (w.alloc (.cells #[.int .i64 kind, .int .i64 n, .string (st S), .string (st T), .string (st U), v] 28)) := (Below.refl _ _).alloc (Nat.le_refl _) _
  generalize w.alloc (.cells #[.int .i64 kind, .int .i64 n, .string (st S), .string (st T), .string (st U), v] 28) = w0 at *
  have HB : Hid (Box w0 w.heap.size kind n S T U v) := hB
  obtain ⟨c0, c1, c2, c3, c4, c5⟩ := hB
  go_wp2_with fail
  go_fit (num_any _ _)
  rintro en w3 ⟨rfl, rfl⟩
  go_wp2_with fail
  go_ret
  exact ⟨rfl, hb0⟩
theorem called_cipher (kind n : Int) (hk : ¬ kind ≤ 4) (S T U : List UInt8) (v : Value) (w : World) :
    Calls Tryd.prog 10 #[.agg #[.int .i64 kind, .int .i64 n, .string (st S), .string (st T), .string (st U), v]] w fun en w' => en = .returned (.bool true) ∧ Below w.heap.size w w' := by
  by_cases h5 : kind = 5
  · subst h5
    by_cases hs : S.length = 16
    · by_cases ht : T.length = 16
      · exact called_block3 n S T U v hs ht w
      · exact called_block2 n S T U v hs ht w
    · exact called_block1 n S T U v hs w
  by_cases h6 : kind = 6
  · subst h6
    by_cases hs : S.length = 16
    · by_cases ht : T.length = 8
      · by_cases hu : 4096 < U.length
        · exact called_stream3 n S T U v hs ht hu w
        · exact called_stream4 n S T U v hs ht (by omega) w
      · exact called_stream2 n S T U v hs ht w
    · exact called_stream1 n S T U v hs w
  exact called_more kind n (by omega) S T U v w
end Go.Proofs.YtjnbhiamaabbgaaDoor
