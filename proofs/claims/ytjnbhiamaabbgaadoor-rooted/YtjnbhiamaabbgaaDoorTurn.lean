/-
  prim.turn: one round of SHA-256.
-/
import Derived.Test.YtjnbhiamaabbgaaDoorLeafs
import Derived.Deep.QuietTactic
import Derived.BigQuiet
import Derived.Deep.RegionHeld3
namespace Go.Proofs.YtjnbhiamaabbgaaDoor
open Go.RowKit
attribute [local go_sem] u_xor u_and u_or u_add u_not
set_option maxHeartbeats 400000 in
set_option maxRecDepth 20000 in
theorem turn_any (a b c d e f g h k : BitVec 32) (w : World) : Calls Tryd.prog 55 #[.agg #[.int .u32 (u a), .int .u32 (u b), .int .u32 (u c), .int .u32 (u d), .int .u32 (u e), .int .u32 (u f), .int .u32 (u g), .int .u32 (u h)], .int .u32 (u k)] w fun en w' => en = .returned (.agg #[.int .u32 (u (T1 e f g h k + T2 a b c)), .int .u32 (u a), .int .u32 (u b), .int .u32 (u c), .int .u32 (u (d + T1 e f g h k)), .int .u32 (u e), .int .u32 (u f), .int .u32 (u g)]) ∧ Below w.heap.size w w' := by
  go_enter Tryd.func55, Tryd.ntmps55
  go_wp2
  go_quiet (fail)
  go_wp2_with fail
  refine (bS1_any e _).mono ?_; rintro en w' ⟨rfl, rfl⟩
  go_wp2_with fail
  refine (choose_any e f g _).mono ?_; rintro en w' ⟨rfl, rfl⟩
  go_wp2_with fail
  refine (bS0_any a _).mono ?_; rintro en w' ⟨rfl, rfl⟩
  go_wp2_with fail
  refine (maj_any a b c _).mono ?_; rintro en w' ⟨rfl, rfl⟩
  go_wp2_with fail
  refine bodyPost_ret (v := .agg #[.int .u32 (u (T1 e f g h k + T2 a b c)), .int .u32 (u a), .int .u32 (u b), .int .u32 (u c), .int .u32 (u (d + T1 e f g h k)), .int .u32 (u e), .int .u32 (u f), .int .u32 (u g)]) ?_ rfl ⟨rfl, ?_⟩
  · simp [results, Tryd.results55, go_sem, T1, T2]
  · iterate 8 refine Below.setCell ?_ (by simp) _
    refine below_drewN ?_ _
    iterate 2 refine Below.alloc ?_ (by simp) _
    exact Below.refl _ _
end Go.Proofs.YtjnbhiamaabbgaaDoor
