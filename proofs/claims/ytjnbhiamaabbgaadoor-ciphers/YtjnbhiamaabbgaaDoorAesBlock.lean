/-
  prim's Block: AES-128 of one block, from texts.
-/
import Derived.Test.YtjnbhiamaabbgaaDoorAesReg
namespace Go.Proofs.YtjnbhiamaabbgaaDoor
open Go.RowKit
attribute [local go_sem] st_size
theorem Block_ok (k x : List UInt8) (hk : k.length = 16) (hx : x.length = 16) (w : World) : Calls Tryd.prog 17 #[.string (st k), .string (st x)] w fun en w' => en = .returned (.tuple #[.string (st (kl (aesF (fun i => k.getD i 0) (fun i => x.getD i 0)) 16)), .int .i64 0]) ∧ Below w.heap.size w w' := by
  go_enter Tryd.func17, Tryd.ntmps17
  go_upto_region 3 with fail
  refine block_reg3 hk hx _ _ _ _ _ _ _ _ _ _ _ _ _ _ _ _ _ _ _ _ _ _ _ ?_
  intro v15 v16 v17 v18 v19 v20 v21 b w9 hle hr hb
  have hcv : (convert 37 9 (.slice (some ⟨b, 0, none⟩) 16 16)).run Tryd.prog w9 = .ok (.string (st (kl (aesF (fun i => k.getD i 0) (fun i => x.getD i 0)) 16))) w9 := by
    have h := run_convert_bytes_back (P := Tryd.prog) w9 37 9 5 ⟨b, 0, none⟩ 16 (kl (aesF (fun i => k.getD i 0) (fun i => x.getD i 0)) 16) Tryd.underlying37 Tryd.underlying5 Tryd.underlying9 (fun j hj => by
      rw [Addr.add_mid]
      rw [kl_len] at hj
      rw [hr j _ (kb_at _ _ _ hj)]
      simp [kl, e8])
    rw [kl_len] at h
    exact h
  clear hr
  go_wp2_with fail
  go_ret2
  exact ⟨rfl, hb⟩
theorem Block_key (k x : List UInt8) (hk : k.length ≠ 16) (w : World) : Calls Tryd.prog 17 #[.string (st k), .string (st x)] w fun en w' => en = .returned (.tuple #[.string (st []), .int .i64 2]) ∧ w' = w := by
  have h1 : ¬ ((k.length : Nat) : Int) = 16 := by omega
  go_enter Tryd.func17, Tryd.ntmps17
  go_wp2_with fail
  go_ret2
  exact ⟨rfl, rfl⟩
theorem Block_x (k x : List UInt8) (hk : k.length = 16) (hx : x.length ≠ 16) (w : World) : Calls Tryd.prog 17 #[.string (st k), .string (st x)] w fun en w' => en = .returned (.tuple #[.string (st []), .int .i64 2]) ∧ w' = w := by
  have h1 : ¬ ((x.length : Nat) : Int) = 16 := by omega
  go_enter Tryd.func17, Tryd.ntmps17
  go_wp2_with fail
  go_ret2
  exact ⟨rfl, rfl⟩
end Go.Proofs.YtjnbhiamaabbgaaDoor
