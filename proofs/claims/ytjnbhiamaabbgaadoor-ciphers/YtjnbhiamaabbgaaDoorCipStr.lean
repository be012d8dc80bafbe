/-
  cofferref's Block, stream and Stream.
-/
import Derived.Test.YtjnbhiamaabbgaaDoorCipBlk
import Derived.Test.YtjnbhiamaabbgaaDoorAesStream
import Derived.Deep.DeepFit
namespace Go.Proofs.YtjnbhiamaabbgaaDoor
open Go.RowKit
attribute [local go_sem] st_size st_append e8_xor
theorem RowI.range {w : World} {b n : Nat} {f : Nat → UInt8} {t : TypeId} (hr : RowI w b f n t) : w.rangeAt b 0 (ki f n) := fun j v hv => by
  have hj : j < n := by have := (List.getElem?_eq_some_iff.1 hv).1; rwa [ki_len] at this
  rw [Nat.zero_add, hr.cell hj, ← hv, ki_at _ _ _ hj]
theorem RowI.lt {w : World} {b n : Nat} {f : Nat → UInt8} {t : TypeId} (hr : RowI w b f n t) (hn : 0 < n) : b < w.heap.size := block_lt_of_cell (hr.cell hn)
/-- Loads of the two rows, folded. -/
def L6 (x : Addr) : Sem Value := loadVar 68 x
def L1 (x : Addr) : Sem Value := loadVar 71 x
theorem L6_fold (x : Addr) : loadVar 68 x = L6 x := rfl
theorem L1_fold (x : Addr) : loadVar 71 x = L1 x := rfl
attribute [local go_sem ↓] L6_fold L1_fold
theorem run_L6 {w : World} {b : Nat} (h : RowI w b Sn 256 68) : (L6 ⟨b, 0, none⟩).run Tryd.prog w = .ok (.agg (ki Sn 256).toArray) w :=
  run_loadVar_mid w b 0 68 (ki Sn 256) _ h.range Tryd.underlying68 rfl (by rw [ki_len]; exact size256)
set_option maxHeartbeats 2000000 in
set_option maxRecDepth 20000 in
theorem RBlock_ok (k x : List UInt8) (hk : k.length = 16) (hx : x.length = 16) (w : World) : Calls Tryd.prog 25 #[.string (st k), .string (st x)] w fun en w' => en = .returned (.tuple #[.string (st (kl (aesF (fun i => k.getD i 0) (fun i => x.getD i 0)) 16)), .int .i64 0]) ∧ Below w.heap.size w w' := by
  have hz := (zero_of_info info256).1
  have hzs : zi256.size = (ki Sn 256).toArray.size := by rw [zi256_ki, ki_size, ki_size]
  have hi : (Tryd.prog.info? 68).map (·.size) = some (ki Sn 256).toArray.size := by rw [ki_size]; exact size256
  have h1 := ki_one Sn 256
  have HC : Hid (∀ W, Calls Tryd.prog 44 #[.string (st k), .agg (ki Sn 256).toArray] W fun en w' => en = .returned (.agg (ki (rkW (fun i => k.getD i 0)) 176).toArray) ∧ Below W.heap.size W w') := fun W => schedule_ref k hk W
  have HL : Hid (∀ W, Calls Tryd.prog 43 #[.string (st x), .agg (ki (rkW (fun i => k.getD i 0)) 176).toArray, .agg (ki Sn 256).toArray] W fun en w' => en = .returned (.string (st (kl (aesF (fun i => k.getD i 0) (fun i => x.getD i 0)) 16))) ∧ Below W.heap.size W w') := fun W => block_ref _ x hx W
  have hlX := ki_len Sn 256
  have hiX : (Tryd.prog.info? 68).map (·.size) = some (ki Sn 256).length := by rw [ki_len]; exact size256
  have HR : Hid (∀ W b, RowI W b Sn 256 68 → W.rangeAt b 0 (ki Sn 256)) := fun W b h => h.range
  generalize zi256 = zz at *
  go_enter Tryd.func25, Tryd.ntmps25
  go_wp2_with fail
  refine (boxes_any _).mono ?_
  rintro en w1 ⟨rfl, hb1⟩
  have hb2 : Below w.heap.size w (w1.alloc (.cells (ki Sn 256).toArray 68)) := hb1.alloc hb1.size _
  have row2 : RowI (w1.alloc (.cells (ki Sn 256).toArray 68)) w1.heap.size Sn 256 68 := heap_alloc_new _ _
  go_upto_region 4 with (refine wpList_store_row rfl 68 _ _ rfl w1.heap.size _ rfl rfl 68 zz (heap_alloc_new _ _) hi hzs h1 ?_; rw [World.setRow_alloc_new])
  clear hz hzs hi h1
  generalize w1.alloc (.cells (ki Sn 256).toArray 68) = w2 at *
  have hlt := row2.lt (by decide)
  have R2 : Hid (RowI w2 w1.heap.size Sn 256 68) := row2
  clear row2
  generalize w1.heap.size = b at *
  have S0 := HR.out w2.drew b R2.out
  have hL : ∀ W, W.rangeAt b 0 (ki Sn 256) → (L6 ⟨b, 0, none⟩).run Tryd.prog W = .ok (.agg (ki Sn 256).toArray) W := fun W h => run_loadVar_mid W b 0 68 (ki Sn 256) _ h Tryd.underlying68 rfl hiX
  clear hlX hiX
  generalize ki Sn 256 = X at *
  generalize ki (rkW (fun i => k.getD i 0)) 176 = Y at *
  generalize hRR : kl (aesF (fun i => k.getD i 0) (fun i => x.getD i 0)) 16 = R at *
  have HRR : Hid (kl (aesF (fun i => k.getD i 0) (fun i => x.getD i 0)) 16 = R) := hRR
  clear hRR
  go_region_with (first
      | (go_at_call 44; refine (HC.out _).mono ?_; rintro en w3 ⟨rfl, hb3⟩; have R3 : Hid (RowI w3 b Sn 256 68) := RowI.below (w := w2.drew) R2.out hb3 hlt; have S2 := HR.out w3 b R3.out)
      | (go_at_call 43; refine (HL.out _).mono ?_; rintro en w4 ⟨rfl, hb4⟩))
  all_goals go_wp2_with fail
  all_goals go_ret2
  all_goals exact ⟨by rw [HRR.out]; rfl, hb2.drew.trans ((hb3.mono hb2.size).trans (hb4.mono (Nat.le_trans hb2.size hb3.size)))⟩
theorem RBlock_key (k x : List UInt8) (hk : k.length ≠ 16) (w : World) : Calls Tryd.prog 25 #[.string (st k), .string (st x)] w fun en w' => en = .returned (.tuple #[.string (st []), .int .i64 2]) ∧ w' = w := by
  have h1 : ¬ ((k.length : Nat) : Int) = 16 := by omega
  go_enter Tryd.func25, Tryd.ntmps25
  go_wp2_with fail
  go_ret2
  exact ⟨rfl, rfl⟩
theorem RBlock_x (k x : List UInt8) (hk : k.length = 16) (hx : x.length ≠ 16) (w : World) : Calls Tryd.prog 25 #[.string (st k), .string (st x)] w fun en w' => en = .returned (.tuple #[.string (st []), .int .i64 2]) ∧ w' = w := by
  have h1 : ¬ ((x.length : Nat) : Int) = 16 := by omega
  go_enter Tryd.func25, Tryd.ntmps25
  go_wp2_with fail
  go_ret2
  exact ⟨rfl, rfl⟩
end Go.Proofs.YtjnbhiamaabbgaaDoor
