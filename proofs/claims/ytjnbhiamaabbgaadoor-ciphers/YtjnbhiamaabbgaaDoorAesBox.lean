/-
  prim's substitutes: the box.
-/
import Derived.Test.YtjnbhiamaabbgaaDoorAesLeaf
namespace Go.Proofs.YtjnbhiamaabbgaaDoor
open Go.RowKit
attribute [local go_sem] e8_xor e8_xor99
def z256 : Array Value := Array.replicate 256 (.int .u8 0)
theorem z256_size : z256.size = 256 := by simp [z256]
theorem infoBox : ((Tryd.prog.info? 75).map fun i => (i.zero, i.size)) = some (some (.agg z256), 256) := by kernel_rfl
theorem sizeBox : (Tryd.prog.info? 75).map (·.size) = some 256 := by kernel_rfl
theorem builtBox : Tryd.prog.built 75 [(0, .int .u8 99)] = some (bv (bxK 0)).toArray := by kernel_rfl
theorem wpList_built {P : Program} {ops : Array Oper} {rest : List Oper} {o : Oper} {a : Act} {w : World} {Q : Exit → Act → World → Prop} (hg : o.guard = none) (t : TypeId) (parts : Array (Nat × Operand)) (ho : o.op = .build t parts) (cells : Array Value)
    (hb : P.built t (parts.toList.map fun (i, x) => (i, a.eval x)) = some cells) (h : wpList P ops Q rest (a.put o.dst (.agg cells)) w) : wpList P ops Q (o :: rest) a w :=
  wpList_build hg t parts ho (by rw [Array.toList_map, hb]; rfl) (by rw [Array.toList_map, hb]; exact h)
theorem heap_alloc2 (w : World) (A : Obj) (c : Array Value) (t : TypeId) : ((w.alloc A).alloc (.cells c t)).heap[w.heap.size + 1]? = some (.cells c t (0, 0)) := by
  have h := heap_alloc_new (w.alloc A) (.cells c t)
  rwa [show (w.alloc A).heap.size = w.heap.size + 1 by simp] at h
theorem setRow_alloc2 (w : World) (A : Obj) (c c' : Array Value) (t : TypeId) : ((w.alloc A).alloc (.cells c t)).setRow (w.heap.size + 1) c' = (w.alloc A).alloc (.cells c' t) := by
  have h := World.setRow_alloc_new (w.alloc A) c c' t
  rwa [show (w.alloc A).heap.size = w.heap.size + 1 by simp] at h
/-- What lies there while the box is filled. -/
structure BoxInv (w : World) (l : List UInt8) (wr : World) : Prop where
  bel : Below w.heap.size w wr
  sz : w.heap.size + 1 < wr.heap.size
  b0 : wr.heap[w.heap.size]? = some (.cells z256 75 (0, 0))
  b1 : wr.heap[w.heap.size + 1]? = some (.cells (bv l).toArray 75 (0, 0))
theorem BoxInv.start (w : World) (l : List UInt8) : BoxInv w l ((w.alloc (.cells z256 75)).alloc (.cells (bv l).toArray 75)) := by
  refine ⟨((Below.refl _ _).alloc (Nat.le_refl _) _).alloc (by simp) _, by simp, ?_, ?_⟩
  all_goals (show ((w.heap.push _).push _)[_]? = _)
  all_goals (simp only [Array.getElem?_push, Array.size_push])
  · rw [if_neg (by omega), if_pos trivial]
  · rw [if_pos trivial]
theorem BoxInv.set {w wr : World} {l : List UInt8} (h : BoxInv w l wr) (k : Nat) (v : UInt8) : BoxInv w (l.set k v) (wr.setCell ⟨w.heap.size + 1, k, none⟩ (.int .u8 (e8 v))) := by
  refine ⟨h.bel.setCell (by show w.heap.size ≤ w.heap.size + 1; omega) _, by simpa [World.setCell] using h.sz, ?_, ?_⟩
  · rw [heap_setCell_other _ _ _ _ (by show w.heap.size ≠ w.heap.size + 1; omega)]; exact h.b0
  · rw [heap_setCell_same _ _ _ _ _ _ h.b1, List.setIfInBounds_toArray]; congr 3; exact bv_set l k v
set_option maxHeartbeats 1000000 in
set_option maxRecDepth 20000 in
theorem substitutes_any (w : World) : Calls Tryd.prog 49 #[] w fun en w' => en = .returned (.agg (kb Sn 256).toArray) ∧ Below w.heap.size w w' := by
  have hz := (zero_of_info infoBox).1
  have hb0 : z256.size = (bv (bxK 0)).toArray.size := by rw [z256_size, List.size_toArray, bv_len, bxK_len]
  have hi0 : (Tryd.prog.info? 75).map (·.size) = some (bv (bxK 0)).toArray.size := by rw [List.size_toArray, bv_len, bxK_len]; exact sizeBox
  have h10 : (bv (bxK 0)).toArray.all (·.oneCell') = true := all_oneCell_toArray (bv_one _)
  have Z : Hid (z256.size = 256) := z256_size
  generalize hzz : z256 = zz at *
  go_enter Tryd.func49, Tryd.ntmps49
  go_wp2_with (first | refine wpList_built rfl 75 _ rfl (bv (bxK 0)).toArray builtBox ?_ | (refine wpList_store_row rfl 75 _ _ rfl (w.heap.size + 1) _ rfl rfl 75 zz (heap_alloc2 _ _ _ _) hi0 hb0 h10 ?_; rw [setRow_alloc2]))
  subst hzz
  clear hb0 hi0 h10 hz
  go_loopw [2, 3, 5] (fun p q i wr => ∃ k : Nat, k ≤ 255 ∧ i = .int .i64 k ∧ p = .int .u8 (e8 (Pw k)) ∧ q = .int .u8 (e8 (Qw k)) ∧ BoxInv w (bxK k) wr) (fun _ _ i _ => (255 - intOf i).toNat)
  case atStart => exact ⟨0, by omega, rfl, rfl, rfl, BoxInv.start w _⟩
  case round =>
    obtain ⟨k, hk, rfl, rfl, rfl, inv⟩ := hrel
    by_cases hlt : k < 255
    · have i1 : (k : Int) < 255 := by omega
      have HP : Hid (Pw (k + 1) = Pw k ^^^ dbl (Pw k)) := Pw_next k hlt
      have HQ : Hid (Qw (k + 1) = thd (Qw k)) := Qw_next k hlt
      have HI : Hid (BoxInv w (bxK (k + 1)) (wr.setCell ⟨w.heap.size + 1, (e8 (Pw k)).toNat, none⟩ (.int .u8 (e8 (aff (Qw k)))))) := by
        show BoxInv _ _ _
        rw [e8_nat]
        exact inv.set _ _
      have hf : wr.frozen? ⟨w.heap.size + 1, (e8 (Pw k)).toNat, none⟩ = false := frozen_of_row _ _ _ _ _ inv.b1
      obtain ⟨c, hc⟩ : ∃ c, wr.cell? ⟨w.heap.size + 1, (e8 (Pw k)).toNat, none⟩ = some c := by
        have hl : (Pw k).toNat < (bv (bxK k)).toArray.size := by rw [List.size_toArray, bv_len, bxK_len]; exact (Pw k).toNat_lt
        exact ⟨_, by rw [cell_of_row _ _ _ _ _ _ inv.b1, e8_nat]; exact Array.getElem?_eq_getElem hl⟩
      have p0 := e8_lo (Pw k)
      have p1 := e8_hi (Pw k)
      clear inv
      generalize Pw k = p at *
      generalize Qw k = q at *
      unfold aff at HI
      go_wp2_with fail
      refine (rotl_1 q _).mono ?_
      rintro en w2 ⟨rfl, rfl⟩
      go_wp2_with fail
      refine (rotl_2 q _).mono ?_
      rintro en w2 ⟨rfl, rfl⟩
      go_wp2_with fail
      refine (rotl_3 q _).mono ?_
      rintro en w2 ⟨rfl, rfl⟩
      go_wp2_with fail
      refine (rotl_4 q _).mono ?_
      rintro en w2 ⟨rfl, rfl⟩
      go_wp2_with fail
      refine (double_any p _).mono ?_
      rintro en w2 ⟨rfl, rfl⟩
      go_wp2_with fail
      refine (third_any q _).mono ?_
      rintro en w2 ⟨rfl, rfl⟩
      go_wp2_with fail
      go_roundw
      case rel => exact ⟨k + 1, by omega, by go_num, by rw [HP.out], by rw [HQ.out], HI.out⟩
      case measure => simp [intOf]; omega
    · obtain rfl : k = 255 := by omega
      have hb := inv.b1
      rw [bxK_all, bv_kb, show (fun i => Bt.getD i 0) = Sn from rfl, show Bt.length = 256 from rfl] at hb
      have b0 := inv.b0
      have hbel := inv.bel
      have hi : (Tryd.prog.info? 75).map (·.size) = some (kb Sn 256).toArray.size := by rw [kb_size]; exact sizeBox
      have h1 : (kb Sn 256).toArray.all (·.oneCell') = true := kb_one _ _
      have hzs : z256.size = (kb Sn 256).toArray.size := by rw [z256_size, kb_size]
      have hout : (wr.setRow w.heap.size (kb Sn 256).toArray).heap[w.heap.size]? = some (.cells (kb Sn 256).toArray 75 (0, 0)) := setRow_heap _ _ _ _ _ _ b0
      have hbl : Below w.heap.size w (wr.setRow w.heap.size (kb Sn 256).toArray) := hbel.trans ⟨rfl, rfl, rfl, by simp, fun j hj => setRow_other _ _ _ _ (by omega)⟩
      clear inv hk hlt
      generalize hKK : (kb Sn 256).toArray = K at *
      have HK : Hid ((kb Sn 256).toArray = K) := hKK
      clear hKK
      generalize z256 = zz at *
      go_wp2_with (first | refine wpList_load_row rfl 75 _ rfl (w.heap.size + 1) rfl 75 _ (0, 0) _ hb Tryd.underlying75 rfl hi ?_ | refine wpList_store_row rfl 75 _ _ rfl w.heap.size _ rfl rfl 75 _ b0 hi hzs h1 ?_)
      exact bodyPost_ret (v := .agg K) (results_cell_row rfl _ _ w.heap.size 75 _ (0, 0) _ rfl hout Tryd.underlying75 rfl hi) rfl ⟨by rw [HK.out], hbl⟩
end Go.Proofs.YtjnbhiamaabbgaaDoor
