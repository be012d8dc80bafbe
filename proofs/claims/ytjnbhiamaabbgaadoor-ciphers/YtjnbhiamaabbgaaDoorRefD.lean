/-
  The document's answer: cofferref.sum, and with it Sum.
-/
import Derived.Test.YtjnbhiamaabbgaaDoorRefC
import Derived.Deep.DeepCutAuto
import Derived.Deep.DeepFit
namespace Go.Proofs.YtjnbhiamaabbgaaDoor
open Go.RowKit
attribute [local go_sem] u_xor u_and u_or u_add u_not st_size st_append
theorem keepB {w2 w3 : World} {g : Nat} {X : Obj} (h : w2.heap[g]? = some X) (hb : Below w2.heap.size w2 w3) : w3.heap[g]? = some X :=
  (hb.block g (Array.getElem?_eq_some_iff.1 h).1).trans h
theorem keepA {w w2 : World} {X : Obj} (hb : Below (w.alloc X).drew.heap.size (w.alloc X).drew w2) : w2.heap[w.heap.size]? = some X :=
  (hb.block w.heap.size (by show w.heap.size < (w.alloc X).heap.size; simp)).trans (heap_alloc_new w X)
theorem keepC {w w2 : World} {X : Obj} (hb : Below (w.alloc X).heap.size (w.alloc X) w2) : w2.heap[w.heap.size]? = some X :=
  (hb.block w.heap.size (by simp)).trans (heap_alloc_new w X)
theorem belA {w w2 : World} {X : Obj} (hb : Below (w.alloc X).drew.heap.size (w.alloc X).drew w2) : Below w.heap.size w w2 := (((Below.refl _ w).alloc (Nat.le_refl _) X).drew).trans (hb.mono (by show w.heap.size ≤ (w.alloc X).heap.size; simp))
theorem belD {w w2 : World} (hb : Below w.drew.heap.size w.drew w2) : Below w.heap.size w w2 := ((Below.refl _ w).drew).trans hb
theorem belC {w w2 w3 : World} {X : Obj} (h2 : Below w.heap.size w w2) (hb : Below (w2.alloc X).heap.size (w2.alloc X) w3) : Below w.heap.size w w3 := (h2.alloc h2.size X).trans (hb.mono (by have := h2.size; simp; omega))
theorem conv_at (w : World) (g : Nat) (h : w.heap[g]? = some (.cells #[.int .u8 128] 5 (0, 0))) : (convert 37 9 (.slice (some ⟨g, 0, none⟩) 1 1)).run Tryd.prog w = .ok (.string (st [128])) w := by
  have h := run_convert_bytes_back (P := Tryd.prog) w 37 9 5 ⟨g, 0, none⟩ 1 [128] Tryd.underlying37 Tryd.underlying5 Tryd.underlying9 (fun j hj => by
    rw [Addr.add_mid, Nat.zero_add, cell_of_row _ _ _ _ _ _ h]
    obtain rfl : j = 0 := by simpa using hj
    rfl)
  exact h
/-- What holds of the reference's state. -/
structure RInv (w wc : World) (s : St) (wr : World) : Prop where
  bel : Below w.heap.size w wr
  sz : wc.heap.size < wr.heap.size
  wle : w.heap.size ≤ wc.heap.size
  b0 : wr.heap[wc.heap.size]? = some (.cells #[.int .u32 (u s.a), .int .u32 (u s.b), .int .u32 (u s.c), .int .u32 (u s.d), .int .u32 (u s.e), .int .u32 (u s.f), .int .u32 (u s.g), .int .u32 (u s.h)] 61 (0, 0))
theorem RInv.next {w wc w1 w3 : World} {s : St} (h : RInv w wc s w1) (hb3 : Below w1.drew.heap.size w1.drew w3) (t : St) : RInv w wc t ((((((((w3.setCell ⟨wc.heap.size, 0, none⟩ (.int .u32 (u t.a))).setCell ⟨wc.heap.size, 1, none⟩ (.int .u32 (u t.b))).setCell ⟨wc.heap.size, 2, none⟩ (.int .u32 (u t.c))).setCell ⟨wc.heap.size, 3, none⟩ (.int .u32 (u t.d))).setCell ⟨wc.heap.size, 4, none⟩ (.int .u32 (u t.e))).setCell ⟨wc.heap.size, 5, none⟩ (.int .u32 (u t.f))).setCell ⟨wc.heap.size, 6, none⟩ (.int .u32 (u t.g))).setCell ⟨wc.heap.size, 7, none⟩ (.int .u32 (u t.h))) := by
  have hz : wc.heap.size < w3.heap.size := Nat.lt_of_lt_of_le h.sz hb3.size
  have h3 : Below w.heap.size w w3 := h.bel.drew.trans (hb3.mono h.bel.size)
  refine ⟨set8_below _ _ _ _ _ _ _ _ _ _ _ _ h.wle h3, by rw [set8_size]; exact hz, h.wle, ?_⟩
  exact set8 _ _ _ _ _ _ _ _ _ _ _ _ _ _ _ _ _ _ _ ((hb3.block _ (by exact h.sz)).trans h.b0)
theorem RInv.more {w wc w1 w3 : World} {s : St} (h : RInv w wc s w1) (hb3 : Below w1.heap.size w1 w3) : RInv w wc s w3 :=
  ⟨h.bel.trans (hb3.mono h.bel.size), Nat.lt_of_lt_of_le h.sz hb3.size, h.wle, (hb3.block _ h.sz).trans h.b0⟩
theorem conv_u (x : BitVec 32) : IntKind.i64.wrap (u x) = u x := by
  have := x.isLt
  rw [IntKind.wrap_i64]; unfold u; omega
theorem nb_wb (x : BitVec 32) : nb x.toNat 4 = wb x := by
  have := x.isLt
  simp [nb, wb, by8, bq, Nat.shiftRight_eq_div_pow]
theorem extN (m : List UInt8) (k : Nat) : (st m).extract (64 * k) (64 * k + 64) = st ((m.drop (64 * k)).take 64) := by
  apply ByteArray.ext
  apply Array.toList_inj.1
  simp only [st, ByteArray.data_extract, List.extract_toArray, List.toList_toArray]
  rw [List.extract_eq_take_drop, show 64 * k + 64 - 64 * k = 64 by omega]
theorem Wf_congr {a b : Nat → UInt8} (h : ∀ j, j < 64 → a j = b j) : ∀ i, i < 64 → Wf a i = Wf b i := by
  intro i
  induction i using Nat.strongRecOn with
  | _ i ih =>
    intro hi
    by_cases h16 : i < 16
    · rw [Wf_lo a i h16, Wf_lo b i h16]
      unfold w16
      rw [h _ (by omega), h _ (by omega), h _ (by omega), h _ (by omega)]
    · rw [Wf_hi a i (by omega), Wf_hi b i (by omega), ih _ (by omega) (by omega), ih _ (by omega) (by omega), ih _ (by omega) (by omega), ih _ (by omega) (by omega)]
theorem rnd_congr (s : St) {a b : Nat → BitVec 32} : ∀ n, (∀ i, i < n → a i = b i) → rnd s a n = rnd s b n
  | 0, _ => rfl
  | n + 1, h => by rw [rnd, rnd, rnd_congr s n (fun i hi => h i (by omega)), h n (by omega)]
theorem takeF_congr (s : St) {a b : Nat → BitVec 32} (h : ∀ i, i < 64 → a i = b i) : takeF s a = takeF s b := by rw [takeF, takeF, rnd_congr s 64 h]
theorem blk_take (s : St) (m : List UInt8) (k : Nat) : takeF s (Wf (blk m k)) = takeF s (Wf (bm ((m.drop (64 * k)).take 64))) := by
  refine takeF_congr s (Wf_congr fun j hj => ?_)
  simp [blk, bm, List.getD, hj]
set_option maxHeartbeats 1000000 in
set_option maxRecDepth 20000 in
theorem rsum_any (l : List UInt8) (hl : l.length ≤ 60000) (w : World) (hT : Tab2 w) : Calls Tryd.prog 38 #[.string (st l)] w fun en w' => en = .returned (.string (st (sha l))) ∧ Below w.heap.size w w' := by
  have HT : Hid (Tab2 w) := hT
  have hw1 := hT.pos
  clear hT
  obtain ⟨z, hz⟩ : ∃ z : Nat, z = (119 - l.length % 64) % 64 := ⟨_, rfl⟩
  have hz64 : z < 64 := by omega
  obtain ⟨y, hy⟩ : ∃ y : Nat, y = l.length % 64 := ⟨_, rfl⟩
  have e1 : ((l.length : Nat) : Int).tmod 64 = (y : Nat) := by rw [Int.tmod_eq_emod_of_nonneg (by omega)]; omega
  have e2 : IntKind.i64.wrap (119 - (y : Int)) = 119 - (y : Int) := by rw [IntKind.wrap_i64]; omega
  have e3 : (119 - (y : Int)).tmod 64 = (z : Nat) := by rw [Int.tmod_eq_emod_of_nonneg (by omega)]; omega
  obtain ⟨N, hN⟩ : ∃ N : Nat, N = l.length * 8 := ⟨_, rfl⟩
  have e4 : IntKind.i64.wrap (8 * (l.length : Int)) = 8 * (l.length : Int) := by rw [IntKind.wrap_i64]; omega
  have HNI : Hid (8 * (l.length : Int) = (N : Nat)) := by show _ = _; omega
  have HZ : Hid (z = (119 - l.length % 64) % 64) := hz
  have HN : Hid (N = l.length * 8) := hN
  clear hz hy hN
  have hone2 : ∀ wx : World, (convert 37 9 (.slice (some ⟨wx.heap.size, 0, none⟩) 1 1)).run Tryd.prog (wx.alloc (.cells #[.int .u8 128] 5)).drew = .ok (.string (st [128])) (wx.alloc (.cells #[.int .u8 128] 5)).drew := fun wx => conv_at _ _ (heap_alloc_new _ _)
  have hone := one_textN 128 128 rfl
  have HNUM : Hid (∀ wx : World, Calls Tryd.prog 59 #[.int .i64 (8 * (l.length : Int)), .int .i64 8] wx fun e w' => e = .returned (.string (st (nb N 8))) ∧ Below wx.heap.size wx w') := fun wx => numberI (8 * (l.length : Int)) 8 N 8 HNI.out rfl (by decide) wx
  go_enter Tryd.func38, Tryd.ntmps38
  go_upto_region 1 with fail
  go_cut [3] from 8 (fun v wx => v = .string (st (128 :: (List.replicate z 0 ++ nb N 8))) ∧ Below w.heap.size w wx)
  case first =>
    go_region_with (first
      | (go_at_call 58; refine (zeros_any z (by omega) _).mono ?_; rintro en w2 ⟨rfl, hb2⟩; (first | have hB2 := belA hb2 | have hB2 := belD hb2); (first | (have hk2 := keepA hb2; have hv2 := conv_at _ _ hk2) | skip))
      | (go_at_call 59; go_fit (HNUM.out _); rintro en w3 ⟨rfl, hb3⟩; have hnl := nb_len N 8; (first | have hB3 := bthen hB2 hb3 | have hB3 := belC hB2 hb3); (first | (have hk3 := keepC hb3; have hv3 := conv_at _ _ hk3) | (have hk3 := keepB hk2 hb3; have hv3 := conv_at _ _ hk3) | skip)))
    all_goals go_wp2_with fail
    all_goals go_meet
    all_goals exact ⟨rfl, by first | exact hB3 | exact hB3.alloc hB3.size _⟩
  case rest =>
    obtain ⟨rfl, hbc⟩ := hcut
    clear hone hone2 HNUM e1 e2 e3 e4 HNI
    have hp : l ++ 128 :: (List.replicate z 0 ++ nb N 8) = padL l := by
      have := padN_le l.length
      rw [HN.out]
      unfold padL padK
      congr 3
      rw [HZ.out]
      unfold padN
      congr 1
      omega
    have hnl := nb_len N 8
    have hpl : (padL l).length = padN l.length := padK_len l 8 (by omega)
    have hpn := padN_le l.length
    have hdv : 64 * (padN l.length / 64) = padN l.length := by unfold padN; omega
    obtain ⟨c, hc⟩ : ∃ c, padN l.length / 64 = c := ⟨_, rfl⟩
    rw [hc] at hdv
    have hpc : (padL l).length = 64 * c := by rw [hpl, hdv]
    have HC : Hid (padN l.length / 64 = c) := hc
    have hcl : 64 * c ≤ 60072 := by omega
    clear hc hpl hpn hdv HZ HN
    generalize hm : padL l = m at *
    have HMM : Hid (padL l = m) := hm
    have HPC : Hid (m.length = 64 * c) := hpc
    clear hm
    go_wp2_with fail
    clear hp hnl
    have inv0 : RInv w wc iv (wc.alloc (.cells #[.int .u32 (u iv.a), .int .u32 (u iv.b), .int .u32 (u iv.c), .int .u32 (u iv.d), .int .u32 (u iv.e), .int .u32 (u iv.f), .int .u32 (u iv.g), .int .u32 (u iv.h)] 61)) := ⟨(hbc.alloc hbc.size _), by simp, hbc.size, heap_alloc_new _ _⟩
    go_loopw [5] (fun i wr => ∃ k : Nat, k ≤ c ∧ i = .int .i64 (64 * (k : Int)) ∧ RInv w wc (dig m k) wr) (fun i _ => (64 * (c : Int) - intOf i).toNat)
    case atStart => exact ⟨0, by omega, by go_num, inv0⟩
    case round =>
      clear inv0
      obtain ⟨k, hk, rfl, inv⟩ := hrel
      have hsz := inv.sz
      have hwcs := inv.wle
      by_cases hlt : k < c
      · have i0 : (0 : Int) ≤ 64 * (k : Int) := by omega
        have i1 : 64 * (k : Int) < 64 * (c : Int) := by omega
        have i2 : 64 * (k : Int) + 64 ≤ 64 * (c : Int) := by omega
        have iw : IntKind.i64.wrap (64 * (k : Int) + 64) = 64 * (k : Int) + 64 := by rw [IntKind.wrap_i64]; omega
        have HB : Hid ((m.drop (64 * k)).take 64 = (m.drop (64 * k)).take 64) := rfl
        have hbl : ((m.drop (64 * k)).take 64).length = 64 := by simp; rw [hpc]; omega
        have hext := extN m k
        have HTr : Hid (Tab2 wr.drew) := HT.out.below hw1 inv.bel.drew
        obtain ⟨s, hs⟩ : ∃ s, dig m k = s := ⟨_, rfl⟩
        rw [hs] at inv
        have HS : Hid (dig m (k + 1) = takeF s (Wf (bm ((m.drop (64 * k)).take 64)))) := by show takeF (dig m k) (Wf (blk m k)) = _; rw [hs, blk_take]
        clear hs
        obtain ⟨qc0, qf0, qc1, qf1, qc2, qf2, qc3, qf3, qc4, qf4, qc5, qf5, qc6, qf6, qc7, qf7⟩ := st_cells inv.b0
        generalize (m.drop (64 * k)).take 64 = B at *
        have i3 : (64 * (k : Int)).toNat = 64 * k := by omega
        have i4 : (64 * (k : Int) + 64).toNat = 64 * k + 64 := by omega
        go_wp2_with fail
        go_region_with (first
          | (go_at_call 60; go_fit (compress_any s B hbl _ HTr.out); rintro en w2 ⟨rfl, hb2⟩; have hz2 : wc.heap.size < wr.drew.heap.size := hsz; obtain ⟨pc0, pf0, pc1, pf1, pc2, pf2, pc3, pf3, pc4, pf4, pc5, pf5, pc6, pf6, pc7, pf7⟩ := st_cells ((hb2.block _ hz2).trans inv.b0)))
        all_goals go_wp2_with fail
        all_goals go_roundw
        all_goals first
          | (refine ⟨k + 1, by omega, by go_num, ?_⟩; rw [HS.out]; exact inv.next hb2 _)
          | (simp [intOf]; omega)
      · obtain rfl : k = c := by omega
        obtain ⟨s, hs⟩ : ∃ s, dig m k = s := ⟨_, rfl⟩
        rw [hs] at inv
        have HS : Hid (sha l = sb s 8) := by show sb (dig (padL l) (padN l.length / 64)) 8 = _; rw [HC.out, HMM.out, hs]
        clear hs
        have hbl := inv.bel
        have hle : ¬ 64 * (k : Int) < 64 * (k : Int) := by omega
        go_wp2_with fail
        go_loopw [6, 7] (fun v i w3 => ∃ j : Nat, j ≤ 8 ∧ i = .int .i64 j ∧ v = .string (st (sb s j)) ∧ RInv w wc s w3) (fun _ i _ => (8 - intOf i).toNat)
        case atStart => exact ⟨0, by omega, rfl, rfl, inv⟩
        case round =>
          clear inv
          obtain ⟨j, hj, rfl, rfl, inv⟩ := hrel
          by_cases hlt : j < 8
          · have j1 : (j : Int) < 8 := by omega
            have hsl := sb_len s j
            have HSB : Hid (sb s (j + 1) = sb s j ++ wb (at8 s j)) := rfl
            have hc : wr.cell? ⟨wc.heap.size, j, none⟩ = some (.int .u32 (u (at8 s j))) := by rw [cell_of_row _ _ j _ _ _ inv.b0, stv_at s j hlt]
            have hN4 : Hid (nb (at8 s j).toNat 4 = wb (at8 s j)) := nb_wb (at8 s j)
            have hcv := conv_u (at8 s j)
            generalize at8 s j = x at *
            generalize sb s j = X at *
            go_wp2_with fail
            go_fit (numberI (u x) 4 x.toNat 4 rfl rfl (by decide) _)
            rintro en w2 ⟨rfl, hb2⟩
            rw [hN4.out]
            have hwl : (wb x).length = 4 := rfl
            go_wp2_with fail
            go_roundw
            case rel =>
              refine ⟨j + 1, by omega, by go_num, by rw [HSB.out], ?_⟩
              exact inv.more hb2
            case measure => simp [intOf]; omega
          · obtain rfl : j = 8 := by omega
            have hbl := inv.bel
            go_wp2_with fail
            go_ret
            exact ⟨by rw [HS.out]; rfl, hbl⟩
end Go.Proofs.YtjnbhiamaabbgaaDoor
