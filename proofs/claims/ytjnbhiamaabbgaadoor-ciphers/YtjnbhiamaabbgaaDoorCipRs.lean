/-
  cofferref's stream and Stream.
-/
import Derived.Test.YtjnbhiamaabbgaaDoorCipStr
namespace Go.Proofs.YtjnbhiamaabbgaaDoor
open Go.RowKit
attribute [local go_sem] st_size st_append e8_xor
attribute [local go_sem ↓] L6_fold L1_fold
/-- What lies there while the document's stream goes on: the box, the schedule, the text's bytes. -/
structure RO (w : World) (b7 b8 o : Nat) (key fx : Nat → UInt8) (n : Nat) (Z : List Value) (wr : World) : Prop where
  bel : Below w.heap.size w wr
  olo : w.heap.size ≤ o
  n7 : b7 ≠ o
  n8 : b8 ≠ o
  r7 : RowI wr b7 Sn 256 68
  r8 : RowI wr b8 (rkW key) 176 71
  ob : wr.heap[o]? = some (.cells (kb fx n ++ Z).toArray 5 ((kb fx n ++ Z).length, (kb fx n ++ Z).length + 1))
theorem RO.olt {w wr : World} {b7 b8 o n : Nat} {key fx : Nat → UInt8} {Z : List Value} (h : RO w b7 b8 o key fx n Z wr) : o < wr.heap.size := (Array.getElem?_eq_some_iff.1 h.ob).1
theorem RO.then {w wr : World} {b7 b8 o n : Nat} {key fx : Nat → UInt8} {Z : List Value} {w' : World} (h : RO w b7 b8 o key fx n Z wr) (hb : Below wr.heap.size wr w') : RO w b7 b8 o key fx n Z w' :=
  ⟨h.bel.trans (hb.mono h.bel.size), h.olo, h.n7, h.n8, h.r7.below hb (h.r7.lt (by decide)), h.r8.below hb (h.r8.lt (by decide)), (hb.block _ h.olt).trans h.ob⟩
theorem RO.drew {w wr : World} {b7 b8 o n : Nat} {key fx : Nat → UInt8} {Z : List Value} (h : RO w b7 b8 o key fx n Z wr) : RO w b7 b8 o key fx n Z wr.drew := ⟨h.bel.drew, h.olo, h.n7, h.n8, h.r7, h.r8, h.ob⟩
theorem RO.cell {w wr : World} {b7 b8 o n : Nat} {key fx : Nat → UInt8} {Z : List Value} (h : RO w b7 b8 o key fx n Z wr) (k : Nat) (hk : k < n) : wr.cell? ⟨o, k, none⟩ = some (.int .u8 (e8 (fx k))) := by
  rw [cell_of_row _ _ _ _ _ _ h.ob, List.getElem?_toArray, List.getElem?_append_left (by rw [kb_len]; exact hk), kb_at _ _ _ hk]
theorem RO.frozen {w wr : World} {b7 b8 o n : Nat} {key fx : Nat → UInt8} {Z : List Value} (h : RO w b7 b8 o key fx n Z wr) (k : Nat) (hk : k < n) : wr.frozen? ⟨o, k, none⟩ = false := by
  unfold World.frozen?
  rw [h.ob]
  have : ¬ (kb fx n ++ Z).length ≤ k := by rw [List.length_append, kb_len]; omega
  simp only [this, decide_false, Bool.false_and]
theorem RO.set {w wr : World} {b7 b8 o n : Nat} {key fx : Nat → UInt8} {Z : List Value} (h : RO w b7 b8 o key fx n Z wr) (k : Nat) (hk : k < n) (v : UInt8) : RO w b7 b8 o key (fun i => if i = k then v else fx i) n Z (wr.setCell ⟨o, k, none⟩ (.int .u8 (e8 v))) := by
  refine ⟨h.bel.setCell h.olo _, h.olo, h.n7, h.n8, h.r7.other h.n7, h.r8.other h.n8, ?_⟩
  rw [setCell_eq_setRow _ _ _ _ _ _ _ h.ob, setRow_heap _ _ _ _ _ _ h.ob]
  rw [List.setIfInBounds_toArray, List.set_append_left _ _ (by rw [kb_len]; exact hk), kb_set]
  congr 2
  simp [kb_len]
theorem RO.congr {w wr : World} {b7 b8 o n : Nat} {key fx : Nat → UInt8} {Z : List Value} {fy : Nat → UInt8} (h : RO w b7 b8 o key fx n Z wr) (e : ∀ i, i < n → fx i = fy i) : RO w b7 b8 o key fy n Z wr := by
  have := h.ob
  rw [kb_congr e] at this
  exact ⟨h.bel, h.olo, h.n7, h.n8, h.r7, h.r8, this⟩
theorem nb_getD (m : Nat) : ∀ k j, j < k → (nb m k).getD j 0 = UInt8.ofNat (m / 256 ^ (k - 1 - j))
  | k + 1, 0, _ => by rw [nb]; simp [bq]
  | k + 1, j + 1, h => by
    rw [nb, List.getD_cons_succ, nb_getD m k j (by omega), show k + 1 - 1 - (j + 1) = k - 1 - j by omega]
theorem ct_nb (no : List UInt8) (hno : no.length = 8) (m i : Nat) (hi : i < 16) : (no ++ nb m 8).getD i 0 = ctF no m i := by
  unfold ctF
  by_cases h : i < 8
  · rw [if_pos h]; simp [List.getD, List.getElem?_append_left, hno, h]
  · rw [if_neg h]
    have e : (no ++ nb m 8).getD i 0 = (nb m 8).getD (i - 8) 0 := by
      simp only [List.getD]; rw [List.getElem?_append_right (by omega), hno]
    rw [e, nb_getD m 8 (i - 8) (by omega), show 8 - 1 - (i - 8) = 15 - i by omega]
theorem blk_nb (kf : Nat → UInt8) (no : List UInt8) (hno : no.length = 8) (m : Nat) : kl (aesF kf (fun i => (no ++ nb m 8).getD i 0)) 16 = kl (aesF kf (ctF no m)) 16 :=
  kl_congr (aesF_congr (fun _ _ => rfl) (fun j hj => ct_nb no hno m j hj))
theorem getD_stR (l : List UInt8) (n : Nat) (h : n < l.length) : l.getD n 0 = (st l)[n]'(by rw [st_size]; exact h) := by
  show l.getD n 0 = l[n]
  simp [List.getD, h]
def padR (key : Nat → UInt8) (no : List UInt8) (k : Nat) : List UInt8 := if k = 0 then [] else kl (aesF key (ctF no ((k - 1) / 16))) 16
set_option maxHeartbeats 1000000 in
set_option maxRecDepth 20000 in
theorem rstream_any (k no x : List UInt8) (hk : k.length = 16) (hno : no.length = 8) (hx : x.length ≤ 5000) (w : World) : Calls Tryd.prog 46 #[.string (st k), .string (st no), .string (st x)] w fun en w' => en = .returned (.string (st (strL k no x))) ∧ Below w.heap.size w w' := by
  have hz6 := (zero_of_info info256).1
  have hz1 := (zero_of_info info176).1
  have hs6 : zi256.size = (ki Sn 256).toArray.size := by rw [zi256_ki, ki_size, ki_size]
  have hi6 : (Tryd.prog.info? 68).map (·.size) = some (ki Sn 256).toArray.size := by rw [ki_size]; exact size256
  have ho6 := ki_one Sn 256
  obtain ⟨key, hkey⟩ : ∃ key : Nat → UInt8, (fun i => k.getD i 0) = key := ⟨_, rfl⟩
  have HKK : Hid ((fun i => k.getD i 0) = key) := hkey
  have HC : Hid (∀ W, Calls Tryd.prog 44 #[.string (st k), .agg (ki Sn 256).toArray] W fun en w' => en = .returned (.agg (ki (rkW key) 176).toArray) ∧ Below W.heap.size W w') := fun W => by rw [← hkey]; exact schedule_ref k hk W
  clear hkey
  have hs1 : zi176.size = (ki (rkW key) 176).toArray.size := by rw [zi176_ki, ki_size, ki_size]
  have hi1 : (Tryd.prog.info? 71).map (·.size) = some (ki (rkW key) 176).toArray.size := by rw [ki_size]; exact size176
  have ho1 := ki_one (rkW key) 176
  have hiL6 : (Tryd.prog.info? 68).map (·.size) = some (ki Sn 256).length := by rw [ki_len]; exact size256
  have hiL1 : (Tryd.prog.info? 71).map (·.size) = some (ki (rkW key) 176).length := by rw [ki_len]; exact size176
  have hL6 : ∀ W b, RowI W b Sn 256 68 → (L6 ⟨b, 0, none⟩).run Tryd.prog W = .ok (.agg (ki Sn 256).toArray) W := fun W b h => run_loadVar_mid W b 0 68 (ki Sn 256) _ h.range Tryd.underlying68 rfl hiL6
  have hL1 : ∀ W b, RowI W b (rkW key) 176 71 → (L1 ⟨b, 0, none⟩).run Tryd.prog W = .ok (.agg (ki (rkW key) 176).toArray) W := fun W b h => run_loadVar_mid W b 0 71 (ki (rkW key) 176) _ h.range Tryd.underlying71 rfl hiL1
  clear hiL6 hiL1
  generalize zi256 = zz6 at *
  generalize zi176 = zz1 at *
  go_enter Tryd.func46, Tryd.ntmps46
  go_wp2_with fail
  refine (boxes_any _).mono ?_
  rintro en w1 ⟨rfl, hb1⟩
  have hb2 : Below w.heap.size w (w1.alloc (.cells (ki Sn 256).toArray 68)) := hb1.alloc hb1.size _
  have row7 : RowI (w1.alloc (.cells (ki Sn 256).toArray 68)) w1.heap.size Sn 256 68 := heap_alloc_new _ _
  go_upto_region 2 with (refine wpList_store_row rfl 68 _ _ rfl w1.heap.size _ rfl rfl 68 zz6 (heap_alloc_new _ _) hi6 hs6 ho6 ?_; rw [World.setRow_alloc_new])
  clear hz6 hs6 hi6 ho6
  have h71 : w.heap.size ≤ w1.heap.size := hb1.size
  generalize w1.alloc (.cells (ki Sn 256).toArray 68) = w2 at *
  generalize w1.heap.size = b7 at *
  have hl7 := row7.lt (by decide)
  go_wp2_with fail
  refine (HC.out _).mono ?_
  rintro en w3 ⟨rfl, hb3⟩
  have row7b : RowI (w3.alloc (.cells (ki (rkW key) 176).toArray 71)) b7 Sn 256 68 := (row7.below hb3 hl7).below ((Below.refl _ _).alloc (Nat.le_refl _) _) (Nat.lt_of_lt_of_le hl7 hb3.size)
  have row8 : RowI (w3.alloc (.cells (ki (rkW key) 176).toArray 71)) w3.heap.size (rkW key) 176 71 := heap_alloc_new _ _
  have hb4 : Below w.heap.size w (w3.alloc (.cells (ki (rkW key) 176).toArray 71)) := (hb2.trans (hb3.mono hb2.size)).alloc (Nat.le_trans hb2.size hb3.size) _
  go_upto_region 3 with (refine wpList_store_row rfl 71 _ _ rfl w3.heap.size _ rfl rfl 71 zz1 (heap_alloc_new _ _) hi1 hs1 ho1 ?_; rw [World.setRow_alloc_new])
  clear hz1 hs1 hi1 ho1 row7 HC
  generalize w3.alloc (.cells (ki (rkW key) 176).toArray 71) = w4 at *
  generalize w3.heap.size = b8 at *
  have hl8 := row8.lt (by decide)
  have hl7 := row7b.lt (by decide)
  obtain ⟨cap, Z, w5, hcap, hcv, hb5, ho5⟩ := bytesN x w4
  have inv0 : RO w b7 b8 w4.heap.size key (sF key no x 0) x.length Z w5 := ⟨hb4.trans (hb5.mono hb4.size), hb4.size, by omega, by omega, row7b.below hb5 hl7, row8.below hb5 hl8, by rw [ho5]; rfl⟩
  clear ho5 hb5 row7b row8 hb4 hb3 hb2 hb1
  generalize w4.heap.size = o at *
  go_wp2_with fail
  clear hcv
  go_loopw [10, 11] (fun v i wr => ∃ q : Nat, q ≤ x.length ∧ i = .int .i64 q ∧ v = .string (st (padR key no q)) ∧ RO w b7 b8 o key (sF key no x q) x.length Z wr) (fun _ i _ => (x.length - intOf i).toNat)
  case atStart => exact ⟨0, by omega, rfl, rfl, inv0⟩
  case round =>
    clear inv0
    obtain ⟨q, hq, rfl, rfl, inv⟩ := hrel
    by_cases hlt : q < x.length
    · have i1 : (q : Int) < (x.length : Nat) := by omega
      obtain ⟨m, hm⟩ : ∃ m, q / 16 = m := ⟨_, rfl⟩
      obtain ⟨s, hs⟩ : ∃ s, q % 16 = s := ⟨_, rfl⟩
      have s16 : s < 16 := by omega
      have et : (q : Int).tmod 16 = (s : Nat) := by rw [Int.tmod_eq_emod_of_nonneg (by omega)]; omega
      have em : (q : Int) % 16 = (s : Nat) := by omega
      have hP : padR key no (q + 1) = kl (aesF key (ctF no m)) 16 := by unfold padR; rw [if_neg (by omega), show (q + 1 - 1) / 16 = m by omega]
      have HP : Hid (pdF key no q = aesF key (ctF no m) s) := by show _ = _; unfold pdF; rw [hm, hs]
      by_cases h0 : s = 0
      · have er : ((q : Int) % 16 == 0) = true := by simp; omega
        have ed : (q : Int).tdiv 16 = (m : Nat) := by rw [Int.tdiv_eq_ediv_of_nonneg (by omega)]; omega
        clear h0
        have HV : Hid (RO w b7 b8 o key (sF key no x q) x.length Z wr) := inv
        have R7 := inv.drew.r7
        have R8 := inv.drew.r8
        have HB : Hid (kl (aesF key (fun i => (no ++ nb m 8).getD i 0)) 16 = kl (aesF key (ctF no m)) 16) := blk_nb key no hno m
        have hl := nb_len m 8
        have HL : Hid (∀ W, Calls Tryd.prog 43 #[.string (st (no ++ nb m 8)), .agg (ki (rkW key) 176).toArray, .agg (ki Sn 256).toArray] W fun en w' => en = .returned (.string (st (kl (aesF key (ctF no m)) 16))) ∧ Below W.heap.size W w') := fun W => by rw [← HB.out]; exact block_ref key (no ++ nb m 8) (by rw [List.length_append]; omega) W
        have HNB : Hid (∀ W, Calls Tryd.prog 59 #[.int .i64 (m : Int), .int .i64 8] W fun en w' => en = .returned (.string (st (nb m 8))) ∧ Below W.heap.size W w') := fun W => numberI (m : Int) 8 m 8 rfl rfl (by decide) W
        have ewm : IntKind.i64.wrap (m : Int) = (m : Int) := by rw [IntKind.wrap_i64] <;> omega
        have hPl : (kl (aesF key (ctF no m)) 16).length = 16 := kl_len _ _
        have HPs : Hid ((kl (aesF key (ctF no m)) 16).getD s 0 = aesF key (ctF no m) s) := kl_getD _ _ _ s16
        clear inv HB
        generalize nb m 8 = NB at *
        generalize kl (aesF key (ctF no m)) 16 = PP at *
        generalize ki (rkW key) 176 = Y1 at *
        generalize ki Sn 256 = X6 at *
        go_wp2_with fail
        go_region_with (first
          | (go_at_call 59; go_fit (HNB.out _); rintro en v1 ⟨rfl, hc1⟩; have E1 := HV.out.drew.then hc1; have R71 := E1.r7; have R81 := E1.r8; clear R7 R8)
          | (go_at_call 43; go_fit (HL.out _); rintro en v2 ⟨rfl, hc2⟩; have E2 := E1.then hc2))
        all_goals (
          have inv := E2
          clear R71 R81 E1 E2 hc1 hc2 HL HNB ewm er ed HV hL6 hL1
          obtain ⟨b, hb0⟩ : ∃ b, (st PP)[s]'(by rw [st_size, hPl]; exact s16) = b := ⟨_, rfl⟩
          have s17 : (s : Int) < (PP.length : Nat) := by omega
          have s18 : (s : Int) < 16 := by omega
          have eb : pdF key no q = b := by rw [HP.out, ← HPs.out, ← hb0]; exact getD_stR PP s (by omega)
          have c1 : v2.cell? ⟨o, q, none⟩ = some (.int .u8 (e8 (x.getD q 0))) := by rw [inv.cell q hlt]; unfold sF; rw [if_neg (by omega)]
          have f1 : v2.frozen? ⟨o, q, none⟩ = false := inv.frozen q hlt
          have HI : Hid (RO w b7 b8 o key (sF key no x (q + 1)) x.length Z (v2.drew.setCell ⟨o, q, none⟩ (.int .u8 (e8 (x.getD q 0 ^^^ b))))) := by
            refine (inv.drew.set q hlt _).congr fun i _ => ?_
            unfold sF
            by_cases e : i = q
            · subst e; rw [if_pos rfl, if_pos (by omega), eb]
            · rw [if_neg e]
              by_cases e2 : i < q
              · rw [if_pos e2, if_pos (by omega)]
              · rw [if_neg e2, if_neg (by omega)]
          have hx8 : bits .xor .u8 (e8 (x.getD q 0)) (b.toNat : Int) = e8 (x.getD q 0 ^^^ b) := e8_xor _ b
          have HPP : Hid (padR key no (q + 1) = PP) := hP
          clear inv eb hP HP HPs hm hs
          generalize x.getD q 0 ^^^ b = v at *
          generalize x.getD q 0 = a at *
          go_wp2_with fail
          go_still_tail 12, (by kernel_rfl)
          go_wp2
          go_roundw
          case rel => first | exact ⟨q + 1, by omega, by go_num, by rw [HPP.out], HI.out⟩ | ((repeat apply Exists.intro); exact ⟨⟨q + 1, by omega, by go_num, by rw [HPP.out], HI.out⟩, rfl⟩)
          case measure => simp [intOf]; omega)
      · have er : ((q : Int) % 16 == 0) = false := by simp; omega
        have hPq : padR key no q = kl (aesF key (ctF no m)) 16 := by unfold padR; rw [if_neg (by omega), show (q - 1) / 16 = m by omega]
        have hPl : (kl (aesF key (ctF no m)) 16).length = 16 := kl_len _ _
        have HPs : Hid ((kl (aesF key (ctF no m)) 16).getD s 0 = aesF key (ctF no m) s) := kl_getD _ _ _ s16
        rw [hPq]
        clear hL6 hL1 hPq
        generalize kl (aesF key (ctF no m)) 16 = PP at *
        obtain ⟨b, hb0⟩ : ∃ b, (st PP)[s]'(by rw [st_size, hPl]; exact s16) = b := ⟨_, rfl⟩
        have s17 : (s : Int) < (PP.length : Nat) := by omega
        have s18 : (s : Int) < 16 := by omega
        have eb : pdF key no q = b := by rw [HP.out, ← HPs.out, ← hb0]; exact getD_stR PP s (by omega)
        have c1 : wr.cell? ⟨o, q, none⟩ = some (.int .u8 (e8 (x.getD q 0))) := by rw [inv.cell q hlt]; unfold sF; rw [if_neg (by omega)]
        have f1 : wr.frozen? ⟨o, q, none⟩ = false := inv.frozen q hlt
        have HI : Hid (RO w b7 b8 o key (sF key no x (q + 1)) x.length Z (wr.drew.setCell ⟨o, q, none⟩ (.int .u8 (e8 (x.getD q 0 ^^^ b))))) := by
          refine (inv.drew.set q hlt _).congr fun i _ => ?_
          unfold sF
          by_cases e : i = q
          · subst e; rw [if_pos rfl, if_pos (by omega), eb]
          · rw [if_neg e]
            by_cases e2 : i < q
            · rw [if_pos e2, if_pos (by omega)]
            · rw [if_neg e2, if_neg (by omega)]
        have hx8 : bits .xor .u8 (e8 (x.getD q 0)) (b.toNat : Int) = e8 (x.getD q 0 ^^^ b) := e8_xor _ b
        have HPP : Hid (padR key no (q + 1) = PP) := hP
        clear inv eb hP HP HPs hm hs
        generalize x.getD q 0 ^^^ b = v at *
        generalize x.getD q 0 = a at *
        go_wp2_with fail
        go_still_tail 12, (by kernel_rfl)
        go_wp2
        go_roundw
        case rel => first | exact ⟨q + 1, by omega, by go_num, by rw [HPP.out], HI.out⟩ | ((repeat apply Exists.intro); exact ⟨⟨q + 1, by omega, by go_num, by rw [HPP.out], HI.out⟩, rfl⟩)
        case measure => simp [intOf]; omega
    · have i1 : ¬ (q : Int) < (x.length : Nat) := by omega
      have inv := inv.congr (fy := fun i => x.getD i 0 ^^^ pdF key no i) (fun i hi => by unfold sF; rw [if_pos (by omega)])
      have hcv : (convert 37 9 (.slice (some ⟨o, 0, none⟩) x.length cap)).run Tryd.prog wr = .ok (.string (st (strL k no x))) wr := by
        have e : strL k no x = kl (fun i => x.getD i 0 ^^^ pdF key no i) x.length := by show kl (fun i => x.getD i 0 ^^^ pdF (fun j => k.getD j 0) no i) x.length = _; rw [HKK.out]
        rw [e]
        have h := run_convert_bytes_back (P := Tryd.prog) wr 37 9 5 ⟨o, 0, none⟩ cap (kl (fun i => x.getD i 0 ^^^ pdF key no i) x.length) Tryd.underlying37 Tryd.underlying5 Tryd.underlying9 (fun j hj => by
          rw [Addr.add_mid, Nat.zero_add]
          rw [kl_len] at hj
          rw [inv.cell j hj]
          simp [kl, e8])
        rw [kl_len] at h
        exact h
      have hb := inv.bel
      clear inv
      go_wp2_with fail
      go_ret
      exact ⟨rfl, hb⟩
theorem RStream_ok (k no x : List UInt8) (hk : k.length = 16) (hno : no.length = 8) (hx : x.length ≤ 4096) (w : World) : Calls Tryd.prog 27 #[.string (st k), .string (st no), .string (st x)] w fun en w' => en = .returned (.tuple #[.string (st (strL k no x)), .int .i64 0]) ∧ Below w.heap.size w w' := by
  have h1 : ¬ (4096 : Int) < (x.length : Nat) := by omega
  go_enter Tryd.func27, Tryd.ntmps27
  go_wp2_with fail
  refine (rstream_any k no x hk hno (by omega) _).mono ?_
  rintro en w1 ⟨rfl, hb⟩
  go_wp2_with fail
  go_ret2
  exact ⟨rfl, hb⟩
theorem RStream_key (k no x : List UInt8) (hk : k.length ≠ 16) (w : World) : Calls Tryd.prog 27 #[.string (st k), .string (st no), .string (st x)] w fun en w' => en = .returned (.tuple #[.string (st []), .int .i64 2]) ∧ w' = w := by
  have h1 : ¬ ((k.length : Nat) : Int) = 16 := by omega
  go_enter Tryd.func27, Tryd.ntmps27
  go_wp2_with fail
  go_ret2
  exact ⟨rfl, rfl⟩
theorem RStream_nonce (k no x : List UInt8) (hk : k.length = 16) (hno : no.length ≠ 8) (w : World) : Calls Tryd.prog 27 #[.string (st k), .string (st no), .string (st x)] w fun en w' => en = .returned (.tuple #[.string (st []), .int .i64 2]) ∧ w' = w := by
  have h1 : ¬ ((no.length : Nat) : Int) = 8 := by omega
  go_enter Tryd.func27, Tryd.ntmps27
  go_wp2_with fail
  go_ret2
  exact ⟨rfl, rfl⟩
theorem RStream_long (k no x : List UInt8) (hk : k.length = 16) (hno : no.length = 8) (hx : 4096 < x.length) (w : World) : Calls Tryd.prog 27 #[.string (st k), .string (st no), .string (st x)] w fun en w' => en = .returned (.tuple #[.string (st []), .int .i64 1]) ∧ w' = w := by
  have h1 : (4096 : Int) < (x.length : Nat) := by omega
  go_enter Tryd.func27, Tryd.ntmps27
  go_wp2_with fail
  go_ret2
  exact ⟨rfl, rfl⟩
end Go.Proofs.YtjnbhiamaabbgaaDoor
