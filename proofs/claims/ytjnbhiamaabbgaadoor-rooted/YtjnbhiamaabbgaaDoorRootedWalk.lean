/-
  The walk of cofferkeep.Rooted.
-/
import Derived.Test.YtjnbhiamaabbgaaDoorRootTop
namespace Go.Proofs.YtjnbhiamaabbgaaDoor
open Go.RowKit
attribute [local go_sem] st_size st_append st_cut one_app zero_app
/-- The parts that Rooted takes: at most forty, of at most 200 bytes each. -/
def cutL (P : List (List UInt8)) : List (List UInt8) := (P.take 40).map (·.take 200)
theorem cutL_len (P : List (List UInt8)) : (cutL P).length = min 40 P.length := by simp [cutL]
theorem cutL_part (P : List (List UInt8)) : ∀ x ∈ cutL P, x.length ≤ 200 := by
  intro x hx
  simp only [cutL, List.mem_map] at hx
  obtain ⟨y, _, rfl⟩ := hx
  simp; omega
theorem cutL_take (P : List (List UInt8)) (k : Nat) (hk : k < P.length) (h40 : k < 40) : (cutL P).take (k + 1) = (cutL P).take k ++ [P[k].take 200] := by
  rw [List.take_succ_eq_append_getElem (by rw [cutL_len]; omega)]
  simp [cutL]
/-- A slice of texts: nothing in it, or its texts lie in memory. -/
def SL (w : World) (v : Value) (P : List (List UInt8)) : Prop := ∃ a cap, v = .slice a P.length cap ∧ (0 < P.length → ∃ g off, a = some ⟨g, off, none⟩ ∧ Lies w g off P)
/-- What stands behind the first loop: the texts that were taken, in a row of the call's own. -/
def After (w : World) (base : Nat) (v : Value) (L : List (List UInt8)) : Prop := w.ownsRow base 9 1 v L.length (sv L)
set_option maxHeartbeats 1500000 in
set_option maxRecDepth 20000 in
theorem Rooted_loop (P : List (List UInt8)) (v : Value) (w : World) (hT : Tab w) (hv : SL w v P) :
    Calls Tryd.prog 6 #[v] w fun en w' => en = .returned (.bool true) ∧ Below w.heap.size w w' := by
  have HT : Hid (Tab w) := hT
  have hw0 := hT.pos
  clear hT
  obtain ⟨a, cap, rfl, hlie⟩ := hv
  have HLI : Hid (0 < P.length → ∃ g off, a = some ⟨g, off, none⟩ ∧ Lies w g off P) := hlie
  clear hlie
  obtain ⟨i9, hi, hz0, hz1, hz2⟩ := info9
  go_enter Tryd.func6, Tryd.ntmps6
  go_wp2_with fail
  refine (fixed_any _ HT.out).mono ?_
  rintro en w1 ⟨rfl, hb1⟩
  go_wp2_with fail
  go_loopw [4, 5] (fun v i wr => ∃ k : Nat, k ≤ P.length ∧ k ≤ 40 ∧ i = .int .i64 (k : Int) ∧ wr.ownsRow w.heap.size 9 1 v k (sv ((cutL P).take k)) ∧ Below w.heap.size w wr) (fun _ i _ => (40 - intOf i).toNat)
  case atStart => exact ⟨0, by omega, by omega, rfl, World.ownsRow_nil _ _ _ _, hb1⟩
  case round =>
    clear hb1
    obtain ⟨k, hk, hk40, rfl, hown, hb⟩ := hrel
    obtain ⟨a2, cap2, rfl, hcap2⟩ := owned_shape hown
    by_cases hlt : k < P.length ∧ k < 40
    · obtain ⟨h1, h2⟩ := hlt
      obtain ⟨g, off, ha, hlies⟩ := HLI.out (by omega)
      subst ha
      have hg : g < w.heap.size := block_lt_of_cell (hlies 0 (by omega))
      obtain ⟨x, hx⟩ : ∃ x, P[k] = x := ⟨_, rfl⟩
      have c0 : wr.cell? ⟨g, off + k, none⟩ = some (.string (st x)) := by have := hlies k h1; rw [hx] at this; exact (hb.cell (p := ⟨g, off + k, none⟩) hg).trans this
      have HA := cutL_take P k h1 h2
      rw [hx] at HA
      have HA' : Hid ((cutL P).take (k + 1) = (cutL P).take k ++ [x.take 200]) := HA
      have i1 : (k : Int) < (P.length : Nat) := by omega
      have i2 : (k : Int) < 40 := by omega
      have HO : Hid (wr.ownsRow w.heap.size 9 1 (.slice a2 k cap2) k (sv ((cutL P).take k))) := hown
      clear HA hx hlies hown HLI
      by_cases h3 : 200 < x.length
      · have i3 : (200 : Int) < (x.length : Nat) := by omega
        go_wp2_with (refine wpList_append_lies _ rfl _ _ 26 rfl w.heap.size 9 i9 (.string ⟨#[]⟩) 1 16 Tryd.underlying26 hi hz0 hz1 hz2 rfl (by decide) (.slice a2 k cap2) k (sv ((cutL P).take k)) rfl ?own ⟨wr.heap.size, 0, none⟩ 1 1 [.string (st (x.take 200))] rfl rfl (news1 _ _) (one1 _) (by decide) ?m1 ?m2 ?m3 (wr.heap.size + 1) ?m4 ?_)
        case own => exact HO.out.alloc _
        case m1 => unfold maxLen; omega
        case m2 => omega
        case m3 => have := hb.size; simp; omega
        case m4 => simp
        intro g2 cap3 w4 hown4 hgr4 hat4 hlt4
        have hb4 : Below w.heap.size w w4 := (hb.alloc hb.size _).grown hgr4 (by have := hb.size; simp; omega) (owns_block HO.out)
        have own5 : w4.ownsRow w.heap.size 9 1 (.slice (some ⟨g2, 0, none⟩) (k + 1) cap3) (k + 1) (sv ((cutL P).take (k + 1))) := by rw [HA'.out, sv_append]; exact hown4
        clear hown4 hgr4 hat4
        go_wp2
        go_roundw
        case rel => exact ⟨k + 1, by omega, by omega, by go_num, own5, hb4⟩
        case measure => simp [intOf]; omega
      · have i3 : ¬ (200 : Int) < (x.length : Nat) := by omega
        have ex : x.take 200 = x := List.take_of_length_le (by omega)
        rw [ex] at HA'
        clear ex
        go_wp2_with (refine wpList_append_lies _ rfl _ _ 26 rfl w.heap.size 9 i9 (.string ⟨#[]⟩) 1 16 Tryd.underlying26 hi hz0 hz1 hz2 rfl (by decide) (.slice a2 k cap2) k (sv ((cutL P).take k)) rfl ?own ⟨wr.heap.size, 0, none⟩ 1 1 [.string (st x)] rfl rfl (news1 _ _) (one1 _) (by decide) ?m1 ?m2 ?m3 (wr.heap.size + 1) ?m4 ?_)
        case own => exact HO.out.alloc _
        case m1 => unfold maxLen; omega
        case m2 => omega
        case m3 => have := hb.size; simp; omega
        intro g2 cap3 w4 hown4 hgr4 hat4 hlt4
        have hb4 : Below w.heap.size w w4 := (hb.alloc hb.size _).grown hgr4 (by have := hb.size; simp; omega) (owns_block HO.out)
        have own5 : w4.ownsRow w.heap.size 9 1 (.slice (some ⟨g2, 0, none⟩) (k + 1) cap3) (k + 1) (sv ((cutL P).take (k + 1))) := by rw [HA'.out, sv_append]; exact hown4
        clear hown4 hgr4 hat4
        go_wp2
        go_roundw
        case rel => exact ⟨k + 1, by omega, by omega, by go_num, own5, hb4⟩
        case measure => simp [intOf]; omega
    · have hkn : k = (cutL P).length := by rw [cutL_len]; omega
      have hLp := cutL_part P
      rw [List.take_of_length_le (by omega)] at hown
      have hLl : (cutL P).length = k := hkn.symm
      have HTr : Hid (Tab wr) := HT.out.below hw0 hb
      clear hkn HLI
      generalize cutL P = L at *
      by_cases hkP : k < P.length
      · have i1 : (k : Int) < (P.length : Nat) := by omega
        have i2 : ¬ (k : Int) < 40 := by omega
        have b2 : decide ((k : Int) < 40) = false := by simp; omega
        have hk40' : 40 ≤ k := by omega
        clear hlt
        obtain ⟨g', cap3, hform, hbg, hgw⟩ := hown.form (by omega)
        have ea : a2 = some ⟨g', 0, none⟩ := by cases hform; rfl
        subst ea
        have hlies := (lies_of_owns hown).2.2.2
        have HLi : Hid (Lies wr g' 0 L) := hlies
        have HLp : Hid (∀ x ∈ L, x.length ≤ 4095) := fun x hx => Nat.le_trans (hLp x hx) (by decide)
        have HLp2 : Hid (∀ x ∈ L, x.length ≤ 200) := hLp
        have HLl : Hid (L.length = k) := hLl
        have kne : ((k : Int) == 0) = false := by simp; omega
        clear hform hown hlies hLp hLl
        have hroot := Root_ok L (by rw [HLl.out]; omega) (by rw [HLl.out]; omega) HLp.out g' 0 cap2 wr HTr.out HLi.out
        rw [HLl.out] at hroot
        have kne1 : ((k : Int) == 1) = false := by simp; omega
        have HH : Hid (Calls Tryd.prog 16 #[.slice (some ⟨g', 0, none⟩) k cap2] wr fun en w' => en = .returned (.tuple #[.string (st (rootL L)), .int .i64 0]) ∧ Below wr.heap.size wr w') := hroot
        clear hroot
        go_wp2_with fail
        refine HH.out.mono ?_
        rintro en w2 ⟨rfl, hb2⟩
        have T2 : Hid (Tab w2) := HTr.out.below (Nat.lt_of_lt_of_le hw0 hb.size) hb2
        have HL2 : Hid (Lies w2 g' 0 L) := HLi.out.below hgw hb2
        have hbw2 : Below w.heap.size w w2 := hb.trans (hb2.mono hb.size)
        have hgw2 : g' < w2.heap.size := Nat.lt_of_lt_of_le hgw hb2.size
        clear HTr hb2 HH HLi
        go_wp2_with fail
        go_loopw [13] (fun h w5 => ∃ j m : Nat, j ≤ 5 ∧ m = 2 ^ j ∧ m < k ∧ h = .int .i64 (m : Int) ∧ w5 = w2) (fun h _ => (40 - intOf h).toNat)
        case atStart => exact ⟨0, 1, by omega, rfl, by omega, rfl, rfl⟩
        case round =>
          obtain ⟨j, m, hj, hm, hmk, rfl, rfl⟩ := hrel
          have hm0 : 0 < m := by rw [hm]; exact Nat.two_pow_pos j
          by_cases h2m : 2 * m < k
          · have i5 : 2 * (m : Int) < (k : Nat) := by omega
            have HM : Hid (m = 2 ^ j) := hm
            have hj5 : j ≠ 5 := by intro h; rw [h] at hm; omega
            clear hm
            go_wp2_with fail
            go_roundw
            case rel => exact ⟨j + 1, 2 * m, by omega, by rw [HM.out, Nat.pow_succ]; omega, h2m, by go_num, trivial⟩
            case measure => simp [intOf]; omega
          · have i5 : ¬ 2 * (m : Int) < (k : Nat) := by omega
            have i6 : (m : Int) ≤ (cap2 : Nat) := by omega
            have i7 : (m : Int) ≤ (k : Nat) := by omega
            have i8 : (k : Int) ≤ (cap2 : Nat) := by omega
            have hLk := HLl.out
            have htl : (L.take m).length = m := by simp; omega
            have hdl : (L.drop m).length = k - m := by simp; omega
            have HTK : Hid (Lies wr g' 0 (L.take m)) := fun q hq => by have := HL2.out q (by rw [htl] at hq; omega); simpa using this
            have HDR : Hid (Lies wr g' m (L.drop m)) := fun q hq => by have := HL2.out (m + q) (by rw [hdl] at hq; omega); rw [Nat.zero_add] at this; simpa using this
            have HS : Hid (rootL L = node (rootL (L.take m)) (rootL (L.drop m))) := by
              show _ = _
              have e := rootL_split (L.take m) (L.drop m) j (by omega) (by rw [htl]; exact hm) (by rw [hdl]; omega) (by rw [hdl, ← hm]; omega)
              rwa [List.take_append_drop] at e
            have hA := Root_ok (L.take m) (by rw [htl]; omega) (by rw [htl]; omega) (fun x hx => HLp.out x (List.mem_of_mem_take hx)) g' 0 cap2 wr T2.out HTK.out
            rw [htl] at hA
            have hlA := rootL_len (L.take m) (by rw [htl]; omega)
            have hlB := rootL_len (L.drop m) (by rw [hdl]; omega)
            have HAA : Hid (Calls Tryd.prog 16 #[.slice (some ⟨g', 0, none⟩) m cap2] wr fun en w' => en = .returned (.tuple #[.string (st (rootL (L.take m))), .int .i64 0]) ∧ Below wr.heap.size wr w') := hA
            have HDL : Hid ((L.drop m).length = k - m) := hdl
            clear hA htl hLk hm hdl HTK
            generalize rootL (L.take m) = RA at *
            go_wp2_with fail
            refine HAA.out.mono ?_
            rintro en w6 ⟨rfl, hb6⟩
            have T6 : Hid (Tab w6) := T2.out.below T2.out.pos hb6
            have hB := Root_ok (L.drop m) (by rw [HDL.out]; omega) (by rw [HDL.out]; omega) (fun x hx => HLp.out x (List.mem_of_mem_drop hx)) g' m (cap2 - m) w6 T6.out (HDR.out.below hgw2 hb6)
            rw [HDL.out] at hB
            have HBB : Hid (Calls Tryd.prog 16 #[.slice (some ⟨g', m, none⟩) (k - m) (cap2 - m)] w6 fun en w' => en = .returned (.tuple #[.string (st (rootL (L.drop m))), .int .i64 0]) ∧ Below w6.heap.size w6 w') := hB
            clear hB
            generalize rootL (L.drop m) = RB at *
            go_wp2_with fail
            refine HBB.out.mono ?_
            rintro en w7 ⟨rfl, hb7⟩
            have T7 : Hid (Tab w7) := T6.out.below T6.out.pos hb7
            go_wp2_with fail
            refine (Sum_ok (1 :: (RA ++ RB)) (by simp; omega) _ T7.out).mono ?_
            rintro en w8 ⟨rfl, hb8⟩
            have e9 : rootL L = sha (1 :: (RA ++ RB)) := HS.out
            rw [e9]
            clear e9
            go_wp2_with fail
            go_ret
            exact ⟨rfl, bthen hbw2 (bthen hb6 (bthen hb7 hb8))⟩
      · have i1 : ¬ (k : Int) < (P.length : Nat) := by omega
        have b1 : decide ((k : Int) < (P.length : Nat)) = false := by simp; omega
        clear hlt
        by_cases hk0 : k = 0
        · subst hk0
          have hLn : L = [] := List.eq_nil_of_length_eq_zero hLl
          clear hLp hLl hown hcap2
          subst hLn
          go_wp2_with fail
          refine (Root_nil a2 cap2 _ HTr.out).mono ?_
          rintro en w2 ⟨rfl, hb2⟩
          have e0 : rootL [] = sha [] := rfl
          rw [e0]
          clear e0
          have T2 : Hid (Tab w2) := HTr.out.below (Nat.lt_of_lt_of_le hw0 hb.size) hb2
          go_wp2_with fail
          refine (Sum_ok [] (by decide) _ T2.out).mono ?_
          rintro en w3 ⟨rfl, hb3⟩
          go_wp2_with fail
          go_ret
          exact ⟨rfl, hb.trans (hb2.trans (hb3.mono hb2.size) |>.mono hb.size)⟩
        · obtain ⟨g', cap3, hform, hbg, hgw⟩ := hown.form (by omega)
          have ea : a2 = some ⟨g', 0, none⟩ := by cases hform; rfl
          subst ea
          have hlies := (lies_of_owns hown).2.2.2
          have HLi : Hid (Lies wr g' 0 L) := hlies
          have HLp : Hid (∀ x ∈ L, x.length ≤ 4095) := fun x hx => Nat.le_trans (hLp x hx) (by decide)
          have HLp2 : Hid (∀ x ∈ L, x.length ≤ 200) := hLp
          have HLl : Hid (L.length = k) := hLl
          have kne : ((k : Int) == 0) = false := by simp; omega
          clear hform hown hlies hLp hLl
          have hroot := Root_ok L (by rw [HLl.out]; omega) (by rw [HLl.out]; omega) HLp.out g' 0 cap2 wr HTr.out HLi.out
          rw [HLl.out] at hroot
          by_cases hk1 : k = 1
          · subst hk1
            obtain ⟨x, hLx⟩ : ∃ x, L = [x] := List.length_eq_one_iff.1 HLl.out
            subst hLx
            have c0 : wr.cell? ⟨g', 0, none⟩ = some (.string (st x)) := by have := HLi.out 0 (by simp); simpa using this
            have lx : x.length ≤ 200 := HLp2.out x (by simp)
            rw [rootL_one] at hroot
            have HH : Hid (Calls Tryd.prog 16 #[.slice (some ⟨g', 0, none⟩) 1 cap2] wr fun en w' => en = .returned (.tuple #[.string (st (leaf x)), .int .i64 0]) ∧ Below wr.heap.size wr w') := hroot
            clear hroot hk0
            go_wp2_with fail
            refine HH.out.mono ?_
            rintro en w2 ⟨rfl, hb2⟩
            have T2 : Hid (Tab w2) := HTr.out.below (Nat.lt_of_lt_of_le hw0 hb.size) hb2
            have c2 : w2.cell? ⟨g', 0, none⟩ = some (.string (st x)) := (hb2.cell (p := ⟨g', 0, none⟩) hgw).trans c0
            clear c0
            have e0 : leaf x = sha (0 :: x) := rfl
            rw [e0]
            clear e0
            go_wp2_with fail
            refine (Sum_ok (0 :: x) (by simp; omega) _ T2.out).mono ?_
            rintro en w3 ⟨rfl, hb3⟩
            go_wp2_with fail
            go_ret
            exact ⟨rfl, hb.trans (hb2.trans (hb3.mono hb2.size) |>.mono hb.size)⟩
          · have kne1 : ((k : Int) == 1) = false := by simp; omega
            have HH : Hid (Calls Tryd.prog 16 #[.slice (some ⟨g', 0, none⟩) k cap2] wr fun en w' => en = .returned (.tuple #[.string (st (rootL L)), .int .i64 0]) ∧ Below wr.heap.size wr w') := hroot
            clear hroot
            go_wp2_with fail
            refine HH.out.mono ?_
            rintro en w2 ⟨rfl, hb2⟩
            have T2 : Hid (Tab w2) := HTr.out.below (Nat.lt_of_lt_of_le hw0 hb.size) hb2
            have HL2 : Hid (Lies w2 g' 0 L) := HLi.out.below hgw hb2
            have hbw2 : Below w.heap.size w w2 := hb.trans (hb2.mono hb.size)
            have hgw2 : g' < w2.heap.size := Nat.lt_of_lt_of_le hgw hb2.size
            clear HTr hb2 HH HLi
            go_wp2_with fail
            go_loopw [13] (fun h w5 => ∃ j m : Nat, j ≤ 5 ∧ m = 2 ^ j ∧ m < k ∧ h = .int .i64 (m : Int) ∧ w5 = w2) (fun h _ => (40 - intOf h).toNat)
            case atStart => exact ⟨0, 1, by omega, rfl, by omega, rfl, rfl⟩
            case round =>
              obtain ⟨j, m, hj, hm, hmk, rfl, rfl⟩ := hrel
              have hm0 : 0 < m := by rw [hm]; exact Nat.two_pow_pos j
              by_cases h2m : 2 * m < k
              · have i5 : 2 * (m : Int) < (k : Nat) := by omega
                have HM : Hid (m = 2 ^ j) := hm
                have hj5 : j ≠ 5 := by intro h; rw [h] at hm; omega
                clear hm
                go_wp2_with fail
                go_roundw
                case rel => exact ⟨j + 1, 2 * m, by omega, by rw [HM.out, Nat.pow_succ]; omega, h2m, by go_num, trivial⟩
                case measure => simp [intOf]; omega
              · have i5 : ¬ 2 * (m : Int) < (k : Nat) := by omega
                have i6 : (m : Int) ≤ (cap2 : Nat) := by omega
                have i7 : (m : Int) ≤ (k : Nat) := by omega
                have i8 : (k : Int) ≤ (cap2 : Nat) := by omega
                have hLk := HLl.out
                have htl : (L.take m).length = m := by simp; omega
                have hdl : (L.drop m).length = k - m := by simp; omega
                have HTK : Hid (Lies wr g' 0 (L.take m)) := fun q hq => by have := HL2.out q (by rw [htl] at hq; omega); simpa using this
                have HDR : Hid (Lies wr g' m (L.drop m)) := fun q hq => by have := HL2.out (m + q) (by rw [hdl] at hq; omega); rw [Nat.zero_add] at this; simpa using this
                have HS : Hid (rootL L = node (rootL (L.take m)) (rootL (L.drop m))) := by
                  show _ = _
                  have e := rootL_split (L.take m) (L.drop m) j (by omega) (by rw [htl]; exact hm) (by rw [hdl]; omega) (by rw [hdl, ← hm]; omega)
                  rwa [List.take_append_drop] at e
                have hA := Root_ok (L.take m) (by rw [htl]; omega) (by rw [htl]; omega) (fun x hx => HLp.out x (List.mem_of_mem_take hx)) g' 0 cap2 wr T2.out HTK.out
                rw [htl] at hA
                have hlA := rootL_len (L.take m) (by rw [htl]; omega)
                have hlB := rootL_len (L.drop m) (by rw [hdl]; omega)
                have HAA : Hid (Calls Tryd.prog 16 #[.slice (some ⟨g', 0, none⟩) m cap2] wr fun en w' => en = .returned (.tuple #[.string (st (rootL (L.take m))), .int .i64 0]) ∧ Below wr.heap.size wr w') := hA
                have HDL : Hid ((L.drop m).length = k - m) := hdl
                clear hA htl hLk hm hdl HTK
                generalize rootL (L.take m) = RA at *
                go_wp2_with fail
                refine HAA.out.mono ?_
                rintro en w6 ⟨rfl, hb6⟩
                have T6 : Hid (Tab w6) := T2.out.below T2.out.pos hb6
                have hB := Root_ok (L.drop m) (by rw [HDL.out]; omega) (by rw [HDL.out]; omega) (fun x hx => HLp.out x (List.mem_of_mem_drop hx)) g' m (cap2 - m) w6 T6.out (HDR.out.below hgw2 hb6)
                rw [HDL.out] at hB
                have HBB : Hid (Calls Tryd.prog 16 #[.slice (some ⟨g', m, none⟩) (k - m) (cap2 - m)] w6 fun en w' => en = .returned (.tuple #[.string (st (rootL (L.drop m))), .int .i64 0]) ∧ Below w6.heap.size w6 w') := hB
                clear hB
                generalize rootL (L.drop m) = RB at *
                go_wp2_with fail
                refine HBB.out.mono ?_
                rintro en w7 ⟨rfl, hb7⟩
                have T7 : Hid (Tab w7) := T6.out.below T6.out.pos hb7
                go_wp2_with fail
                refine (Sum_ok (1 :: (RA ++ RB)) (by simp; omega) _ T7.out).mono ?_
                rintro en w8 ⟨rfl, hb8⟩
                have e9 : rootL L = sha (1 :: (RA ++ RB)) := HS.out
                rw [e9]
                clear e9
                go_wp2_with fail
                go_ret
                exact ⟨rfl, bthen hbw2 (bthen hb6 (bthen hb7 hb8))⟩
end Go.Proofs.YtjnbhiamaabbgaaDoor
