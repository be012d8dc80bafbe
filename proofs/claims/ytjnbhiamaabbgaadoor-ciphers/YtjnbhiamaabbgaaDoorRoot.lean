/-
  prim.rowAbove, root and Root: the tree of hashes in memory.
-/
import Derived.Test.YtjnbhiamaabbgaaDoorDerive
import Derived.Test.YtjnbhiamaabbgaaDoorTree
import Derived.Deep.RegionHeld3
import Derived.Deep.AppendLies
namespace Go.Proofs.YtjnbhiamaabbgaaDoor
open Go.RowKit
theorem one_app (x : List UInt8) : ({ data := #[1] } : ByteArray) ++ st x = st (1 :: x) := st_append [1] x
theorem zero_app (x : List UInt8) : ({ data := #[0] } : ByteArray) ++ st x = st (0 :: x) := st_append [0] x
attribute [local go_sem] st_size st_append one_app zero_app
/-- Texts as values. -/
def sv (L : List (List UInt8)) : List Value := L.map fun l => .string (st l)
theorem sv_len (L : List (List UInt8)) : (sv L).length = L.length := by simp [sv]
theorem sv_append (a b : List (List UInt8)) : sv (a ++ b) = sv a ++ sv b := by simp [sv]
theorem sv_at (L : List (List UInt8)) (j : Nat) (h : j < L.length) : (sv L)[j]? = some (.string (st L[j])) := by simp [sv, h]
theorem sv_one (L : List (List UInt8)) : ∀ v ∈ sv L, v.oneCell' = true := by
  intro v hv
  simp only [sv, List.mem_map] at hv
  obtain ⟨b, _, rfl⟩ := hv
  rfl
theorem info9 : ∃ i, Tryd.prog.info? 9 = some i ∧ i.zero = some (.string ⟨#[]⟩) ∧ i.size = 1 ∧ i.bytes = 16 := by
  have h : (Tryd.prog.info? 9).map (fun i => (i.zero, i.size, i.bytes)) = some (some (.string ⟨#[]⟩), 1, 16) := by kernel_rfl
  cases hq : Tryd.prog.info? 9 with
  | none => simp [hq] at h
  | some i => simp [hq] at h; exact ⟨i, rfl, h.1, h.2.1, h.2.2⟩
/-- These texts lie in block g from offset off on. -/
def Lies (w : World) (g off : Nat) (L : List (List UInt8)) : Prop := ∀ j (h : j < L.length), w.cell? ⟨g, off + j, none⟩ = some (.string (st L[j]))
theorem Lies.below {w w' : World} {g off B : Nat} {L : List (List UInt8)} (h : Lies w g off L) (hg : g < B) (hb : Below B w w') : Lies w' g off L := fun j hj => (hb.cell (p := ⟨g, off + j, none⟩) hg).trans (h j hj)
theorem lies_of_owns {w : World} {base g n cap : Nat} {L : List (List UInt8)} (h : w.ownsRow base 9 1 (.slice (some ⟨g, 0, none⟩) n cap) n (sv L)) : n = L.length ∧ base ≤ g ∧ g < w.heap.size ∧ Lies w g 0 L := by
  have hn : n = L.length := by have := h.1; simpa [sv_len] using this.symm
  rcases h.2 with ⟨h1, _⟩ | ⟨g', cap', cur, hv, hg, hh, hc, _, hs, ht⟩
  · cases h1
  · cases hv
    refine ⟨hn, hg, (Array.getElem?_eq_some_iff.1 hh).1, fun j hj => ?_⟩
    rw [Nat.zero_add, cell_of_row _ _ j _ _ _ hh]
    have : (cur.toList.take (n * 1))[j]? = (sv L)[j]? := by rw [ht]
    rw [List.getElem?_take, if_pos (by omega), sv_at L j hj] at this
    simpa using this
theorem cells2 {w w' : World} {B g i j : Nat} {a b : Value} (hb : Below B w w') (hg : g < B) (h0 : w.cell? ⟨g, i, none⟩ = some a) (h1 : w.cell? ⟨g, j, none⟩ = some b) : w'.cell? ⟨g, i, none⟩ = some a ∧ w'.cell? ⟨g, j, none⟩ = some b :=
  ⟨(hb.cell (p := ⟨g, i, none⟩) hg).trans h0, (hb.cell (p := ⟨g, j, none⟩) hg).trans h1⟩
theorem news1 (w : World) (l : List UInt8) : ∀ j u, [Value.string (st l)][j]? = some u → (w.alloc (.cells #[.string (st l)] 9)).cell? ((⟨w.heap.size, 0, none⟩ : Addr).add j) = some u :=
  World.news_of_block (heap_alloc_new _ _)
theorem one1 (l : List UInt8) : ∀ u ∈ [Value.string (st l)], u.oneCell' = true := by
  intro u hu
  simp only [List.mem_singleton] at hu
  subst hu
  rfl
theorem above_take : ∀ (L : List (List UInt8)) (k : Nat) (h : 2 * k + 1 < L.length), above (L.take (2 * (k + 1))) = above (L.take (2 * k)) ++ [node L[2 * k] L[2 * k + 1]] := by
  intro L k h
  have e : L.take (2 * (k + 1)) = L.take (2 * k) ++ [L[2 * k], L[2 * k + 1]] := by
    rw [show 2 * (k + 1) = 2 * k + 1 + 1 by omega, List.take_succ_eq_append_getElem h, List.take_succ_eq_append_getElem (by omega), List.append_assoc]
    rfl
  rw [e, above_append _ _ (by simp; omega)]
  rfl
theorem above_odd (L : List (List UInt8)) (k : Nat) (h : L.length = 2 * k + 1) : above L = above (L.take (2 * k)) ++ [L[2 * k]] := by
  have e : L = L.take (2 * k) ++ [L[2 * k]] := by
    rw [← List.take_succ_eq_append_getElem (by omega), List.take_of_length_le (by omega)]
  have e2 : above (L.take (2 * k) ++ [L[2 * k]]) = above (L.take (2 * k)) ++ [L[2 * k]] := by
    rw [above_append _ _ (by simp; omega)]; simp [above]
  rw [← e] at e2
  exact e2
set_option maxHeartbeats 400000 in
set_option maxRecDepth 20000 in
theorem rowAbove_any (L : List (List UInt8)) (hL0 : 0 < L.length) (hL : L.length ≤ 256) (h32 : ∀ x ∈ L, x.length = 32) (g cap : Nat) (w : World) (hT : Tab w) (hl : Lies w g 0 L) :
    Calls Tryd.prog 48 #[.slice (some ⟨g, 0, none⟩) L.length cap] w fun en w' => ∃ g' cap', en = .returned (.slice (some ⟨g', 0, none⟩) (above L).length cap') ∧ w'.ownsRow w.heap.size 9 1 (.slice (some ⟨g', 0, none⟩) (above L).length cap') (above L).length (sv (above L)) ∧ Below w.heap.size w w' := by
  have HT : Hid (Tab w) := hT
  have hw0 := hT.pos
  have hg : g < w.heap.size := block_lt_of_cell (hl 0 hL0)
  have HL : Hid (Lies w g 0 L) := hl
  have H32 : Hid (∀ x ∈ L, x.length = 32) := h32
  clear hT hl h32
  obtain ⟨i9, hi, hz0, hz1, hz2⟩ := info9
  go_enter Tryd.func48, Tryd.ntmps48
  go_wp2_with (refine wpList_make_own _ rfl _ _ 26 rfl w.heap.size 9 i9 (.string ⟨#[]⟩) 1 Tryd.underlying26 hi hz0 hz1 .i64 .i64 _ ((L.length + 1) / 2) rfl rfl ?l1 ?b1 ?b2 ?b3 ?_)
  case l1 => omega
  case b1 => rw [hz2]; omega
  case b2 => unfold maxLen; omega
  case b3 => simp
  intro w1 hown hgr
  have hb1 : Below w.heap.size w w1 := (Below.refl _ _).grown hgr (Nat.le_refl _) (fun _ h => by cases h)
  clear hgr
  go_wp2
  go_loopw [3, 4] (fun v i wr => ∃ (k g' cap' : Nat), 2 * k ≤ L.length ∧ i = .int .i64 (2 * (k : Int)) ∧ v = .slice (some ⟨g', 0, none⟩) k cap' ∧ wr.ownsRow w.heap.size 9 1 (.slice (some ⟨g', 0, none⟩) k cap') k (sv (above (L.take (2 * k)))) ∧ Below w.heap.size w wr) (fun _ i _ => (L.length - intOf i).toNat)
  case atStart => exact ⟨0, _, _, by omega, by go_num, rfl, hown, hb1⟩
  case round =>
    clear hown hb1
    obtain ⟨k, g', cap', hk, rfl, rfl, hown, hb⟩ := hrel
    obtain ⟨hkl, hbg, hgw, _⟩ := lies_of_owns hown
    by_cases hlt : 2 * k + 1 < L.length
    · obtain ⟨x, hx⟩ : ∃ x, L[2 * k] = x := ⟨_, rfl⟩
      obtain ⟨y, hy⟩ : ∃ y, L[2 * k + 1] = y := ⟨_, rfl⟩
      have lx : x.length = 32 := H32.out x (by rw [← hx]; exact List.getElem_mem _)
      have ly : y.length = 32 := H32.out y (by rw [← hy]; exact List.getElem_mem _)
      have c0 : w.cell? ⟨g, 2 * k, none⟩ = some (.string (st x)) := by have := HL.out (2 * k) (by omega); rwa [Nat.zero_add, hx] at this
      have c1 : w.cell? ⟨g, 2 * k + 1, none⟩ = some (.string (st y)) := by have := HL.out (2 * k + 1) (by omega); rwa [Nat.zero_add, hy] at this
      have cr : ∀ o, wr.cell? ⟨g, o, none⟩ = w.cell? ⟨g, o, none⟩ := fun o => hb.cell (p := ⟨g, o, none⟩) hg
      have i0 : (0 : Int) ≤ 2 * (k : Int) := by omega
      have i1 : 2 * (k : Int) + 1 < (L.length : Nat) := by omega
      have i2 : 2 * (k : Int) < (L.length : Nat) := by omega
      have i3 : (0 : Int) ≤ 2 * (k : Int) + 1 := by omega
      have t0 : (2 * (k : Int)).toNat = 2 * k := by omega
      have t1 : (2 * (k : Int) + 1).toNat = 2 * k + 1 := by omega
      have e1 : IntKind.i64.wrap (2 * (k : Int) + 1) = 2 * (k : Int) + 1 := by rw [IntKind.wrap_i64]; omega
      have HA : Hid (above (L.take (2 * (k + 1))) = above (L.take (2 * k)) ++ [node x y]) := by show _ = _; rw [above_take L k hlt, hx, hy]
      have HO : Hid (wr.ownsRow w.heap.size 9 1 (.slice (some ⟨g', 0, none⟩) k cap') k (sv (above (L.take (2 * k))))) := hown
      have HTr : Hid (Tab wr.drew) := HT.out.below hw0 hb.drew
      have hz0' := hb.size
      clear hown hkl hx hy
      go_wp2
      have S0 : wr.cell? ⟨g, 2 * k, none⟩ = some (.string (st x)) ∧ wr.cell? ⟨g, 2 * k + 1, none⟩ = some (.string (st y)) := ⟨(cr _).trans c0, (cr _).trans c1⟩
      go_region_held3 (fun w' => w'.cell? ⟨g, 2 * k, none⟩ = some (.string (st x)) ∧ w'.cell? ⟨g, 2 * k + 1, none⟩ = some (.string (st y))) (first | exact S0 | exact S2 | exact S3 | exact S4)
        (first
          | (go_at_call 20; refine (sum_st (1 :: (x ++ y)) ?_ _ HTr.out).mono ?_; (simp; omega); rintro en w2 ⟨rfl, hb2⟩; have hb2' : Below w.heap.size w w2 := hb.drew.trans (hb2.mono hz0'); have S2 := cells2 hb2' hg c0 c1; have hb3 : Below w.heap.size w (w2.alloc (.cells #[.string (st (sha (1 :: (x ++ y))))] 9)) := hb2'.alloc hb2'.size _; have S3 := cells2 hb3 hg c0 c1; have own3 : (w2.alloc (.cells #[.string (st (sha (1 :: (x ++ y))))] 9)).ownsRow w.heap.size 9 1 (.slice (some ⟨g', 0, none⟩) k cap') k (sv (above (L.take (2 * k)))) := (owns_below HO.out.drew hb2).alloc _)
          | (refine step_append_lies _ (by rfl) _ _ 26 (by rfl) w.heap.size 9 i9 (.string ⟨#[]⟩) 1 16 Tryd.underlying26 hi hz0 hz1 hz2 (by rfl) (by decide) (.slice (some ⟨g', 0, none⟩) k cap') k (sv (above (L.take (2 * k)))) (by rfl) own3 ⟨w2.heap.size, 0, none⟩ 1 1 [.string (st (sha (1 :: (x ++ y))))] (by rfl) (by rfl) (news1 _ _) (one1 _) (by decide) (by unfold maxLen; omega) (by omega) hb3.size (w2.heap.size + 1) (by simp) ?_; intro g2 cap2 w4 hown4 hgr4 hat4 hlt4; have hb4 : Below w.heap.size w w4 := hb3.grown hgr4 hb3.size (owns_block own3); have S4 := cells2 hb4 hg c0 c1))
      have own5 : w4.ownsRow w.heap.size 9 1 (.slice (some ⟨g2, 0, none⟩) (k + 1) cap2) (k + 1) (sv (above (L.take (2 * (k + 1))))) := by rw [HA.out, sv_append]; exact hown4
      clear hown4 own3 hgr4 hat4 S0 S2 S3 S4
      go_wp2
      go_roundw
      case rel => exact ⟨k + 1, g2, cap2, by omega, by go_num, rfl, own5, hb4⟩
      case measure => simp [intOf]; omega
    · have i1 : ¬ 2 * (k : Int) + 1 < (L.length : Nat) := by omega
      by_cases hev : L.length = 2 * k
      · have hmod : ((L.length : Int) % 2 == 1) = false := by simp; omega
        have hab : (above L).length = k := by rw [above_len]; omega
        rw [List.take_of_length_le (by omega)] at hown
        have HA : Hid ((above L).length = k) := hab
        clear hab hev hkl
        go_wp2
        go_ret
        exact ⟨g', cap', by rw [HA.out]; rfl, by rw [HA.out]; exact hown, hb⟩
      · have hod : L.length = 2 * k + 1 := by omega
        have hmod : ((L.length : Int) % 2 == 1) = true := by simp; omega
        obtain ⟨x, hx⟩ : ∃ x, L[2 * k] = x := ⟨_, rfl⟩
        have c0 : wr.cell? ⟨g, L.length - 1, none⟩ = some (.string (st x)) := by
          have := HL.out (2 * k) (by omega)
          rw [Nat.zero_add, hx] at this
          rw [show L.length - 1 = 2 * k by omega]
          exact (hb.cell (p := ⟨g, 2 * k, none⟩) hg).trans this
        have i2 : (0 : Int) ≤ (L.length : Int) - 1 := by omega
        have i3 : (L.length : Int) - 1 < (L.length : Nat) := by omega
        have i4 : (1 : Int) ≤ (L.length : Nat) := by omega
        have HA : Hid (above L = above (L.take (2 * k)) ++ [x]) := by show _ = _; rw [above_odd L k hod, hx]
        have HN : Hid ((above L).length = k + 1) := by show _ = _; rw [above_len]; omega
        clear hod hev hx hkl
        go_wp2_with (refine wpList_append_lies _ rfl _ _ 26 rfl w.heap.size 9 i9 (.string ⟨#[]⟩) 1 16 Tryd.underlying26 hi hz0 hz1 hz2 rfl (by decide) (.slice (some ⟨g', 0, none⟩) k cap') k (sv (above (L.take (2 * k)))) rfl ?own ⟨wr.heap.size, 0, none⟩ 1 1 [.string (st x)] rfl rfl (news1 _ _) (one1 _) (by decide) ?m1 ?m2 ?m3 (wr.heap.size + 1) ?m4 ?_)
        case own => exact hown.alloc _
        case m1 => unfold maxLen; omega
        case m2 => omega
        case m3 => have := hb.size; simp; omega
        intro g2 cap2 w4 hown4 hgr4 hat4 hlt4
        have hb4 : Below w.heap.size w w4 := (hb.alloc hb.size _).grown hgr4 (by have := hb.size; simp; omega) (owns_block hown)
        have own5 : w4.ownsRow w.heap.size 9 1 (.slice (some ⟨g2, 0, none⟩) (k + 1) cap2) (k + 1) (sv (above L)) := by rw [HA.out, sv_append]; exact hown4
        clear hown4 hgr4 hat4 hown
        go_wp2
        go_ret
        exact ⟨g2, cap2, by rw [HN.out]; rfl, by rw [HN.out]; exact own5, hb4⟩
/-- A slice's length. -/
def lenV : Value → Nat
  | .slice _ n _ => n
  | _ => 0
theorem owns_weak {w : World} {b b' e size : Nat} {v : Value} {n : Nat} {xs : List Value} (hb : b ≤ b') (h : w.ownsRow b' e size v n xs) : w.ownsRow b e size v n xs := by
  refine ⟨h.1, ?_⟩
  rcases h.2 with h1 | ⟨g, cap, cur, hv, hg, r⟩
  · exact .inl h1
  · exact .inr ⟨g, cap, cur, hv, Nat.le_trans hb hg, r⟩
theorem root_nil (a : Option Addr) (cap : Nat) (w : World) (hT : Tab w) : Calls Tryd.prog 31 #[.slice a 0 cap] w fun en w' => en = .returned (.string (st (rootL []))) ∧ Below w.heap.size w w' := by
  have HT : Hid (Tab w) := hT
  clear hT
  go_enter Tryd.func31, Tryd.ntmps31
  go_wp2_with fail
  refine (sum_st [] (by decide) _ HT.out).mono ?_
  rintro en w1 ⟨rfl, hb⟩
  go_wp2_with fail
  go_ret
  exact ⟨rfl, hb⟩
set_option maxHeartbeats 400000 in
set_option maxRecDepth 20000 in
theorem root_any (L : List (List UInt8)) (hL0 : 0 < L.length) (hL : L.length ≤ 256) (hp : ∀ x ∈ L, x.length ≤ 4095) (g off cap : Nat) (w : World) (hT : Tab w) (hl : Lies w g off L) :
    Calls Tryd.prog 31 #[.slice (some ⟨g, off, none⟩) L.length cap] w fun en w' => en = .returned (.string (st (rootL L))) ∧ Below w.heap.size w w' := by
  have HT : Hid (Tab w) := hT
  have hw0 := hT.pos
  have hg : g < w.heap.size := block_lt_of_cell (hl 0 hL0)
  have HL : Hid (Lies w g off L) := hl
  have HP : Hid (∀ x ∈ L, x.length ≤ 4095) := hp
  clear hT hl hp
  obtain ⟨i9, hi, hz0, hz1, hz2⟩ := info9
  have hne : ((L.length : Int) == 0) = false := by simp; intro h; simp [h] at hL0
  go_enter Tryd.func31, Tryd.ntmps31
  go_wp2_with (refine wpList_make_own _ rfl _ _ 26 rfl w.heap.size 9 i9 (.string ⟨#[]⟩) 1 Tryd.underlying26 hi hz0 hz1 .i64 .i64 _ L.length rfl rfl ?l1 ?b1 ?b2 ?b3 ?_)
  case l1 => rfl
  case b1 => rw [hz2]; omega
  case b2 => unfold maxLen; omega
  case b3 => simp
  intro w1 hown hgr
  have hb1 : Below w.heap.size w w1 := (Below.refl _ _).grown hgr (Nat.le_refl _) (fun _ h => by cases h)
  clear hgr
  go_wp2
  go_loopw [3, 15] (fun v i wr => ∃ (k g' cap' : Nat), k ≤ L.length ∧ i = .int .i64 (k : Int) ∧ v = .slice (some ⟨g', 0, none⟩) k cap' ∧ wr.ownsRow w.heap.size 9 1 (.slice (some ⟨g', 0, none⟩) k cap') k (sv ((L.map leaf).take k)) ∧ Below w.heap.size w wr) (fun _ i _ => (L.length - intOf i).toNat)
  case atStart => exact ⟨0, _, _, by omega, rfl, rfl, hown, hb1⟩
  case round =>
    clear hown hb1
    obtain ⟨k, g', cap', hk, rfl, rfl, hown, hb⟩ := hrel
    by_cases hlt : k < L.length
    · obtain ⟨x, hx⟩ : ∃ x, L[k] = x := ⟨_, rfl⟩
      have lx : x.length ≤ 4095 := HP.out x (by rw [← hx]; exact List.getElem_mem _)
      have c0 : wr.cell? ⟨g, off + k, none⟩ = some (.string (st x)) := by have := HL.out k hlt; rw [hx] at this; exact (hb.cell (p := ⟨g, off + k, none⟩) hg).trans this
      have i1 : (k : Int) < (L.length : Nat) := by omega
      have HA : Hid ((L.map leaf).take (k + 1) = (L.map leaf).take k ++ [leaf x]) := by show _ = _; rw [List.take_succ_eq_append_getElem (by simpa using hlt), List.getElem_map, hx]
      have HO : Hid (wr.ownsRow w.heap.size 9 1 (.slice (some ⟨g', 0, none⟩) k cap') k (sv ((L.map leaf).take k))) := hown
      have HTr : Hid (Tab wr) := HT.out.below hw0 hb
      clear hown hx
      go_wp2_with fail
      refine (sum_st (0 :: x) (by simp; omega) _ HTr.out).mono ?_
      rintro en w2 ⟨rfl, hb2⟩
      have hb2' : Below w.heap.size w w2 := hb.trans (hb2.mono hb.size)
      have own2 : w2.ownsRow w.heap.size 9 1 (.slice (some ⟨g', 0, none⟩) k cap') k (sv ((L.map leaf).take k)) := owns_below HO.out hb2
      clear hb2
      go_wp2_with (refine wpList_append_lies _ rfl _ _ 26 rfl w.heap.size 9 i9 (.string ⟨#[]⟩) 1 16 Tryd.underlying26 hi hz0 hz1 hz2 rfl (by decide) (.slice (some ⟨g', 0, none⟩) k cap') k (sv ((L.map leaf).take k)) rfl ?own ⟨w2.heap.size, 0, none⟩ 1 1 [.string (st (sha (0 :: x)))] rfl rfl (news1 _ _) (one1 _) (by decide) ?m1 ?m2 ?m3 (w2.heap.size + 1) ?m4 ?_)
      case own => exact own2.alloc _
      case m1 => unfold maxLen; omega
      case m2 => omega
      case m3 => have := hb2'.size; simp; omega
      case m4 => simp
      intro g2 cap2 w4 hown4 hgr4 hat4 hlt4
      have hb4 : Below w.heap.size w w4 := (hb2'.alloc hb2'.size _).grown hgr4 (by have := hb2'.size; simp; omega) (owns_block own2)
      have own5 : w4.ownsRow w.heap.size 9 1 (.slice (some ⟨g2, 0, none⟩) (k + 1) cap2) (k + 1) (sv ((L.map leaf).take (k + 1))) := by rw [HA.out, sv_append]; exact hown4
      clear hown4 hgr4 hat4 own2 hb2'
      go_wp2
      go_roundw
      case rel => exact ⟨k + 1, g2, cap2, by omega, by go_num, rfl, own5, hb4⟩
      case measure => simp [intOf]; omega
    · obtain rfl : k = L.length := by omega
      rw [List.take_of_length_le (by simp)] at hown
      have i1 : ¬ ((L.length : Nat) : Int) < (L.length : Nat) := by omega
      obtain ⟨R, hR⟩ : ∃ R, L.map leaf = R := ⟨_, rfl⟩
      have hRl : R.length = L.length := by rw [← hR]; simp
      have H32 : Hid (∀ x ∈ R, x.length = 32) := by rw [← hR]; exact leafs32 L
      rw [hR] at hown
      have HR : Hid (L.map leaf = R) := hR
      have HRl : Hid (R.length = L.length) := hRl
      clear hR hRl
      go_wp2
      go_loopw [3] (fun v w2 => ∃ (j n g' cap' : Nat), 0 < n ∧ n ≤ 256 ∧ v = .slice (some ⟨g', 0, none⟩) n cap' ∧ w2.ownsRow w.heap.size 9 1 (.slice (some ⟨g', 0, none⟩) n cap') n (sv (up j R)) ∧ Below w.heap.size w w2) (fun v _ => lenV v)
      case atStart => exact ⟨0, _, _, _, hL0, hL, rfl, hown, hb⟩
      case round =>
        clear hown hb
        obtain ⟨j, n, g', cap', hn0, hn, rfl, hown, hb⟩ := hrel
        obtain ⟨hnl, hbg, hgw, hlies⟩ := lies_of_owns hown
        by_cases hlt : 1 < n
        · have i2 : (1 : Int) < (n : Nat) := by omega
          have HN : Hid (n = (up j R).length) := hnl
          have HLi : Hid (Lies wr g' 0 (up j R)) := hlies
          have HTr : Hid (Tab wr) := HT.out.below hw0 hb
          clear hown hnl hlies
          go_wp2_with fail
          have hcall := rowAbove_any (up j R) (by have := HN.out; omega) (by have := HN.out; omega) (up_all32 j R H32.out) g' cap' wr HTr.out HLi.out
          rw [← HN.out] at hcall
          refine hcall.mono ?_
          rintro en w2 ⟨g2, cap2, rfl, own2, hb2⟩
          have hal : (above (up j R)).length = (n + 1) / 2 := by rw [above_len, ← HN.out]
          have hb2' : Below w.heap.size w w2 := hb.trans (hb2.mono hb.size)
          rw [hal] at own2 ⊢
          have own3 : w2.ownsRow w.heap.size 9 1 (.slice (some ⟨g2, 0, none⟩) ((n + 1) / 2) cap2) ((n + 1) / 2) (sv (up (j + 1) R)) := by
            rw [up_succ]; exact owns_weak hb.size own2
          clear hcall own2 hb2 hal
          go_wp2_with fail
          go_roundw
          case rel => exact ⟨j + 1, (n + 1) / 2, g2, cap2, by omega, by omega, rfl, own3, hb2'⟩
          case measure => simp [lenV]; omega
        · obtain rfl : n = 1 := by omega
          obtain ⟨x, hx⟩ : ∃ x, up j R = [x] := List.length_eq_one_iff.1 hnl.symm
          have c0 : wr.cell? ⟨g', 0, none⟩ = some (.string (st x)) := by
            have := hlies 0 (by omega)
            rw [Nat.zero_add] at this
            rw [this]
            simp [hx]
          have HX : Hid (rootL L = x) := rootL_any (j := j) (by rw [HR.out]; exact hx) hL (by intro h; rw [h] at hL0; simp at hL0)
          clear hown hnl hlies hx
          go_wp2_with fail
          go_ret
          exact ⟨by rw [HX.out]; rfl, hb⟩
end Go.Proofs.YtjnbhiamaabbgaaDoor
