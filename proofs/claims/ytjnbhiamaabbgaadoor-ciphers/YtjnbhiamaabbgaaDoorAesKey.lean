/-
  prim's newCipher: the box and the keys of all rounds in one block.
-/
import Derived.Test.YtjnbhiamaabbgaaDoorAesNext
namespace Go.Proofs.YtjnbhiamaabbgaaDoor
open Go.RowKit
attribute [local go_sem] e8_xor st_size
/-- The cipher's bytes when r keys behind the first are there. -/
def cF (k : Nat → UInt8) (r i : Nat) : UInt8 := if i < 256 then Sn i else if i < 256 + 16 * (r + 1) then rkF k ((i - 256) / 16) ((i - 256) % 16) else 0
def c0F (i : Nat) : UInt8 := if i < 256 then Sn i else 0
theorem builtCip : Tryd.prog.built 79 [(0, .agg (kb Sn 256).toArray)] = some (kb c0F 432).toArray := by kernel_rfl
theorem setCells_below {B b : Nat} {a : World} (hb : B ≤ b) : ∀ (vs : List Value) (o : Nat) (w : World), Below B a w → Below B a (w.setCells b o vs)
  | [], _, _, h => h
  | v :: r, o, w, h => by
    rw [World.setCells]
    exact setCells_below hb r (o + 1) _ (h.setCell hb _)
theorem setCells_size (b : Nat) : ∀ (vs : List Value) (o : Nat) (w : World), (w.setCells b o vs).heap.size = w.heap.size
  | [], _, _ => rfl
  | v :: r, o, w => by
    rw [World.setCells, setCells_size b r (o + 1) _]
    simp [World.setCell]
theorem kb_oneL (f : Nat → UInt8) (n : Nat) : ∀ v ∈ kb f n, v.oneCell' = true := by
  intro v hv
  simp only [kb, List.mem_map] at hv
  obtain ⟨i, _, rfl⟩ := hv
  rfl
theorem kb_cons (h : Nat → UInt8) (m : Nat) : kb h (m + 1) = .int .u8 (e8 (h 0)) :: kb (fun i => h (i + 1)) m := by
  unfold kb
  rw [List.range_succ_eq_map]
  simp [Function.comp_def]
theorem Row.setCells : ∀ (m : Nat) {w : World} {b n : Nat} {f : Nat → UInt8} {t : TypeId} (_ : Row w b f n t) (o : Nat) (h : Nat → UInt8), Row (w.setCells b o (kb h m)) b (fun i => if o ≤ i ∧ i < o + m then h (i - o) else f i) n t
  | 0, w, b, n, f, t, hr, o, h => by
    refine (show Row w b f n t from hr).congr fun i _ => ?_
    rw [if_neg (by omega)]
  | m + 1, w, b, n, f, t, hr, o, h => by
    rw [kb_cons, World.setCells]
    refine (Row.setCells m (hr.set o (h 0)) (o + 1) (fun i => h (i + 1))).congr fun i _ => ?_
    by_cases e : i = o
    · subst e; rw [if_neg (by omega), if_pos rfl, if_pos (by omega), Nat.sub_self]
    · by_cases e2 : o + 1 ≤ i ∧ i < o + 1 + m
      · rw [if_pos e2, if_pos (by omega), show i - (o + 1) + 1 = i - o by omega]
      · rw [if_neg e2, if_neg e, if_neg (by omega)]
theorem Row.range {w : World} {b n o m : Nat} {f h : Nat → UInt8} {t : TypeId} (hr : Row w b f n t) (ho : o + m ≤ n) (e : ∀ i, i < m → f (o + i) = h i) : w.rangeAt b o (kb h m) := fun j v hv => by
  have hj : j < m := by have := (List.getElem?_eq_some_iff.1 hv).1; rwa [kb_len] at this
  rw [hr.cell (by omega), e j hj, ← hv, kb_at _ _ _ hj]
theorem Row.there {w : World} {b n o m : Nat} {f : Nat → UInt8} {t : TypeId} (hr : Row w b f n t) (ho : o + m ≤ n) : w.there b o m := fun j hj => ⟨by rw [hr.cell (by omega)]; rfl, hr.frozen⟩
theorem Row.boxAt {w : World} {g r : Nat} {k : Nat → UInt8} {t : TypeId} (h : Row w g (cF k r) 432 t) : BoxAt w g := fun i hi => by
  rw [h.cell (by omega)]; unfold cF; rw [if_pos hi]
theorem cF_key (k : Nat → UInt8) (r q j : Nat) (hq : q ≤ r) (hj : j < 16) : cF k r (256 + 16 * q + j) = rkF k q j := by
  unfold cF
  rw [if_neg (by omega), if_pos (by omega), show (256 + 16 * q + j - 256) / 16 = q by omega, show (256 + 16 * q + j - 256) % 16 = j by omega]
theorem c0F_key (l : List UInt8) (hl : l.length = 16) : ((kb c0F 432).take 256 ++ bv l ++ (kb c0F 432).drop (256 + 16)) = kb (cF (fun i => l.getD i 0) 0) 432 := by
  apply List.ext_getElem?
  intro i
  by_cases h1 : i < 256
  · rw [List.append_assoc, List.getElem?_append_left (by rw [List.length_take, kb_len]; omega), List.getElem?_take, if_pos h1, kb_at _ _ _ (by omega), kb_at _ _ _ (by omega)]
    unfold cF c0F; rw [if_pos h1, if_pos h1]
  · have hlt : ((kb c0F 432).take 256).length = 256 := by rw [List.length_take, kb_len]; rfl
    by_cases h2 : i < 272
    · rw [List.append_assoc, List.getElem?_append_right (by omega), List.getElem?_append_left (by rw [bv_len, hlt]; omega), hlt, bv_kb, kb_at _ _ _ (by omega), kb_at _ _ _ (by omega)]
      unfold cF; rw [if_neg h1, if_pos (by omega), show (i - 256) / 16 = 0 by omega, show (i - 256) % 16 = i - 256 by omega]
      rfl
    · rw [List.getElem?_append_right (by rw [List.length_append, hlt, bv_len]; omega), List.getElem?_drop, List.length_append, hlt, bv_len, hl, show 256 + 16 + (i - (256 + 16)) = i by omega]
      by_cases h3 : i < 432
      · rw [kb_at _ _ _ h3, kb_at _ _ _ h3]
        unfold cF c0F; rw [if_neg h1, if_neg h1, if_neg (by omega)]
      · rw [List.getElem?_eq_none (by rw [kb_len]; omega), List.getElem?_eq_none (by rw [kb_len]; omega)]
set_option maxHeartbeats 1000000 in
set_option maxRecDepth 20000 in
theorem newCipher_any (l : List UInt8) (hl : l.length = 16) (w : World) : Calls Tryd.prog 32 #[.string (st l)] w fun en w' => ∃ g, en = .returned (.pointer (some ⟨g, 0, none⟩)) ∧ w.heap.size ≤ g ∧ Row w' g (cF (fun i => l.getD i 0) 10) 432 79 ∧ Below w.heap.size w w' := by
  go_enter Tryd.func32, Tryd.ntmps32
  go_wp2_with fail
  refine (substitutes_any _).mono ?_
  rintro en w1 ⟨rfl, hb1⟩
  have hb2 : Below w.heap.size w (w1.alloc (.cells (kb c0F 432).toArray 79)) := hb1.alloc hb1.size _
  have hg2 := heap_alloc_new w1 (.cells (kb c0F 432).toArray 79)
  have hsz : w1.heap.size < (w1.alloc (.cells (kb c0F 432).toArray 79)).heap.size := by simp
  have HK : Hid (∀ w3 : World, w3.heap[w1.heap.size]? = some (.cells ((kb c0F 432).take 256 ++ bv l ++ (kb c0F 432).drop (256 + 16)).toArray 79 (0, 0)) → Row w3 w1.heap.size (cF (fun i => l.getD i 0) 0) 432 79) := fun w3 h => by unfold Row; rw [h, c0F_key l hl]
  have hss := kb_size c0F 432
  generalize hcc : kb c0F 432 = cc at *
  have hbuilt : Tryd.prog.built 79 [(0, .agg (kb Sn 256).toArray)] = some cc.toArray := by rw [builtCip, hcc]
  generalize kb Sn 256 = bx at *
  go_upto_region 2 with (refine wpList_built rfl 79 _ rfl cc.toArray hbuilt ?_)
  generalize w1.alloc (.cells cc.toArray 79) = w2 at *
  go_wp2_with (refine wpList_copy_text rfl _ _ 37 9 rfl 5 Tryd.underlying37 info5s w1.heap.size 256 16 16 (st l) rfl rfl _ 79 hg2 ?c1 ?c2 w.heap.size w hb2 hb1.size ?_)
  case c1 => rw [st_size]; omega
  case c2 => rw [hss, st_size]; omega
  intro w3 hg3 hb3
  have row0 := HK.out w3 (by rw [hg3, List.append_assoc]; rfl)
  have hgB := hb1.size
  clear hg3 hg2 HK hb2 hbuilt hss hcc hsz
  generalize hK : (fun i => l.getD i 0) = key at *
  have HKK : Hid ((fun i => l.getD i 0) = key) := hK
  clear hK
  obtain ⟨g, hg⟩ : ∃ g, w1.heap.size = g := ⟨_, rfl⟩
  rw [hg] at row0 hgB ⊢
  clear hg hb1
  go_wp2_with fail
  go_loopw [4, 16] (fun co i wr => ∃ k : Nat, k ≤ 10 ∧ i = .int .i64 k ∧ co = .int .u8 (e8 (conF k)) ∧ Row wr g (cF key k) 432 79 ∧ Below w.heap.size w wr) (fun _ i _ => (10 - intOf i).toNat)
  case atStart => exact ⟨0, by omega, rfl, rfl, row0, hb3⟩
  case round =>
    clear row0 hb3
    obtain ⟨k, hk, rfl, rfl, row, hb⟩ := hrel
    by_cases hlt : k < 10
    · have i1 : (k : Int) < 10 := by omega
      have i2 : (k : Int) < 11 := by omega
      have i3 : (k : Int) + 1 < 11 := by omega
      have i4 : (0 : Int) ≤ (k : Int) + 1 := by omega
      have i5 : IntKind.i64.wrap ((k : Int) + 1) = (k : Int) + 1 := by rw [IntKind.wrap_i64] <;> omega
      have i6 : ((k : Int) + 1).toNat = k + 1 := by omega
      have hg := hb.size
      have hgr : g < wr.heap.size := block_lt_of_cell (row.cell (k := 0) (by decide))
      obtain ⟨f, hf⟩ : ∃ f, rkF key k = f := ⟨_, rfl⟩
      obtain ⟨co, hco⟩ : ∃ co, conF k = co := ⟨_, rfl⟩
      have HN : Hid (rkF key (k + 1) = nkF f co) := by show nkF (rkF key k) (conF k) = _; rw [hf, hco]
      have HC : Hid (conF (k + 1) = dbl co) := by show dbl (conF k) = _; rw [hco]
      have HR : Hid (Row wr.drew g (cF key k) 432 79) := row
      have HF : Hid (∀ j, j < 16 → cF key k (256 + k * 16 + j) = f j) := fun j hj => by rw [show 256 + k * 16 + j = 256 + 16 * k + j by omega, cF_key key k k j (Nat.le_refl _) hj, hf]
      have HF2 : Hid (∀ i, i < 432 → (if 256 + (k + 1) * 16 ≤ i ∧ i < 256 + (k + 1) * 16 + 16 then nkF f co (i - (256 + (k + 1) * 16)) else cF key k i) = cF key (k + 1) i) := fun i hi => by
        unfold cF
        by_cases h1 : i < 256
        · rw [if_neg (by omega), if_pos h1, if_pos h1]
        · rw [if_neg h1, if_neg h1]
          by_cases h2 : i < 256 + 16 * (k + 1)
          · rw [if_neg (by omega), if_pos h2, if_pos (by omega)]
          · by_cases h3 : i < 256 + 16 * (k + 1 + 1)
            · rw [if_pos (by omega), if_pos h3, show (i - 256) / 16 = k + 1 by omega, show (i - 256) % 16 = i - (256 + (k + 1) * 16) by omega, HN.out]
            · rw [if_neg (by omega), if_neg h2, if_neg h3]
      have HS : Hid (∀ w', Row w' g (cF key k) 432 79 → w'.rangeAt g (256 + k * 16) (kb f 16) ∧ w'.there g (256 + (k + 1) * 16) 16) := fun w' h => ⟨h.range (by omega) HF.out, h.there (by omega)⟩
      have HT : Hid (∀ w', Row w' g (cF key k) 432 79 → Row (w'.setCells g (256 + (k + 1) * 16) (kb (nkF f co) 16)) g (cF key (k + 1)) 432 79 ∧ (w'.setCells g (256 + (k + 1) * 16) (kb (nkF f co) 16)).rangeAt g (256 + k * 16) (kb f 16) ∧ (w'.setCells g (256 + (k + 1) * 16) (kb (nkF f co) 16)).there g (256 + (k + 1) * 16) 16) := fun w' h => by
        have row3 := (h.setCells 16 (256 + (k + 1) * 16) (nkF f co)).congr HF2.out
        refine ⟨row3, row3.range (by omega) (fun j hj => ?_), row3.there (by omega)⟩
        rw [show 256 + k * 16 + j = 256 + 16 * k + j by omega, cF_key key (k + 1) k j (by omega) hj, hf]
      have hi1 : (Tryd.prog.info? 55).map (·.size) = some (kb f 16).length := by rw [kb_len]; exact sizeBlk
      have hi2 : (Tryd.prog.info? 55).map (·.size) = some (kb (nkF f co) 16).length := by rw [kb_len]; exact sizeBlk
      have hl1 := kb_len f 16
      have hl2 := kb_len (nkF f co) 16
      have ho1 : ∀ v ∈ kb f 16, v.oneCell' = true := kb_oneL f 16
      have ho2 : ∀ v ∈ kb (nkF f co) 16, v.oneCell' = true := kb_oneL _ 16
      have HX : Hid (∀ w', BoxAt w' g → Calls Tryd.prog 50 #[.pointer (some ⟨g, 0, none⟩), .agg (kb f 16).toArray, .int .u8 (e8 co)] w' fun en w'' => en = .returned (.agg (kb (nkF f co) 16).toArray) ∧ Below w'.heap.size w' w'') := fun w' h => nextKey_any f co g w' h
      rw [hco]
      clear row hf hco HF HF2
      generalize kb f 16 = X1 at *
      generalize kb (nkF f co) 16 = X2 at *
      have S0 := HS.out wr.drew HR.out
      have hu := Tryd.underlying55
      go_wp2_with fail
      go_region_held3 (fun w' => w'.rangeAt g (256 + k * 16) X1 ∧ w'.there g (256 + (k + 1) * 16) 16) (first | exact S0 | exact S2 | exact T2.2)
        (first
          | (go_at_call 50; refine (HX.out _ (HR.out.boxAt)).mono ?_; rintro en w2 ⟨rfl, hb2⟩; have row2 : Row w2 g (cF key k) 432 79 := HR.out.below hb2 hgr; have S2 := HS.out w2 row2; have T2 := HT.out w2 row2; have hb3 : Below w.heap.size w (w2.setCells g (256 + (k + 1) * 16) X2) := setCells_below hgB _ _ _ (hb.drew.trans (hb2.mono hg))))
      clear S0 S2 HS HT HX hi1 hi2 hl1 hl2 ho1 ho2 hu hb2 row2
      generalize hw5 : w2.setCells g (256 + (k + 1) * 16) X2 = w5 at *
      clear hw5
      go_wp2_with fail
      refine (double_any co _).mono ?_
      rintro en w6 ⟨rfl, rfl⟩
      go_wp2_with fail
      go_roundw
      case rel => first | exact ⟨k + 1, by omega, by go_num, by rw [HC.out], T2.1, hb3⟩ | ((repeat apply Exists.intro); exact ⟨⟨k + 1, by omega, by go_num, by rw [HC.out], T2.1, hb3⟩, rfl⟩)
      case measure => simp [intOf]; omega
    · obtain rfl : k = 10 := by omega
      go_wp2_with fail
      go_ret
      exact ⟨g, rfl, hgB, by rw [HKK.out]; exact row, hb⟩
end Go.Proofs.YtjnbhiamaabbgaaDoor
