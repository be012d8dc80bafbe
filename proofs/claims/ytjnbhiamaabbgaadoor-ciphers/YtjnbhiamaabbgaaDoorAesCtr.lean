/-
  prim's counterBlock: the nonce and a number.
-/
import Derived.Test.YtjnbhiamaabbgaaDoorAesEnc
namespace Go.Proofs.YtjnbhiamaabbgaaDoor
open Go.RowKit
attribute [local go_sem] st_size
theorem u8_of (m : Nat) : IntKind.u8.wrap ((m : Nat) : Int) = e8 (UInt8.ofNat m) := by
  simp [IntKind.wrap, IntKind.bits, IntKind.signed, e8]
/-- The counter's block: the nonce, and the number in eight bytes. -/
def ctF (no : List UInt8) (n i : Nat) : UInt8 := if i < 8 then no.getD i 0 else UInt8.ofNat (n / 256 ^ (15 - i))
def ctK (no : List UInt8) (n k i : Nat) : UInt8 := if i < 8 then no.getD i 0 else if 15 - k < i then UInt8.ofNat (n / 256 ^ (15 - i)) else 0
structure C2 (w : World) (f1 : Nat → UInt8) (wr : World) : Prop where
  bel : Below w.heap.size w wr
  sz : w.heap.size + 1 < wr.heap.size
  b0 : Row wr w.heap.size zF 16 55
  b1 : Row wr (w.heap.size + 1) f1 16 55
theorem C2.start (w : World) : C2 w zF ((w.alloc (.cells (kb zF 16).toArray 55)).alloc (.cells (kb zF 16).toArray 55)) := by
  refine ⟨((Below.refl _ _).alloc (Nat.le_refl _) _).alloc (by simp) _, by simp, ?_, ?_⟩
  all_goals (show ((w.heap.push _).push _)[_]? = _)
  all_goals (simp only [Array.getElem?_push, Array.size_push])
  · rw [if_neg (by omega), if_pos trivial]
  · rw [if_pos trivial]
theorem C2.set {w wr : World} {f1 : Nat → UInt8} (h : C2 w f1 wr) (k : Nat) (v : UInt8) : C2 w (fun i => if i = k then v else f1 i) (wr.setCell ⟨w.heap.size + 1, k, none⟩ (.int .u8 (e8 v))) :=
  ⟨h.bel.setCell (by show w.heap.size ≤ w.heap.size + 1; omega) _, by simpa [World.setCell] using h.sz, h.b0.other (by omega), h.b1.set k v⟩
theorem C2.congr {w wr : World} {f1 f2 : Nat → UInt8} (h : C2 w f1 wr) (e : ∀ i, i < 16 → f1 i = f2 i) : C2 w f2 wr := ⟨h.bel, h.sz, h.b0, h.b1.congr e⟩
theorem ct0 (no : List UInt8) (n : Nat) (hno : no.length = 8) : bv no ++ (kb zF 16).drop 8 = kb (ctK no n 0) 16 := by
  apply List.ext_getElem?
  intro i
  by_cases h : i < 8
  · rw [List.getElem?_append_left (by rw [bv_len]; omega), bv_kb, kb_at _ _ _ (by omega), kb_at _ _ _ (by omega)]
    unfold ctK; rw [if_pos h]
  · rw [List.getElem?_append_right (by rw [bv_len]; omega), bv_len, hno, List.getElem?_drop, show 8 + (i - 8) = i by omega]
    by_cases h2 : i < 16
    · rw [kb_at _ _ _ h2, kb_at _ _ _ h2]
      unfold ctK zF; rw [if_neg h, if_neg (by omega)]
    · rw [List.getElem?_eq_none (by rw [kb_len]; omega), List.getElem?_eq_none (by rw [kb_len]; omega)]
set_option maxHeartbeats 1000000 in
set_option maxRecDepth 20000 in
theorem counter_any (no : List UInt8) (hno : no.length = 8) (n : Nat) (hn : n ≤ 100000) (nn : Int) (hnn : nn = (n : Int)) (w : World) : Calls Tryd.prog 64 #[.string (st no), .int .u64 nn] w fun en w' => en = .returned (.agg (kb (ctF no n) 16).toArray) ∧ Below w.heap.size w w' := by
  subst hnn
  have inv0 := C2.start w
  have hb1 := inv0.b1
  have hbel := inv0.bel
  have hlast : (kb zF 16).toArray.size = 16 := kb_size _ _
  have HC : Hid (∀ w3 : World, w3.heap[w.heap.size + 1]? = some (.cells (bv no ++ (kb zF 16).drop 8).toArray 55 (0, 0)) → Below (w.heap.size + 1) ((w.alloc (.cells (kb zF 16).toArray 55)).alloc (.cells (kb zF 16).toArray 55)) w3 → C2 w (ctK no n 0) w3) := fun w3 h hb => by
    refine ⟨inv0.bel.trans (hb.mono (by omega)), ?_, inv0.b0.below hb (by omega), by unfold Row; rw [h, ct0 no n hno]⟩
    exact Nat.lt_of_lt_of_le inv0.sz hb.size
  unfold Row at hb1
  go_enter Tryd.func64, Tryd.ntmps64
  go_upto_region 2 with fail
  try rw [z16_kb]
  generalize hwa : (w.alloc (.cells (kb zF 16).toArray 55)).alloc (.cells (kb zF 16).toArray 55) = wa at *
  generalize hzz : kb zF 16 = zz at *
  go_wp2_with (refine wpList_copy_text rfl _ _ 37 9 rfl 5 Tryd.underlying37 info5s (w.heap.size + 1) 0 8 16 (st no) rfl rfl _ 55 hb1 ?c1 ?c2 (w.heap.size + 1) wa (Below.refl _ _) (Nat.le_refl _) ?_)
  case c1 => rw [st_size]; omega
  case c2 => rw [hlast, st_size]; omega
  intro w3 hg3 hb3
  have inv := HC.out w3 (by rw [hg3]; rfl) hb3
  clear HC hg3 hb3 hb1 hlast hbel inv0 hwa hzz
  go_wp2_with fail
  go_loopw [1, 6] (fun v i wr => ∃ k : Nat, k ≤ 8 ∧ i = .int .i64 ((15 : Int) - k) ∧ v = .int .u64 (((n / 256 ^ k : Nat)) : Int) ∧ C2 w (ctK no n k) wr) (fun _ i _ => (intOf i).toNat)
  case atStart => exact ⟨0, by omega, rfl, by simp, inv⟩
  case round =>
    clear inv
    obtain ⟨k, hk, rfl, rfl, inv⟩ := hrel
    have hsz := inv.sz
    by_cases hlt : k < 8
    · obtain ⟨j, hj⟩ : ∃ j, 15 - k = j := ⟨_, rfl⟩
      have ej : (15 : Int) - (k : Int) = (j : Int) := by omega
      have j1 : (8 : Int) ≤ (j : Int) := by omega
      have j2 : (j : Int) < 16 := by omega
      have j3 : j < 16 := by omega
      obtain ⟨m, hm⟩ : ∃ m, n / 256 ^ k = m := ⟨_, rfl⟩
      have hm2 : m ≤ 100000 := by rw [← hm]; exact Nat.le_trans (Nat.div_le_self _ _) hn
      obtain ⟨q, hq⟩ : ∃ q, m / 256 = q := ⟨_, rfl⟩
      have HM : Hid (n / 256 ^ (k + 1) = q) := by show _ = _; rw [← hq, ← hm, Nat.pow_succ, Nat.div_div_eq_div_mul]
      have h3 : wr.frozen? ⟨w.heap.size + 1, j, none⟩ = false := inv.b1.frozen
      have h4 : wr.cell? ⟨w.heap.size + 1, j, none⟩ = some (.int .u8 (e8 (ctK no n k j))) := inv.b1.cell j3
      have hw8 := u8_of m
      have hd : (m : Int) / 256 = (q : Int) := by omega
      have es : IntKind.i64.wrap ((j : Int) - 1) = (j : Int) - 1 := by rw [IntKind.wrap_i64] <;> omega
      have HI : Hid (C2 w (ctK no n (k + 1)) (wr.setCell ⟨w.heap.size + 1, j, none⟩ (.int .u8 (e8 (UInt8.ofNat m))))) := by
        refine (inv.set j (UInt8.ofNat m)).congr fun i hi => ?_
        unfold ctK
        by_cases e : i = j
        · subst e; rw [if_pos rfl, if_neg (by omega), if_pos (by omega), show 15 - i = k by omega, hm]
        · rw [if_neg e]
          by_cases e1 : i < 8
          · rw [if_pos e1, if_pos e1]
          · rw [if_neg e1, if_neg e1]
            by_cases e2 : 15 - k < i
            · rw [if_pos e2, if_pos (by omega)]
            · rw [if_neg e2, if_neg (by omega)]
      have HJ : Hid ((15 : Int) - ((k + 1 : Nat) : Int) = (j : Int) - 1) := by show _ = _; omega
      rw [hm, ej]
      clear inv hm ej hj hq
      generalize ctK no n k j = z at *
      go_wp2
      go_roundw
      case rel => first | exact ⟨k + 1, by omega, by rw [HJ.out], by rw [HM.out], HI.out⟩ | ((repeat apply Exists.intro); exact ⟨⟨k + 1, by omega, by rw [HJ.out], by rw [HM.out], HI.out⟩, rfl⟩)
      case measure => simp [intOf]; omega
    · obtain rfl : k = 8 := by omega
      have inv := inv.congr (f2 := ctF no n) (fun i hi => by
        unfold ctK ctF
        by_cases e1 : i < 8
        · rw [if_pos e1, if_pos e1]
        · rw [if_neg e1, if_neg e1, if_pos (by omega)])
      have hbs := inv.b1
      have hbr := inv.b0
      have hbel := inv.bel
      unfold Row at hbs hbr
      have hi := sizeKb (ctF no n)
      have h1 := kb_one (ctF no n) 16
      have hzs := kbs zF (ctF no n)
      have hout : (wr.setRow w.heap.size (kb (ctF no n) 16).toArray).heap[w.heap.size]? = some (.cells (kb (ctF no n) 16).toArray 55 (0, 0)) := setRow_heap _ _ _ _ _ _ hbr
      have hbl := setRow_below (b := w.heap.size) (kb (ctF no n) 16).toArray hbel (by omega)
      clear inv hk hlt hsz
      generalize hKK : (kb (ctF no n) 16).toArray = K at *
      have HK : Hid ((kb (ctF no n) 16).toArray = K) := hKK
      clear hKK
      go_wp2_with (first | refine wpList_load_row rfl 55 _ rfl (w.heap.size + 1) rfl 55 _ (0, 0) _ hbs Tryd.underlying55 rfl hi ?_ | refine wpList_store_row rfl 55 _ _ rfl w.heap.size _ rfl rfl 55 _ hbr hi hzs h1 ?_)
      exact bodyPost_ret (v := .agg K) (results_cell_row rfl _ _ w.heap.size 55 _ (0, 0) _ rfl hout Tryd.underlying55 rfl hi) rfl ⟨by rw [← HK.out], hbl⟩
end Go.Proofs.YtjnbhiamaabbgaaDoor
