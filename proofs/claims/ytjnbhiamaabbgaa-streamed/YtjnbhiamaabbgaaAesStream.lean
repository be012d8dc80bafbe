/-
  prim's stream and Stream: AES-128 in counter mode.
-/
import Derived.Test.YtjnbhiamaabbgaaAesCtr
namespace Go.Proofs.Ytjnbhiamaabbgaa
open Go.RowKit
attribute [local go_sem] st_size e8_xor
/-- The stream's byte at a place. -/
def pdF (key : Nat → UInt8) (no : List UInt8) (i : Nat) : UInt8 := aesF key (ctF no (i / 16)) (i % 16)
/-- The text of which the first so many bytes are done. -/
def sF (key : Nat → UInt8) (no x : List UInt8) (d i : Nat) : UInt8 := if i < d then x.getD i 0 ^^^ pdF key no i else x.getD i 0
def strL (k no x : List UInt8) : List UInt8 := kl (fun i => x.getD i 0 ^^^ pdF (fun j => k.getD j 0) no i) x.length
theorem strL_len (k no x : List UInt8) : (strL k no x).length = x.length := kl_len _ _
/-- What lies there while a text is streamed: the cipher, and the text's bytes. -/
structure OI (w : World) (g o : Nat) (key fx : Nat → UInt8) (n : Nat) (Z : List Value) (wr : World) : Prop where
  bel : Below w.heap.size w wr
  glo : w.heap.size ≤ g
  olo : w.heap.size ≤ o
  ne : g ≠ o
  rc : Row wr g (cF key 10) 432 44
  ob : wr.heap[o]? = some (.cells (kb fx n ++ Z).toArray 5 ((kb fx n ++ Z).length, (kb fx n ++ Z).length + 1))
theorem OI.glt {w wr : World} {g o n : Nat} {key fx : Nat → UInt8} {Z : List Value} (h : OI w g o key fx n Z wr) : g < wr.heap.size := block_lt_of_cell (h.rc.cell (k := 0) (by decide))
theorem OI.olt {w wr : World} {g o n : Nat} {key fx : Nat → UInt8} {Z : List Value} (h : OI w g o key fx n Z wr) : o < wr.heap.size := (Array.getElem?_eq_some_iff.1 h.ob).1
theorem OI.then {w wr w' : World} {g o n : Nat} {key fx : Nat → UInt8} {Z : List Value} (h : OI w g o key fx n Z wr) (hb : Below wr.heap.size wr w') : OI w g o key fx n Z w' :=
  ⟨h.bel.trans (hb.mono h.bel.size), h.glo, h.olo, h.ne, h.rc.below hb h.glt, (hb.block _ h.olt).trans h.ob⟩
theorem OI.drew {w wr : World} {g o n : Nat} {key fx : Nat → UInt8} {Z : List Value} (h : OI w g o key fx n Z wr) : OI w g o key fx n Z wr.drew := ⟨h.bel.drew, h.glo, h.olo, h.ne, h.rc, h.ob⟩
theorem OI.cell {w wr : World} {g o n : Nat} {key fx : Nat → UInt8} {Z : List Value} (h : OI w g o key fx n Z wr) (k : Nat) (hk : k < n) : wr.cell? ⟨o, k, none⟩ = some (.int .u8 (e8 (fx k))) := by
  rw [cell_of_row _ _ _ _ _ _ h.ob, List.getElem?_toArray, List.getElem?_append_left (by rw [kb_len]; exact hk), kb_at _ _ _ hk]
theorem OI.frozen {w wr : World} {g o n : Nat} {key fx : Nat → UInt8} {Z : List Value} (h : OI w g o key fx n Z wr) (k : Nat) (hk : k < n) : wr.frozen? ⟨o, k, none⟩ = false := by
  unfold World.frozen?
  rw [h.ob]
  have : ¬ (kb fx n ++ Z).length ≤ k := by rw [List.length_append, kb_len]; omega
  simp only [this, decide_false, Bool.false_and]
theorem OI.set {w wr : World} {g o n : Nat} {key fx : Nat → UInt8} {Z : List Value} (h : OI w g o key fx n Z wr) (k : Nat) (hk : k < n) (v : UInt8) : OI w g o key (fun i => if i = k then v else fx i) n Z (wr.setCell ⟨o, k, none⟩ (.int .u8 (e8 v))) := by
  have hne := h.ne
  refine ⟨h.bel.setCell h.olo _, h.glo, h.olo, h.ne, h.rc.other hne, ?_⟩
  rw [setCell_eq_setRow _ _ _ _ _ _ _ h.ob, setRow_heap _ _ _ _ _ _ h.ob]
  rw [List.setIfInBounds_toArray, List.set_append_left _ _ (by rw [kb_len]; exact hk), kb_set]
  congr 2
  simp [kb_len]
theorem OI.congr {w wr : World} {g o n : Nat} {key fx fy : Nat → UInt8} {Z : List Value} (h : OI w g o key fx n Z wr) (e : ∀ i, i < n → fx i = fy i) : OI w g o key fy n Z wr := by
  have := h.ob
  rw [kb_congr e] at this
  exact ⟨h.bel, h.glo, h.olo, h.ne, h.rc, this⟩
theorem bytesN (x : List UInt8) (W : World) : ∃ (cap : Nat) (Z : List Value) (w1 : World), x.length ≤ cap ∧ (convert 9 29 (.string (st x))).run Try.prog W = .ok (.slice (some ⟨W.heap.size, 0, none⟩) x.length cap) w1 ∧ Below W.heap.size W w1 ∧ w1.heap[W.heap.size]? = some (.cells (kb (fun i => x.getD i 0) x.length ++ Z).toArray 5 ((kb (fun i => x.getD i 0) x.length ++ Z).length, (kb (fun i => x.getD i 0) x.length ++ Z).length + 1)) := by
  have hcv := run_bytes_of_string (P := Try.prog) W 9 29 5 (st x) Try.underlying9 Try.underlying29 Try.underlying5
  obtain ⟨cap, hcap⟩ : ∃ cap, grownCap W (st x).size 0 5 = cap := ⟨_, rfl⟩
  have hge : x.length ≤ cap := by rw [← hcap]; exact grownCap_ge W _ _ _
  rw [hcap, st_size] at hcv
  obtain ⟨Z, hZ⟩ : ∃ Z : List Value, bytesRow (st x) cap = (bv x ++ Z).toArray := ⟨List.replicate (cap - x.length) (.int .u8 0), by
    unfold bytesRow
    rw [st_size]
    apply Array.toList_inj.1
    simp [bv, st]⟩
  rw [hZ] at hcv
  rw [bv_kb] at hcv
  exact ⟨cap, Z, _, hge, hcv, ((Below.refl _ _).drew).alloc (Nat.le_refl _) _, heap_alloc_new W.drew _⟩
set_option maxHeartbeats 2000000 in
set_option maxRecDepth 20000 in
theorem stream_any (k no x : List UInt8) (hk : k.length = 16) (hno : no.length = 8) (hx : x.length ≤ 5000) (w : World) : Calls Try.prog 9 #[.string (st k), .string (st no), .string (st x)] w fun en w' => en = .returned (.string (st (strL k no x))) ∧ Below w.heap.size w w' := by
  go_enter Try.func9, Try.ntmps9
  go_wp2_with fail
  refine (newCipher_any k hk _).mono ?_
  rintro en w1 ⟨g, rfl, hg, row, hb1⟩
  obtain ⟨cap, Z, w2, hcap, hcv, hb2, ho2⟩ := bytesN x w1
  have hg1 : g < w1.heap.size := block_lt_of_cell (row.cell (k := 0) (by decide))
  generalize hkey : (fun i => k.getD i 0) = key at *
  have inv0 : OI w g w1.heap.size key (sF key no x 0) x.length Z w2 := ⟨hb1.trans (hb2.mono hb1.size), hg, hb1.size, by omega, row.below hb2 hg1, by rw [ho2]; rfl⟩
  have HKK : Hid ((fun i => k.getD i 0) = key) := hkey
  clear hkey ho2 hb2 row hg1 hg hb1
  obtain ⟨o, ho⟩ : ∃ o, w1.heap.size = o := ⟨_, rfl⟩
  rw [ho] at inv0 hcv
  go_wp2_with fail
  clear hcv ho
  go_loopw [9] (fun i wr => ∃ p : Nat, p < x.length + 16 ∧ p % 16 = 0 ∧ i = .int .i64 (p : Int) ∧ OI w g o key (sF key no x p) x.length Z wr) (fun i _ => (x.length + 16 - intOf i).toNat)
  case atStart => exact ⟨0, by omega, by omega, rfl, inv0⟩
  case round =>
    clear inv0
    obtain ⟨p, hp, hp4, rfl, inv⟩ := hrel
    by_cases hlt : p < x.length
    · have i1 : (p : Int) < (x.length : Nat) := by omega
      obtain ⟨m, hm⟩ : ∃ m, p / 16 = m := ⟨_, rfl⟩
      have e1 : (p : Int).tdiv 16 = (m : Nat) := by rw [Int.tdiv_eq_ediv_of_nonneg (by omega)]; omega
      have e2 : IntKind.u64.wrap (m : Int) = (m : Int) := by simp [IntKind.wrap, IntKind.bits, IntKind.signed]; omega
      have m1 : m ≤ 100000 := by omega
      have HV : Hid (OI w g o key (sF key no x p) x.length Z wr) := inv
      have hd : decide ((p : Int) < ((x.length : Nat) : Int)) = true := decide_eq_true i1
      have HP : Hid (∀ j, j < 16 → pdF key no (p + j) = aesF key (ctF no m) j) := fun j hj => by
        unfold pdF; rw [show (p + j) / 16 = m by omega, show (p + j) % 16 = j by omega]
      clear inv
      go_wp2_with fail
      refine (counter_any no hno m m1 _ rfl _).mono ?_
      rintro en w3 ⟨rfl, hb3⟩
      have inv3 := HV.out.then hb3
      go_wp2_with fail
      refine (encrypt_any key (ctF no m) g _ inv3.rc).mono ?_
      rintro en w4 ⟨rfl, hb4⟩
      have inv4 := inv3.then hb4
      have inv5 := inv4.then ((Below.refl _ _).alloc (Nat.le_refl _) (.cells (kb (aesF key (ctF no m)) 16).toArray 33))
      have row5 : Row (w4.alloc (.cells (kb (aesF key (ctF no m)) 16).toArray 33)) w4.heap.size (aesF key (ctF no m)) 16 33 := heap_alloc_new _ _
      have q1 : o < w4.heap.size := inv4.olt
      have hi := sizeKb (aesF key (ctF no m))
      have h1 := kb_one (aesF key (ctF no m)) 16
      have hzs : (#[.int .u8 0, .int .u8 0, .int .u8 0, .int .u8 0, .int .u8 0, .int .u8 0, .int .u8 0, .int .u8 0, .int .u8 0, .int .u8 0, .int .u8 0, .int .u8 0, .int .u8 0, .int .u8 0, .int .u8 0, .int .u8 0] : Array Value).size = (kb (aesF key (ctF no m)) 16).toArray.size := by rw [kb_size]; rfl
      clear inv3 inv4 HV hb3 hb4
      generalize hKK : (kb (aesF key (ctF no m)) 16).toArray = K at *
      go_upto_region 7 with (refine wpList_store_row rfl 33 _ _ rfl w4.heap.size _ rfl rfl 33 _ (heap_alloc_new _ _) hi hzs h1 ?_; rw [World.setRow_alloc_new])
      clear hi h1 hzs hKK
      generalize hw5 : w4.alloc (.cells K 33) = w5 at *
      clear hw5
      obtain ⟨q, hq⟩ : ∃ q, w4.heap.size = q := ⟨_, rfl⟩
      rw [hq] at row5 q1 ⊢
      clear hq
      have e3 : IntKind.i64.wrap ((p : Int) + 16) = (p : Int) + 16 := by rw [IntKind.wrap_i64] <;> omega
      by_cases h16 : p + 16 ≤ x.length
      · have j1 : (p : Int) + 16 ≤ (x.length : Nat) := by omega
        have j2 : ((p : Int) + 16).toNat = p + 16 := by omega
        go_wp2_with fail
        have inv5' : OI w g o key (sF key no x (p + 0)) x.length Z w5 := inv5
        clear inv5
        go_loopw [40] (fun i wq => ∃ j : Nat, j ≤ 16 ∧ i = .int .i64 (j : Int) ∧ OI w g o key (sF key no x (p + j)) x.length Z wq ∧ Row wq q (aesF key (ctF no m)) 16 33) (fun i _ => ((16 : Int) - intOf i).toNat)
        case atStart => exact ⟨0, by omega, rfl, inv5', row5⟩
        case round =>
          clear inv5' row5
          obtain ⟨j, hj, rfl, inv, rowq⟩ := hrel
          by_cases hlj : j < 16
          · have t1 : (j : Int) < ((16 : Nat) : Int) := by omega
            have t2 : (j : Int) < 16 := by omega
            have c1 : wr.cell? ⟨o, p + j, none⟩ = some (.int .u8 (e8 (x.getD (p + j) 0))) := by rw [inv.cell (p + j) (by omega)]; unfold sF; rw [if_neg (by omega)]
            have f1 : wr.frozen? ⟨o, p + j, none⟩ = false := inv.frozen (p + j) (by omega)
            have c2 : wr.cell? ⟨q, j, none⟩ = some (.int .u8 (e8 (aesF key (ctF no m) j))) := rowq.cell (by omega)
            have HI : Hid (OI w g o key (sF key no x (p + (j + 1))) x.length Z (wr.drew.setCell ⟨o, p + j, none⟩ (.int .u8 (e8 (x.getD (p + j) 0 ^^^ aesF key (ctF no m) j))))) := by
              refine (inv.drew.set (p + j) (by omega) _).congr fun i _ => ?_
              unfold sF
              by_cases e : i = p + j
              · subst e; rw [if_pos rfl, if_pos (by omega), HP.out j (by omega)]
              · rw [if_neg e]
                by_cases e2 : i < p + j
                · rw [if_pos e2, if_pos (by omega)]
                · rw [if_neg e2, if_neg (by omega)]
            have HQ : Hid (Row (wr.drew.setCell ⟨o, p + j, none⟩ (.int .u8 (e8 (x.getD (p + j) 0 ^^^ aesF key (ctF no m) j)))) q (aesF key (ctF no m)) 16 33) := Row.other (w := wr.drew) rowq (by omega)
            clear inv rowq
            generalize x.getD (p + j) 0 = a at *
            generalize aesF key (ctF no m) j = b at *
            go_wp2
            go_still_tail 9, (by kernel_rfl)
            go_wp2
            go_roundw
            case rel => first | exact ⟨j + 1, by omega, by go_num, HI.out, HQ.out⟩ | ((repeat apply Exists.intro); exact ⟨⟨j + 1, by omega, by go_num, HI.out, HQ.out⟩, rfl⟩)
            case measure => simp [intOf]; omega
          · have hje : j = 16 := by omega
            have t1 : ¬ (j : Int) < ((16 : Nat) : Int) := by omega
            rw [hje] at inv
            have HV : Hid (OI w g o key (sF key no x (p + 16)) x.length Z wr) := inv
            clear inv rowq
            go_wp2
            go_roundw
            case rel => exact ⟨p + 16, by omega, by omega, by go_num, HV.out⟩
            case measure => simp [intOf]; omega
      · have j1 : ¬ (p : Int) + 16 ≤ (x.length : Nat) := by omega
        have j3 : (x.length : Int) ≤ (p : Int) + 16 := by omega
        have j4 : (x.length : Int) < (p : Int) + 16 := by omega
        go_wp2_with fail
        obtain ⟨rl', hrl⟩ : ∃ rl', x.length - p = rl' := ⟨_, rfl⟩
        have hr2 : rl' ≤ 16 := by omega
        have hr3 : p + rl' = x.length := by omega
        rw [hrl]
        clear hrl j1 j3 j4
        have inv5' : OI w g o key (sF key no x (p + 0)) x.length Z w5 := inv5
        clear inv5
        go_loopw [40] (fun i wq => ∃ j : Nat, j ≤ rl' ∧ i = .int .i64 (j : Int) ∧ OI w g o key (sF key no x (p + j)) x.length Z wq ∧ Row wq q (aesF key (ctF no m)) 16 33) (fun i _ => ((rl' : Int) - intOf i).toNat)
        case atStart => exact ⟨0, by omega, rfl, inv5', row5⟩
        case round =>
          clear inv5' row5
          obtain ⟨j, hj, rfl, inv, rowq⟩ := hrel
          by_cases hlj : j < rl'
          · have t1 : (j : Int) < ((rl' : Nat) : Int) := by omega
            have t2 : (j : Int) < 16 := by omega
            have c1 : wr.cell? ⟨o, p + j, none⟩ = some (.int .u8 (e8 (x.getD (p + j) 0))) := by rw [inv.cell (p + j) (by omega)]; unfold sF; rw [if_neg (by omega)]
            have f1 : wr.frozen? ⟨o, p + j, none⟩ = false := inv.frozen (p + j) (by omega)
            have c2 : wr.cell? ⟨q, j, none⟩ = some (.int .u8 (e8 (aesF key (ctF no m) j))) := rowq.cell (by omega)
            have HI : Hid (OI w g o key (sF key no x (p + (j + 1))) x.length Z (wr.drew.setCell ⟨o, p + j, none⟩ (.int .u8 (e8 (x.getD (p + j) 0 ^^^ aesF key (ctF no m) j))))) := by
              refine (inv.drew.set (p + j) (by omega) _).congr fun i _ => ?_
              unfold sF
              by_cases e : i = p + j
              · subst e; rw [if_pos rfl, if_pos (by omega), HP.out j (by omega)]
              · rw [if_neg e]
                by_cases e2 : i < p + j
                · rw [if_pos e2, if_pos (by omega)]
                · rw [if_neg e2, if_neg (by omega)]
            have HQ : Hid (Row (wr.drew.setCell ⟨o, p + j, none⟩ (.int .u8 (e8 (x.getD (p + j) 0 ^^^ aesF key (ctF no m) j)))) q (aesF key (ctF no m)) 16 33) := Row.other (w := wr.drew) rowq (by omega)
            clear inv rowq
            generalize x.getD (p + j) 0 = a at *
            generalize aesF key (ctF no m) j = b at *
            go_wp2
            go_still_tail 9, (by kernel_rfl)
            go_wp2
            go_roundw
            case rel => first | exact ⟨j + 1, by omega, by go_num, HI.out, HQ.out⟩ | ((repeat apply Exists.intro); exact ⟨⟨j + 1, by omega, by go_num, HI.out, HQ.out⟩, rfl⟩)
            case measure => simp [intOf]; omega
          · have hje : j = rl' := by omega
            have t1 : ¬ (j : Int) < ((rl' : Nat) : Int) := by omega
            have inv := inv.congr (fy := sF key no x (p + 16)) (fun i hi => by
              unfold sF
              rw [if_pos (by omega), if_pos (by omega)])
            have HV : Hid (OI w g o key (sF key no x (p + 16)) x.length Z wr) := inv
            clear inv rowq
            go_wp2
            go_roundw
            case rel => exact ⟨p + 16, by omega, by omega, by go_num, HV.out⟩
            case measure => simp [intOf]; omega
    · have i1 : ¬ (p : Int) < (x.length : Nat) := by omega
      have inv := inv.congr (fy := fun i => x.getD i 0 ^^^ pdF key no i) (fun i hi => by unfold sF; rw [if_pos (by omega)])
      have hcv : (convert 29 9 (.slice (some ⟨o, 0, none⟩) x.length cap)).run Try.prog wr = .ok (.string (st (strL k no x))) wr := by
        have e : strL k no x = kl (fun i => x.getD i 0 ^^^ pdF key no i) x.length := by show kl (fun i => x.getD i 0 ^^^ pdF (fun j => k.getD j 0) no i) x.length = _; rw [HKK.out]
        rw [e]
        have h := run_convert_bytes_back (P := Try.prog) wr 29 9 5 ⟨o, 0, none⟩ cap (kl (fun i => x.getD i 0 ^^^ pdF key no i) x.length) Try.underlying29 Try.underlying5 Try.underlying9 (fun j hj => by
          rw [Addr.add_mid, Nat.zero_add]
          rw [kl_len] at hj
          rw [inv.cell j hj]
          simp [kl, e8])
        rw [kl_len] at h
        exact h
      have hb := inv.bel
      clear inv
      go_wp2_with fail
      go_ret
      exact ⟨rfl, hb⟩
theorem Stream_ok (k no x : List UInt8) (hk : k.length = 16) (hno : no.length = 8) (hx : x.length ≤ 4096) (w : World) : Calls Try.prog 5 #[.string (st k), .string (st no), .string (st x)] w fun en w' => en = .returned (.tuple #[.string (st (strL k no x)), .int .i64 0]) ∧ Below w.heap.size w w' := by
  have h1 : ¬ (4096 : Int) < (x.length : Nat) := by omega
  go_enter Try.func5, Try.ntmps5
  go_wp2_with fail
  refine (stream_any k no x hk hno (by omega) _).mono ?_
  rintro en w1 ⟨rfl, hb⟩
  go_wp2_with fail
  go_ret2
  exact ⟨rfl, hb⟩
theorem Stream_key (k no x : List UInt8) (hk : k.length ≠ 16) (w : World) : Calls Try.prog 5 #[.string (st k), .string (st no), .string (st x)] w fun en w' => en = .returned (.tuple #[.string (st []), .int .i64 2]) ∧ w' = w := by
  have h1 : ¬ ((k.length : Nat) : Int) = 16 := by omega
  go_enter Try.func5, Try.ntmps5
  go_wp2_with fail
  go_ret2
  exact ⟨rfl, rfl⟩
theorem Stream_nonce (k no x : List UInt8) (hk : k.length = 16) (hno : no.length ≠ 8) (w : World) : Calls Try.prog 5 #[.string (st k), .string (st no), .string (st x)] w fun en w' => en = .returned (.tuple #[.string (st []), .int .i64 2]) ∧ w' = w := by
  have h1 : ¬ ((no.length : Nat) : Int) = 8 := by omega
  go_enter Try.func5, Try.ntmps5
  go_wp2_with fail
  go_ret2
  exact ⟨rfl, rfl⟩
theorem Stream_long (k no x : List UInt8) (hk : k.length = 16) (hno : no.length = 8) (hx : 4096 < x.length) (w : World) : Calls Try.prog 5 #[.string (st k), .string (st no), .string (st x)] w fun en w' => en = .returned (.tuple #[.string (st []), .int .i64 1]) ∧ w' = w := by
  have h1 : (4096 : Int) < (x.length : Nat) := by omega
  go_enter Try.func5, Try.ntmps5
  go_wp2_with fail
  go_ret2
  exact ⟨rfl, rfl⟩
end Go.Proofs.Ytjnbhiamaabbgaa
