/-
  cofferref's block: one block by the document's words.
-/
import Derived.Test.YtjnbhiamaabbgaaDoorCipSch
import Derived.Test.YtjnbhiamaabbgaaDoorAesStep
import Derived.Test.YtjnbhiamaabbgaaDoorRefA
namespace Go.Proofs.YtjnbhiamaabbgaaDoor
open Go.RowKit
theorem xl (a b c : UInt8) : a ^^^ (b ^^^ c) = b ^^^ (a ^^^ c) := by rw [← UInt8.xor_assoc, UInt8.xor_comm a b, UInt8.xor_assoc]
theorem xx (a b : UInt8) : a ^^^ (a ^^^ b) = b := by rw [← UInt8.xor_assoc]; simp
theorem hi7 : ∀ x : UInt8, (128 ≤ x.toNat) = (x.toNat.testBit 7 = true) := u8_all (by decide +kernel)
def gg (x : UInt8) : UInt8 := if x.toNat.testBit 7 = true then 27 else 0
theorem dbl_gg (x : UInt8) : dbl x = (x <<< 1) ^^^ gg x := by
  unfold dbl gg
  by_cases h : 128 ≤ x.toNat
  · rw [if_pos h, if_pos (by rw [← hi7]; exact h)]
  · rw [if_neg h, if_neg (by rw [← hi7]; exact h)]; simp
theorem gg_xor (a b : UInt8) : gg (a ^^^ b) = gg a ^^^ gg b := by
  unfold gg
  rw [UInt8.toNat_xor, Nat.testBit_xor]
  cases a.toNat.testBit 7 <;> cases b.toNat.testBit 7 <;> rfl
theorem shl_xor (a b : UInt8) : (a ^^^ b) <<< (1 : UInt8) = a <<< 1 ^^^ b <<< 1 := by
  apply UInt8.eq_of_toBitVec_eq
  simp [BitVec.shiftLeft_xor_distrib]
theorem dbl_xor (a b : UInt8) : dbl (a ^^^ b) = dbl a ^^^ dbl b := by
  rw [dbl_gg, dbl_gg, dbl_gg, gg_xor, shl_xor]
  simp only [UInt8.xor_assoc, xl]
theorem mx0 (a b c d : UInt8) : a ^^^ b ^^^ c ^^^ d ^^^ a ^^^ dbl (a ^^^ b) = mxF a b c d := by
  unfold mxF; rw [dbl_xor]; simp only [UInt8.xor_assoc, UInt8.xor_comm, xl, xx]
theorem mx1 (a b c d : UInt8) : a ^^^ b ^^^ c ^^^ d ^^^ b ^^^ dbl (b ^^^ c) = mxF b c d a := by
  unfold mxF; rw [dbl_xor]; simp only [UInt8.xor_assoc, UInt8.xor_comm, xl, xx]
theorem mx2 (a b c d : UInt8) : a ^^^ b ^^^ c ^^^ d ^^^ c ^^^ dbl (c ^^^ d) = mxF c d a b := by
  unfold mxF; rw [dbl_xor]; simp only [UInt8.xor_assoc, UInt8.xor_comm, xl, xx]
theorem mx3 (a b c d : UInt8) : a ^^^ b ^^^ c ^^^ d ^^^ d ^^^ dbl (d ^^^ a) = mxF d a b c := by
  unfold mxF; rw [dbl_xor]; simp only [UInt8.xor_assoc, UInt8.xor_comm, xl, xx]
theorem mix_cols (f : Nat → UInt8) (c : Nat) (h4 : c % 4 = 0) : mixF f c = mxF (f c) (f (c + 1)) (f (c + 2)) (f (c + 3)) ∧ mixF f (c + 1) = mxF (f (c + 1)) (f (c + 2)) (f (c + 3)) (f c) ∧ mixF f (c + 2) = mxF (f (c + 2)) (f (c + 3)) (f c) (f (c + 1)) ∧ mixF f (c + 3) = mxF (f (c + 3)) (f c) (f (c + 1)) (f (c + 2)) := by
  unfold mixF
  refine ⟨?_, ?_, ?_, ?_⟩
  · rw [show c / 4 * 4 = c by omega, show c + (c % 4 + 1) % 4 = c + 1 by omega]; exact mx0 _ _ _ _
  · rw [show (c + 1) / 4 * 4 = c by omega, show c + ((c + 1) % 4 + 1) % 4 = c + 2 by omega]; exact mx1 _ _ _ _
  · rw [show (c + 2) / 4 * 4 = c by omega, show c + ((c + 2) % 4 + 1) % 4 = c + 3 by omega]; exact mx2 _ _ _ _
  · rw [show (c + 3) / 4 * 4 = c by omega, show c + ((c + 3) % 4 + 1) % 4 = c by omega]; exact mx3 _ _ _ _
attribute [local go_sem] e8_xor64 st_size st_append
/-- What lies there: the schedule, the box, the state. -/
structure BK (w : World) (key f2 : Nat → UInt8) (wr : World) : Prop where
  bel : Below w.heap.size w wr
  sz : w.heap.size + 1 + 1 < wr.heap.size
  b0 : RowI wr w.heap.size (rkW key) 176 71
  b1 : RowI wr (w.heap.size + 1) Sn 256 68
  b2 : RowI wr (w.heap.size + 1 + 1) f2 16 90
theorem BK.start (w : World) (key : Nat → UInt8) : BK w key zF (((w.alloc (.cells (ki (rkW key) 176).toArray 71)).alloc (.cells (ki Sn 256).toArray 68)).alloc (.cells #[.int .i64 0, .int .i64 0, .int .i64 0, .int .i64 0, .int .i64 0, .int .i64 0, .int .i64 0, .int .i64 0, .int .i64 0, .int .i64 0, .int .i64 0, .int .i64 0, .int .i64 0, .int .i64 0, .int .i64 0, .int .i64 0] 90)) := by
  refine ⟨(((Below.refl _ _).alloc (Nat.le_refl _) _).alloc (by simp) _).alloc (by simp; omega) _, by simp, ?_, ?_, ?_⟩
  all_goals (show (((w.heap.push _).push _).push _)[_]? = _)
  all_goals (simp only [Array.getElem?_push, Array.size_push])
  · rw [if_neg (by omega), if_neg (by omega), if_pos trivial]
  · rw [if_neg (by omega), if_pos trivial]
  · rw [if_pos trivial]; rfl
theorem BK.drew {w wr : World} {key f2 : Nat → UInt8} (h : BK w key f2 wr) : BK w key f2 wr.drew := ⟨h.bel.drew, h.sz, h.b0, h.b1, h.b2⟩
theorem BK.then {w wr w' : World} {key f2 : Nat → UInt8} (h : BK w key f2 wr) (hb : Below wr.heap.size wr w') : BK w key f2 w' :=
  have hs := h.sz
  ⟨h.bel.trans (hb.mono h.bel.size), Nat.lt_of_lt_of_le h.sz hb.size, h.b0.below hb (by omega), h.b1.below hb (by omega), h.b2.below hb (by omega)⟩
theorem BK.set {w wr : World} {key f2 : Nat → UInt8} (h : BK w key f2 wr) (k : Nat) (v : UInt8) : BK w key (fun i => if i = k then v else f2 i) (wr.setCell ⟨w.heap.size + 1 + 1, k, none⟩ (.int .i64 (e8 v))) :=
  ⟨h.bel.setCell (by show w.heap.size ≤ w.heap.size + 1 + 1; omega) _, by simpa [World.setCell] using h.sz, h.b0.other (by omega), h.b1.other (by omega), h.b2.set k v⟩
theorem BK.put {w wr : World} {key f2 : Nat → UInt8} (h : BK w key f2 wr) (g : Nat) (hg : w.heap.size + 1 + 1 < g) (k : Nat) (v : Value) : BK w key f2 (wr.setCell ⟨g, k, none⟩ v) :=
  ⟨h.bel.setCell (by show w.heap.size ≤ g; omega) _, by simpa [World.setCell] using h.sz, h.b0.other (by omega), h.b1.other (by omega), h.b2.other (by omega)⟩
theorem BK.congr {w wr : World} {key f2 f3 : Nat → UInt8} (h : BK w key f2 wr) (e : ∀ i, i < 16 → f2 i = f3 i) : BK w key f3 wr := ⟨h.bel, h.sz, h.b0, h.b1, h.b2.congr e⟩
/-- The state behind so many rounds, the tenth too. -/
def svF (key x : Nat → UInt8) (n : Nat) : Nat → UInt8 := if n ≤ 9 then rdF key x n else aesF key x
def mvF (r : Nat) (f : Nat → UInt8) (i : Nat) : UInt8 := if r < 10 then mixF f i else f i
theorem svF_next (key x : Nat → UInt8) (r : Nat) (h1 : 1 ≤ r) (h2 : r ≤ 10) (i : Nat) : mvF r (shF (svF key x (r - 1))) i ^^^ rkF key r i = svF key x r i := by
  obtain ⟨n, rfl⟩ : ∃ n, r = n + 1 := ⟨r - 1, by omega⟩
  unfold svF mvF
  rw [show n + 1 - 1 = n by omega, if_pos (show n ≤ 9 by omega)]
  by_cases h : n + 1 < 10
  · rw [if_pos h, if_pos (by omega)]; rfl
  · obtain rfl : n = 9 := by omega
    rw [if_neg h, if_neg (by omega)]; rfl
def cuK (f g : Nat → UInt8) (k i : Nat) : UInt8 := if i < k then g i else f i
theorem cuK_next (f g : Nat → UInt8) (k i : Nat) : (if i = k then g k else cuK f g k i) = cuK f g (k + 1) i := by
  unfold cuK
  by_cases e : i = k
  · subst e; rw [if_pos rfl, if_pos (by omega)]
  · rw [if_neg e]
    by_cases e2 : i < k
    · rw [if_pos e2, if_pos (by omega)]
    · rw [if_neg e2, if_neg (by omega)]
set_option maxHeartbeats 4000000 in
set_option maxRecDepth 20000 in
theorem block_ref (key : Nat → UInt8) (l : List UInt8) (hl : l.length = 16) (w : World) : Calls Tryd.prog 43 #[.string (st l), .agg (ki (rkW key) 176).toArray, .agg (ki Sn 256).toArray] w fun en w' => en = .returned (.string (st (kl (aesF key (fun i => l.getD i 0)) 16))) ∧ Below w.heap.size w w' := by
  have inv0 := BK.start w key
  obtain ⟨x, hx⟩ : ∃ x : Nat → UInt8, (fun i => l.getD i 0) = x := ⟨_, rfl⟩
  have HX : Hid ((fun i => l.getD i 0) = x) := hx
  clear hx
  go_enter Tryd.func43, Tryd.ntmps43
  go_wp2_with fail
  go_loopw [8] (fun i wr => ∃ k : Nat, k ≤ 16 ∧ i = .int .i64 k ∧ BK w key (cuK zF (svF key x 0) k) wr) (fun i _ => (16 - intOf i).toNat)
  case atStart => exact ⟨0, by omega, rfl, inv0⟩
  case round =>
    clear inv0
    obtain ⟨k, hk, rfl, inv⟩ := hrel
    by_cases hlt : k < 16
    · have hsz := inv.sz
      have i1 : (k : Int) < 16 := by omega
      have i2 : (k : Int) < (l.length : Nat) := by omega
      have i3 : (k : Int) < 176 := by omega
      have hlk : k < l.length := by omega
      obtain ⟨a, ha⟩ : ∃ a, (st l)[k]'(by rw [st_size]; exact hlk) = a := ⟨_, rfl⟩
      have hx8 : bits .xor .i64 (a.toNat : Int) (e8 (rkW key k)) = e8 (a ^^^ rkW key k) := e8_xor64 a _
      have ew : IntKind.i64.wrap (a.toNat : Int) = (a.toNat : Int) := e8_wrap64 a
      have c1 : wr.cell? ⟨w.heap.size, k, none⟩ = some (.int .i64 (e8 (rkW key k))) := inv.b0.cell (by omega)
      have c2 : wr.cell? ⟨w.heap.size + 1 + 1, k, none⟩ = some (.int .i64 (e8 (cuK zF (svF key x 0) k k))) := inv.b2.cell (by omega)
      have f2 : wr.frozen? ⟨w.heap.size + 1 + 1, k, none⟩ = false := inv.b2.frozen
      have HI : Hid (BK w key (cuK zF (svF key x 0) (k + 1)) (wr.drew.setCell ⟨w.heap.size + 1 + 1, k, none⟩ (.int .i64 (e8 (a ^^^ rkW key k))))) := by
        refine (inv.drew.set k _).congr fun i _ => ?_
        have e : a ^^^ rkW key k = svF key x 0 k := by
          show _ = x k ^^^ rkF key 0 k
          unfold rkW
          rw [show k / 16 = 0 by omega, show k % 16 = k by omega, ← HX.out, ← ha]
          show l[k] ^^^ _ = l.getD k 0 ^^^ _
          simp [List.getD, hlk]
        rw [e]; exact cuK_next _ _ k i
      clear inv
      generalize cuK zF (svF key x 0) k k = z at *
      generalize a ^^^ rkW key k = v at *
      generalize rkW key k = y at *
      go_wp2
      go_still_tail 10, (by kernel_rfl)
      go_wp2
      go_roundw
      case rel => first | exact ⟨k + 1, by omega, by go_num, HI.out⟩ | ((repeat apply Exists.intro); exact ⟨⟨k + 1, by omega, by go_num, HI.out⟩, rfl⟩)
      case measure => simp [intOf]; omega
    · obtain rfl : k = 16 := by omega
      have inv := inv.congr (f3 := svF key x 0) (fun i hi => by unfold cuK; rw [if_pos hi])
      clear hk hlt
      go_wp2_with fail
      go_loopw [9] (fun i wr => ∃ r : Nat, 1 ≤ r ∧ r ≤ 11 ∧ i = .int .i64 r ∧ BK w key (svF key x (r - 1)) wr) (fun i _ => (11 - intOf i).toNat)
      case atStart => exact ⟨1, by omega, by omega, rfl, inv⟩
      case round =>
        clear inv
        obtain ⟨r, hr1, hr, rfl, inv⟩ := hrel
        by_cases hlr : r < 11
        · obtain ⟨f0, hf0⟩ : ∃ f, svF key x (r - 1) = f := ⟨_, rfl⟩
          have HN : Hid (∀ i, mvF r (shF f0) i ^^^ rkF key r i = svF key x r i) := fun i => by rw [← hf0]; exact svF_next key x r hr1 (by omega) i
          rw [hf0] at inv
          clear hf0
          have hsz := inv.sz
          have i1 : (r : Int) ≤ 10 := by omega
          have hd : decide ((r : Int) ≤ 10) = true := decide_eq_true i1
          have invA := inv.then ((Below.refl _ _).alloc (Nat.le_refl _) (.cells #[.int .i64 0, .int .i64 0, .int .i64 0, .int .i64 0, .int .i64 0, .int .i64 0, .int .i64 0, .int .i64 0, .int .i64 0, .int .i64 0, .int .i64 0, .int .i64 0, .int .i64 0, .int .i64 0, .int .i64 0, .int .i64 0] 90))
          have rowA : RowI (wr.alloc (.cells #[.int .i64 0, .int .i64 0, .int .i64 0, .int .i64 0, .int .i64 0, .int .i64 0, .int .i64 0, .int .i64 0, .int .i64 0, .int .i64 0, .int .i64 0, .int .i64 0, .int .i64 0, .int .i64 0, .int .i64 0, .int .i64 0] 90)) wr.heap.size (cuK zF (shF f0) 0) 16 90 := heap_alloc_new wr (.cells #[.int .i64 0, .int .i64 0, .int .i64 0, .int .i64 0, .int .i64 0, .int .i64 0, .int .i64 0, .int .i64 0, .int .i64 0, .int .i64 0, .int .i64 0, .int .i64 0, .int .i64 0, .int .i64 0, .int .i64 0, .int .i64 0] 90)
          clear inv
          go_wp2_with fail
          try rw [hd]
          generalize wr.alloc (.cells #[.int .i64 0, .int .i64 0, .int .i64 0, .int .i64 0, .int .i64 0, .int .i64 0, .int .i64 0, .int .i64 0, .int .i64 0, .int .i64 0, .int .i64 0, .int .i64 0, .int .i64 0, .int .i64 0, .int .i64 0, .int .i64 0] 90) = wa at *
          obtain ⟨g, hgg⟩ : ∃ g, wr.heap.size = g := ⟨_, rfl⟩
          rw [hgg] at hsz rowA ⊢
          clear hgg
          go_loopw [11] (fun i wq => ∃ k : Nat, k ≤ 16 ∧ i = .int .i64 k ∧ BK w key f0 wq ∧ RowI wq g (cuK zF (shF f0) k) 16 90) (fun i _ => (16 - intOf i).toNat)
          case atStart => exact ⟨0, by omega, rfl, invA, rowA⟩
          case round =>
            clear invA rowA
            obtain ⟨k, hk, rfl, inv, row⟩ := hrel
            by_cases hlt : k < 16
            · obtain ⟨q, hq⟩ : ∃ q, k % 4 = q := ⟨_, rfl⟩
              obtain ⟨m, hm⟩ : ∃ m, (k + q * 4) % 16 = m := ⟨_, rfl⟩
              have e1 : (k : Int).tmod 4 = (q : Nat) := by rw [Int.tmod_eq_emod_of_nonneg (by omega)]; omega
              have e2 : IntKind.i64.wrap (4 * (q : Int)) = 4 * (q : Int) := by rw [IntKind.wrap_i64] <;> omega
              have e3 : IntKind.i64.wrap ((k : Int) + 4 * (q : Int)) = (k : Int) + 4 * (q : Int) := by rw [IntKind.wrap_i64] <;> omega
              have e4 : ((k : Int) + 4 * (q : Int)).tmod 16 = (m : Nat) := by rw [Int.tmod_eq_emod_of_nonneg (by omega)]; omega
              have m4 : m < 16 := by omega
              have m5 : (m : Int) < 16 := by omega
              have k5 : (k : Int) < 16 := by omega
              have c1 : wr.cell? ⟨w.heap.size + 1 + 1, m, none⟩ = some (.int .i64 (e8 (f0 m))) := inv.b2.cell m4
              have c2 := inv.b1.byte (f0 m)
              have l1 := e8_lo (f0 m)
              have l2 := e8_hi (f0 m)
              have c3 : wr.cell? ⟨g, k, none⟩ = some (.int .i64 (e8 (cuK zF (shF f0) k k))) := row.cell hlt
              have q3 : wr.frozen? ⟨g, k, none⟩ = false := row.frozen
              have HI : Hid (BK w key f0 (wr.setCell ⟨g, k, none⟩ (.int .i64 (e8 (Sx (f0 m)))))) := inv.put g hsz k _
              have HR : Hid (RowI (wr.setCell ⟨g, k, none⟩ (.int .i64 (e8 (Sx (f0 m))))) g (cuK zF (shF f0) (k + 1)) 16 90) := by
                refine (row.set k _).congr fun i _ => ?_
                have e : Sx (f0 m) = shF f0 k := by unfold shF; rw [hq, hm]
                rw [e]; exact cuK_next _ _ k i
              clear inv row hq hm
              generalize cuK zF (shF f0) k k = z at *
              generalize f0 m = y at *
              go_wp2
              go_roundw
              case rel => first | exact ⟨k + 1, by omega, by go_num, HI.out, HR.out⟩ | ((repeat apply Exists.intro); exact ⟨⟨k + 1, by omega, by go_num, HI.out, HR.out⟩, rfl⟩)
              case measure => simp [intOf]; omega
            · have ke : k = 16 := by omega
              have k5 : ¬ (k : Int) < 16 := by omega
              rw [ke] at row
              have rowB : RowI wr g (cuK (shF f0) (mvF r (shF f0)) 0) 16 90 := row.congr (fun i hi => by unfold cuK; rw [if_pos hi, if_neg (by omega)])
              clear ke row
              go_wp2_with fail
              go_loopw [12] (fun i wq => ∃ c : Nat, c ≤ 16 ∧ c % 4 = 0 ∧ i = .int .i64 c ∧ BK w key f0 wq ∧ RowI wq g (cuK (shF f0) (mvF r (shF f0)) c) 16 90) (fun i _ => (16 - intOf i).toNat)
              case atStart => exact ⟨0, by omega, by omega, rfl, inv, rowB⟩
              case round =>
                clear inv rowB
                obtain ⟨c, hc, hc4, rfl, inv, row⟩ := hrel
                by_cases hlt2 : c < 16
                · have i3 : c + 3 < 16 := by omega
                  have c5 : (c : Int) < 16 := by omega
                  have w1x : IntKind.i64.wrap ((c : Int) + 1) = (c : Int) + 1 := by rw [IntKind.wrap_i64] <;> omega
                  have v1x : (c : Int) + 1 < 16 := by omega
                  have s1x : (0 : Int) ≤ (c : Int) + 1 := by omega
                  have t1x : ((c : Int) + 1).toNat = c + 1 := by omega
                  have w2x : IntKind.i64.wrap ((c : Int) + 2) = (c : Int) + 2 := by rw [IntKind.wrap_i64] <;> omega
                  have v2x : (c : Int) + 2 < 16 := by omega
                  have s2x : (0 : Int) ≤ (c : Int) + 2 := by omega
                  have t2x : ((c : Int) + 2).toNat = c + 2 := by omega
                  have w3x : IntKind.i64.wrap ((c : Int) + 3) = (c : Int) + 3 := by rw [IntKind.wrap_i64] <;> omega
                  have v3x : (c : Int) + 3 < 16 := by omega
                  have s3x : (0 : Int) ≤ (c : Int) + 3 := by omega
                  have t3x : ((c : Int) + 3).toNat = c + 3 := by omega
                  have hg2 : g < wr.heap.size := block_lt_of_cell (row.cell (k := 0) (by decide))
                  obtain ⟨y0, hy0⟩ : ∃ y, shF f0 c = y := ⟨_, rfl⟩
                  obtain ⟨y1, hy1⟩ : ∃ y, shF f0 (c + 1) = y := ⟨_, rfl⟩
                  obtain ⟨y2, hy2⟩ : ∃ y, shF f0 (c + 2) = y := ⟨_, rfl⟩
                  obtain ⟨y3, hy3⟩ : ∃ y, shF f0 (c + 3) = y := ⟨_, rfl⟩
                  have HS : Hid (∀ w', RowI w' g (cuK (shF f0) (mvF r (shF f0)) c) 16 90 → w'.cell? ⟨g, c, none⟩ = some (.int .i64 (e8 y0)) ∧ w'.cell? ⟨g, c + 1, none⟩ = some (.int .i64 (e8 y1)) ∧ w'.cell? ⟨g, c + 2, none⟩ = some (.int .i64 (e8 y2)) ∧ w'.cell? ⟨g, c + 3, none⟩ = some (.int .i64 (e8 y3))) := fun w' h => ⟨by rw [h.cell (by omega)]; unfold cuK; rw [if_neg (by omega), hy0], by rw [h.cell (by omega)]; unfold cuK; rw [if_neg (by omega), hy1], by rw [h.cell (by omega)]; unfold cuK; rw [if_neg (by omega), hy2], by rw [h.cell (by omega)]; unfold cuK; rw [if_neg (by omega), hy3]⟩
                  have HM : Hid (∀ i, i < 16 → (r < 10 → (if i = c + 3 then mxF y3 y0 y1 y2 else if i = c + 2 then mxF y2 y3 y0 y1 else if i = c + 1 then mxF y1 y2 y3 y0 else if i = c then mxF y0 y1 y2 y3 else cuK (shF f0) (mvF r (shF f0)) c i) = cuK (shF f0) (mvF r (shF f0)) (c + 4) i)) := fun i hi h10 => by
                    obtain ⟨p0, p1, p2, p3⟩ := mix_cols (shF f0) c hc4
                    rw [hy0, hy1, hy2, hy3] at p0 p1 p2 p3
                    unfold cuK mvF
                    by_cases e3 : i = c + 3
                    · subst e3; rw [if_pos rfl, if_pos (by omega), if_pos h10, p3]
                    · rw [if_neg e3]
                      by_cases e2 : i = c + 2
                      · subst e2; rw [if_pos rfl, if_pos (by omega), if_pos h10, p2]
                      · rw [if_neg e2]
                        by_cases e1 : i = c + 1
                        · subst e1; rw [if_pos rfl, if_pos (by omega), if_pos h10, p1]
                        · rw [if_neg e1]
                          by_cases e0 : i = c
                          · subst e0; rw [if_pos rfl, if_pos (by omega), if_pos h10, p0]
                          · rw [if_neg e0]
                            by_cases el : i < c
                            · rw [if_pos el, if_pos (show i < c + 4 by omega)]
                            · rw [if_neg el, if_neg (by omega)]
                  have HE : Hid (¬ r < 10 → ∀ i, i < 16 → cuK (shF f0) (mvF r (shF f0)) c i = cuK (shF f0) (mvF r (shF f0)) (c + 4) i) := fun h10 i _ => by
                    unfold cuK mvF
                    rw [if_neg h10]
                    by_cases el : i < c
                    · rw [if_pos el, if_pos (by omega)]
                    · rw [if_neg el]
                      by_cases el2 : i < c + 4
                      · rw [if_pos el2]
                      · rw [if_neg el2]
                  have HR : Hid (RowI wr g (cuK (shF f0) (mvF r (shF f0)) c) 16 90) := row
                  have HV : Hid (BK w key f0 wr) := inv
                  have HRa : Hid (∀ Z, RowI (wr.alloc Z).drew g (cuK (shF f0) (mvF r (shF f0)) c) 16 90) := fun Z => HR.out.below (Below.drew ((Below.refl _ _).alloc (Nat.le_refl _) Z)) hg2
                  have HVa : Hid (∀ Z, BK w key f0 (wr.alloc Z).drew) := fun Z => (HV.out.then ((Below.refl _ _).alloc (Nat.le_refl _) Z)).drew
                  have S0 := HS.out _ row
                  have S1 := fun Z => HS.out _ (HRa.out Z)
                  clear inv row hy0 hy1 hy2 hy3
                  go_wp2_with fail
                  go_region_held3 (fun w' => w'.cell? ⟨g, c, none⟩ = some (.int .i64 (e8 y0)) ∧ w'.cell? ⟨g, c + 1, none⟩ = some (.int .i64 (e8 y1)) ∧ w'.cell? ⟨g, c + 2, none⟩ = some (.int .i64 (e8 y2)) ∧ w'.cell? ⟨g, c + 3, none⟩ = some (.int .i64 (e8 y3))) (first | exact S0 | exact S1 _) (fail)
                  obtain ⟨yF, hyF⟩ : ∃ yF : Nat → UInt8, (fun k => if k = 0 then y0 else if k = 1 then y1 else if k = 2 then y2 else y3) = yF := ⟨_, rfl⟩
                  have f0' : yF 0 = y0 := by rw [← hyF]; rfl
                  have f1' : yF 1 = y1 := by rw [← hyF]; rfl
                  have f2' : yF 2 = y2 := by rw [← hyF]; rfl
                  have f3' : yF 3 = y3 := by rw [← hyF]; rfl
                  have invM := HVa.out (.cells #[.int .i64 (e8 y0), .int .i64 (e8 y1), .int .i64 (e8 y2), .int .i64 (e8 y3)] 91)
                  have rowT := HRa.out (.cells #[.int .i64 (e8 y0), .int .i64 (e8 y1), .int .i64 (e8 y2), .int .i64 (e8 y3)] 91)
                  have rowU : RowI (wr.alloc (.cells #[.int .i64 (e8 y0), .int .i64 (e8 y1), .int .i64 (e8 y2), .int .i64 (e8 y3)] 91)).drew wr.heap.size yF 4 91 := by
                    rw [← hyF]; exact heap_alloc_new wr (.cells #[.int .i64 (e8 y0), .int .i64 (e8 y1), .int .i64 (e8 y2), .int .i64 (e8 y3)] 91)
                  clear S0 S1 HRa HVa HV HR HS hyF
                  generalize (wr.alloc (.cells #[.int .i64 (e8 y0), .int .i64 (e8 y1), .int .i64 (e8 y2), .int .i64 (e8 y3)] 91)).drew = w4 at *
                  generalize wr.heap.size = h at *
                  have HY : Hid (yF 0 = y0 ∧ yF 1 = y1 ∧ yF 2 = y2 ∧ yF 3 = y3) := ⟨f0', f1', f2', f3'⟩
                  clear f0' f1' f2' f3'
                  by_cases h10 : r < 10
                  · have t10 : (r : Int) < 10 := by omega
                    have d0 : w4.cell? ⟨h, 0, none⟩ = some (.int .i64 (e8 y0)) := by rw [rowU.cell (k := 0) (by decide), HY.out.1]
                    have d1 : w4.cell? ⟨h, 1, none⟩ = some (.int .i64 (e8 y1)) := by rw [rowU.cell (k := 1) (by decide), HY.out.2.1]
                    have d2 : w4.cell? ⟨h, 2, none⟩ = some (.int .i64 (e8 y2)) := by rw [rowU.cell (k := 2) (by decide), HY.out.2.2.1]
                    have d3 : w4.cell? ⟨h, 3, none⟩ = some (.int .i64 (e8 y3)) := by rw [rowU.cell (k := 3) (by decide), HY.out.2.2.2]
                    obtain ⟨z, hz⟩ : ∃ z, w4.cell? ⟨g, c, none⟩ = some z := ⟨_, rowT.cell (k := c) (by omega)⟩
                    have q3 : w4.frozen? ⟨g, c, none⟩ = false := rowT.frozen
                    have I1 : Hid (BK w key f0 (w4.setCell ⟨g, c, none⟩ (.int .i64 (e8 (mxF y0 y1 y2 y3))))) := invM.put g hsz (c) _
                    have T1 : Hid (RowI (w4.setCell ⟨g, c, none⟩ (.int .i64 (e8 (mxF y0 y1 y2 y3)))) g (fun i => if i = c then mxF y0 y1 y2 y3 else (cuK (shF f0) (mvF r (shF f0)) c) i) 16 90) := rowT.set (c) _
                    have U1 : Hid (RowI (w4.setCell ⟨g, c, none⟩ (.int .i64 (e8 (mxF y0 y1 y2 y3)))) h yF 4 91) := rowU.other (by omega)
                    clear invM rowT rowU
                    go_wp2_with fail
                    refine (mixed_any y0 y1 y2 y3 _).mono ?_
                    rintro en wz ⟨rfl, rfl⟩
                    go_upto_region 20 with fail
                    have invM := I1.out
                    have rowT := T1.out
                    have rowU := U1.out
                    clear I1 T1 U1 d0 d1 d2 d3 hz q3
                    generalize hwn : wz.setCell ⟨g, c, none⟩ (.int .i64 (e8 (mxF y0 y1 y2 y3))) = w5 at *
                    clear hwn
                    have d0 : w5.cell? ⟨h, 0, none⟩ = some (.int .i64 (e8 y0)) := by rw [rowU.cell (k := 0) (by decide), HY.out.1]
                    have d1 : w5.cell? ⟨h, 1, none⟩ = some (.int .i64 (e8 y1)) := by rw [rowU.cell (k := 1) (by decide), HY.out.2.1]
                    have d2 : w5.cell? ⟨h, 2, none⟩ = some (.int .i64 (e8 y2)) := by rw [rowU.cell (k := 2) (by decide), HY.out.2.2.1]
                    have d3 : w5.cell? ⟨h, 3, none⟩ = some (.int .i64 (e8 y3)) := by rw [rowU.cell (k := 3) (by decide), HY.out.2.2.2]
                    obtain ⟨z, hz⟩ : ∃ z, w5.cell? ⟨g, c + 1, none⟩ = some z := ⟨_, rowT.cell (k := c + 1) (by omega)⟩
                    have q3 : w5.frozen? ⟨g, c + 1, none⟩ = false := rowT.frozen
                    have I1 : Hid (BK w key f0 (w5.setCell ⟨g, c + 1, none⟩ (.int .i64 (e8 (mxF y1 y2 y3 y0))))) := invM.put g hsz (c + 1) _
                    have T1 : Hid (RowI (w5.setCell ⟨g, c + 1, none⟩ (.int .i64 (e8 (mxF y1 y2 y3 y0)))) g (fun i => if i = c + 1 then mxF y1 y2 y3 y0 else (fun i => if i = c then mxF y0 y1 y2 y3 else (cuK (shF f0) (mvF r (shF f0)) c) i) i) 16 90) := rowT.set (c + 1) _
                    have U1 : Hid (RowI (w5.setCell ⟨g, c + 1, none⟩ (.int .i64 (e8 (mxF y1 y2 y3 y0)))) h yF 4 91) := rowU.other (by omega)
                    clear invM rowT rowU
                    go_wp2_with fail
                    refine (mixed_any y1 y2 y3 y0 _).mono ?_
                    rintro en wz ⟨rfl, rfl⟩
                    go_upto_region 21 with fail
                    have invM := I1.out
                    have rowT := T1.out
                    have rowU := U1.out
                    clear I1 T1 U1 d0 d1 d2 d3 hz q3
                    generalize hwn : wz.setCell ⟨g, c + 1, none⟩ (.int .i64 (e8 (mxF y1 y2 y3 y0))) = w6 at *
                    clear hwn
                    have d0 : w6.cell? ⟨h, 0, none⟩ = some (.int .i64 (e8 y0)) := by rw [rowU.cell (k := 0) (by decide), HY.out.1]
                    have d1 : w6.cell? ⟨h, 1, none⟩ = some (.int .i64 (e8 y1)) := by rw [rowU.cell (k := 1) (by decide), HY.out.2.1]
                    have d2 : w6.cell? ⟨h, 2, none⟩ = some (.int .i64 (e8 y2)) := by rw [rowU.cell (k := 2) (by decide), HY.out.2.2.1]
                    have d3 : w6.cell? ⟨h, 3, none⟩ = some (.int .i64 (e8 y3)) := by rw [rowU.cell (k := 3) (by decide), HY.out.2.2.2]
                    obtain ⟨z, hz⟩ : ∃ z, w6.cell? ⟨g, c + 2, none⟩ = some z := ⟨_, rowT.cell (k := c + 2) (by omega)⟩
                    have q3 : w6.frozen? ⟨g, c + 2, none⟩ = false := rowT.frozen
                    have I1 : Hid (BK w key f0 (w6.setCell ⟨g, c + 2, none⟩ (.int .i64 (e8 (mxF y2 y3 y0 y1))))) := invM.put g hsz (c + 2) _
                    have T1 : Hid (RowI (w6.setCell ⟨g, c + 2, none⟩ (.int .i64 (e8 (mxF y2 y3 y0 y1)))) g (fun i => if i = c + 2 then mxF y2 y3 y0 y1 else (fun i => if i = c + 1 then mxF y1 y2 y3 y0 else (fun i => if i = c then mxF y0 y1 y2 y3 else (cuK (shF f0) (mvF r (shF f0)) c) i) i) i) 16 90) := rowT.set (c + 2) _
                    have U1 : Hid (RowI (w6.setCell ⟨g, c + 2, none⟩ (.int .i64 (e8 (mxF y2 y3 y0 y1)))) h yF 4 91) := rowU.other (by omega)
                    clear invM rowT rowU
                    go_wp2_with fail
                    refine (mixed_any y2 y3 y0 y1 _).mono ?_
                    rintro en wz ⟨rfl, rfl⟩
                    go_upto_region 22 with fail
                    have invM := I1.out
                    have rowT := T1.out
                    have rowU := U1.out
                    clear I1 T1 U1 d0 d1 d2 d3 hz q3
                    generalize hwn : wz.setCell ⟨g, c + 2, none⟩ (.int .i64 (e8 (mxF y2 y3 y0 y1))) = w7 at *
                    clear hwn
                    have d0 : w7.cell? ⟨h, 0, none⟩ = some (.int .i64 (e8 y0)) := by rw [rowU.cell (k := 0) (by decide), HY.out.1]
                    have d1 : w7.cell? ⟨h, 1, none⟩ = some (.int .i64 (e8 y1)) := by rw [rowU.cell (k := 1) (by decide), HY.out.2.1]
                    have d2 : w7.cell? ⟨h, 2, none⟩ = some (.int .i64 (e8 y2)) := by rw [rowU.cell (k := 2) (by decide), HY.out.2.2.1]
                    have d3 : w7.cell? ⟨h, 3, none⟩ = some (.int .i64 (e8 y3)) := by rw [rowU.cell (k := 3) (by decide), HY.out.2.2.2]
                    obtain ⟨z, hz⟩ : ∃ z, w7.cell? ⟨g, c + 3, none⟩ = some z := ⟨_, rowT.cell (k := c + 3) (by omega)⟩
                    have q3 : w7.frozen? ⟨g, c + 3, none⟩ = false := rowT.frozen
                    have I1 : Hid (BK w key f0 (w7.setCell ⟨g, c + 3, none⟩ (.int .i64 (e8 (mxF y3 y0 y1 y2))))) := invM.put g hsz (c + 3) _
                    have T1 : Hid (RowI (w7.setCell ⟨g, c + 3, none⟩ (.int .i64 (e8 (mxF y3 y0 y1 y2)))) g (fun i => if i = c + 3 then mxF y3 y0 y1 y2 else (fun i => if i = c + 2 then mxF y2 y3 y0 y1 else (fun i => if i = c + 1 then mxF y1 y2 y3 y0 else (fun i => if i = c then mxF y0 y1 y2 y3 else (cuK (shF f0) (mvF r (shF f0)) c) i) i) i) i) 16 90) := rowT.set (c + 3) _
                    have U1 : Hid (RowI (w7.setCell ⟨g, c + 3, none⟩ (.int .i64 (e8 (mxF y3 y0 y1 y2)))) h yF 4 91) := rowU.other (by omega)
                    clear invM rowT rowU
                    go_wp2_with fail
                    refine (mixed_any y3 y0 y1 y2 _).mono ?_
                    rintro en wz ⟨rfl, rfl⟩
                    go_upto_region 16 with fail
                    have invM := I1.out
                    have rowT := T1.out
                    have rowU := U1.out
                    clear I1 T1 U1 d0 d1 d2 d3 hz q3
                    generalize hwn : wz.setCell ⟨g, c + 3, none⟩ (.int .i64 (e8 (mxF y3 y0 y1 y2))) = w8 at *
                    clear hwn
                    have rowF := rowT.congr (fun i hi => HM.out i hi h10)
                    have HI : Hid (BK w key f0 w8) := invM
                    have HR : Hid (RowI w8 g (cuK (shF f0) (mvF r (shF f0)) (c + 4)) 16 90) := rowF
                    clear invM rowT rowU rowF HM HE
                    go_wp2
                    go_roundw
                    case rel => first | exact ⟨c + 4, by omega, by omega, by go_num, HI.out, HR.out⟩ | ((repeat apply Exists.intro); exact ⟨⟨c + 4, by omega, by omega, by go_num, HI.out, HR.out⟩, rfl⟩)
                    case measure => simp [intOf]; omega
                  · have t10 : ¬ (r : Int) < 10 := by omega
                    have HI : Hid (BK w key f0 w4) := invM
                    have HR : Hid (RowI w4 g (cuK (shF f0) (mvF r (shF f0)) (c + 4)) 16 90) := rowT.congr (HE.out h10)
                    clear invM rowT rowU HM HE
                    go_wp2
                    go_roundw
                    case rel => first | exact ⟨c + 4, by omega, by omega, by go_num, HI.out, HR.out⟩ | ((repeat apply Exists.intro); exact ⟨⟨c + 4, by omega, by omega, by go_num, HI.out, HR.out⟩, rfl⟩)
                    case measure => simp [intOf]; omega
                · have ce : c = 16 := by omega
                  have c5 : ¬ (c : Int) < 16 := by omega
                  rw [ce] at row
                  have rowC : RowI wr g (mvF r (shF f0)) 16 90 := row.congr (fun i hi => by unfold cuK; rw [if_pos hi])
                  have invC : BK w key (cuK f0 (svF key x r) 0) wr := inv.congr (fun i hi => by unfold cuK; rw [if_neg (by omega)])
                  clear ce row inv
                  go_wp2_with fail
                  go_loopw [14] (fun i wq => ∃ k : Nat, k ≤ 16 ∧ i = .int .i64 k ∧ BK w key (cuK f0 (svF key x r) k) wq ∧ RowI wq g (mvF r (shF f0)) 16 90) (fun i _ => (16 - intOf i).toNat)
                  case atStart => exact ⟨0, by omega, rfl, invC, rowC⟩
                  case round =>
                    clear invC rowC
                    obtain ⟨k, hk, rfl, inv, row⟩ := hrel
                    by_cases hlt3 : k < 16
                    · have k5 : (k : Int) < 16 := by omega
                      have a1 : IntKind.i64.wrap (16 * (r : Int)) = 16 * (r : Int) := by rw [IntKind.wrap_i64] <;> omega
                      have a2 : IntKind.i64.wrap (16 * (r : Int) + (k : Int)) = 16 * (r : Int) + (k : Int) := by rw [IntKind.wrap_i64] <;> omega
                      have a3 : 16 * (r : Int) + (k : Int) < 176 := by omega
                      have a4 : (0 : Int) ≤ 16 * (r : Int) + (k : Int) := by omega
                      have a5 : (16 * (r : Int) + (k : Int)).toNat = 16 * r + k := by omega
                      have d1 : wr.cell? ⟨g, k, none⟩ = some (.int .i64 (e8 (mvF r (shF f0) k))) := row.cell hlt3
                      have d2 : wr.cell? ⟨w.heap.size, 16 * r + k, none⟩ = some (.int .i64 (e8 (rkF key r k))) := by
                        rw [inv.b0.cell (by omega)]; unfold rkW; rw [show (16 * r + k) / 16 = r by omega, show (16 * r + k) % 16 = k by omega]
                      have d3 : wr.cell? ⟨w.heap.size + 1 + 1, k, none⟩ = some (.int .i64 (e8 (cuK f0 (svF key x r) k k))) := inv.b2.cell hlt3
                      have d4 : wr.frozen? ⟨w.heap.size + 1 + 1, k, none⟩ = false := inv.b2.frozen
                      have hx := HN.out k
                      have HI : Hid (BK w key (cuK f0 (svF key x r) (k + 1)) (wr.drew.setCell ⟨w.heap.size + 1 + 1, k, none⟩ (.int .i64 (e8 (svF key x r k))))) := (inv.drew.set k _).congr fun i _ => cuK_next _ _ k i
                      have HR : Hid (RowI (wr.drew.setCell ⟨w.heap.size + 1 + 1, k, none⟩ (.int .i64 (e8 (svF key x r k)))) g (mvF r (shF f0)) 16 90) := RowI.other (w := wr.drew) row (by omega)
                      clear inv row
                      generalize cuK f0 (svF key x r) k k = z at *
                      generalize svF key x r k = v at *
                      generalize mvF r (shF f0) k = y at *
                      generalize rkF key r k = y2 at *
                      go_wp2
                      go_still_tail 12, (by kernel_rfl)
                      go_wp2
                      go_roundw
                      case rel => first | exact ⟨k + 1, by omega, by go_num, HI.out, HR.out⟩ | ((repeat apply Exists.intro); exact ⟨⟨k + 1, by omega, by go_num, HI.out, HR.out⟩, rfl⟩)
                      case measure => simp [intOf]; omega
                    · have ke : k = 16 := by omega
                      have k5 : ¬ (k : Int) < 16 := by omega
                      rw [ke] at inv
                      have HI : Hid (BK w key (svF key x (r + 1 - 1)) wr) := inv.congr (fun i hi => by unfold cuK; rw [if_pos hi, Nat.add_sub_cancel])
                      clear ke row inv HN
                      go_wp2
                      go_roundw
                      case rel => first | exact ⟨r + 1, by omega, by omega, by go_num, HI.out⟩ | ((repeat apply Exists.intro); exact ⟨⟨r + 1, by omega, by omega, by go_num, HI.out⟩, rfl⟩)
                      case measure => simp [intOf]; omega
        · obtain rfl : r = 11 := by omega
          have inv : BK w key (aesF key x) wr := inv
          clear hr hr1 hlr
          go_wp2_with fail
          go_loopw [15, 16] (fun v i wq => ∃ k : Nat, k ≤ 16 ∧ i = .int .i64 k ∧ v = .string (st (kl (aesF key x) k)) ∧ BK w key (aesF key x) wq) (fun _ i _ => (16 - intOf i).toNat)
          case atStart => exact ⟨0, by omega, rfl, rfl, inv⟩
          case round =>
            clear inv
            obtain ⟨k, hk, rfl, rfl, inv⟩ := hrel
            by_cases hlt : k < 16
            · have k5 : (k : Int) < 16 := by omega
              have hl2 := kl_len (aesF key x) k
              have c1 : wr.cell? ⟨w.heap.size + 1 + 1, k, none⟩ = some (.int .i64 (e8 (aesF key x k))) := inv.b2.cell hlt
              have HA : Hid (kl (aesF key x) (k + 1) = kl (aesF key x) k ++ nb (aesF key x k).toNat 1) := by
                show _ = _
                unfold kl nb nb bq
                rw [List.range_succ]; simp
              have HV : Hid (BK w key (aesF key x) wr) := inv
              clear inv
              generalize kl (aesF key x) k = X at *
              generalize aesF key x k = v at *
              go_wp2_with fail
              refine (numberI (e8 v) 1 v.toNat 1 rfl rfl (by decide) _).mono ?_
              rintro en w2 ⟨rfl, hb2⟩
              have hl3 := nb_len v.toNat 1
              have HI : Hid (BK w key (aesF key x) w2) := HV.out.then hb2
              clear hb2 c1
              generalize nb v.toNat 1 = B at *
              go_wp2_with fail
              go_roundw
              case rel => first | exact ⟨k + 1, by omega, by go_num, by rw [HA.out], HI.out⟩ | ((repeat apply Exists.intro); exact ⟨⟨k + 1, by omega, by go_num, by rw [HA.out], HI.out⟩, rfl⟩)
              case measure => simp [intOf]; omega
            · obtain rfl : k = 16 := by omega
              have hb := inv.bel
              clear inv
              go_wp2_with fail
              go_ret
              exact ⟨by rw [HX.out]; rfl, hb⟩
end Go.Proofs.YtjnbhiamaabbgaaDoor
