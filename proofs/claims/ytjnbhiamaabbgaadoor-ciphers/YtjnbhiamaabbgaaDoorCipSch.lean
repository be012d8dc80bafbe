/-
  cofferref's schedule: the keys of all rounds in one row.
-/
import Derived.Test.YtjnbhiamaabbgaaDoorCipBox
import Derived.Test.YtjnbhiamaabbgaaDoorAesVec
import Derived.Deep.RegionHeld3
import Derived.StillTailTactics
import Derived.Test.YtjnbhiamaabbgaaDoorMac
namespace Go.Proofs.YtjnbhiamaabbgaaDoor
open Go.RowKit
attribute [local go_sem] e8_xor64 st_size
/-- The schedule as one row. -/
def rkW (key : Nat → UInt8) (j : Nat) : UInt8 := rkF key (j / 16) (j % 16)
def tvF (key : Nat → UInt8) (n k : Nat) : UInt8 := if n % 16 = 0 then hdF (rkF key (n / 16 - 1)) (conF (n / 16 - 1)) k else rkW key (n - 4 + k)
theorem rkW_step (key : Nat → UInt8) (n k : Nat) (h4 : n % 4 = 0) (h16 : 16 ≤ n) (hk : k < 4) : rkW key (n - 16 + k) ^^^ tvF key n k = rkW key (n + k) := by
  obtain ⟨r, hr⟩ : ∃ r, n / 16 - 1 = r := ⟨_, rfl⟩
  unfold tvF rkW
  rw [hr, show (n + k) / 16 = r + 1 by omega, show (n + k) % 16 = n % 16 + k by omega, show (n - 16 + k) / 16 = r by omega, show (n - 16 + k) % 16 = n % 16 + k by omega]
  show _ = nkF (rkF key r) (conF r) (n % 16 + k)
  by_cases h : n % 16 = 0
  · rw [if_pos h, h, Nat.zero_add, nkF_lo _ _ k hk, UInt8.xor_comm]
  · rw [if_neg h, show n % 16 + k = (n % 16 - 4 + k) + 4 by omega, nkF_hi, show (n - 4 + k) / 16 = r + 1 by omega, show (n - 4 + k) % 16 = n % 16 - 4 + k by omega, UInt8.xor_comm]
    rfl
def wK (key : Nat → UInt8) (n j : Nat) : UInt8 := if j < n then rkW key j else 0
structure SI (w : World) (f2 : Nat → UInt8) (wr : World) : Prop where
  bel : Below w.heap.size w wr
  sz : w.heap.size + 1 + 1 < wr.heap.size
  b0 : RowI wr w.heap.size Sn 256 68
  b1 : RowI wr (w.heap.size + 1) zF 176 71
  b2 : RowI wr (w.heap.size + 1 + 1) f2 176 71
theorem SI.start (w : World) : SI w zF (((w.alloc (.cells (ki Sn 256).toArray 68)).alloc (.cells (ki zF 176).toArray 71)).alloc (.cells (ki zF 176).toArray 71)) := by
  refine ⟨(((Below.refl _ _).alloc (Nat.le_refl _) _).alloc (by simp) _).alloc (by simp; omega) _, by simp, ?_, ?_, ?_⟩
  all_goals (show (((w.heap.push _).push _).push _)[_]? = _)
  all_goals (simp only [Array.getElem?_push, Array.size_push])
  · rw [if_neg (by omega), if_neg (by omega), if_pos trivial]
  · rw [if_neg (by omega), if_pos trivial]
  · rw [if_pos trivial]
theorem SI.drew {w wr : World} {f2 : Nat → UInt8} (h : SI w f2 wr) : SI w f2 wr.drew := ⟨h.bel.drew, h.sz, h.b0, h.b1, h.b2⟩
theorem SI.then {w wr w' : World} {f2 : Nat → UInt8} (h : SI w f2 wr) (hb : Below wr.heap.size wr w') : SI w f2 w' :=
  have hs := h.sz
  ⟨h.bel.trans (hb.mono h.bel.size), Nat.lt_of_lt_of_le h.sz hb.size, h.b0.below hb (by omega), h.b1.below hb (by omega), h.b2.below hb (by omega)⟩
theorem SI.set {w wr : World} {f2 : Nat → UInt8} (h : SI w f2 wr) (k : Nat) (v : UInt8) : SI w (fun i => if i = k then v else f2 i) (wr.setCell ⟨w.heap.size + 1 + 1, k, none⟩ (.int .i64 (e8 v))) :=
  ⟨h.bel.setCell (by show w.heap.size ≤ w.heap.size + 1 + 1; omega) _, by simpa [World.setCell] using h.sz, h.b0.other (by omega), h.b1.other (by omega), h.b2.set k v⟩
theorem SI.put {w wr : World} {f2 : Nat → UInt8} (h : SI w f2 wr) (g : Nat) (hg : w.heap.size + 1 + 1 < g) (k : Nat) (v : Value) : SI w f2 (wr.setCell ⟨g, k, none⟩ v) :=
  ⟨h.bel.setCell (by show w.heap.size ≤ g; omega) _, by simpa [World.setCell] using h.sz, h.b0.other (by omega), h.b1.other (by omega), h.b2.other (by omega)⟩
theorem SI.congr {w wr : World} {f2 f3 : Nat → UInt8} (h : SI w f2 wr) (e : ∀ i, i < 176 → f2 i = f3 i) : SI w f3 wr := ⟨h.bel, h.sz, h.b0, h.b1, h.b2.congr e⟩
theorem wK_next (key : Nat → UInt8) (n i : Nat) : (if i = n then rkW key n else wK key n i) = wK key (n + 1) i := by
  unfold wK
  by_cases e : i = n
  · subst e; rw [if_pos rfl, if_pos (by omega)]
  · rw [if_neg e]
    by_cases e2 : i < n
    · rw [if_pos e2, if_pos (by omega)]
    · rw [if_neg e2, if_neg (by omega)]
def zi176 : Array Value := Array.replicate 176 (.int .i64 0)
theorem info176 : ((Tryd.prog.info? 71).map fun i => (i.zero, i.size)) = some (some (.agg zi176), 176) := by kernel_rfl
theorem size176 : (Tryd.prog.info? 71).map (·.size) = some 176 := by kernel_rfl
theorem zi176_ki : zi176 = (ki zF 176).toArray := repl_ki 176
theorem RowI.byte {w : World} {g : Nat} {t : TypeId} (h : RowI w g Sn 256 t) (x : UInt8) : w.cell? ⟨g, (e8 x).toNat, none⟩ = some (.int .i64 (e8 (Sx x))) := by
  rw [e8_nat, h.cell x.toNat_lt, Sn_byte]
set_option maxHeartbeats 2000000 in
set_option maxRecDepth 20000 in
theorem schedule_ref (l : List UInt8) (hl : l.length = 16) (w : World) : Calls Tryd.prog 44 #[.string (st l), .agg (ki Sn 256).toArray] w fun en w' => en = .returned (.agg (ki (rkW (fun i => l.getD i 0)) 176).toArray) ∧ Below w.heap.size w w' := by
  have hz := (zero_of_info info176).1
  have inv0 := SI.start w
  rw [← zi176_ki] at inv0
  generalize zi176 = zz at *
  go_enter Tryd.func44, Tryd.ntmps44
  go_wp2_with fail
  go_loopw [6] (fun i wr => ∃ k : Nat, k ≤ 16 ∧ i = .int .i64 k ∧ SI w (wK (fun i => l.getD i 0) k) wr) (fun i _ => (16 - intOf i).toNat)
  case atStart => exact ⟨0, by omega, rfl, inv0⟩
  case round =>
    clear inv0 hz
    obtain ⟨k, hk, rfl, inv⟩ := hrel
    have hsz := inv.sz
    by_cases hlt : k < 16
    · have i1 : (k : Int) < 16 := by omega
      have i2 : (k : Int) < (l.length : Nat) := by omega
      have i3 : (k : Int) < 176 := by omega
      have hlk : k < l.length := by omega
      obtain ⟨a, ha⟩ : ∃ a, (st l)[k]'(by rw [st_size]; exact hlk) = a := ⟨_, rfl⟩
      have ew : IntKind.i64.wrap (a.toNat : Int) = (a.toNat : Int) := e8_wrap64 a
      have c1 : wr.cell? ⟨w.heap.size + 1 + 1, k, none⟩ = some (.int .i64 (e8 (wK (fun i => l.getD i 0) k k))) := inv.b2.cell (by omega)
      have f1 : wr.frozen? ⟨w.heap.size + 1 + 1, k, none⟩ = false := inv.b2.frozen
      have HI : Hid (SI w (wK (fun i => l.getD i 0) (k + 1)) (wr.setCell ⟨w.heap.size + 1 + 1, k, none⟩ (.int .i64 (a.toNat : Int)))) := by
        refine (inv.set k a).congr fun i _ => ?_
        have e : rkW (fun i => l.getD i 0) k = a := by
          unfold rkW; rw [show k / 16 = 0 by omega, show k % 16 = k by omega, ← ha]
          show l.getD k 0 = l[k]
          simp [List.getD, hlk]
        rw [← e]; exact wK_next _ k i
      clear inv
      generalize wK (fun i => l.getD i 0) k k = z at *
      go_wp2
      go_roundw
      case rel => first | exact ⟨k + 1, by omega, by go_num, HI.out⟩ | ((repeat apply Exists.intro); exact ⟨⟨k + 1, by omega, by go_num, HI.out⟩, rfl⟩)
      case measure => simp [intOf]; omega
    · obtain rfl : k = 16 := by omega
      clear hk hlt hsz
      generalize hkey : (fun i => l.getD i 0) = key at *
      have HKK : Hid ((fun i => l.getD i 0) = key) := hkey
      clear hkey
      go_wp2_with fail
      go_loopw [7, 8] (fun co i wr => ∃ n : Nat, 16 ≤ n ∧ n ≤ 176 ∧ n % 4 = 0 ∧ i = .int .i64 n ∧ co = .int .i64 (e8 (conF ((n - 1) / 16))) ∧ SI w (wK key n) wr) (fun _ i _ => (176 - intOf i).toNat)
      case atStart => exact ⟨16, by omega, by omega, by omega, rfl, rfl, inv⟩
      case round =>
        clear inv
        obtain ⟨n, hn0, hn, hn4, rfl, rfl, inv⟩ := hrel
        have hsz := inv.sz
        by_cases hlt : n < 176
        · obtain ⟨m, hm⟩ : ∃ m, n - 4 = m := ⟨_, rfl⟩
          have i1 : (n : Int) < 176 := by omega
          have hd : decide ((n : Int) < 176) = true := decide_eq_true i1
          have e4 : IntKind.i64.wrap ((n : Int) - 4) = (m : Int) := by rw [IntKind.wrap_i64] <;> omega
          have e3 : IntKind.i64.wrap ((n : Int) - 3) = (m : Int) + 1 := by rw [IntKind.wrap_i64] <;> omega
          have e2 : IntKind.i64.wrap ((n : Int) - 2) = (m : Int) + 2 := by rw [IntKind.wrap_i64] <;> omega
          have e1 : IntKind.i64.wrap ((n : Int) - 1) = (m : Int) + 3 := by rw [IntKind.wrap_i64] <;> omega
          have m0 : (m : Int) < 176 := by omega
          have m1 : (m : Int) + 1 < 176 := by omega
          have m2 : (m : Int) + 2 < 176 := by omega
          have m3 : (m : Int) + 3 < 176 := by omega
          have n1 : (0 : Int) ≤ (m : Int) + 1 := by omega
          have n2 : (0 : Int) ≤ (m : Int) + 2 := by omega
          have n3 : (0 : Int) ≤ (m : Int) + 3 := by omega
          have t1 : ((m : Int) + 1).toNat = m + 1 := by omega
          have t2 : ((m : Int) + 2).toNat = m + 2 := by omega
          have t3 : ((m : Int) + 3).toNat = m + 3 := by omega
          obtain ⟨x0, hx0⟩ : ∃ x, rkW key m = x := ⟨_, rfl⟩
          obtain ⟨x1, hx1⟩ : ∃ x, rkW key (m + 1) = x := ⟨_, rfl⟩
          obtain ⟨x2, hx2⟩ : ∃ x, rkW key (m + 2) = x := ⟨_, rfl⟩
          obtain ⟨x3, hx3⟩ : ∃ x, rkW key (m + 3) = x := ⟨_, rfl⟩
          have HS : Hid (∀ w', SI w (wK key n) w' → w'.cell? ⟨w.heap.size + 1 + 1, m, none⟩ = some (.int .i64 (e8 x0)) ∧ w'.cell? ⟨w.heap.size + 1 + 1, m + 1, none⟩ = some (.int .i64 (e8 x1)) ∧ w'.cell? ⟨w.heap.size + 1 + 1, m + 2, none⟩ = some (.int .i64 (e8 x2)) ∧ w'.cell? ⟨w.heap.size + 1 + 1, m + 3, none⟩ = some (.int .i64 (e8 x3))) := fun w' h => ⟨by rw [h.b2.cell (by omega)]; unfold wK; rw [if_pos (by omega), hx0], by rw [h.b2.cell (by omega)]; unfold wK; rw [if_pos (by omega), hx1], by rw [h.b2.cell (by omega)]; unfold wK; rw [if_pos (by omega), hx2], by rw [h.b2.cell (by omega)]; unfold wK; rw [if_pos (by omega), hx3]⟩
          have HV : Hid (SI w (wK key n) wr) := inv
          have S0 := HS.out wr inv
          have HX : Hid (∀ k, k < 4 → (fun k => if k = 0 then x0 else if k = 1 then x1 else if k = 2 then x2 else x3) k = rkW key (n - 4 + k)) := fun k hk => by
            obtain rfl | rfl | rfl | rfl : k = 0 ∨ k = 1 ∨ k = 2 ∨ k = 3 := by omega
            · show x0 = _; rw [← hx0, show n - 4 + 0 = m by omega]
            · show x1 = _; rw [← hx1, show n - 4 + 1 = m + 1 by omega]
            · show x2 = _; rw [← hx2, show n - 4 + 2 = m + 2 by omega]
            · show x3 = _; rw [← hx3, show n - 4 + 3 = m + 3 by omega]
          have HA : Hid (∀ Z, SI w (wK key n) (wr.alloc Z).drew) := fun Z => (HV.out.then ((Below.refl _ _).alloc (Nat.le_refl _) Z)).drew
          have S1 := fun Z => HS.out _ (HA.out Z)
          clear inv hx0 hx1 hx2 hx3 hm
          go_wp2_with fail
          go_region_held3 (fun w' => w'.cell? ⟨w.heap.size + 1 + 1, m, none⟩ = some (.int .i64 (e8 x0)) ∧ w'.cell? ⟨w.heap.size + 1 + 1, m + 1, none⟩ = some (.int .i64 (e8 x1)) ∧ w'.cell? ⟨w.heap.size + 1 + 1, m + 2, none⟩ = some (.int .i64 (e8 x2)) ∧ w'.cell? ⟨w.heap.size + 1 + 1, m + 3, none⟩ = some (.int .i64 (e8 x3))) (first | exact S0 | exact S1 _) (fail)
          have inv3 := HA.out (.cells #[.int .i64 (e8 x0), .int .i64 (e8 x1), .int .i64 (e8 x2), .int .i64 (e8 x3)] 91)
          have row3 : RowI (wr.alloc (.cells #[.int .i64 (e8 x0), .int .i64 (e8 x1), .int .i64 (e8 x2), .int .i64 (e8 x3)] 91)).drew wr.heap.size (fun k => if k = 0 then x0 else if k = 1 then x1 else if k = 2 then x2 else x3) 4 91 := heap_alloc_new wr (.cells #[.int .i64 (e8 x0), .int .i64 (e8 x1), .int .i64 (e8 x2), .int .i64 (e8 x3)] 91)
          clear S0 S1 HA HS HV e1 e2 e3 e4 m0 m1 m2 m3 n1 n2 n3 t1 t2 t3
          generalize (wr.alloc (.cells #[.int .i64 (e8 x0), .int .i64 (e8 x1), .int .i64 (e8 x2), .int .i64 (e8 x3)] 91)).drew = w3 at *
          generalize wr.heap.size = g at *
          by_cases hr : n % 16 = 0
          · have er : ((n : Int) % 16 == 0) = true := by simp; omega
            obtain ⟨c, hc⟩ : ∃ c, conF ((n - 1) / 16) = c := ⟨_, rfl⟩
            rw [hc]
            have HC : Hid (conF ((n + 4 - 1) / 16) = dbl c) := by
              show _ = _
              rw [← hc, show (n + 4 - 1) / 16 = (n - 1) / 16 + 1 by omega]; rfl
            have HH : Hid (∀ k, k < 4 → (if k = 3 then Sx x0 else if k = 2 then Sx x3 else if k = 1 then Sx x2 else if k = 0 then Sx x1 ^^^ c else (0 : UInt8)) = tvF key n k) := fun k hk => by
              have q0 := HX.out 0 (by omega)
              have q1 := HX.out 1 (by omega)
              have q2 := HX.out 2 (by omega)
              have q3 := HX.out 3 (by omega)
              simp only [if_true, if_neg (show ¬ (1 : Nat) = 0 by decide), if_neg (show ¬ (2 : Nat) = 0 by decide), if_neg (show ¬ (2 : Nat) = 1 by decide), if_neg (show ¬ (3 : Nat) = 0 by decide), if_neg (show ¬ (3 : Nat) = 1 by decide), if_neg (show ¬ (3 : Nat) = 2 by decide)] at q0 q1 q2 q3
              have f12 : rkF key (n / 16 - 1) 12 = x0 := by rw [q0]; unfold rkW; rw [show (n - 4 + 0) / 16 = n / 16 - 1 by omega, show (n - 4 + 0) % 16 = 12 by omega]
              have f13 : rkF key (n / 16 - 1) 13 = x1 := by rw [q1]; unfold rkW; rw [show (n - 4 + 1) / 16 = n / 16 - 1 by omega, show (n - 4 + 1) % 16 = 13 by omega]
              have f14 : rkF key (n / 16 - 1) 14 = x2 := by rw [q2]; unfold rkW; rw [show (n - 4 + 2) / 16 = n / 16 - 1 by omega, show (n - 4 + 2) % 16 = 14 by omega]
              have f15 : rkF key (n / 16 - 1) 15 = x3 := by rw [q3]; unfold rkW; rw [show (n - 4 + 3) / 16 = n / 16 - 1 by omega, show (n - 4 + 3) % 16 = 15 by omega]
              unfold tvF hdF
              rw [if_pos hr, f12, f13, f14, f15, show n / 16 - 1 = (n - 1) / 16 by omega, hc]
              obtain rfl | rfl | rfl | rfl : k = 0 ∨ k = 1 ∨ k = 2 ∨ k = 3 := by omega
              all_goals rfl
            have c0 : w3.cell? ⟨g, 0, none⟩ = some (.int .i64 (e8 x0)) := row3.cell (k := 0) (by decide)
            have c1 : w3.cell? ⟨g, 1, none⟩ = some (.int .i64 (e8 x1)) := row3.cell (k := 1) (by decide)
            have c2 : w3.cell? ⟨g, 2, none⟩ = some (.int .i64 (e8 x2)) := row3.cell (k := 2) (by decide)
            have c3 : w3.cell? ⟨g, 3, none⟩ = some (.int .i64 (e8 x3)) := row3.cell (k := 3) (by decide)
            have f0 : w3.frozen? ⟨g, 0, none⟩ = false := row3.frozen
            have f1 : w3.frozen? ⟨g, 1, none⟩ = false := row3.frozen
            have f2 : w3.frozen? ⟨g, 2, none⟩ = false := row3.frozen
            have f3 : w3.frozen? ⟨g, 3, none⟩ = false := row3.frozen
            have y0 := inv3.b0.byte x0
            have y1 := inv3.b0.byte x1
            have y2 := inv3.b0.byte x2
            have y3 := inv3.b0.byte x3
            have l0 := e8_lo x0
            have l1 := e8_lo x1
            have l2 := e8_lo x2
            have l3 := e8_lo x3
            have u0 := e8_hi x0
            have u1 := e8_hi x1
            have u2 := e8_hi x2
            have u3 := e8_hi x3
            have inv4 : SI w (wK key n) (((((w3.setCell ⟨g, 0, none⟩ (.int .i64 (e8 (Sx x1 ^^^ c)))).setCell ⟨g, 1, none⟩ (.int .i64 (e8 (Sx x2)))).setCell ⟨g, 2, none⟩ (.int .i64 (e8 (Sx x3)))).setCell ⟨g, 3, none⟩ (.int .i64 (e8 (Sx x0)))).drew) := ((((inv3.put g hsz 0 _).put g hsz 1 _).put g hsz 2 _).put g hsz 3 _).drew
            have row4 : RowI (((((w3.setCell ⟨g, 0, none⟩ (.int .i64 (e8 (Sx x1 ^^^ c)))).setCell ⟨g, 1, none⟩ (.int .i64 (e8 (Sx x2)))).setCell ⟨g, 2, none⟩ (.int .i64 (e8 (Sx x3)))).setCell ⟨g, 3, none⟩ (.int .i64 (e8 (Sx x0)))).drew) g (tvF key n) 4 91 := by
              have h := ((((row3.set 0 (Sx x1 ^^^ c)).set 1 (Sx x2)).set 2 (Sx x3)).set 3 (Sx x0))
              refine RowI.congr (show RowI _ g _ 4 91 from h) fun k hk => ?_
              rw [← HH.out k hk]
              obtain rfl | rfl | rfl | rfl : k = 0 ∨ k = 1 ∨ k = 2 ∨ k = 3 := by omega
              all_goals rfl
            have H4 : Hid (SI w (wK key n) (((((w3.setCell ⟨g, 0, none⟩ (.int .i64 (e8 (Sx x1 ^^^ c)))).setCell ⟨g, 1, none⟩ (.int .i64 (e8 (Sx x2)))).setCell ⟨g, 2, none⟩ (.int .i64 (e8 (Sx x3)))).setCell ⟨g, 3, none⟩ (.int .i64 (e8 (Sx x0)))).drew)) := inv4
            have R4 : Hid (RowI (((((w3.setCell ⟨g, 0, none⟩ (.int .i64 (e8 (Sx x1 ^^^ c)))).setCell ⟨g, 1, none⟩ (.int .i64 (e8 (Sx x2)))).setCell ⟨g, 2, none⟩ (.int .i64 (e8 (Sx x3)))).setCell ⟨g, 3, none⟩ (.int .i64 (e8 (Sx x0)))).drew) g (tvF key n) 4 91) := row4
            clear inv3 row3 inv4 row4 HH HX hc
            go_wp2_with fail
            go_still_tail 19, (by kernel_rfl)
            go_upto_region 13 with fail
            generalize (((((w3.setCell ⟨g, 0, none⟩ (.int .i64 (e8 (Sx x1 ^^^ c)))).setCell ⟨g, 1, none⟩ (.int .i64 (e8 (Sx x2)))).setCell ⟨g, 2, none⟩ (.int .i64 (e8 (Sx x3)))).setCell ⟨g, 3, none⟩ (.int .i64 (e8 (Sx x0)))).drew) = w4 at *
            clear c0 c1 c2 c3 f0 f1 f2 f3 y0 y1 y2 y3 l0 l1 l2 l3 u0 u1 u2 u3
            go_wp2_with fail
            refine (rdouble_any c _).mono ?_
            rintro en w5 ⟨rfl, rfl⟩
            go_wp2_with fail
            have invL : SI w (wK key (n + 0)) w5 := H4.out
            have rowL := R4.out
            have HCL : Hid (conF ((n + 4 - 1) / 16) = dbl c) := HC.out
            go_loopw [10] (fun i wq => ∃ k : Nat, k ≤ 4 ∧ i = .int .i64 k ∧ SI w (wK key (n + k)) wq ∧ RowI wq g (tvF key n) 4 91) (fun i _ => (4 - intOf i).toNat)
            case atStart => exact ⟨0, by omega, rfl, invL, rowL⟩
            case round =>
              clear invL rowL
              obtain ⟨k, hk, rfl, inv, row⟩ := hrel
              by_cases hk4 : k < 4
              · obtain ⟨p, hp⟩ : ∃ p, n - 16 = p := ⟨_, rfl⟩
                have k1 : (k : Int) < 4 := by omega
                have a1 : IntKind.i64.wrap ((n : Int) + (k : Int)) = (n : Int) + (k : Int) := by rw [IntKind.wrap_i64] <;> omega
                have a2 : IntKind.i64.wrap ((n : Int) - 16) = (p : Int) := by rw [IntKind.wrap_i64] <;> omega
                have a3 : IntKind.i64.wrap ((p : Int) + (k : Int)) = (p : Int) + (k : Int) := by rw [IntKind.wrap_i64] <;> omega
                have a4 : (n : Int) + (k : Int) < 176 := by omega
                have a5 : (p : Int) + (k : Int) < 176 := by omega
                have a6 : (0 : Int) ≤ (n : Int) + (k : Int) := by omega
                have a7 : (0 : Int) ≤ (p : Int) + (k : Int) := by omega
                have a8 : ((n : Int) + (k : Int)).toNat = n + k := by omega
                have a9 : ((p : Int) + (k : Int)).toNat = p + k := by omega
                have d1 : wr.cell? ⟨w.heap.size + 1 + 1, p + k, none⟩ = some (.int .i64 (e8 (rkW key (p + k)))) := by rw [inv.b2.cell (by omega)]; unfold wK; rw [if_pos (by omega)]
                have d2 : wr.cell? ⟨g, k, none⟩ = some (.int .i64 (e8 (tvF key n k))) := row.cell (by omega)
                have d3 : wr.cell? ⟨w.heap.size + 1 + 1, n + k, none⟩ = some (.int .i64 (e8 (wK key (n + k) (n + k)))) := inv.b2.cell (by omega)
                have d4 : wr.frozen? ⟨w.heap.size + 1 + 1, n + k, none⟩ = false := inv.b2.frozen
                have hx : rkW key (p + k) ^^^ tvF key n k = rkW key (n + k) := by rw [← hp]; exact rkW_step key n k hn4 hn0 hk4
                have HI : Hid (SI w (wK key (n + (k + 1))) (wr.drew.setCell ⟨w.heap.size + 1 + 1, n + k, none⟩ (.int .i64 (e8 (rkW key (n + k)))))) := (inv.drew.set (n + k) _).congr fun i _ => wK_next key (n + k) i
                have HR : Hid (RowI (wr.drew.setCell ⟨w.heap.size + 1 + 1, n + k, none⟩ (.int .i64 (e8 (rkW key (n + k))))) g (tvF key n) 4 91) := RowI.other (w := wr.drew) row (by omega)
                clear inv row hp
                generalize wK key (n + k) (n + k) = z at *
                generalize rkW key (n + k) = v at *
                generalize rkW key (p + k) = y at *
                generalize tvF key n k = x at *
                go_wp2
                go_still_tail 14, (by kernel_rfl)
                go_wp2
                go_roundw
                case rel => first | exact ⟨k + 1, by omega, by go_num, HI.out, HR.out⟩ | ((repeat apply Exists.intro); exact ⟨⟨k + 1, by omega, by go_num, HI.out, HR.out⟩, rfl⟩)
                case measure => simp [intOf]; omega
              · have ke : k = 4 := by omega
                have k1 : ¬ (k : Int) < 4 := by omega
                have HV : Hid (SI w (wK key (n + 4)) wr) := by rw [ke] at inv; exact inv
                clear inv row ke
                go_wp2
                go_roundw
                case rel => first | exact ⟨n + 4, by omega, by omega, by omega, by go_num, by rw [HCL.out], HV.out⟩ | ((repeat apply Exists.intro); exact ⟨⟨n + 4, by omega, by omega, by omega, by go_num, by rw [HCL.out], HV.out⟩, rfl⟩)
                case measure => simp [intOf]; omega
          · have er : ((n : Int) % 16 == 0) = false := by simp; omega
            have HC : Hid (conF ((n + 4 - 1) / 16) = conF ((n - 1) / 16)) := by show _ = _; rw [show (n + 4 - 1) / 16 = (n - 1) / 16 by omega]
            have row4 : RowI w3 g (tvF key n) 4 91 := row3.congr fun k hk => by rw [HX.out k hk]; unfold tvF; rw [if_neg hr]
            clear row3 HX
            generalize conF ((n - 1) / 16) = c at *
            go_wp2_with fail
            have invL : SI w (wK key (n + 0)) w3 := inv3
            have rowL := row4
            have HCL : Hid (conF ((n + 4 - 1) / 16) = c) := HC.out
            go_loopw [10] (fun i wq => ∃ k : Nat, k ≤ 4 ∧ i = .int .i64 k ∧ SI w (wK key (n + k)) wq ∧ RowI wq g (tvF key n) 4 91) (fun i _ => (4 - intOf i).toNat)
            case atStart => exact ⟨0, by omega, rfl, invL, rowL⟩
            case round =>
              clear invL rowL
              obtain ⟨k, hk, rfl, inv, row⟩ := hrel
              by_cases hk4 : k < 4
              · obtain ⟨p, hp⟩ : ∃ p, n - 16 = p := ⟨_, rfl⟩
                have k1 : (k : Int) < 4 := by omega
                have a1 : IntKind.i64.wrap ((n : Int) + (k : Int)) = (n : Int) + (k : Int) := by rw [IntKind.wrap_i64] <;> omega
                have a2 : IntKind.i64.wrap ((n : Int) - 16) = (p : Int) := by rw [IntKind.wrap_i64] <;> omega
                have a3 : IntKind.i64.wrap ((p : Int) + (k : Int)) = (p : Int) + (k : Int) := by rw [IntKind.wrap_i64] <;> omega
                have a4 : (n : Int) + (k : Int) < 176 := by omega
                have a5 : (p : Int) + (k : Int) < 176 := by omega
                have a6 : (0 : Int) ≤ (n : Int) + (k : Int) := by omega
                have a7 : (0 : Int) ≤ (p : Int) + (k : Int) := by omega
                have a8 : ((n : Int) + (k : Int)).toNat = n + k := by omega
                have a9 : ((p : Int) + (k : Int)).toNat = p + k := by omega
                have d1 : wr.cell? ⟨w.heap.size + 1 + 1, p + k, none⟩ = some (.int .i64 (e8 (rkW key (p + k)))) := by rw [inv.b2.cell (by omega)]; unfold wK; rw [if_pos (by omega)]
                have d2 : wr.cell? ⟨g, k, none⟩ = some (.int .i64 (e8 (tvF key n k))) := row.cell (by omega)
                have d3 : wr.cell? ⟨w.heap.size + 1 + 1, n + k, none⟩ = some (.int .i64 (e8 (wK key (n + k) (n + k)))) := inv.b2.cell (by omega)
                have d4 : wr.frozen? ⟨w.heap.size + 1 + 1, n + k, none⟩ = false := inv.b2.frozen
                have hx : rkW key (p + k) ^^^ tvF key n k = rkW key (n + k) := by rw [← hp]; exact rkW_step key n k hn4 hn0 hk4
                have HI : Hid (SI w (wK key (n + (k + 1))) (wr.drew.setCell ⟨w.heap.size + 1 + 1, n + k, none⟩ (.int .i64 (e8 (rkW key (n + k)))))) := (inv.drew.set (n + k) _).congr fun i _ => wK_next key (n + k) i
                have HR : Hid (RowI (wr.drew.setCell ⟨w.heap.size + 1 + 1, n + k, none⟩ (.int .i64 (e8 (rkW key (n + k))))) g (tvF key n) 4 91) := RowI.other (w := wr.drew) row (by omega)
                clear inv row hp
                generalize wK key (n + k) (n + k) = z at *
                generalize rkW key (n + k) = v at *
                generalize rkW key (p + k) = y at *
                generalize tvF key n k = x at *
                go_wp2
                go_still_tail 14, (by kernel_rfl)
                go_wp2
                go_roundw
                case rel => first | exact ⟨k + 1, by omega, by go_num, HI.out, HR.out⟩ | ((repeat apply Exists.intro); exact ⟨⟨k + 1, by omega, by go_num, HI.out, HR.out⟩, rfl⟩)
                case measure => simp [intOf]; omega
              · have ke : k = 4 := by omega
                have k1 : ¬ (k : Int) < 4 := by omega
                have HV : Hid (SI w (wK key (n + 4)) wr) := by rw [ke] at inv; exact inv
                clear inv row ke
                go_wp2
                go_roundw
                case rel => first | exact ⟨n + 4, by omega, by omega, by omega, by go_num, by rw [HCL.out], HV.out⟩ | ((repeat apply Exists.intro); exact ⟨⟨n + 4, by omega, by omega, by omega, by go_num, by rw [HCL.out], HV.out⟩, rfl⟩)
                case measure => simp [intOf]; omega
        · obtain rfl : n = 176 := by omega
          have inv := inv.congr (f3 := rkW key) (fun i hi => by unfold wK; rw [if_pos hi])
          have hbs := inv.b2
          have hbr := inv.b1
          have hbel := inv.bel
          unfold RowI at hbs hbr
          have hi : (Tryd.prog.info? 71).map (·.size) = some (ki (rkW key) 176).toArray.size := by rw [ki_size]; exact size176
          have h1 := ki_one (rkW key) 176
          have hzs : (ki zF 176).toArray.size = (ki (rkW key) 176).toArray.size := by rw [ki_size, ki_size]
          have hout : (wr.setRow (w.heap.size + 1) (ki (rkW key) 176).toArray).heap[w.heap.size + 1]? = some (.cells (ki (rkW key) 176).toArray 71 (0, 0)) := setRow_heap _ _ _ _ _ _ hbr
          have hbl := setRow_below (b := w.heap.size + 1) (ki (rkW key) 176).toArray hbel (by omega)
          clear inv hn hn0 hn4 hlt hsz
          generalize hKK : (ki (rkW key) 176).toArray = K at *
          have HK : Hid ((ki (rkW key) 176).toArray = K) := hKK
          clear hKK
          go_wp2_with (first | refine wpList_load_row rfl 71 _ rfl (w.heap.size + 1 + 1) rfl 71 _ (0, 0) _ hbs Tryd.underlying71 rfl hi ?_ | refine wpList_store_row rfl 71 _ _ rfl (w.heap.size + 1) _ rfl rfl 71 _ hbr hi hzs h1 ?_)
          exact bodyPost_ret (v := .agg K) (results_cell_row rfl _ _ (w.heap.size + 1) 71 _ (0, 0) _ rfl hout Tryd.underlying71 rfl hi) rfl ⟨by rw [HKK.out, ← HK.out], hbl⟩
end Go.Proofs.YtjnbhiamaabbgaaDoor
