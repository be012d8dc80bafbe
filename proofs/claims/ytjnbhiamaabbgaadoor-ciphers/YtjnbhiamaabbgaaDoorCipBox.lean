/-
  cofferref's boxes: the box by powers and logarithms.
-/
import Derived.Test.YtjnbhiamaabbgaaDoorCipA
namespace Go.Proofs.YtjnbhiamaabbgaaDoor
open Go.RowKit
attribute [local go_sem] e8_xor64 e8_xor64c
structure BI (w : World) (p lg : Nat → UInt8) (wr : World) : Prop where
  bel : Below w.heap.size w wr
  sz : wr.heap.size = w.heap.size + 1 + 1 + 1
  b0 : RowI wr w.heap.size zF 256 68
  b1 : RowI wr (w.heap.size + 1) p 255 88
  b2 : RowI wr (w.heap.size + 1 + 1) lg 256 68
theorem BI.start (w : World) : BI w zF zF (((w.alloc (.cells zi256 68)).alloc (.cells zi255 88)).alloc (.cells zi256 68)) := by
  rw [zi256_ki, zi255_ki]
  refine ⟨(((Below.refl _ _).alloc (Nat.le_refl _) _).alloc (by simp) _).alloc (by simp; omega) _, by simp, ?_, ?_, ?_⟩
  all_goals (show (((w.heap.push _).push _).push _)[_]? = _)
  all_goals (simp only [Array.getElem?_push, Array.size_push])
  · rw [if_neg (by omega), if_neg (by omega), if_pos trivial]
  · rw [if_neg (by omega), if_pos trivial]
  · rw [if_pos trivial]
theorem BI.set1 {w wr : World} {p lg : Nat → UInt8} (h : BI w p lg wr) (k : Nat) (v : UInt8) : BI w (fun i => if i = k then v else p i) lg (wr.setCell ⟨w.heap.size + 1, k, none⟩ (.int .i64 (e8 v))) :=
  ⟨h.bel.setCell (by show w.heap.size ≤ w.heap.size + 1; omega) _, by simpa [World.setCell] using h.sz, h.b0.other (by omega), h.b1.set k v, h.b2.other (by omega)⟩
theorem BI.set2 {w wr : World} {p lg : Nat → UInt8} (h : BI w p lg wr) (k : Nat) (v : UInt8) : BI w p (fun i => if i = k then v else lg i) (wr.setCell ⟨w.heap.size + 1 + 1, k, none⟩ (.int .i64 (e8 v))) :=
  ⟨h.bel.setCell (by show w.heap.size ≤ w.heap.size + 1 + 1; omega) _, by simpa [World.setCell] using h.sz, h.b0.other (by omega), h.b1.other (by omega), h.b2.set k v⟩
theorem BI.congr {w wr : World} {p lg p' lg' : Nat → UInt8} (h : BI w p lg wr) (e1 : ∀ i, i < 255 → p i = p' i) (e2 : ∀ i, i < 256 → lg i = lg' i) : BI w p' lg' wr := ⟨h.bel, h.sz, h.b0, h.b1.congr e1, h.b2.congr e2⟩
def sbK (k j : Nat) : UInt8 := if j < k then Sn j else 0
/-- In the second loop: block g has the box as far as it is filled. -/
structure BI2 (w : World) (g k : Nat) (wr : World) : Prop where
  bel : Below w.heap.size w wr
  gg : g = w.heap.size + 1 + 1 + 1
  b0 : RowI wr w.heap.size zF 256 68
  b1 : RowI wr (w.heap.size + 1) (pwK 255) 255 88
  b2 : RowI wr (w.heap.size + 1 + 1) (lgK 255) 256 68
  b3 : RowI wr g (sbK k) 256 68
theorem BI2.drewN {w wr : World} {g k : Nat} (h : BI2 w g k wr) (n : Nat) : BI2 w g k (wr.drewN n) := ⟨below_drewN h.bel _, h.gg, h.b0, h.b1, h.b2, h.b3⟩
theorem BI2.set {w wr : World} {g k : Nat} (h : BI2 w g k wr) (hk : k < 256) : BI2 w g (k + 1) (wr.setCell ⟨g, k, none⟩ (.int .i64 (e8 (Sn k)))) := by
  have hg := h.gg
  refine ⟨h.bel.setCell (by show w.heap.size ≤ g; omega) _, h.gg, h.b0.other (by omega), h.b1.other (by omega), h.b2.other (by omega), (h.b3.set k (Sn k)).congr fun i _ => ?_⟩
  unfold sbK
  by_cases e : i = k
  · subst e; rw [if_pos rfl, if_pos (by omega)]
  · rw [if_neg e]
    by_cases e2 : i < k
    · rw [if_pos e2, if_pos (by omega)]
    · rw [if_neg e2, if_neg (by omega)]
theorem BI.second {w wr : World} (h : BI w (pwK 255) (lgK 255) wr) : BI2 w wr.heap.size 0 (wr.alloc (.cells zi256 68)) := by
  have hs := h.sz
  have hb : Below wr.heap.size wr (wr.alloc (.cells zi256 68)) := (Below.refl _ _).alloc (Nat.le_refl _) _
  refine ⟨h.bel.alloc h.bel.size _, hs, h.b0.below hb (by omega), h.b1.below hb (by omega), h.b2.below hb (by omega), ?_⟩
  rw [zi256_ki]
  exact heap_alloc_new wr _
set_option maxHeartbeats 2000000 in
set_option maxRecDepth 20000 in
theorem boxes_any (w : World) : Calls Tryd.prog 42 #[] w fun en w' => en = .returned (.agg (ki Sn 256).toArray) ∧ Below w.heap.size w w' := by
  have hz6 := (zero_of_info info256).1
  have hz5 := (zero_of_info info255).1
  have inv0 := BI.start w
  have HB2 : Hid (∀ wr, BI w (pwK 255) (lgK 255) wr → BI2 w wr.heap.size 0 (wr.alloc (.cells zi256 68))) := fun wr h => h.second
  generalize zi256 = zz6 at *
  generalize zi255 = zz5 at *
  go_enter Tryd.func42, Tryd.ntmps42
  go_wp2_with fail
  go_loopw [3, 4] (fun x i wr => ∃ k : Nat, k ≤ 255 ∧ i = .int .i64 k ∧ x = .int .i64 (e8 (Pw k)) ∧ BI w (pwK k) (lgK k) wr) (fun _ i _ => (255 - intOf i).toNat)
  case atStart => exact ⟨0, by omega, rfl, rfl, inv0⟩
  case round =>
    clear inv0 hz5
    obtain ⟨k, hk, rfl, rfl, inv⟩ := hrel
    have hsz := inv.sz
    by_cases hlt : k < 255
    · have i1 : (k : Int) < 255 := by omega
      have HP : Hid (Pw (k + 1) = Pw k ^^^ dbl (Pw k)) := Pw_next k hlt
      have HI : Hid (BI w (pwK (k + 1)) (lgK (k + 1)) ((wr.setCell ⟨w.heap.size + 1, k, none⟩ (.int .i64 (e8 (Pw k)))).setCell ⟨w.heap.size + 1 + 1, (e8 (Pw k)).toNat, none⟩ (.int .i64 (k : Int)))) := by
        have hk8 : (k : Int) = e8 (UInt8.ofNat k) := by simp [e8]; omega
        rw [hk8, e8_nat]
        refine ((inv.set1 k (Pw k)).set2 _ (UInt8.ofNat k)).congr (fun i _ => ?_) (fun i _ => rfl)
        unfold pwK
        by_cases e : i = k
        · subst e; rw [if_pos rfl, if_pos (by omega)]
        · rw [if_neg e]
          by_cases e2 : i < k
          · rw [if_pos e2, if_pos (by omega)]
          · rw [if_neg e2, if_neg (by omega)]
      have c1 : wr.cell? ⟨w.heap.size + 1, k, none⟩ = some (.int .i64 (e8 (pwK k k))) := inv.b1.cell hlt
      have f1 : wr.frozen? ⟨w.heap.size + 1, k, none⟩ = false := inv.b1.frozen
      have inv1 := inv.set1 k (Pw k)
      have hlx : (e8 (Pw k)).toNat < 256 := by rw [e8_nat]; exact (Pw k).toNat_lt
      have c2 : (wr.setCell ⟨w.heap.size + 1, k, none⟩ (.int .i64 (e8 (Pw k)))).cell? ⟨w.heap.size + 1 + 1, (e8 (Pw k)).toNat, none⟩ = some (.int .i64 (e8 (lgK k (e8 (Pw k)).toNat))) := inv1.b2.cell hlx
      have f2 : (wr.setCell ⟨w.heap.size + 1, k, none⟩ (.int .i64 (e8 (Pw k)))).frozen? ⟨w.heap.size + 1 + 1, (e8 (Pw k)).toNat, none⟩ = false := inv1.b2.frozen
      have p0 := e8_lo (Pw k)
      have p1 := e8_hi (Pw k)
      clear inv inv1 hlx
      generalize pwK k k = z1 at *
      generalize lgK k (e8 (Pw k)).toNat = z2 at *
      generalize Pw k = x at *
      go_upto_region 8 with fail
      clear c1 f1
      generalize wr.setCell ⟨w.heap.size + 1, k, none⟩ (.int .i64 (e8 x)) = wa at *
      go_wp2_with fail
      refine (rdouble_any x _).mono ?_
      rintro en w2 ⟨rfl, rfl⟩
      go_wp2_with fail
      go_roundw
      case rel => exact ⟨k + 1, by omega, by go_num, by rw [HP.out], HI.out⟩
      case measure => simp [intOf]; omega
    · obtain rfl : k = 255 := by omega
      have inv2 := HB2.out wr inv
      clear inv HB2 hk hlt hsz
      go_wp2_with fail
      generalize hw3 : wr.alloc (.cells zz6 68) = w3 at *
      clear hw3
      obtain ⟨g, hg⟩ : ∃ g, wr.heap.size = g := ⟨_, rfl⟩
      rw [hg] at inv2 ⊢
      clear hg hz6
      go_loopw [6] (fun i wr => ∃ k : Nat, k ≤ 256 ∧ i = .int .i64 k ∧ BI2 w g k wr) (fun i _ => (256 - intOf i).toNat)
      case atStart => exact ⟨0, by omega, rfl, inv2⟩
      case round =>
        clear inv2
        obtain ⟨k, hk, rfl, inv⟩ := hrel
        by_cases hlt : k < 256
        · have i1 : (k : Int) < 256 := by omega
          have hd : decide ((k : Int) < 256) = true := decide_eq_true i1
          by_cases hk0 : k = 0
          · have i2 : ¬ (0 : Int) < (k : Int) := by omega
            have HK0 : Hid (k = 0) := hk0
            clear hk0
            have HV : Hid (BI2 w g k wr) := inv
            have z1 : bits .or .i64 0 0 = 0 := by decide +kernel
            have z2 : bits .and .i64 0 255 = 0 := by decide +kernel
            have z3 : bits .xor .i64 0 0 = 0 := by decide +kernel
            have z4 : bits .xor .i64 0 99 = 99 := by decide +kernel
            clear inv
            go_wp2_with fail
            try rw [hd]
            go_loopw [8, 9] (fun s i wq => ∃ m : Nat, 1 ≤ m ∧ m ≤ 5 ∧ i = .int .i64 (m : Int) ∧ s = .int .i64 0 ∧ BI2 w g k wq) (fun _ i _ => (5 - intOf i).toNat)
            case atStart => exact ⟨1, by omega, by omega, rfl, rfl, HV.out⟩
            case round =>
              clear HV
              obtain ⟨m, m1, m5, rfl, rfl, inv⟩ := hrel
              have HV : Hid (BI2 w g k wr) := inv
              by_cases hm : m < 5
              · obtain rfl | rfl | rfl | rfl : m = 1 ∨ m = 2 ∨ m = 3 ∨ m = 4 := by omega
                · clear inv
                  go_wp2
                  go_quiet (fail)
                  go_wp2
                  go_roundw
                  case rel => exact ⟨2, by omega, by omega, by go_num, rfl, HV.out.drewN _⟩
                  case measure => simp [intOf]
                · clear inv
                  go_wp2
                  go_quiet (fail)
                  go_wp2
                  go_roundw
                  case rel => exact ⟨3, by omega, by omega, by go_num, rfl, HV.out.drewN _⟩
                  case measure => simp [intOf]
                · clear inv
                  go_wp2
                  go_quiet (fail)
                  go_wp2
                  go_roundw
                  case rel => exact ⟨4, by omega, by omega, by go_num, rfl, HV.out.drewN _⟩
                  case measure => simp [intOf]
                · clear inv
                  go_wp2
                  go_quiet (fail)
                  go_wp2
                  go_roundw
                  case rel => exact ⟨5, by omega, by omega, by go_num, rfl, HV.out.drewN _⟩
                  case measure => simp [intOf]
              · obtain rfl : m = 5 := by omega
                have c1 : wr.cell? ⟨g, k, none⟩ = some (.int .i64 (e8 (sbK k k))) := inv.b3.cell (by omega)
                have f1 : wr.frozen? ⟨g, k, none⟩ = false := inv.b3.frozen
                have HI := inv.set (by omega)
                have HJ : Hid (BI2 w g (k + 1) (wr.setCell ⟨g, k, none⟩ (.int .i64 (e8 (Sn k))))) := HI
                have hS : e8 (Sn k) = 99 := by rw [HK0.out]; rfl
                rw [hS] at HJ
                clear HI inv HV
                generalize sbK k k = z at *
                go_wp2
                go_roundw
                case rel => first | exact ⟨k + 1, by omega, by go_num, HJ.out⟩ | ((repeat apply Exists.intro); exact ⟨⟨k + 1, by omega, by go_num, HJ.out⟩, rfl⟩)
                case measure => simp [intOf]; omega
          · have i2 : (0 : Int) < (k : Int) := by omega
            obtain ⟨l, hl⟩ : ∃ l, Lt.getD k 0 = l := ⟨_, rfl⟩
            obtain ⟨q, hq⟩ : ∃ q, (255 - l.toNat) % 255 = q := ⟨_, rfl⟩
            obtain ⟨b, hb⟩ : ∃ b, ivF k = b := ⟨_, rfl⟩
            have l5 : l.toNat < 255 := by rw [← hl]; exact lg_lt k hlt
            have el : e8 l < 255 := by simp only [e8]; omega
            have l0 := e8_lo l
            have ew : IntKind.i64.wrap (255 - e8 l) = 255 - e8 l := by rw [IntKind.wrap_i64] <;> omega
            have et : (255 - e8 l).tmod 255 = (q : Nat) := by rw [Int.tmod_eq_emod_of_nonneg (by omega)]; simp only [e8]; omega
            have q5 : q < 255 := by omega
            have q6 : (q : Int) < 255 := by omega
            have c1 : wr.cell? ⟨w.heap.size + 1 + 1, k, none⟩ = some (.int .i64 (e8 l)) := by rw [inv.b2.cell hlt, lg_all k hlt, hl]
            have c2 : wr.cell? ⟨w.heap.size + 1, q, none⟩ = some (.int .i64 (e8 b)) := by
              rw [inv.b1.cell q5]
              have e : pwK 255 q = b := by rw [← hb]; unfold pwK ivF; rw [if_pos q5, if_neg hk0, hl, hq]
              rw [e]
            have b0 := e8_lo b
            have b1 := e8_hi b
            have HV : Hid (BI2 w g k wr) := inv
            clear inv hl hq hk0
            go_wp2_with fail
            try rw [hd]
            clear c1 c2 ew et q5 q6 el l0 l5
            go_loopw [8, 9] (fun s i wq => ∃ m : Nat, 1 ≤ m ∧ m ≤ 5 ∧ i = .int .i64 (m : Int) ∧ s = .int .i64 (e8 (acF b (m - 1))) ∧ BI2 w g k wq) (fun _ i _ => (5 - intOf i).toNat)
            case atStart => exact ⟨1, by omega, by omega, rfl, rfl, HV.out⟩
            case round =>
              clear HV
              obtain ⟨m, m1, m5, rfl, rfl, inv⟩ := hrel
              have HV : Hid (BI2 w g k wr) := inv
              by_cases hm : m < 5
              · obtain rfl | rfl | rfl | rfl : m = 1 ∨ m = 2 ∨ m = 3 ∨ m = 4 := by omega
                · have r := rr64_1 b
                  have ew : IntKind.i64.wrap (e8 b * 2) = e8 b * 2 := by rw [IntKind.wrap_i64] <;> omega
                  have HX : Hid (acF b (1 - 1) ^^^ rot b 1 = acF b (2 - 1)) := rfl
                  clear inv
                  generalize acF b (1 - 1) = x at *
                  go_wp2
                  go_quiet (fail)
                  go_wp2
                  go_roundw
                  case rel => exact ⟨2, by omega, by omega, by go_num, by rw [← HX.out], HV.out.drewN _⟩
                  case measure => simp [intOf]
                · have r := rr64_2 b
                  have ew : IntKind.i64.wrap (e8 b * 4) = e8 b * 4 := by rw [IntKind.wrap_i64] <;> omega
                  have HX : Hid (acF b (2 - 1) ^^^ rot b 2 = acF b (3 - 1)) := rfl
                  clear inv
                  generalize acF b (2 - 1) = x at *
                  go_wp2
                  go_quiet (fail)
                  go_wp2
                  go_roundw
                  case rel => exact ⟨3, by omega, by omega, by go_num, by rw [← HX.out], HV.out.drewN _⟩
                  case measure => simp [intOf]
                · have r := rr64_3 b
                  have ew : IntKind.i64.wrap (e8 b * 8) = e8 b * 8 := by rw [IntKind.wrap_i64] <;> omega
                  have HX : Hid (acF b (3 - 1) ^^^ rot b 3 = acF b (4 - 1)) := rfl
                  clear inv
                  generalize acF b (3 - 1) = x at *
                  go_wp2
                  go_quiet (fail)
                  go_wp2
                  go_roundw
                  case rel => exact ⟨4, by omega, by omega, by go_num, by rw [← HX.out], HV.out.drewN _⟩
                  case measure => simp [intOf]
                · have r := rr64_4 b
                  have ew : IntKind.i64.wrap (e8 b * 16) = e8 b * 16 := by rw [IntKind.wrap_i64] <;> omega
                  have HX : Hid (acF b (4 - 1) ^^^ rot b 4 = acF b (5 - 1)) := rfl
                  clear inv
                  generalize acF b (4 - 1) = x at *
                  go_wp2
                  go_quiet (fail)
                  go_wp2
                  go_roundw
                  case rel => exact ⟨5, by omega, by omega, by go_num, by rw [← HX.out], HV.out.drewN _⟩
                  case measure => simp [intOf]
              · obtain rfl : m = 5 := by omega
                have c1 : wr.cell? ⟨g, k, none⟩ = some (.int .i64 (e8 (sbK k k))) := inv.b3.cell (by omega)
                have f1 : wr.frozen? ⟨g, k, none⟩ = false := inv.b3.frozen
                have HI := inv.set (by omega)
                have HJ : Hid (BI2 w g (k + 1) (wr.setCell ⟨g, k, none⟩ (.int .i64 (e8 (Sn k))))) := HI
                have hS : Sn k = acF b 4 ^^^ 99 := by rw [← iv_aff k hlt, hb]; rfl
                rw [hS] at HJ
                clear HI inv HV
                generalize sbK k k = z at *
                go_wp2
                go_roundw
                case rel => first | exact ⟨k + 1, by omega, by go_num, HJ.out⟩ | ((repeat apply Exists.intro); exact ⟨⟨k + 1, by omega, by go_num, HJ.out⟩, rfl⟩)
                case measure => simp [intOf]; omega
        · obtain rfl : k = 256 := by omega
          have hbs := (inv.b3.congr (g := Sn) (fun i hi => by unfold sbK; rw [if_pos hi]))
          have hbr := inv.b0
          have hbel := inv.bel
          unfold RowI at hbs hbr
          have hi : (Tryd.prog.info? 68).map (·.size) = some (ki Sn 256).toArray.size := by rw [ki_size]; exact size256
          have h1 := ki_one Sn 256
          have hzs : (ki zF 256).toArray.size = (ki Sn 256).toArray.size := by rw [ki_size, ki_size]
          have hout : (wr.setRow w.heap.size (ki Sn 256).toArray).heap[w.heap.size]? = some (.cells (ki Sn 256).toArray 68 (0, 0)) := setRow_heap _ _ _ _ _ _ hbr
          have hbl := setRow_below (b := w.heap.size) (ki Sn 256).toArray hbel (by omega)
          clear inv hk hlt
          generalize hKK : (ki Sn 256).toArray = K at *
          have HK : Hid ((ki Sn 256).toArray = K) := hKK
          clear hKK
          go_wp2_with (first | refine wpList_load_row rfl 68 _ rfl g rfl 68 _ (0, 0) _ hbs Tryd.underlying68 rfl hi ?_ | refine wpList_store_row rfl 68 _ _ rfl w.heap.size _ rfl rfl 68 _ hbr hi hzs h1 ?_)
          exact bodyPost_ret (v := .agg K) (results_cell_row rfl _ _ w.heap.size 68 _ (0, 0) _ rfl hout Tryd.underlying68 rfl hi) rfl ⟨by rw [← HK.out], hbl⟩
end Go.Proofs.YtjnbhiamaabbgaaDoor
