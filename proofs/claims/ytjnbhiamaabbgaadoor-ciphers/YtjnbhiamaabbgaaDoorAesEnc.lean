/-
  prim's encrypt: AES-128 of one block.
-/
import Derived.Test.YtjnbhiamaabbgaaDoorAesKey
import Derived.Deep.RegionHeld3
namespace Go.Proofs.YtjnbhiamaabbgaaDoor
open Go.RowKit
/-- What lies there while a block is encrypted: the block, room for the answer, the cipher. -/
structure EI (w : World) (g : Nat) (key cur : Nat → UInt8) (wr : World) : Prop where
  bel : Below w.heap.size w wr
  sz : w.heap.size + 1 < wr.heap.size
  glt : g < w.heap.size
  b0 : Row wr w.heap.size cur 16 55
  b1 : Row wr (w.heap.size + 1) zF 16 55
  rc : Row wr g (cF key 10) 432 79
theorem EI.drew {w wr : World} {g : Nat} {key cur : Nat → UInt8} (h : EI w g key cur wr) : EI w g key cur wr.drew := ⟨h.bel.drew, h.sz, h.glt, h.b0, h.b1, h.rc⟩
theorem EI.then {w wr w' : World} {g : Nat} {key cur : Nat → UInt8} (h : EI w g key cur wr) (hb : Below wr.heap.size wr w') : EI w g key cur w' :=
  have hs := h.sz
  have hg := h.glt
  ⟨h.bel.trans (hb.mono h.bel.size), Nat.lt_of_lt_of_le h.sz hb.size, h.glt, h.b0.below hb (by omega), h.b1.below hb (by omega), h.rc.below hb (by omega)⟩
theorem EI.start (w : World) (g : Nat) (key x : Nat → UInt8) (h : Row w g (cF key 10) 432 79) : EI w g key x ((w.alloc (.cells (kb x 16).toArray 55)).alloc (.cells (kb zF 16).toArray 55)) := by
  have hg : g < w.heap.size := block_lt_of_cell (h.cell (k := 0) (by decide))
  have hb : Below w.heap.size w ((w.alloc (.cells (kb x 16).toArray 55)).alloc (.cells (kb zF 16).toArray 55)) := ((Below.refl _ _).alloc (Nat.le_refl _) _).alloc (by simp) _
  refine ⟨hb, by simp, hg, ?_, ?_, h.below hb hg⟩
  all_goals (show ((w.heap.push _).push _)[_]? = _)
  all_goals (simp only [Array.getElem?_push, Array.size_push])
  · rw [if_neg (by omega), if_pos trivial]
  · rw [if_pos trivial]
theorem setCells_other (b : Nat) : ∀ (vs : List Value) (o : Nat) (w : World) (j : Nat), j ≠ b → (w.setCells b o vs).heap[j]? = w.heap[j]?
  | [], _, _, _, _ => rfl
  | v :: r, o, w, j, h => by rw [World.setCells, setCells_other b r (o + 1) _ j h, heap_setCell_other _ _ _ _ h]
theorem Row.otherCells {w : World} {b b' n o : Nat} {f : Nat → UInt8} {t : TypeId} {vs : List Value} (h : Row w b f n t) (hb : b ≠ b') : Row (w.setCells b' o vs) b f n t := by
  unfold Row at *; rw [setCells_other _ _ _ _ _ hb]; exact h
theorem Row.all {w : World} {b : Nat} {f : Nat → UInt8} {t : TypeId} (h : Row w b f 16 t) (x : Nat → UInt8) : Row (w.setCells b 0 (kb x 16)) b x 16 t :=
  (h.setCells 16 0 x).congr fun i hi => by rw [if_pos (by omega), Nat.sub_zero]
theorem EI.own16 {w wr : World} {g : Nat} {key cur : Nat → UInt8} (h : EI w g key cur wr) : wr.cell? ⟨w.heap.size, 0, none⟩ = some (.int .u8 (e8 (cur 0))) ∧ wr.cell? ⟨w.heap.size, 1, none⟩ = some (.int .u8 (e8 (cur 1))) ∧ wr.cell? ⟨w.heap.size, 2, none⟩ = some (.int .u8 (e8 (cur 2))) ∧ wr.cell? ⟨w.heap.size, 3, none⟩ = some (.int .u8 (e8 (cur 3))) ∧ wr.cell? ⟨w.heap.size, 4, none⟩ = some (.int .u8 (e8 (cur 4))) ∧ wr.cell? ⟨w.heap.size, 5, none⟩ = some (.int .u8 (e8 (cur 5))) ∧ wr.cell? ⟨w.heap.size, 6, none⟩ = some (.int .u8 (e8 (cur 6))) ∧ wr.cell? ⟨w.heap.size, 7, none⟩ = some (.int .u8 (e8 (cur 7))) ∧ wr.cell? ⟨w.heap.size, 8, none⟩ = some (.int .u8 (e8 (cur 8))) ∧ wr.cell? ⟨w.heap.size, 9, none⟩ = some (.int .u8 (e8 (cur 9))) ∧ wr.cell? ⟨w.heap.size, 10, none⟩ = some (.int .u8 (e8 (cur 10))) ∧ wr.cell? ⟨w.heap.size, 11, none⟩ = some (.int .u8 (e8 (cur 11))) ∧ wr.cell? ⟨w.heap.size, 12, none⟩ = some (.int .u8 (e8 (cur 12))) ∧ wr.cell? ⟨w.heap.size, 13, none⟩ = some (.int .u8 (e8 (cur 13))) ∧ wr.cell? ⟨w.heap.size, 14, none⟩ = some (.int .u8 (e8 (cur 14))) ∧ wr.cell? ⟨w.heap.size, 15, none⟩ = some (.int .u8 (e8 (cur 15))) :=
  ⟨h.b0.cell (by decide), h.b0.cell (by decide), h.b0.cell (by decide), h.b0.cell (by decide), h.b0.cell (by decide), h.b0.cell (by decide), h.b0.cell (by decide), h.b0.cell (by decide), h.b0.cell (by decide), h.b0.cell (by decide), h.b0.cell (by decide), h.b0.cell (by decide), h.b0.cell (by decide), h.b0.cell (by decide), h.b0.cell (by decide), h.b0.cell (by decide)⟩
theorem EI.keyc {w wr : World} {g : Nat} {key cur : Nat → UInt8} (h : EI w g key cur wr) (r j a : Nat) (hr : r ≤ 10) (hj : j < 16) (ha : a = 256 + 16 * r + j) : wr.cell? ⟨g, a, none⟩ = some (.int .u8 (e8 (rkF key r j))) := by
  subst ha
  rw [h.rc.cell (by omega), cF_key key 10 r j hr hj]
/-- Behind a store into the block itself, and behind one into the answer's. -/
def EIs0 (w : World) (g : Nat) (key _cur f : Nat → UInt8) (wr : World) : Prop := EI w g key f wr
def EIs1 (w : World) (_g : Nat) (_key _cur f : Nat → UInt8) (wr : World) : Prop := Below w.heap.size w wr ∧ Row wr (w.heap.size + 1) f 16 55
theorem EI.store0 {w wr : World} {g : Nat} {key cur : Nat → UInt8} (h : EI w g key cur wr) (f : Nat → UInt8) : EIs0 w g key cur f (wr.setCells w.heap.size 0 (kb f 16)) :=
  have hg := h.glt
  show EI w g key f (wr.setCells w.heap.size 0 (kb f 16)) from ⟨setCells_below (Nat.le_refl _) _ _ _ h.bel, by rw [setCells_size]; exact h.sz, h.glt, h.b0.all f, h.b1.otherCells (by omega), h.rc.otherCells (by omega)⟩
theorem EI.store1 {w wr : World} {g : Nat} {key cur : Nat → UInt8} (h : EI w g key cur wr) (f : Nat → UInt8) : EIs1 w g key cur f (wr.setCells (w.heap.size + 1) 0 (kb f 16)) :=
  ⟨setCells_below (by omega) _ _ _ h.bel, h.b1.all f⟩
/-- A block's load and store, folded: the walk does not open them. -/
def LB (x : Addr) : Sem Value := loadVar 55 x
def SB (x : Addr) (v : Value) : Sem Unit := storeVar 55 x v
theorem LB_fold (x : Addr) : loadVar 55 x = LB x := rfl
theorem SB_fold (x : Addr) (v : Value) : storeVar 55 x v = SB x v := rfl
attribute [local go_sem ↓] LB_fold SB_fold
theorem run_LB (w : World) (b o : Nat) (f : Nat → UInt8) (h : w.rangeAt b o (kb f 16)) : (LB ⟨b, o, none⟩).run Tryd.prog w = .ok (.agg (kb f 16).toArray) w :=
  run_loadVar_mid w b o 55 (kb f 16) _ h Tryd.underlying55 rfl (by rw [kb_len]; exact sizeBlk)
theorem run_SB (w : World) (b o : Nat) (f : Nat → UInt8) (h : w.there b o 16) : (SB ⟨b, o, none⟩ (.agg (kb f 16).toArray)).run Tryd.prog w = .ok () (w.setCells b o (kb f 16)) :=
  run_storeVar_mid w b o 55 (kb f 16).toArray (by rw [kb_size]; exact h) (sizeKb f) (kb_one f 16)
/-- The region of that number in a body. -/
def regOf (n : Nat) : Code → Option Code
  | .region id ops b => if id = n then some (.region id ops b) else none
  | .seq a b => match regOf n a with
    | some c => some c
    | none => regOf n b
  | .cond _ a b => match regOf n a with
    | some c => some c
    | none => regOf n b
  | .block _ c => regOf n c
  | .loop c => regOf n c
  | .scope c => regOf n c
  | _ => none
def regIn (n : Nat) (f : Func) : Code := (f.body.bind (regOf n)).getD .skip
set_option maxHeartbeats 2000000 in
set_option maxRecDepth 20000 in
theorem enc_reg1 {w wr : World} {g : Nat} {key x : Nat → UInt8} (inv : EI w g key x wr) (Q : Exit → Act → World → Prop) (c1 c2 c5 c6 c7 c8 c9 c10 c11 c12 c13 c14 c15 c16 c17 c18 c19 c20 c21 c22 c23 c24 c25 c26 c27 c28 c29 c30 c31 c32 c33 c34 c35 c36 : Value)
    (hQ : ∀ (u6 u7 u8 u9 u10 u11 u12 : Value) (w9 : World), EIs0 w g key x (xorF x (rkF key 0)) w9 → Q .normal ⟨#[.pointer (some ⟨g, 0, none⟩), c1, c2, .pointer (some ⟨w.heap.size, 0, none⟩), .pointer (some ⟨w.heap.size + 1, 0, none⟩), c5, u6, u7, u8, u9, u10, u11, u12, c13, c14, c15, c16, c17, c18, c19, c20, c21, c22, c23, c24, c25, c26, c27, c28, c29, c30, c31, c32, c33, c34, c35, c36], []⟩ w9) :
    Code.wp Tryd.prog (regIn 1 Tryd.f33) Q ⟨#[.pointer (some ⟨g, 0, none⟩), c1, c2, .pointer (some ⟨w.heap.size, 0, none⟩), .pointer (some ⟨w.heap.size + 1, 0, none⟩), c5, c6, c7, c8, c9, c10, c11, c12, c13, c14, c15, c16, c17, c18, c19, c20, c21, c22, c23, c24, c25, c26, c27, c28, c29, c30, c31, c32, c33, c34, c35, c36], []⟩ wr := by
  have hg := inv.glt
  conv => arg 2; whnf
  refine wp_region_noPanic ?_
  have HS : Hid (∀ w', EI w g key x w' → w'.rangeAt g (256) (kb (rkF key 0) 16) ∧ w'.there w.heap.size 0 16) := fun w' h => ⟨h.rc.range (by omega) (fun j hj => by first | exact cF_key key 10 (0) j (by omega) hj | (rw [show 256 + j = 256 + 16 * (0) + j by omega]; exact cF_key key 10 (0) j (by omega) hj)), h.b0.there (by omega)⟩
  have HT : Hid (∀ w', EI w g key x w' → EIs0 w g key x (xorF x (rkF key 0)) (w'.setCells w.heap.size 0 (kb (xorF x (rkF key 0)) 16))) := fun w' h => h.store0 (xorF x (rkF key 0))
  have R0 : wr.drew.rangeAt w.heap.size 0 (kb x 16) := inv.drew.b0.range (by omega) (fun j hj => by rw [Nat.zero_add])
  have HXx : Hid (∀ w', Calls Tryd.prog 52 #[.agg (kb x 16).toArray, .agg (kb (rkF key 0) 16).toArray] w' fun en w'' => en = .returned (.agg (kb (xorF x (rkF key 0)) 16).toArray) ∧ Below w'.heap.size w' w'') := fun w' => xor_any x (rkF key 0) w'
  have hLX : ∀ w', w'.rangeAt w.heap.size 0 (kb x 16) → (LB ⟨w.heap.size, 0, none⟩).run Tryd.prog w' = .ok (.agg (kb x 16).toArray) w' := fun w' h => run_LB w' _ _ _ h
  have hLK : ∀ w', w'.rangeAt g (256) (kb (rkF key 0) 16) → (LB ⟨g, 256, none⟩).run Tryd.prog w' = .ok (.agg (kb (rkF key 0) 16).toArray) w' := fun w' h => run_LB w' _ _ _ h
  have hSX : ∀ w', w'.there w.heap.size 0 16 → (SB ⟨w.heap.size, 0, none⟩ (.agg (kb (xorF x (rkF key 0)) 16).toArray)).run Tryd.prog w' = .ok () (w'.setCells w.heap.size 0 (kb (xorF x (rkF key 0)) 16)) := fun w' h => run_SB w' _ _ _ h
  generalize kb (xorF x (rkF key 0)) 16 = XX at *
  generalize kb (rkF key 0) 16 = KK at *
  generalize kb x 16 = X0 at *
  have HE : Hid (EI w g key x wr.drew) := inv.drew
  have S0 := (HS.out _ HE.out).1
  clear inv
  go_region_with (first
      | (go_at_call 52; refine (HXx.out _).mono ?_; rintro en v2 ⟨rfl, hc2⟩; have E2 := (HE.out).then hc2; have S2 := (HS.out _ E2).2; clear S0 R0))
  all_goals (
    have inv := HT.out _ E2
    clear HT HS HXx hSX hLX hLK HE
    clear S2 E2 hc2
    generalize hw9 : v2.setCells w.heap.size 0 XX = w9 at *
    clear hw9
    exact NoPanic.normal (hQ _ _ _ _ _ _ _ _ inv))
set_option maxHeartbeats 2000000 in
set_option maxRecDepth 20000 in
theorem enc_reg5 {w wr : World} {g : Nat} {key cur : Nat → UInt8} {n : Nat} (hn : n < 9) (inv : EI w g key cur wr) (Q : Exit → Act → World → Prop) (c1 c2 c6 c7 c8 c9 c10 c11 c12 c13 c14 c15 c16 c17 c18 c19 c20 c21 c22 c23 c24 c25 c26 c27 c28 c29 c30 c31 c32 c33 c34 c35 c36 : Value)
    (hQ : ∀ (u17 u18 u19 u20 u21 u22 u23 u24 u25 u26 u27 : Value) (w9 : World), EIs0 w g key cur (xorF (mixF (shF cur)) (rkF key (n + 1))) w9 → Q .normal ⟨#[.pointer (some ⟨g, 0, none⟩), c1, c2, .pointer (some ⟨w.heap.size, 0, none⟩), .pointer (some ⟨w.heap.size + 1, 0, none⟩), .int .i64 ((n : Int) + 1), c6, c7, c8, c9, c10, c11, c12, c13, c14, c15, c16, u17, u18, u19, u20, u21, u22, u23, u24, u25, u26, u27, c28, c29, c30, c31, c32, c33, c34, c35, c36], []⟩ w9) :
    Code.wp Tryd.prog (regIn 5 Tryd.f33) Q ⟨#[.pointer (some ⟨g, 0, none⟩), c1, c2, .pointer (some ⟨w.heap.size, 0, none⟩), .pointer (some ⟨w.heap.size + 1, 0, none⟩), .int .i64 ((n : Int) + 1), c6, c7, c8, c9, c10, c11, c12, c13, c14, c15, c16, c17, c18, c19, c20, c21, c22, c23, c24, c25, c26, c27, c28, c29, c30, c31, c32, c33, c34, c35, c36], []⟩ wr := by
  have i1 : (n : Int) + 1 < 10 := by omega
  have i2 : (n : Int) + 1 < 11 := by omega
  have i3 : (0 : Int) ≤ (n : Int) + 1 := by omega
  have i4 : ((n : Int) + 1).toNat = n + 1 := by omega
  have hg := inv.glt
  conv => arg 2; whnf
  refine wp_region_noPanic ?_
  have HS : Hid (∀ w', EI w g key cur w' → w'.rangeAt g (256 + (n + 1) * 16) (kb (rkF key (n + 1)) 16) ∧ w'.there w.heap.size 0 16) := fun w' h => ⟨h.rc.range (by omega) (fun j hj => by first | exact cF_key key 10 ((n + 1)) j (by omega) hj | (rw [show 256 + (n + 1) * 16 + j = 256 + 16 * ((n + 1)) + j by omega]; exact cF_key key 10 ((n + 1)) j (by omega) hj)), h.b0.there (by omega)⟩
  have HT : Hid (∀ w', EI w g key cur w' → EIs0 w g key cur (xorF (mixF (shF cur)) (rkF key (n + 1))) (w'.setCells w.heap.size 0 (kb (xorF (mixF (shF cur)) (rkF key (n + 1))) 16))) := fun w' h => h.store0 (xorF (mixF (shF cur)) (rkF key (n + 1)))
  have R0 : wr.drew.rangeAt w.heap.size 0 (kb cur 16) := inv.drew.b0.range (by omega) (fun j hj => by rw [Nat.zero_add])
  have HXs : Hid (∀ w', BoxAt w' g → Calls Tryd.prog 54 #[.pointer (some ⟨g, 0, none⟩), .agg (kb cur 16).toArray] w' fun en w'' => en = .returned (.agg (kb (shF cur) 16).toArray) ∧ Below w'.heap.size w' w'') := fun w' h => shift_any cur g w' h
  have HXm : Hid (∀ w', Calls Tryd.prog 53 #[.agg (kb (shF cur) 16).toArray] w' fun en w'' => en = .returned (.agg (kb (mixF (shF cur)) 16).toArray) ∧ Below w'.heap.size w' w'') := fun w' => mix_any (shF cur) w'
  have HXx : Hid (∀ w', Calls Tryd.prog 52 #[.agg (kb (mixF (shF cur)) 16).toArray, .agg (kb (rkF key (n + 1)) 16).toArray] w' fun en w'' => en = .returned (.agg (kb (xorF (mixF (shF cur)) (rkF key (n + 1))) 16).toArray) ∧ Below w'.heap.size w' w'') := fun w' => xor_any (mixF (shF cur)) (rkF key (n + 1)) w'
  have hLX : ∀ w', w'.rangeAt w.heap.size 0 (kb cur 16) → (LB ⟨w.heap.size, 0, none⟩).run Tryd.prog w' = .ok (.agg (kb cur 16).toArray) w' := fun w' h => run_LB w' _ _ _ h
  have hLK : ∀ w', w'.rangeAt g (256 + (n + 1) * 16) (kb (rkF key (n + 1)) 16) → (LB ⟨g, 256 + (n + 1) * 16, none⟩).run Tryd.prog w' = .ok (.agg (kb (rkF key (n + 1)) 16).toArray) w' := fun w' h => run_LB w' _ _ _ h
  have hSX : ∀ w', w'.there w.heap.size 0 16 → (SB ⟨w.heap.size, 0, none⟩ (.agg (kb (xorF (mixF (shF cur)) (rkF key (n + 1))) 16).toArray)).run Tryd.prog w' = .ok () (w'.setCells w.heap.size 0 (kb (xorF (mixF (shF cur)) (rkF key (n + 1))) 16)) := fun w' h => run_SB w' _ _ _ h
  generalize kb (xorF (mixF (shF cur)) (rkF key (n + 1))) 16 = XX at *
  generalize kb (rkF key (n + 1)) 16 = KK at *
  generalize kb (mixF (shF cur)) 16 = X2 at *
  generalize kb (shF cur) 16 = X1 at *
  generalize kb cur 16 = X0 at *
  have HE : Hid (EI w g key cur wr.drew) := inv.drew
  have S0 := (HS.out _ HE.out).1
  clear inv
  go_region_with (first
      | (go_at_call 54; refine (HXs.out _ (HE.out).rc.boxAt).mono ?_; rintro en v2 ⟨rfl, hc2⟩; have E2 := (HE.out).then hc2; have S2 := (HS.out _ E2).1; clear S0 R0)
      | (go_at_call 53; refine (HXm.out _).mono ?_; rintro en v3 ⟨rfl, hc3⟩; have E3 := (E2).then hc3; have S3 := (HS.out _ E3).1; clear S2)
      | (go_at_call 52; refine (HXx.out _).mono ?_; rintro en v4 ⟨rfl, hc4⟩; have E4 := (E3).then hc4; have S4 := (HS.out _ E4).2; clear S3))
  all_goals (
    have inv := HT.out _ E4
    clear HT HS HXx hSX hLX hLK HE HXs HXm
    clear S4 E4 hc4 E3 hc3 E2 hc2
    generalize hw9 : v4.setCells w.heap.size 0 XX = w9 at *
    clear hw9
    exact NoPanic.normal (hQ _ _ _ _ _ _ _ _ _ _ _ _ inv))
set_option maxHeartbeats 2000000 in
set_option maxRecDepth 20000 in
theorem enc_reg6 {w wr : World} {g : Nat} {key cur : Nat → UInt8} (inv : EI w g key cur wr) (Q : Exit → Act → World → Prop) (c1 c2 c5 c6 c7 c8 c9 c10 c11 c12 c13 c14 c15 c16 c17 c18 c19 c20 c21 c22 c23 c24 c25 c26 c27 c28 c29 c30 c31 c32 c33 c34 c35 c36 : Value)
    (hQ : ∀ (u28 u29 u30 u31 u32 u33 u34 u35 u36 : Value) (w9 : World), EIs1 w g key cur (xorF (shF cur) (rkF key 10)) w9 → Q .normal ⟨#[.pointer (some ⟨g, 0, none⟩), c1, c2, .pointer (some ⟨w.heap.size, 0, none⟩), .pointer (some ⟨w.heap.size + 1, 0, none⟩), c5, c6, c7, c8, c9, c10, c11, c12, c13, c14, c15, c16, c17, c18, c19, c20, c21, c22, c23, c24, c25, c26, c27, u28, u29, u30, u31, u32, u33, u34, u35, u36], []⟩ w9) :
    Code.wp Tryd.prog (regIn 6 Tryd.f33) Q ⟨#[.pointer (some ⟨g, 0, none⟩), c1, c2, .pointer (some ⟨w.heap.size, 0, none⟩), .pointer (some ⟨w.heap.size + 1, 0, none⟩), c5, c6, c7, c8, c9, c10, c11, c12, c13, c14, c15, c16, c17, c18, c19, c20, c21, c22, c23, c24, c25, c26, c27, c28, c29, c30, c31, c32, c33, c34, c35, c36], []⟩ wr := by
  have hg := inv.glt
  conv => arg 2; whnf
  refine wp_region_noPanic ?_
  have HS : Hid (∀ w', EI w g key cur w' → w'.rangeAt g (416) (kb (rkF key 10) 16) ∧ w'.there (w.heap.size + 1) 0 16) := fun w' h => ⟨h.rc.range (by omega) (fun j hj => by first | exact cF_key key 10 (10) j (by omega) hj | (rw [show 416 + j = 256 + 16 * (10) + j by omega]; exact cF_key key 10 (10) j (by omega) hj)), h.b1.there (by omega)⟩
  have HT : Hid (∀ w', EI w g key cur w' → EIs1 w g key cur (xorF (shF cur) (rkF key 10)) (w'.setCells (w.heap.size + 1) 0 (kb (xorF (shF cur) (rkF key 10)) 16))) := fun w' h => h.store1 (xorF (shF cur) (rkF key 10))
  have R0 : wr.drew.rangeAt w.heap.size 0 (kb cur 16) := inv.drew.b0.range (by omega) (fun j hj => by rw [Nat.zero_add])
  have HXs : Hid (∀ w', BoxAt w' g → Calls Tryd.prog 54 #[.pointer (some ⟨g, 0, none⟩), .agg (kb cur 16).toArray] w' fun en w'' => en = .returned (.agg (kb (shF cur) 16).toArray) ∧ Below w'.heap.size w' w'') := fun w' h => shift_any cur g w' h
  have HXx : Hid (∀ w', Calls Tryd.prog 52 #[.agg (kb (shF cur) 16).toArray, .agg (kb (rkF key 10) 16).toArray] w' fun en w'' => en = .returned (.agg (kb (xorF (shF cur) (rkF key 10)) 16).toArray) ∧ Below w'.heap.size w' w'') := fun w' => xor_any (shF cur) (rkF key 10) w'
  have hLX : ∀ w', w'.rangeAt w.heap.size 0 (kb cur 16) → (LB ⟨w.heap.size, 0, none⟩).run Tryd.prog w' = .ok (.agg (kb cur 16).toArray) w' := fun w' h => run_LB w' _ _ _ h
  have hLK : ∀ w', w'.rangeAt g (416) (kb (rkF key 10) 16) → (LB ⟨g, 416, none⟩).run Tryd.prog w' = .ok (.agg (kb (rkF key 10) 16).toArray) w' := fun w' h => run_LB w' _ _ _ h
  have hSX : ∀ w', w'.there (w.heap.size + 1) 0 16 → (SB ⟨(w.heap.size + 1), 0, none⟩ (.agg (kb (xorF (shF cur) (rkF key 10)) 16).toArray)).run Tryd.prog w' = .ok () (w'.setCells (w.heap.size + 1) 0 (kb (xorF (shF cur) (rkF key 10)) 16)) := fun w' h => run_SB w' _ _ _ h
  generalize kb (xorF (shF cur) (rkF key 10)) 16 = XX at *
  generalize kb (rkF key 10) 16 = KK at *
  generalize kb (shF cur) 16 = X1 at *
  generalize kb cur 16 = X0 at *
  have HE : Hid (EI w g key cur wr.drew) := inv.drew
  have S0 := (HS.out _ HE.out).1
  clear inv
  go_region_with (first
      | (go_at_call 54; refine (HXs.out _ (HE.out).rc.boxAt).mono ?_; rintro en v2 ⟨rfl, hc2⟩; have E2 := (HE.out).then hc2; have S2 := (HS.out _ E2).1; clear S0 R0)
      | (go_at_call 52; refine (HXx.out _).mono ?_; rintro en v3 ⟨rfl, hc3⟩; have E3 := (E2).then hc3; have S3 := (HS.out _ E3).2; clear S2))
  all_goals (
    have inv := HT.out _ E3
    clear HT HS HXx hSX hLX hLK HE HXs
    clear S3 E3 hc3 E2 hc2
    generalize hw9 : v3.setCells (w.heap.size + 1) 0 XX = w9 at *
    clear hw9
    exact NoPanic.normal (hQ _ _ _ _ _ _ _ _ _ _ inv))
set_option maxHeartbeats 2000000 in
set_option maxRecDepth 20000 in
theorem encrypt_any (key x : Nat → UInt8) (g : Nat) (w : World) (hr : Row w g (cF key 10) 432 79) : Calls Tryd.prog 33 #[.pointer (some ⟨g, 0, none⟩), .agg (kb x 16).toArray] w fun en w' => en = .returned (.agg (kb (aesF key x) 16).toArray) ∧ Below w.heap.size w w' := by
  have inv := EI.start w g key x hr
  clear hr
  go_enter Tryd.func33, Tryd.ntmps33
  go_upto_region 1 with fail
  try rw [z16_kb]
  generalize (w.alloc (.cells (kb x 16).toArray 55)).alloc (.cells (kb zF 16).toArray 55) = wa at *
  refine enc_reg1 inv _ _ _ _ _ _ _ _ _ _ _ _ _ _ _ _ _ _ _ _ _ _ _ _ _ _ _ _ _ _ _ _ _ _ _ ?_
  clear inv
  intro u6 u7 u8 u9 u10 u11 u12 w9 inv
  have inv : EI w g key (rdF key x 0) w9 := inv
  go_wp2_with fail
  go_loopw [5] (fun i wr => ∃ n : Nat, n ≤ 9 ∧ i = .int .i64 ((n : Int) + 1) ∧ EI w g key (rdF key x n) wr) (fun i _ => (10 - intOf i).toNat)
  case atStart => exact ⟨0, by omega, rfl, inv⟩
  case round =>
    clear inv
    obtain ⟨n, hn, rfl, inv⟩ := hrel
    by_cases hlt : n < 9
    · have i1 : (n : Int) + 1 < 10 := by omega
      have i5 : IntKind.i64.wrap ((n : Int) + 1 + 1) = (n : Int) + 1 + 1 := by rw [IntKind.wrap_i64] <;> omega
      go_upto_region 5 with fail
      refine enc_reg5 hlt inv _ _ _ _ _ _ _ _ _ _ _ _ _ _ _ _ _ _ _ _ _ _ _ _ _ _ _ _ _ _ _ _ _ _ ?_
      clear inv
      intro v17 v18 v19 v20 v21 v22 v23 v24 v25 v26 v27 w8 inv
      have inv : EI w g key (rdF key x (n + 1)) w8 := inv
      go_wp2_with fail
      go_roundw
      case rel => first | exact ⟨n + 1, by omega, by go_num, inv⟩ | ((repeat apply Exists.intro); exact ⟨⟨n + 1, by omega, by go_num, inv⟩, rfl⟩)
      case measure => simp [intOf]; omega
    · obtain rfl : n = 9 := by omega
      go_upto_region 6 with fail
      refine enc_reg6 inv _ _ _ _ _ _ _ _ _ _ _ _ _ _ _ _ _ _ _ _ _ _ _ _ _ _ _ _ _ _ _ _ _ _ _ ?_
      clear inv
      intro v28 v29 v30 v31 v32 v33 v34 v35 v36 w8 inv
      obtain ⟨hbel, hrow⟩ : EIs1 w g key (rdF key x 9) (aesF key x) w8 := inv
      go_wp2_with fail
      unfold Row at hrow
      exact bodyPost_ret (v := .agg (kb (aesF key x) 16).toArray) (results_cell_row rfl _ _ (w.heap.size + 1) 55 _ (0, 0) _ rfl hrow Tryd.underlying55 rfl (sizeKb _)) rfl ⟨rfl, hbel⟩
end Go.Proofs.YtjnbhiamaabbgaaDoor
