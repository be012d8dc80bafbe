/-
  prim's Block: the one region that draws its order.
-/
import Derived.Test.YtjnbhiamaabbgaaDoorAesEnc
namespace Go.Proofs.YtjnbhiamaabbgaaDoor
open Go.RowKit
attribute [local go_sem] st_size
attribute [local go_sem ↓] LB_fold SB_fold
theorem range_below {V v : World} {b : Nat} {X : List Value} (hb : Below V.heap.size V v) (h : V.rangeAt b 0 X) : v.rangeAt b 0 X := fun j u hu => by
  have hV := h j u hu
  exact (hb.cell (p := ⟨b, 0 + j, none⟩) (block_lt_of_cell hV)).trans hV
theorem there_below {V v : World} {b n : Nat} (hn : 0 < n) (hb : Below V.heap.size V v) (h : V.there b 0 n) : v.there b 0 n := fun j hj => by
  obtain ⟨u, hu⟩ := Option.isSome_iff_exists.1 (h 0 hn).1
  have hlt : b < V.heap.size := block_lt_of_cell hu
  have hc := hb.cell (p := ⟨b, 0 + j, none⟩) hlt
  have hf := (bcell hb).2 b (0 + j) hlt
  rw [hc, hf]
  exact h j hj
theorem after_below {w V v : World} (hb : Below V.heap.size V v) (h : Below w.heap.size w V) : Below w.heap.size w v := h.trans (hb.mono h.size)
theorem there_alloc (V : World) (f : Nat → UInt8) (t : TypeId) : (V.alloc (.cells (kb f 16).toArray t)).there V.heap.size 0 16 :=
  Row.there (f := f) (n := 16) (t := t) (heap_alloc_new V (.cells (kb f 16).toArray t)) (by omega)
theorem run_arrayAt (W : World) (b cap : Nat) : (Instr.arrayAt 55 (.slice (some ⟨b, 0, none⟩) 16 cap)).run Tryd.prog W = .ok (.pointer (some ⟨b, 0, none⟩)) W := by
  unfold Instr.arrayAt
  simp [Sem.run_bind, run_underlying Tryd.underlying55]
/-- '[]byte(x)' of sixteen bytes: what it makes of a world. -/
theorem bytes16 (x : List UInt8) (hx : x.length = 16) : ∃ (cp : World → Nat) (cw : World → World), (∀ W, (convert 9 37 (.string (st x))).run Tryd.prog W = .ok (.slice (some ⟨W.heap.size, 0, none⟩) 16 (cp W)) (cw W)) ∧ (∀ W, (cw W).rangeAt W.heap.size 0 (kb (fun i => x.getD i 0) 16)) ∧ (∀ W, Below W.heap.size W (cw W)) := by
  refine ⟨fun W => grownCap W 16 0 5, fun W => W.drew.alloc (.cells (bytesRow (st x) (grownCap W 16 0 5)) 5 ((bytesRow (st x) (grownCap W 16 0 5)).size, (bytesRow (st x) (grownCap W 16 0 5)).size + 1)), fun W => ?_, fun W => ?_, fun W => ((Below.refl _ _).drew).alloc (Nat.le_refl _) _⟩
  · have h := run_bytes_of_string (P := Tryd.prog) W 9 37 5 (st x) Tryd.underlying9 Tryd.underlying37 Tryd.underlying5
    rw [st_size, hx] at h
    exact h
  · intro j v hv
    have hj : j < 16 := by have := (List.getElem?_eq_some_iff.1 hv).1; rwa [kb_len] at this
    have hrow := heap_alloc_new W.drew (.cells (bytesRow (st x) (grownCap W 16 0 5)) 5 ((bytesRow (st x) (grownCap W 16 0 5)).size, (bytesRow (st x) (grownCap W 16 0 5)).size + 1))
    rw [Nat.zero_add, ← hv, kb_at _ _ _ hj]
    refine (cell_of_row _ _ _ _ _ _ hrow).trans ?_
    unfold bytesRow
    rw [st_size, hx]
    rw [Array.getElem?_append_left (by simp [st, hx, hj])]
    simp [st, hx, hj, e8]
set_option maxHeartbeats 2000000 in
set_option maxRecDepth 20000 in
theorem block_reg3 {w : World} {k x : List UInt8} (hk : k.length = 16) (hx : x.length = 16) (Q : Exit → Act → World → Prop) (c2 c3 c4 c5 c6 c7 c8 c9 c10 c11 c12 c13 c14 c15 c16 c17 c18 c19 c20 c21 c22 c23 : Value)
    (hQ : ∀ (u15 u16 u17 u18 u19 u20 u21 : Value) (b : Nat) (w9 : World), w.heap.size ≤ b → w9.rangeAt b 0 (kb (aesF (fun i => k.getD i 0) (fun i => x.getD i 0)) 16) → Below w.heap.size w w9 → Q .normal ⟨#[.string (st k), .string (st x), c2, c3, c4, c5, .pointer (some ⟨b, 0, none⟩), c7, c8, c9, c10, c11, c12, c13, c14, u15, u16, u17, u18, u19, u20, u21, c22, c23], []⟩ w9) :
    Code.wp Tryd.prog (regIn 3 Tryd.f17) Q ⟨#[.string (st k), .string (st x), c2, c3, c4, c5, c6, c7, c8, c9, c10, c11, c12, c13, c14, c15, c16, c17, c18, c19, c20, c21, c22, c23], []⟩ w := by
  have HN : Hid (∀ W, Calls Tryd.prog 32 #[.string (st k)] W fun en w' => ∃ g, en = .returned (.pointer (some ⟨g, 0, none⟩)) ∧ W.heap.size ≤ g ∧ Row w' g (cF (fun i => k.getD i 0) 10) 432 79 ∧ Below W.heap.size W w') := fun W => newCipher_any k hk W
  obtain ⟨cp, cw, hcv, hbase, hcb⟩ := bytes16 x hx
  have HE : Hid (∀ g W, Row W g (cF (fun i => k.getD i 0) 10) 432 79 → Calls Tryd.prog 33 #[.pointer (some ⟨g, 0, none⟩), .agg (kb (fun i => x.getD i 0) 16).toArray] W fun en w' => en = .returned (.agg (kb (aesF (fun i => k.getD i 0) (fun i => x.getD i 0)) 16).toArray) ∧ Below W.heap.size W w') := fun g W h => encrypt_any _ _ g W h
  have hLX : ∀ (W : World) b, W.rangeAt b 0 (kb (fun i => x.getD i 0) 16) → (LB ⟨b, 0, none⟩).run Tryd.prog W = .ok (.agg (kb (fun i => x.getD i 0) 16).toArray) W := fun W b h => run_LB W _ _ _ h
  have hSX : ∀ (W : World) b, W.there b 0 16 → (SB ⟨b, 0, none⟩ (.agg (kb (aesF (fun i => k.getD i 0) (fun i => x.getD i 0)) 16).toArray)).run Tryd.prog W = .ok () (W.setCells b 0 (kb (aesF (fun i => k.getD i 0) (fun i => x.getD i 0)) 16)) := fun W b h => run_SB W _ _ _ h
  have HR : Hid (∀ (W : World) b, W.there b 0 16 → (W.setCells b 0 (kb (aesF (fun i => k.getD i 0) (fun i => x.getD i 0)) 16)).rangeAt b 0 (kb (aesF (fun i => k.getD i 0) (fun i => x.getD i 0)) 16)) := fun W b h => World.rangeAt_setCells_same W b 0 _ (by rw [kb_len]; exact h)
  generalize kb (aesF (fun i => k.getD i 0) (fun i => x.getD i 0)) 16 = XX at *
  generalize kb (fun i => x.getD i 0) 16 = X at *
  generalize (fun i => k.getD i 0) = key at *
  have hsp := run_arrayAt
  have K1 : ∀ (W : World) b, W.rangeAt b 0 X → (cw W).rangeAt b 0 X := fun W b h => range_below (hcb W) h
  have K2 : ∀ (W : World) b Z, W.rangeAt b 0 X → (W.alloc Z).rangeAt b 0 X := fun W b Z h => range_below ((Below.refl _ _).alloc (Nat.le_refl _) Z) h
  have T1 : ∀ (W : World) b, W.there b 0 16 → (cw W).there b 0 16 := fun W b h => there_below (by decide) (hcb W) h
  have tbase : ∀ W : World, (W.alloc (.cells #[.int .u8 0, .int .u8 0, .int .u8 0, .int .u8 0, .int .u8 0, .int .u8 0, .int .u8 0, .int .u8 0, .int .u8 0, .int .u8 0, .int .u8 0, .int .u8 0, .int .u8 0, .int .u8 0, .int .u8 0, .int .u8 0] 55)).there W.heap.size 0 16 := fun W => there_alloc W zF 55
  have W1 : ∀ (W : World) g, Row W g (cF key 10) 432 79 → Row (cw W) g (cF key 10) 432 79 := fun W g h => h.below (hcb W) (block_lt_of_cell (h.cell (k := 0) (by decide)))
  have W2 : ∀ (W : World) g Z, Row W g (cF key 10) 432 79 → Row (W.alloc Z) g (cF key 10) 432 79 := fun W g Z h => h.below ((Below.refl _ _).alloc (Nat.le_refl _) Z) (block_lt_of_cell (h.cell (k := 0) (by decide)))
  have b0 : Below w.heap.size w w.drew := (Below.refl _ _).drew
  have B1 : ∀ W, Below w.heap.size w W → Below w.heap.size w (cw W) := fun W h => h.trans ((hcb W).mono h.size)
  have B2 : ∀ W Z, Below w.heap.size w W → Below w.heap.size w (W.alloc Z) := fun W Z h => h.alloc h.size Z
  have Z1 : ∀ W, W.heap.size ≤ (cw W).heap.size := fun W => (hcb W).size
  have Z2 : ∀ (W : World) Z, W.heap.size ≤ (W.alloc Z).heap.size := fun W Z => by simp
  have HH1 : Hid (∀ (W : World) b, W.rangeAt b 0 X → (cw W).rangeAt b 0 X) := K1
  have HH2 : Hid (∀ (W : World) b Z, W.rangeAt b 0 X → (W.alloc Z).rangeAt b 0 X) := K2
  have HT1 : Hid (∀ (W : World) b, W.there b 0 16 → (cw W).there b 0 16) := T1
  have HT2 : Hid (∀ (W : World) b Z, W.there b 0 16 → (W.alloc Z).there b 0 16) := fun W b Z h => there_below (by decide) ((Below.refl _ _).alloc (Nat.le_refl _) Z) h
  have HTb : Hid (∀ W : World, (W.alloc (.cells #[.int .u8 0, .int .u8 0, .int .u8 0, .int .u8 0, .int .u8 0, .int .u8 0, .int .u8 0, .int .u8 0, .int .u8 0, .int .u8 0, .int .u8 0, .int .u8 0, .int .u8 0, .int .u8 0, .int .u8 0, .int .u8 0] 55)).there W.heap.size 0 16) := tbase
  have HW1 : Hid (∀ (W : World) g, Row W g (cF key 10) 432 79 → Row (cw W) g (cF key 10) 432 79) := W1
  have HW2 : Hid (∀ (W : World) g Z, Row W g (cF key 10) 432 79 → Row (W.alloc Z) g (cF key 10) 432 79) := W2
  have HBd : Hid (∀ W, Below w.heap.size w W → Below w.heap.size w W.drew) := fun W h => h.drew
  have HHd : Hid (∀ (W : World) b, W.rangeAt b 0 X → W.drew.rangeAt b 0 X) := fun W b h => h
  have HTd : Hid (∀ (W : World) b, W.there b 0 16 → W.drew.there b 0 16) := fun W b h => h
  have HWd : Hid (∀ (W : World) g, Row W g (cF key 10) 432 79 → Row W.drew g (cF key 10) 432 79) := fun W g h => h
  have HBr : Hid (Below w.heap.size w w) := Below.refl _ _
  have HB0 : Hid (Below w.heap.size w w.drew) := b0
  have HB3 : Hid (∀ Z, Below w.heap.size w (w.alloc Z).drew) := fun Z => ((Below.refl _ _).alloc (Nat.le_refl _) Z).drew
  have HB1 : Hid (∀ W, Below w.heap.size w W → Below w.heap.size w (cw W)) := B1
  have HB2 : Hid (∀ W Z, Below w.heap.size w W → Below w.heap.size w (W.alloc Z)) := B2
  have HBs : Hid (∀ W : World, (cw W).rangeAt W.heap.size 0 X) := hbase
  have HBs0 : Hid ((cw w.drew).rangeAt w.heap.size 0 X) := hbase w.drew
  have HBs2 : Hid (∀ (W : World) Z, (cw (W.alloc Z)).rangeAt (W.heap.size + 1) 0 X) := fun W Z => by have h := hbase (W.alloc Z); rwa [show (W.alloc Z).heap.size = W.heap.size + 1 by simp] at h
  have HBs3 : Hid (∀ Z, (cw (w.alloc Z).drew).rangeAt (w.heap.size + 1) 0 X) := fun Z => by have h := hbase (w.alloc Z).drew; rwa [show (w.alloc Z).drew.heap.size = w.heap.size + 1 by show (w.alloc Z).heap.size = _; simp] at h
  have HLX : Hid (∀ (W : World) b, W.rangeAt b 0 X → (LB ⟨b, 0, none⟩).run Tryd.prog W = .ok (.agg X.toArray) W) := hLX
  have HSX : Hid (∀ (W : World) b, W.there b 0 16 → (SB ⟨b, 0, none⟩ (.agg XX.toArray)).run Tryd.prog W = .ok () (W.setCells b 0 XX)) := hSX
  clear K1 K2 T1 tbase W1 W2 b0 B1 B2 Z1 Z2 hbase hLX hSX hcb
  conv => arg 2; whnf
  refine wp_region_noPanic ?_
  try rw [z16_kb]
  go_region_with (first
    | (go_at_call 32; refine (HN.out _).mono ?_; rintro en v ⟨g, rfl, hg, rowv, hb3⟩; have K3 : Hid (∀ b, World.rangeAt _ b 0 X → v.rangeAt b 0 X) := fun b h => range_below hb3 h; have T3 : Hid (∀ b, World.there _ b 0 16 → v.there b 0 16) := fun b h => there_below (by decide) hb3 h; have R3v : Hid (Row v g (cF key 10) 432 79) := rowv; have B3 : Hid (Below w.heap.size w v) := after_below hb3 (by (with_reducible (first | exact HB0.out | exact HB1.out _ HB0.out | exact HB3.out _ | exact HB1.out _ (HB3.out _) | exact HB2.out _ _ (HB1.out _ HB0.out)))); clear rowv hb3)
    | (go_at_call 33; refine (HE.out _ _ (by (with_reducible (first | exact R3v.out | exact HW1.out _ _ (R3v.out) | exact HW2.out _ _ _ (R3v.out) | exact HW1.out _ _ (HW2.out _ _ _ (R3v.out)) | exact HW2.out _ _ _ (HW1.out _ _ (R3v.out)))))).mono ?_; rintro en v4 ⟨rfl, hb4⟩; have T4 : Hid (∀ b, World.there _ b 0 16 → v4.there b 0 16) := fun b h => there_below (by decide) hb4 h; have B4 : Hid (Below w.heap.size w v4) := after_below hb4 (by (with_reducible (first | exact B3.out | exact HB1.out _ (B3.out) | exact HB2.out _ _ (B3.out) | exact HB1.out _ (HB2.out _ _ (B3.out)) | exact HB2.out _ _ (HB1.out _ (B3.out))))); clear hb4)
    | (rw [HLX.out]; rotate_left 1; (first | (with_reducible (first | exact HBs.out _ | exact HH2.out _ _ _ (HBs.out _) | exact HBs0.out | exact HH2.out _ _ _ (HBs0.out) | exact HBs2.out _ _ | exact HH2.out _ _ _ (HBs2.out _ _) | exact HBs3.out _ | exact HH2.out _ _ _ (HBs3.out _))) | (with_reducible (first | exact K3.out _ (HBs.out _) | exact K3.out _ (HH2.out _ _ _ (HBs.out _)) | exact HH2.out _ _ _ (K3.out _ (HBs.out _)) | exact K3.out _ (HBs0.out) | exact K3.out _ (HH2.out _ _ _ (HBs0.out)) | exact HH2.out _ _ _ (K3.out _ (HBs0.out)) | exact K3.out _ (HBs2.out _ _) | exact K3.out _ (HH2.out _ _ _ (HBs2.out _ _)) | exact HH2.out _ _ _ (K3.out _ (HBs2.out _ _)) | exact K3.out _ (HBs3.out _) | exact K3.out _ (HH2.out _ _ _ (HBs3.out _)) | exact HH2.out _ _ _ (K3.out _ (HBs3.out _))))); go_simp)
    | (rw [HSX.out]; rotate_left 1; (with_reducible (first | exact HTb.out _ | exact T4.out _ (HTb.out _) | exact T4.out _ (HT1.out _ _ (HTb.out _)) | exact T4.out _ (T3.out _ (HTb.out _)) | exact T4.out _ (HT1.out _ _ (T3.out _ (HTb.out _))) | exact T4.out _ (T3.out _ (HT1.out _ _ (HTb.out _))) | exact T4.out _ (HTd.out _ _ (HTb.out _)) | exact T4.out _ (HT1.out _ _ (HTd.out _ _ (HTb.out _))) | exact T4.out _ (T3.out _ (HTd.out _ _ (HTb.out _))) | exact T4.out _ (HT1.out _ _ (T3.out _ (HTd.out _ _ (HTb.out _)))) | exact T4.out _ (T3.out _ (HT1.out _ _ (HTd.out _ _ (HTb.out _)))))); go_simp))
  all_goals exact NoPanic.normal (hQ _ _ _ _ _ _ _ _ _ (by (with_reducible (first | exact Nat.le_refl _ | exact (HB1.out _ HB0.out).size | exact B3.out.size | exact (HB1.out _ B3.out).size | exact B4.out.size))) (HR.out _ _ (by (with_reducible (first | exact HTb.out _ | exact T4.out _ (HTb.out _) | exact T4.out _ (HT1.out _ _ (HTb.out _)) | exact T4.out _ (T3.out _ (HTb.out _)) | exact T4.out _ (HT1.out _ _ (T3.out _ (HTb.out _))) | exact T4.out _ (T3.out _ (HT1.out _ _ (HTb.out _))) | exact T4.out _ (HTd.out _ _ (HTb.out _)) | exact T4.out _ (HT1.out _ _ (HTd.out _ _ (HTb.out _))) | exact T4.out _ (T3.out _ (HTd.out _ _ (HTb.out _))) | exact T4.out _ (HT1.out _ _ (T3.out _ (HTd.out _ _ (HTb.out _)))) | exact T4.out _ (T3.out _ (HT1.out _ _ (HTd.out _ _ (HTb.out _)))))))) (setCells_below (by (with_reducible (first | exact Nat.le_refl _ | exact (HB1.out _ HB0.out).size | exact B3.out.size | exact (HB1.out _ B3.out).size | exact B4.out.size))) _ _ _ (by (with_reducible (first | exact B4.out | exact HB2.out _ _ B4.out)))))
end Go.Proofs.YtjnbhiamaabbgaaDoor
