/-
  The walk of cofferkeep.Macs.
-/
import Derived.Test.YtjnbhiamaabbgaaDoorKeep
namespace Go.Proofs.YtjnbhiamaabbgaaDoor
open Go.RowKit
theorem st_cut (l : List UInt8) (n : Nat) : (st l).extract 0 n = st (l.take n) := by
  apply ByteArray.ext
  simp [st]
theorem hmac_big (k x : List UInt8) (h : 64 < k.length) : hmac k x = hm1 (sha k) x := by show hm1 (hk k) x = _; unfold hk; rw [if_pos h]
theorem hmac_small (k x : List UInt8) (h : ¬ 64 < k.length) : hmac k x = hm1 k x := by show hm1 (hk k) x = _; unfold hk; rw [if_neg h]
attribute [local go_sem] st_size st_append st_cut
set_option maxHeartbeats 400000 in
set_option maxRecDepth 20000 in
theorem macs1 (k x : List UInt8) (gk : 2000 < k.length) (gx : 2000 < x.length) (w : World) (hT : Tab w) : Calls Tryd.prog 4 #[.string (st k), .string (st x)] w fun en w' => en = .returned (.bool true) ∧ Below w.heap.size w w' := by
  have HT : Hid (Tab w) := hT
  have hw0 := hT.pos
  clear hT
  have lk : (k.take 2000).length ≤ 2000 := by first | omega | (simp; omega)
  have lx : (x.take 2000).length ≤ 2000 := by first | omega | (simp; omega)
  have h1 : (2000 : Int) < (k.length : Nat) := by omega
  have lk2 : (k.take 2000).length = 2000 := by simp; omega
  have h2 : (2000 : Int) < (x.length : Nat) := by omega
  have lx2 : (x.take 2000).length = 2000 := by simp; omega
  have h3 : (64 : Int) < ((k.take 2000).length : Nat) := by omega
  have hs32 := sha_len (k.take 2000)
  have HM : Hid (hmac (k.take 2000) (x.take 2000) = hm1 (sha (k.take 2000)) (x.take 2000)) := hmac_big _ _ (by omega)
  have hm32 := hmac_len (k.take 2000) (x.take 2000)
  have hq : (sha (k.take 2000)).length ≤ 64 := by omega
  have c1 := kc_len (sha (k.take 2000)) 0x36 hq
  have c2 := kc_len (sha (k.take 2000)) 0x5c hq
  have c3 := sha_len (kc (sha (k.take 2000)) 0x36 ++ (x.take 2000))
  have HF : Hid ((k.take 2000).length ≤ 2000 ∧ (sha (k.take 2000)).length ≤ 64) := ⟨lk, hq⟩
  clear gk gx lk hq hs32
  go_enter Tryd.func4, Tryd.ntmps4
  go_wp2_with fail
  refine (fixed_any _ HT.out).mono ?_
  rintro en w1 ⟨rfl, hb1⟩
  have T1 : Hid (Tab w1) := HT.out.below hw0 hb1
  go_wp2_with fail
  refine (Mac_ok (k.take 2000) (x.take 2000) (by have := HF.out.1; omega) (by omega) _ T1.out).mono ?_
  rintro en w2 ⟨rfl, hb2⟩
  have hz1 := hb1.size
  have T2 : Hid (Tab w2) := T1.out.below (by omega) hb2
  have hz2 := hb2.size
  go_wp2_with fail
  refine (Sum_ok (k.take 2000) (by have := HF.out.1; omega) _ T2.out).mono ?_
  rintro en w3 ⟨rfl, hb3⟩
  have T3 : Hid (Tab w3) := T2.out.below (by omega) hb3
  have hz3 := hb3.size
  go_wp2_with fail
  refine (each_any (sha (k.take 2000)) HF.out.2 0x36 54 rfl _).mono ?_
  rintro en w4 ⟨rfl, hb4⟩
  have T4 : Hid (Tab w4) := T3.out.below (by omega) hb4
  have hz4 := hb4.size
  go_wp2_with fail
  refine (Sum_ok (kc (sha (k.take 2000)) 0x36 ++ (x.take 2000)) (by rw [List.length_append]; omega) _ T4.out).mono ?_
  rintro en w5 ⟨rfl, hb5⟩
  have T5 : Hid (Tab w5) := T4.out.below (by omega) hb5
  have hz5 := hb5.size
  go_wp2_with fail
  refine (each_any (sha (k.take 2000)) HF.out.2 0x5c 92 rfl _).mono ?_
  rintro en w6 ⟨rfl, hb6⟩
  have T6 : Hid (Tab w6) := T5.out.below (by omega) hb6
  go_wp2_with fail
  refine (Sum_ok (kc (sha (k.take 2000)) 0x5c ++ sha (kc (sha (k.take 2000)) 0x36 ++ (x.take 2000))) (by rw [List.length_append]; omega) _ T6.out).mono ?_
  rintro en w7 ⟨rfl, hb7⟩
  have hee : sha (kc (sha (k.take 2000)) 0x5c ++ sha (kc (sha (k.take 2000)) 0x36 ++ (x.take 2000))) = hmac (k.take 2000) (x.take 2000) := HM.out.symm
  rw [hee]
  clear hee
  go_wp2_with fail
  go_ret
  exact ⟨rfl, bthen hb1 (bthen hb2 (bthen hb3 (bthen hb4 (bthen hb5 (bthen hb6 hb7)))))⟩
set_option maxHeartbeats 400000 in
set_option maxRecDepth 20000 in
theorem macs2 (k x : List UInt8) (gk : 2000 < k.length) (gx : x.length ≤ 2000) (w : World) (hT : Tab w) : Calls Tryd.prog 4 #[.string (st k), .string (st x)] w fun en w' => en = .returned (.bool true) ∧ Below w.heap.size w w' := by
  have HT : Hid (Tab w) := hT
  have hw0 := hT.pos
  clear hT
  have lk : (k.take 2000).length ≤ 2000 := by first | omega | (simp; omega)
  have lx : (x).length ≤ 2000 := by first | omega | (simp; omega)
  have h1 : (2000 : Int) < (k.length : Nat) := by omega
  have lk2 : (k.take 2000).length = 2000 := by simp; omega
  have h2 : ¬ (2000 : Int) < (x.length : Nat) := by omega
  have h3 : (64 : Int) < ((k.take 2000).length : Nat) := by omega
  have hs32 := sha_len (k.take 2000)
  have HM : Hid (hmac (k.take 2000) (x) = hm1 (sha (k.take 2000)) (x)) := hmac_big _ _ (by omega)
  have hm32 := hmac_len (k.take 2000) (x)
  have hq : (sha (k.take 2000)).length ≤ 64 := by omega
  have c1 := kc_len (sha (k.take 2000)) 0x36 hq
  have c2 := kc_len (sha (k.take 2000)) 0x5c hq
  have c3 := sha_len (kc (sha (k.take 2000)) 0x36 ++ (x))
  have HF : Hid ((k.take 2000).length ≤ 2000 ∧ (sha (k.take 2000)).length ≤ 64) := ⟨lk, hq⟩
  clear gk gx lk hq hs32
  go_enter Tryd.func4, Tryd.ntmps4
  go_wp2_with fail
  refine (fixed_any _ HT.out).mono ?_
  rintro en w1 ⟨rfl, hb1⟩
  have T1 : Hid (Tab w1) := HT.out.below hw0 hb1
  go_wp2_with fail
  refine (Mac_ok (k.take 2000) (x) (by have := HF.out.1; omega) (by omega) _ T1.out).mono ?_
  rintro en w2 ⟨rfl, hb2⟩
  have hz1 := hb1.size
  have T2 : Hid (Tab w2) := T1.out.below (by omega) hb2
  have hz2 := hb2.size
  go_wp2_with fail
  refine (Sum_ok (k.take 2000) (by have := HF.out.1; omega) _ T2.out).mono ?_
  rintro en w3 ⟨rfl, hb3⟩
  have T3 : Hid (Tab w3) := T2.out.below (by omega) hb3
  have hz3 := hb3.size
  go_wp2_with fail
  refine (each_any (sha (k.take 2000)) HF.out.2 0x36 54 rfl _).mono ?_
  rintro en w4 ⟨rfl, hb4⟩
  have T4 : Hid (Tab w4) := T3.out.below (by omega) hb4
  have hz4 := hb4.size
  go_wp2_with fail
  refine (Sum_ok (kc (sha (k.take 2000)) 0x36 ++ (x)) (by rw [List.length_append]; omega) _ T4.out).mono ?_
  rintro en w5 ⟨rfl, hb5⟩
  have T5 : Hid (Tab w5) := T4.out.below (by omega) hb5
  have hz5 := hb5.size
  go_wp2_with fail
  refine (each_any (sha (k.take 2000)) HF.out.2 0x5c 92 rfl _).mono ?_
  rintro en w6 ⟨rfl, hb6⟩
  have T6 : Hid (Tab w6) := T5.out.below (by omega) hb6
  go_wp2_with fail
  refine (Sum_ok (kc (sha (k.take 2000)) 0x5c ++ sha (kc (sha (k.take 2000)) 0x36 ++ (x))) (by rw [List.length_append]; omega) _ T6.out).mono ?_
  rintro en w7 ⟨rfl, hb7⟩
  have hee : sha (kc (sha (k.take 2000)) 0x5c ++ sha (kc (sha (k.take 2000)) 0x36 ++ (x))) = hmac (k.take 2000) (x) := HM.out.symm
  rw [hee]
  clear hee
  go_wp2_with fail
  go_ret
  exact ⟨rfl, bthen hb1 (bthen hb2 (bthen hb3 (bthen hb4 (bthen hb5 (bthen hb6 hb7)))))⟩
set_option maxHeartbeats 400000 in
set_option maxRecDepth 20000 in
theorem macs3 (k x : List UInt8) (gk : k.length ≤ 2000) (gk2 : 64 < k.length) (gx : 2000 < x.length) (w : World) (hT : Tab w) : Calls Tryd.prog 4 #[.string (st k), .string (st x)] w fun en w' => en = .returned (.bool true) ∧ Below w.heap.size w w' := by
  have HT : Hid (Tab w) := hT
  have hw0 := hT.pos
  clear hT
  have lk : (k).length ≤ 2000 := by first | omega | (simp; omega)
  have lx : (x.take 2000).length ≤ 2000 := by first | omega | (simp; omega)
  have h1 : ¬ (2000 : Int) < (k.length : Nat) := by omega
  have h2 : (2000 : Int) < (x.length : Nat) := by omega
  have lx2 : (x.take 2000).length = 2000 := by simp; omega
  have h3 : (64 : Int) < ((k).length : Nat) := by omega
  have hs32 := sha_len (k)
  have HM : Hid (hmac (k) (x.take 2000) = hm1 (sha (k)) (x.take 2000)) := hmac_big _ _ (by omega)
  have hm32 := hmac_len (k) (x.take 2000)
  have hq : (sha (k)).length ≤ 64 := by omega
  have c1 := kc_len (sha (k)) 0x36 hq
  have c2 := kc_len (sha (k)) 0x5c hq
  have c3 := sha_len (kc (sha (k)) 0x36 ++ (x.take 2000))
  have HF : Hid ((k).length ≤ 2000 ∧ (sha (k)).length ≤ 64) := ⟨lk, hq⟩
  clear gk gx lk hq hs32 gk2
  go_enter Tryd.func4, Tryd.ntmps4
  go_wp2_with fail
  refine (fixed_any _ HT.out).mono ?_
  rintro en w1 ⟨rfl, hb1⟩
  have T1 : Hid (Tab w1) := HT.out.below hw0 hb1
  go_wp2_with fail
  refine (Mac_ok (k) (x.take 2000) (by have := HF.out.1; omega) (by omega) _ T1.out).mono ?_
  rintro en w2 ⟨rfl, hb2⟩
  have hz1 := hb1.size
  have T2 : Hid (Tab w2) := T1.out.below (by omega) hb2
  have hz2 := hb2.size
  go_wp2_with fail
  refine (Sum_ok (k) (by have := HF.out.1; omega) _ T2.out).mono ?_
  rintro en w3 ⟨rfl, hb3⟩
  have T3 : Hid (Tab w3) := T2.out.below (by omega) hb3
  have hz3 := hb3.size
  go_wp2_with fail
  refine (each_any (sha (k)) HF.out.2 0x36 54 rfl _).mono ?_
  rintro en w4 ⟨rfl, hb4⟩
  have T4 : Hid (Tab w4) := T3.out.below (by omega) hb4
  have hz4 := hb4.size
  go_wp2_with fail
  refine (Sum_ok (kc (sha (k)) 0x36 ++ (x.take 2000)) (by rw [List.length_append]; omega) _ T4.out).mono ?_
  rintro en w5 ⟨rfl, hb5⟩
  have T5 : Hid (Tab w5) := T4.out.below (by omega) hb5
  have hz5 := hb5.size
  go_wp2_with fail
  refine (each_any (sha (k)) HF.out.2 0x5c 92 rfl _).mono ?_
  rintro en w6 ⟨rfl, hb6⟩
  have T6 : Hid (Tab w6) := T5.out.below (by omega) hb6
  go_wp2_with fail
  refine (Sum_ok (kc (sha (k)) 0x5c ++ sha (kc (sha (k)) 0x36 ++ (x.take 2000))) (by rw [List.length_append]; omega) _ T6.out).mono ?_
  rintro en w7 ⟨rfl, hb7⟩
  have hee : sha (kc (sha (k)) 0x5c ++ sha (kc (sha (k)) 0x36 ++ (x.take 2000))) = hmac (k) (x.take 2000) := HM.out.symm
  rw [hee]
  clear hee
  go_wp2_with fail
  go_ret
  exact ⟨rfl, bthen hb1 (bthen hb2 (bthen hb3 (bthen hb4 (bthen hb5 (bthen hb6 hb7)))))⟩
set_option maxHeartbeats 400000 in
set_option maxRecDepth 20000 in
theorem macs4 (k x : List UInt8) (gk : k.length ≤ 2000) (gk2 : 64 < k.length) (gx : x.length ≤ 2000) (w : World) (hT : Tab w) : Calls Tryd.prog 4 #[.string (st k), .string (st x)] w fun en w' => en = .returned (.bool true) ∧ Below w.heap.size w w' := by
  have HT : Hid (Tab w) := hT
  have hw0 := hT.pos
  clear hT
  have lk : (k).length ≤ 2000 := by first | omega | (simp; omega)
  have lx : (x).length ≤ 2000 := by first | omega | (simp; omega)
  have h1 : ¬ (2000 : Int) < (k.length : Nat) := by omega
  have h2 : ¬ (2000 : Int) < (x.length : Nat) := by omega
  have h3 : (64 : Int) < ((k).length : Nat) := by omega
  have hs32 := sha_len (k)
  have HM : Hid (hmac (k) (x) = hm1 (sha (k)) (x)) := hmac_big _ _ (by omega)
  have hm32 := hmac_len (k) (x)
  have hq : (sha (k)).length ≤ 64 := by omega
  have c1 := kc_len (sha (k)) 0x36 hq
  have c2 := kc_len (sha (k)) 0x5c hq
  have c3 := sha_len (kc (sha (k)) 0x36 ++ (x))
  have HF : Hid ((k).length ≤ 2000 ∧ (sha (k)).length ≤ 64) := ⟨lk, hq⟩
  clear gk gx lk hq hs32 gk2
  go_enter Tryd.func4, Tryd.ntmps4
  go_wp2_with fail
  refine (fixed_any _ HT.out).mono ?_
  rintro en w1 ⟨rfl, hb1⟩
  have T1 : Hid (Tab w1) := HT.out.below hw0 hb1
  go_wp2_with fail
  refine (Mac_ok (k) (x) (by have := HF.out.1; omega) (by omega) _ T1.out).mono ?_
  rintro en w2 ⟨rfl, hb2⟩
  have hz1 := hb1.size
  have T2 : Hid (Tab w2) := T1.out.below (by omega) hb2
  have hz2 := hb2.size
  go_wp2_with fail
  refine (Sum_ok (k) (by have := HF.out.1; omega) _ T2.out).mono ?_
  rintro en w3 ⟨rfl, hb3⟩
  have T3 : Hid (Tab w3) := T2.out.below (by omega) hb3
  have hz3 := hb3.size
  go_wp2_with fail
  refine (each_any (sha (k)) HF.out.2 0x36 54 rfl _).mono ?_
  rintro en w4 ⟨rfl, hb4⟩
  have T4 : Hid (Tab w4) := T3.out.below (by omega) hb4
  have hz4 := hb4.size
  go_wp2_with fail
  refine (Sum_ok (kc (sha (k)) 0x36 ++ (x)) (by rw [List.length_append]; omega) _ T4.out).mono ?_
  rintro en w5 ⟨rfl, hb5⟩
  have T5 : Hid (Tab w5) := T4.out.below (by omega) hb5
  have hz5 := hb5.size
  go_wp2_with fail
  refine (each_any (sha (k)) HF.out.2 0x5c 92 rfl _).mono ?_
  rintro en w6 ⟨rfl, hb6⟩
  have T6 : Hid (Tab w6) := T5.out.below (by omega) hb6
  go_wp2_with fail
  refine (Sum_ok (kc (sha (k)) 0x5c ++ sha (kc (sha (k)) 0x36 ++ (x))) (by rw [List.length_append]; omega) _ T6.out).mono ?_
  rintro en w7 ⟨rfl, hb7⟩
  have hee : sha (kc (sha (k)) 0x5c ++ sha (kc (sha (k)) 0x36 ++ (x))) = hmac (k) (x) := HM.out.symm
  rw [hee]
  clear hee
  go_wp2_with fail
  go_ret
  exact ⟨rfl, bthen hb1 (bthen hb2 (bthen hb3 (bthen hb4 (bthen hb5 (bthen hb6 hb7)))))⟩
set_option maxHeartbeats 400000 in
set_option maxRecDepth 20000 in
theorem macs5 (k x : List UInt8) (gk : k.length ≤ 64) (gx : 2000 < x.length) (w : World) (hT : Tab w) : Calls Tryd.prog 4 #[.string (st k), .string (st x)] w fun en w' => en = .returned (.bool true) ∧ Below w.heap.size w w' := by
  have HT : Hid (Tab w) := hT
  have hw0 := hT.pos
  clear hT
  have lk : (k).length ≤ 2000 := by first | omega | (simp; omega)
  have lx : (x.take 2000).length ≤ 2000 := by first | omega | (simp; omega)
  have h1 : ¬ (2000 : Int) < (k.length : Nat) := by omega
  have h2 : (2000 : Int) < (x.length : Nat) := by omega
  have lx2 : (x.take 2000).length = 2000 := by simp; omega
  have h3 : ¬ (64 : Int) < ((k).length : Nat) := by omega
  have HM : Hid (hmac (k) (x.take 2000) = hm1 (k) (x.take 2000)) := hmac_small _ _ (by omega)
  have hm32 := hmac_len (k) (x.take 2000)
  have hq : (k).length ≤ 64 := by omega
  have c1 := kc_len (k) 0x36 hq
  have c2 := kc_len (k) 0x5c hq
  have c3 := sha_len (kc (k) 0x36 ++ (x.take 2000))
  have HF : Hid ((k).length ≤ 2000 ∧ (k).length ≤ 64) := ⟨lk, hq⟩
  clear gk gx lk hq
  go_enter Tryd.func4, Tryd.ntmps4
  go_wp2_with fail
  refine (fixed_any _ HT.out).mono ?_
  rintro en w1 ⟨rfl, hb1⟩
  have T1 : Hid (Tab w1) := HT.out.below hw0 hb1
  go_wp2_with fail
  refine (Mac_ok (k) (x.take 2000) (by have := HF.out.1; omega) (by omega) _ T1.out).mono ?_
  rintro en w2 ⟨rfl, hb2⟩
  have hz1 := hb1.size
  have T2 : Hid (Tab w2) := T1.out.below (by omega) hb2
  have hz2 := hb2.size
  go_wp2_with fail
  refine (each_any (k) HF.out.2 0x36 54 rfl _).mono ?_
  rintro en w4 ⟨rfl, hb4⟩
  have T4 : Hid (Tab w4) := T2.out.below (by omega) hb4
  have hz4 := hb4.size
  go_wp2_with fail
  refine (Sum_ok (kc (k) 0x36 ++ (x.take 2000)) (by rw [List.length_append]; omega) _ T4.out).mono ?_
  rintro en w5 ⟨rfl, hb5⟩
  have T5 : Hid (Tab w5) := T4.out.below (by omega) hb5
  have hz5 := hb5.size
  go_wp2_with fail
  refine (each_any (k) HF.out.2 0x5c 92 rfl _).mono ?_
  rintro en w6 ⟨rfl, hb6⟩
  have T6 : Hid (Tab w6) := T5.out.below (by omega) hb6
  go_wp2_with fail
  refine (Sum_ok (kc (k) 0x5c ++ sha (kc (k) 0x36 ++ (x.take 2000))) (by rw [List.length_append]; omega) _ T6.out).mono ?_
  rintro en w7 ⟨rfl, hb7⟩
  have hee : sha (kc (k) 0x5c ++ sha (kc (k) 0x36 ++ (x.take 2000))) = hmac (k) (x.take 2000) := HM.out.symm
  rw [hee]
  clear hee
  go_wp2_with fail
  go_ret
  exact ⟨rfl, bthen hb1 (bthen hb2 (bthen hb4 (bthen hb5 (bthen hb6 hb7))))⟩
set_option maxHeartbeats 400000 in
set_option maxRecDepth 20000 in
theorem macs6 (k x : List UInt8) (gk : k.length ≤ 64) (gx : x.length ≤ 2000) (w : World) (hT : Tab w) : Calls Tryd.prog 4 #[.string (st k), .string (st x)] w fun en w' => en = .returned (.bool true) ∧ Below w.heap.size w w' := by
  have HT : Hid (Tab w) := hT
  have hw0 := hT.pos
  clear hT
  have lk : (k).length ≤ 2000 := by first | omega | (simp; omega)
  have lx : (x).length ≤ 2000 := by first | omega | (simp; omega)
  have h1 : ¬ (2000 : Int) < (k.length : Nat) := by omega
  have h2 : ¬ (2000 : Int) < (x.length : Nat) := by omega
  have h3 : ¬ (64 : Int) < ((k).length : Nat) := by omega
  have HM : Hid (hmac (k) (x) = hm1 (k) (x)) := hmac_small _ _ (by omega)
  have hm32 := hmac_len (k) (x)
  have hq : (k).length ≤ 64 := by omega
  have c1 := kc_len (k) 0x36 hq
  have c2 := kc_len (k) 0x5c hq
  have c3 := sha_len (kc (k) 0x36 ++ (x))
  have HF : Hid ((k).length ≤ 2000 ∧ (k).length ≤ 64) := ⟨lk, hq⟩
  clear gk gx lk hq
  go_enter Tryd.func4, Tryd.ntmps4
  go_wp2_with fail
  refine (fixed_any _ HT.out).mono ?_
  rintro en w1 ⟨rfl, hb1⟩
  have T1 : Hid (Tab w1) := HT.out.below hw0 hb1
  go_wp2_with fail
  refine (Mac_ok (k) (x) (by have := HF.out.1; omega) (by omega) _ T1.out).mono ?_
  rintro en w2 ⟨rfl, hb2⟩
  have hz1 := hb1.size
  have T2 : Hid (Tab w2) := T1.out.below (by omega) hb2
  have hz2 := hb2.size
  go_wp2_with fail
  refine (each_any (k) HF.out.2 0x36 54 rfl _).mono ?_
  rintro en w4 ⟨rfl, hb4⟩
  have T4 : Hid (Tab w4) := T2.out.below (by omega) hb4
  have hz4 := hb4.size
  go_wp2_with fail
  refine (Sum_ok (kc (k) 0x36 ++ (x)) (by rw [List.length_append]; omega) _ T4.out).mono ?_
  rintro en w5 ⟨rfl, hb5⟩
  have T5 : Hid (Tab w5) := T4.out.below (by omega) hb5
  have hz5 := hb5.size
  go_wp2_with fail
  refine (each_any (k) HF.out.2 0x5c 92 rfl _).mono ?_
  rintro en w6 ⟨rfl, hb6⟩
  have T6 : Hid (Tab w6) := T5.out.below (by omega) hb6
  go_wp2_with fail
  refine (Sum_ok (kc (k) 0x5c ++ sha (kc (k) 0x36 ++ (x))) (by rw [List.length_append]; omega) _ T6.out).mono ?_
  rintro en w7 ⟨rfl, hb7⟩
  have hee : sha (kc (k) 0x5c ++ sha (kc (k) 0x36 ++ (x))) = hmac (k) (x) := HM.out.symm
  rw [hee]
  clear hee
  go_wp2_with fail
  go_ret
  exact ⟨rfl, bthen hb1 (bthen hb2 (bthen hb4 (bthen hb5 (bthen hb6 hb7))))⟩
theorem Macs_any (k x : List UInt8) (w : World) (hT : Tab w) : Calls Tryd.prog 4 #[.string (st k), .string (st x)] w fun en w' => en = .returned (.bool true) ∧ Below w.heap.size w w' := by
  by_cases h1 : 2000 < k.length <;> by_cases h2 : 2000 < x.length
  · exact macs1 k x h1 h2 w hT
  · exact macs2 k x h1 (by omega) w hT
  · by_cases h3 : 64 < k.length
    · exact macs3 k x (by omega) h3 h2 w hT
    · exact macs5 k x (by omega) h2 w hT
  · by_cases h3 : 64 < k.length
    · exact macs4 k x (by omega) h3 (by omega) w hT
    · exact macs6 k x (by omega) (by omega) w hT
end Go.Proofs.YtjnbhiamaabbgaaDoor
