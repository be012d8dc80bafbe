/-
  cofferkeep's bytes and sized.
-/
import Derived.Test.YtjnbhiamaabbgaaBase
namespace Go.Proofs.Ytjnbhiamaabbgaa
open Go.RowKit
attribute [local go_sem] st_size st_append
def byL (a n : Nat) : List UInt8 := (List.range n).map fun i => UInt8.ofNat (a + i)
theorem byL_len (a n : Nat) : (byL a n).length = n := by simp [byL]
theorem byL_next (a n : Nat) : byL a (n + 1) = byL a n ++ [UInt8.ofNat (a + n)] := by simp [byL, List.range_succ]
set_option maxHeartbeats 1000000 in
set_option maxRecDepth 20000 in
theorem bytes_any (a n : Nat) (h : a + n ≤ 1000) (aa nn : Int) (ea : aa = (a : Int)) (en : nn = (n : Int)) (w : World) : Calls Try.prog 7 #[.int .i64 aa, .int .i64 nn] w fun e w' => e = .returned (.string (st (byL a n))) ∧ Below w.heap.size w w' := by
  subst ea en
  go_enter Try.func7, Try.ntmps7
  go_wp2
  go_loopw [5, 6] (fun v i wr => ∃ k : Nat, k ≤ n ∧ i = .int .i64 k ∧ v = .string (st (byL a k)) ∧ Below w.heap.size w wr) (fun _ i _ => ((n : Int) - intOf i).toNat)
  case atStart => exact ⟨0, by omega, rfl, rfl, Below.refl _ _⟩
  case round =>
    obtain ⟨k, hk, rfl, rfl, hb⟩ := hrel
    by_cases hlt : k < n
    · have i1 : (k : Int) < (n : Int) := by omega
      have hl := byL_len a k
      have HN : Hid (byL a (k + 1) = byL a k ++ [UInt8.ofNat (a + k)]) := byL_next a k
      have hone := one_text
      obtain ⟨v, hv⟩ : ∃ v, UInt8.ofNat (a + k) = v := ⟨_, rfl⟩
      have e1 : IntKind.i64.wrap ((a : Int) + (k : Int)) = (a : Int) + (k : Int) := by rw [IntKind.wrap_i64] <;> omega
      have e2 : IntKind.u8.wrap ((a : Int) + (k : Int)) = (v.toNat : Int) := by
        rw [← hv]; simp [IntKind.wrap, IntKind.bits, IntKind.signed]
      rw [hv] at HN
      clear hv
      generalize byL a k = X at *
      go_wp2
      go_roundw
      case rel => exact ⟨k + 1, by omega, by go_num, by rw [HN.out], hb.alloc hb.size _⟩
      case measure => simp [intOf]; omega
    · obtain rfl : k = n := by omega
      have i1 : ¬ (k : Int) < (k : Int) := by omega
      go_wp2
      go_ret
      exact ⟨rfl, hb⟩
theorem st_cut (l : List UInt8) (n : Nat) : (st l).extract 0 n = st (l.take n) := by
  apply ByteArray.ext
  simp [st]
attribute [local go_sem] st_cut
/-- A text of just n bytes: cut, or with bytes 0 behind it. -/
def szL (s : List UInt8) (n : Nat) : List UInt8 := (s ++ List.replicate (n - s.length) 0).take n
theorem szL_len (s : List UInt8) (n : Nat) : (szL s n).length = n := by simp [szL]; omega
set_option maxHeartbeats 1000000 in
set_option maxRecDepth 20000 in
theorem sized_any (s : List UInt8) (n : Nat) (hn : n ≤ 100) (nn : Int) (en : nn = (n : Int)) (w : World) : Calls Try.prog 4 #[.string (st s), .int .i64 nn] w fun e w' => e = .returned (.string (st (szL s n))) ∧ Below w.heap.size w w' := by
  subst en
  go_enter Try.func4, Try.ntmps4
  go_wp2
  go_loopw [0] (fun v wr => ∃ k : Nat, (k = 0 ∨ s.length + k ≤ n) ∧ v = .string (st (s ++ List.replicate k 0)) ∧ Below w.heap.size w wr) (fun v _ => match v with | .string b => n - b.size | _ => 0)
  case atStart => exact ⟨0, Or.inl rfl, by simp, Below.refl _ _⟩
  case round =>
    obtain ⟨k, hk, rfl, hb⟩ := hrel
    have hl : (s ++ List.replicate k 0).length = s.length + k := by simp
    have HN : Hid (s ++ List.replicate (k + 1) 0 = (s ++ List.replicate k 0) ++ [0]) := by
      show _ = _
      rw [List.append_assoc]; congr 1; rw [← List.replicate_succ']
    have HE : Hid (¬ s.length + k < n → (s ++ List.replicate k 0).take n = szL s n) := fun h => by
      unfold szL
      by_cases h0 : s.length ≤ n
      · have : k = n - s.length := by omega
        rw [this]
      · have h1 : k = 0 := by omega
        have h2 : n - s.length = 0 := by omega
        rw [h1, h2]
    by_cases hlt : s.length + k < n
    · have i1 : ((s.length : Nat) : Int) + (k : Int) < (n : Int) := by omega
      generalize s ++ List.replicate k 0 = X at *
      have i2 : ((X.length : Nat) : Int) < (n : Int) := by omega
      go_wp2
      go_roundw
      case rel => exact ⟨k + 1, Or.inr (by omega), by rw [HN.out]; rfl, hb⟩
      case measure => first | (show n - (st (X ++ [0])).size < n - (st X).size; rw [st_size, st_size, List.length_append]; simp; omega) | (simp; omega)
    · have HE' := HE.out hlt
      have HX : Hid ((s ++ List.replicate k 0).take n = szL s n) := HE'
      clear HE' HE HN
      generalize s ++ List.replicate k 0 = X at *
      have i2 : ¬ ((X.length : Nat) : Int) < (n : Int) := by omega
      have i3 : (n : Int) ≤ ((X.length : Nat) : Int) := by omega
      have i4 : (0 : Int) ≤ (n : Int) := by omega
      go_wp2
      go_ret
      exact ⟨by rw [← HX.out]; rfl, hb⟩
end Go.Proofs.Ytjnbhiamaabbgaa
