/-
  How a list of calls reads: each has six cells, its texts lie in memory.
-/
import Derived.Test.YtjnbhiamaabbgaaDoorHashesWalk
import Derived.Lib.LaidTab
import Derived.SliceStrings
import Derived.SizedLaws
import Derived.WideShapes
namespace Go.Proofs.YtjnbhiamaabbgaaDoor
open Go.RowKit
open Go.ChangeShapes Go.WideShapes
set_option maxRecDepth 20000 in
theorem cellsT9 : Tryd.prog.cellsOf 9 = 1 := by kernel_rfl
set_option maxRecDepth 20000 in
theorem cellsT3 : Tryd.prog.cellsOf 3 = 1 := by kernel_rfl
set_option maxRecDepth 20000 in
theorem cellsT26 : Tryd.prog.cellsOf 26 = 1 := by kernel_rfl
set_option maxRecDepth 20000 in
theorem cellsT28 : Tryd.prog.cellsOf 28 = 6 := by kernel_rfl
set_option maxRecDepth 20000 in
theorem bytesT9 : Tryd.prog.bytesOf 9 = 16 := by kernel_rfl
set_option maxRecDepth 20000 in
theorem weights_all {H : Type} {P : Program} {e : TypeId} : ∀ {l : List (DataW H)} {d : DataW H}, d ∈ l → ∀ n ∈ d.weights P e, n ∈ DataW.weightsAll P e l
  | [], _, h, _, _ => by simp at h
  | x :: r, d, h, n, hn => by
    rw [DataW.weightsAll, List.mem_append]
    rcases List.mem_cons.1 h with rfl | h
    · exact .inl hn
    · exact .inr (weights_all h n hn)
set_option maxRecDepth 20000 in
theorem cells_at {w : World} {base : Nat} {a : Addr} {n : Nat} {cs : List Value} (h : w.cells? base a n = some cs) (i : Nat) (hi : i < n) : ∃ v, cs[i]? = some v ∧ w.cell? (a.add i) = some v := by
  unfold World.cells? at h
  split at h
  · obtain ⟨b, hb, hf⟩ := Lib.mapM_at h i i (by simp [hi])
    exact ⟨b, hb, hf⟩
  · cases h
set_option maxRecDepth 20000 in
/-- A slice of texts as it was read. -/
theorem open_texts {H : Type} {enc : TypeId × Value → H} {W : World} {fuel : Nat} {cs : List Value} {x : DataW H × List MemPlace}
    (hf : DataW.trod enc Tryd.prog W 0 (fun _ => true) true fuel 26 cs = some x) (hw : ∀ n ∈ x.1.weights Tryd.prog 26, n ≤ reachBytes) :
    ∃ v P, cs = [v] ∧ SL2 W v P ∧ P.length * 16 ≤ 140737488351232 := by
  rcases open_strings Tryd.underlying26 Tryd.underlying9 cellsT9 hf with ⟨hcs, _⟩ | ⟨a, len, cap, ss, hcs, _, hl, hm, hz, hx, hcell, _⟩
  · exact ⟨_, [], hcs, ⟨none, 0, rfl, by simp, fun h => by simp at h⟩, by simp⟩
  · have hzl : ss.length = cap := by simpa using hz
    have hPl : ((ss.take len).map fun s => s.data.toList).length = len := by simp; omega
    refine ⟨_, (ss.take len).map fun s => s.data.toList, hcs, ⟨some a, cap, by rw [hPl], by rw [hPl]; exact hl, fun h0 => ?_⟩, ?_⟩
    · rw [hPl] at h0
      obtain ⟨b, off, spot⟩ := a
      have hspot : spot = none := by simpa [Addr.add] using World.cell?_spot (hcell 0 (by omega))
      subst hspot
      refine ⟨b, off, rfl, fun j hj => ?_⟩
      rw [hPl] at hj
      have hc := hcell j (by omega)
      rw [Go.WideShapes.add_plain] at hc
      rw [hc]
      have hjs : j < ss.length := by omega
      simp [List.getD, hjs, st_bl]
    · rw [hPl]
      have h := hw (((strs (H := H) (ss.take len)).length + (strs (H := H) (ss.drop len)).length) * Tryd.prog.bytesOf 9) (by rw [hx]; simp [DataW.weights, Tryd.underlying26])
      rw [bytesT9] at h
      simp only [strs, List.length_map, List.length_take, List.length_drop, reachBytes] at h
      omega
set_option maxRecDepth 20000 in
/-- One call as it was read. -/
theorem open_call {H : Type} {enc : TypeId × Value → H} {W : World} {fuel : Nat} {a : Addr} {cs : List Value} {x : DataW H × List MemPlace}
    (hc : W.cells? 0 a 6 = some cs) (hf : DataW.trod enc Tryd.prog W 0 (fun _ => true) true fuel 28 cs = some x) (hw : ∀ n ∈ x.1.weights Tryd.prog 28, n ≤ reachBytes) :
    ∃ g off d, a = ⟨g, off, none⟩ ∧ At W g off d ∧ Good W d := by
  obtain ⟨v0, e0, m0⟩ := cells_at hc 0 (by decide)
  obtain ⟨v1, e1, m1⟩ := cells_at hc 1 (by decide)
  obtain ⟨v2, e2, m2⟩ := cells_at hc 2 (by decide)
  obtain ⟨v3, e3, m3⟩ := cells_at hc 3 (by decide)
  obtain ⟨v4, e4, m4⟩ := cells_at hc 4 (by decide)
  obtain ⟨v5, e5, m5⟩ := cells_at hc 5 (by decide)
  obtain ⟨xs, n, _, rfl, hl, hlen, hfs⟩ := DataW.trod_struct Tryd.underlying28 hf
  rw [cellsT28] at hl
  match cs, hl with
  | [u0, u1, u2, u3, u4, u5], _ =>
    match xs, hlen with
    | [x0, x1, x2, x3, x4, x5], _ =>
      have f0 := hfs 0 _ rfl
      have f1 := hfs 1 _ rfl
      have f2 := hfs 2 _ rfl
      have f3 := hfs 3 _ rfl
      have f4 := hfs 4 _ rfl
      have f5 := hfs 5 _ rfl
      simp only [List.getElem?_cons_zero, List.getElem?_cons_succ] at f0 f1 f2 f3 f4 f5
      simp only [List.getElem?_cons_zero, List.getElem?_cons_succ, Option.some.injEq] at e0 e1 e2 e3 e4 e5
      obtain ⟨k, hk, _, _⟩ := DataW.trod_int Tryd.underlying3 f0
      obtain ⟨nn, hn, _, _⟩ := DataW.trod_int Tryd.underlying3 f1
      obtain ⟨s2, h2, _, _⟩ := DataW.trod_string Tryd.underlying9 f2
      obtain ⟨s3, h3, _, _⟩ := DataW.trod_string Tryd.underlying9 f3
      obtain ⟨s4, h4, _, _⟩ := DataW.trod_string Tryd.underlying9 f4
      have hw5 : ∀ m ∈ x5.1.weights Tryd.prog 26, m ≤ reachBytes := by
        intro m hm
        refine hw m ?_
        show m ∈ DataW.weights Tryd.prog 28 (.agg _)
        rw [DataW.weights, Tryd.underlying28]
        exact DataW.weights_mem_each (j := 5) (t := 26) (d := x5.1) rfl rfl m hm
      obtain ⟨v, P, h5, hS, hr⟩ := open_texts f5 hw5
      cases hk; cases hn; cases h2; cases h3; cases h4; cases h5
      subst e0; subst e1; subst e2; subst e3; subst e4; subst e5
      obtain ⟨g, off, spot⟩ := a
      have hspot : spot = none := by simpa [Addr.add] using World.cell?_spot m0
      subst hspot
      rw [Go.WideShapes.add_plain] at m0 m1 m2 m3 m4 m5
      exact ⟨g, off, ⟨k, nn, s2.data.toList, s3.data.toList, s4.data.toList, _, P⟩, rfl, ⟨m0, m1, m2, m3, m4, m5⟩, hS, hr⟩
set_option maxRecDepth 20000 in
/-- A slice of calls as it was read. -/
theorem open_calls {H : Type} {enc : TypeId × Value → H} {W : World} {fuel : Nat} {a0 : Option Addr} {len cap : Nat} {x : DataW H × List MemPlace}
    (hf : DataW.trod enc Tryd.prog W 0 (fun _ => true) true fuel 22 (Value.slice a0 len cap).cells.toList = some x) (hw : ∀ n ∈ x.1.weights Tryd.prog 22, n ≤ reachBytes) : ∃ D, CL W (.slice a0 len cap) D := by
  have hf' : DataW.trod enc Tryd.prog W 0 (fun _ => true) true fuel 22 [Value.slice a0 len cap] = some x := hf
  rcases DataW.trod_slice Tryd.underlying22 hf' with ⟨hcs, _⟩ | ⟨a, len', cap', elems, rest, n, _, hcs, hx, _, hl, hm, hlen, hel, _, _⟩
  · cases hcs
    exact ⟨[], none, 0, rfl, by simp, fun i h => by simp at h⟩
  · cases hcs
    have elem : ∀ i, i < len → ∃ g off d, a.add (i * 6) = ⟨g, off, none⟩ ∧ At W g off d ∧ Good W d := by
      intro i hi
      have hb := hel i hi
      have hie : i < elems.length := by omega
      rw [cellsT28, List.getElem?_eq_getElem hie, Option.bind_eq_some_iff] at hb
      obtain ⟨cs, hcs, hy⟩ := hb
      exact open_call hcs hy (fun m hm => hw m (by
        rw [hx]
        show m ∈ DataW.weights Tryd.prog 22 (.slice _ _)
        rw [DataW.weights, Tryd.underlying22]
        refine List.mem_cons_of_mem _ (List.mem_append_left _ (weights_all (d := elems[i].1) ?_ m hm))
        exact List.mem_map_of_mem (List.getElem_mem hie)))
    have each : ∀ i, i < len → ∃ d, (∃ g off, some a = some ⟨g, off, none⟩ ∧ At W g (off + i * 6) d) ∧ Good W d := by
      intro i hi
      obtain ⟨g0, o0, _, h0, _, _⟩ := elem 0 (by omega)
      rw [Nat.zero_mul] at h0
      have h0 : a = ⟨g0, o0, none⟩ := by simpa [Addr.add] using h0
      subst h0
      obtain ⟨g, off, d, ha, hat, hg⟩ := elem i hi
      rw [Go.WideShapes.add_plain] at ha
      cases ha
      exact ⟨d, ⟨_, _, rfl, hat⟩, hg⟩
    refine ⟨List.ofFn fun i : Fin len => Classical.choose (each i i.2), some a, cap, by rw [List.length_ofFn], by rw [List.length_ofFn]; omega, fun i hi => ?_⟩
    rw [List.length_ofFn] at hi
    rw [List.getElem_ofFn]
    exact Classical.choose_spec (each i hi)
end Go.Proofs.YtjnbhiamaabbgaaDoor
