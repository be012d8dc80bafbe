/-
  The tree of hashes, in plain words: rows of hashes against halves.
-/
import Derived.Test.YtjnbhiamaabbgaaDoorAbc
namespace Go.Proofs.YtjnbhiamaabbgaaDoor
/-- A node: the hash of a mark and of two hashes. -/
def node (a b : List UInt8) : List UInt8 := sha (1 :: (a ++ b))
/-- A leaf: the hash of a mark and of a part. -/
def leaf (p : List UInt8) : List UInt8 := sha (0 :: p)
/-- The row above: two by two; one that is left over goes up as it is. -/
def above : List (List UInt8) → List (List UInt8)
  | a :: b :: r => node a b :: above r
  | l => l
def up : Nat → List (List UInt8) → List (List UInt8)
  | 0, l => l
  | k + 1, l => up k (above l)
/-- The root of parts. -/
def rootL (ps : List (List UInt8)) : List UInt8 := if ps = [] then sha [] else (up 8 (ps.map leaf)).headD []
theorem above_len : ∀ l : List (List UInt8), (above l).length = (l.length + 1) / 2
  | [] => rfl
  | [_] => by simp [above]
  | _ :: _ :: r => by simp only [above, List.length_cons, above_len r]; omega
theorem above_append : ∀ a b : List (List UInt8), a.length % 2 = 0 → above (a ++ b) = above a ++ above b
  | [], b, _ => rfl
  | [_], _, h => by simp at h
  | x :: y :: r, b, h => by
    have h' : r.length % 2 = 0 := by simp only [List.length_cons] at h; omega
    simp only [List.cons_append, above, above_append r b h']
theorem up_one (x : List UInt8) : ∀ k, up k [x] = [x]
  | 0 => rfl
  | k + 1 => up_one x k
theorem up_add : ∀ (j k : Nat) (l : List (List UInt8)), up (j + k) l = up k (up j l)
  | 0, k, l => by rw [Nat.zero_add]; rfl
  | j + 1, k, l => by rw [Nat.add_right_comm]; exact up_add j k (above l)
/-- Enough rows: one hash is left. -/
theorem up_single : ∀ (k : Nat) (l : List (List UInt8)), 0 < l.length → l.length ≤ 2 ^ k → ∃ x, up k l = [x]
  | 0, l, h0, h1 => by
    match l, h0, h1 with
    | [x], _, _ => exact ⟨x, rfl⟩
    | _ :: _ :: _, _, h => simp at h
  | k + 1, l, h0, h1 => by
    have hl := above_len l
    rw [Nat.pow_succ] at h1
    exact up_single k (above l) (by omega) (by omega)
/-- Where the first part is a power of two the rows go up side by side. -/
theorem up_append : ∀ (k : Nat) (a b : List (List UInt8)), a.length = 2 ^ k → up k (a ++ b) = up k a ++ up k b
  | 0, _, _, _ => rfl
  | k + 1, a, b, h => by
    have h2 : a.length % 2 = 0 := by rw [h, Nat.pow_succ]; omega
    have hl := above_len a
    rw [h, Nat.pow_succ] at hl
    show up k (above (a ++ b)) = up k (above a) ++ up k (above b)
    rw [above_append a b h2]
    exact up_append k (above a) (above b) (by omega)
theorem up_more {k j : Nat} {l : List (List UInt8)} {x : List UInt8} (h : up k l = [x]) (hk : k ≤ j) : up j l = [x] := by
  obtain ⟨d, rfl⟩ := Nat.exists_eq_add_of_le hk
  rw [up_add, h, up_one]
theorem rootL_one (p : List UInt8) : rootL [p] = leaf p := by
  rw [rootL, if_neg (by simp)]
  simp [up_one]
theorem rootL_nil : rootL [] = sha [] := rfl
theorem rootL_of {ps : List (List UInt8)} {k : Nat} {x : List UInt8} (h : up k (ps.map leaf) = [x]) (hk : k ≤ 8) (hne : ps ≠ []) : rootL ps = x := by
  rw [rootL, if_neg hne, up_more h hk]; rfl
/-- The root of more than one part is the node of the root of the first ones, a power of two, and of the root of the others. -/
theorem rootL_split (a b : List (List UInt8)) (k : Nat) (hk : k < 8) (ha : a.length = 2 ^ k) (hb0 : 0 < b.length) (hb : b.length ≤ 2 ^ k) : rootL (a ++ b) = node (rootL a) (rootL b) := by
  have hp : 0 < 2 ^ k := Nat.two_pow_pos k
  obtain ⟨x, hx⟩ := up_single k (a.map leaf) (by simp; omega) (by simp; omega)
  obtain ⟨y, hy⟩ := up_single k (b.map leaf) (by simp; omega) (by simp; omega)
  have hm : up k ((a ++ b).map leaf) = [x, y] := by
    rw [List.map_append, up_append k _ _ (by simp; omega), hx, hy]; rfl
  have h1 : up (k + 1) ((a ++ b).map leaf) = [node x y] := by rw [up_add, hm]; rfl
  have ea : a ≠ [] := by intro h; rw [h] at ha; simp at ha; omega
  have eb : b ≠ [] := by intro h; rw [h] at hb0; simp at hb0
  rw [rootL_of h1 (by omega) (by simp [ea]), rootL_of hx (by omega) ea, rootL_of hy (by omega) eb]
theorem up_len32 {l : List (List UInt8)} (h : ∀ x ∈ l, x.length = 32) : ∀ x ∈ above l, x.length = 32 := by
  match l, h with
  | [], h => exact h
  | [_], h => exact h
  | a :: b :: r, h =>
    intro x hx
    simp only [above, List.mem_cons] at hx
    rcases hx with rfl | hx
    · exact sha_len _
    · exact up_len32 (l := r) (fun y hy => h y (by simp [hy])) x hx
theorem up_all32 : ∀ (k : Nat) (l : List (List UInt8)), (∀ x ∈ l, x.length = 32) → ∀ x ∈ up k l, x.length = 32
  | 0, _, h => h
  | k + 1, _, h => up_all32 k _ (up_len32 h)
theorem leafs32 (ps : List (List UInt8)) : ∀ x ∈ ps.map leaf, x.length = 32 := fun y hy => by
  simp only [List.mem_map] at hy
  obtain ⟨p, _, rfl⟩ := hy
  exact sha_len _
theorem up_succ : ∀ (k : Nat) (l : List (List UInt8)), up (k + 1) l = above (up k l)
  | 0, _ => rfl
  | k + 1, l => up_succ k (above l)
theorem up_len : ∀ (k : Nat) (l : List (List UInt8)), (up k l).length ≤ l.length
  | 0, _ => Nat.le_refl _
  | k + 1, l => by
    have h := up_len k (above l)
    have h2 := above_len l
    show (up k (above l)).length ≤ l.length
    omega
theorem rootL_any {ps : List (List UInt8)} {j : Nat} {x : List UInt8} (h : up j (ps.map leaf) = [x]) (hl : ps.length ≤ 256) (hne : ps ≠ []) : rootL ps = x := by
  have h0 : 0 < ps.length := by cases ps <;> simp_all
  obtain ⟨y, hy⟩ := up_single 8 (ps.map leaf) (by simpa using h0) (by simpa using hl)
  rw [rootL_of hy (by omega) hne]
  have a := up_more h (Nat.le_max_left j 8)
  have b := up_more hy (Nat.le_max_right j 8)
  rw [a] at b
  exact (List.cons.inj b).1.symm
theorem rootL_len (ps : List (List UInt8)) (h : ps.length ≤ 256) : (rootL ps).length = 32 := by
  by_cases e : ps = []
  · rw [e, rootL_nil, sha_len]
  · have h0 : 0 < ps.length := by cases ps <;> simp_all
    obtain ⟨x, hx⟩ := up_single 8 (ps.map leaf) (by simpa using h0) (by simpa using h)
    rw [rootL_of hx (by omega) e]
    have all : ∀ (k : Nat) (l : List (List UInt8)), (∀ x ∈ l, x.length = 32) → ∀ x ∈ up k l, x.length = 32 := by
      intro k
      induction k with
      | zero => intro l h; exact h
      | succ k ih => intro l h; exact ih _ (up_len32 h)
    exact all 8 (ps.map leaf) (fun y hy => by simp only [List.mem_map] at hy; obtain ⟨p, _, rfl⟩ := hy; exact sha_len _) x (by rw [hx]; simp)
end Go.Proofs.YtjnbhiamaabbgaaDoor
