/- Folded bytes as plain words. Conditions: none. -/
import Derived.Test.YtmimffbjghhdhaaDoorBase
namespace Go.FoldW
open Go.Bs

/-- what the first i bytes whose place is k, or k and a multiple of size, are unlike in. -/
def col (bs : List UInt8) (size k : Nat) : Nat → UInt8
  | 0 => 0
  | i + 1 => if i % size = k then col bs size k i ^^^ bs.getD i 0 else col bs size k i
def foldL (bs : List UInt8) (size : Nat) : List UInt8 := (List.range size).map fun k => col bs size k bs.length
theorem foldL_length (bs : List UInt8) (size : Nat) : (foldL bs size).length = size := by simp [foldL]
theorem foldL_getD (bs : List UInt8) (size k : Nat) (h : k < size) : (foldL bs size).getD k 0 = col bs size k bs.length := by simp [foldL, List.getD, h]

theorem col_hit (bs : List UInt8) (size k i : Nat) (h : i % size = k) : col bs size k (i + 1) = col bs size k i ^^^ bs.getD i 0 := by rw [col, if_pos h]
theorem col_miss (bs : List UInt8) (size k i : Nat) (h : ¬ i % size = k) : col bs size k (i + 1) = col bs size k i := by rw [col, if_neg h]
/-- ahead of the first place nothing is gathered; between two places, too. -/
theorem col_gap (bs : List UInt8) (size k i : Nat) : ∀ d, (∀ j, j < d → ¬ (i + j) % size = k) → col bs size k (i + d) = col bs size k i
  | 0, _ => rfl
  | d + 1, h => by
    rw [← Nat.add_assoc, col_miss bs size k (i + d) (h d (by omega))]
    exact col_gap bs size k i d fun j hj => h j (by omega)
theorem col_first (bs : List UInt8) (size k : Nat) (hk : k < size) : col bs size k k = 0 := by
  have := col_gap bs size k 0 k fun j hj => by rw [Nat.zero_add, Nat.mod_eq_of_lt (by omega)]; omega
  rw [Nat.zero_add] at this
  exact this
theorem mod_hit {size k t : Nat} (hk : k < size) : (k + size * t) % size = k := by
  rw [Nat.add_mul_mod_self_left, Nat.mod_eq_of_lt hk]
theorem mod_miss {size k t j : Nat} (hk : k < size) (hj : j + 1 < size) : ¬ (k + size * t + 1 + j) % size = k := by
  intro h
  have h1 : (k + size * t + 1 + j) % size = (k + 1 + j) % size := by
    rw [show k + size * t + 1 + j = k + 1 + j + size * t by omega, Nat.add_mul_mod_self_left]
  rw [h1] at h
  rcases Nat.lt_or_ge (k + 1 + j) size with h2 | h2
  · rw [Nat.mod_eq_of_lt h2] at h; omega
  · rw [Nat.mod_eq_sub_mod h2, Nat.mod_eq_of_lt (by omega)] at h; omega
/-- from one place of k to the next. -/
theorem col_next (bs : List UInt8) (size k t : Nat) (hk : k < size) : col bs size k (k + size * (t + 1)) = col bs size k (k + size * t) ^^^ bs.getD (k + size * t) 0 := by
  rw [← col_hit bs size k (k + size * t) (mod_hit hk), Nat.mul_succ, show k + (size * t + size) = k + size * t + 1 + (size - 1) by omega]
  exact col_gap bs size k (k + size * t + 1) (size - 1) fun j hj => mod_miss hk (by omega)
/-- behind the end nothing comes any more. -/
theorem col_past (bs : List UInt8) (size k i : Nat) (h : bs.length ≤ i) : col bs size k i = col bs size k bs.length := by
  obtain ⟨d, rfl⟩ : ∃ d, i = bs.length + d := ⟨i - bs.length, by omega⟩
  induction d with
  | zero => rfl
  | succ d ih =>
    rw [← Nat.add_assoc, col]
    have e : bs.getD (bs.length + d) 0 = 0 := by simp [List.getD, List.getElem?_eq_none (show bs.length ≤ bs.length + d by omega)]
    rw [e, UInt8.xor_zero, ih (by omega)]
    split <;> rfl
theorem xor_swap (a b c d : UInt8) : (a ^^^ b) ^^^ (c ^^^ d) = (a ^^^ c) ^^^ (b ^^^ d) := by
  rw [UInt8.xor_assoc, ← UInt8.xor_assoc b, UInt8.xor_comm b c, UInt8.xor_assoc c, ← UInt8.xor_assoc]
theorem col_xor (as bs cs : List UInt8) (size k : Nat) (h : ∀ j, cs.getD j 0 = as.getD j 0 ^^^ bs.getD j 0) : ∀ i, col cs size k i = col as size k i ^^^ col bs size k i
  | 0 => by simp [col]
  | i + 1 => by
    rw [col, col, col, col_xor as bs cs size k h i, h i]
    split
    · exact xor_swap _ _ _ _
    · rfl
/-- a row behind one of a multiple of the size. -/
theorem col_app (as bs : List UInt8) (size k : Nat) (h : as.length % size = 0) : ∀ i, col (as ++ bs) size k (as.length + i) = col as size k as.length ^^^ col bs size k i
  | 0 => by
    have : ∀ i, i ≤ as.length → col (as ++ bs) size k i = col as size k i := by
      intro i
      induction i with
      | zero => intro _; rfl
      | succ i ih =>
        intro hi
        rw [col, col, ih (by omega)]
        have e : (as ++ bs).getD i 0 = as.getD i 0 := by simp [List.getD, List.getElem?_append_left (show i < as.length by omega)]
        rw [e]
    rw [Nat.add_zero, this _ (Nat.le_refl _), col, UInt8.xor_zero]
  | i + 1 => by
    have e1 : (as.length + i) % size = i % size := by rw [Nat.add_mod, h, Nat.zero_add, Nat.mod_mod]
    have e2 : (as ++ bs).getD (as.length + i) 0 = bs.getD i 0 := by simp [List.getD, List.getElem?_append_right (show as.length ≤ as.length + i by omega)]
    rw [← Nat.add_assoc, col, col, e1, e2, col_app as bs size k h i]
    split
    · rw [UInt8.xor_assoc]
    · rfl
theorem foldL_xor (as bs cs : List UInt8) (size k : Nat) (hk : k < size) (h1 : as.length = bs.length) (h2 : cs.length = as.length) (h : ∀ j, cs.getD j 0 = as.getD j 0 ^^^ bs.getD j 0) :
    (foldL cs size).getD k 0 = (foldL as size).getD k 0 ^^^ (foldL bs size).getD k 0 := by
  rw [foldL_getD _ _ _ hk, foldL_getD _ _ _ hk, foldL_getD _ _ _ hk, col_xor as bs cs size k h, h2, h1]
theorem foldL_app (as bs : List UInt8) (size k : Nat) (hk : k < size) (h : as.length % size = 0) : (foldL (as ++ bs) size).getD k 0 = (foldL as size).getD k 0 ^^^ (foldL bs size).getD k 0 := by
  rw [foldL_getD _ _ _ hk, foldL_getD _ _ _ hk, foldL_getD _ _ _ hk, List.length_append, col_app as bs size k h]
/-- to as many bytes, or more: the row itself. -/
theorem col_short (bs : List UInt8) (size k : Nat) (hk : k < bs.length) (h : bs.length ≤ size) : col bs size k bs.length = bs.getD k 0 := by
  have h1 : col bs size k (k + 1) = bs.getD k 0 := by
    rw [col_hit bs size k k (Nat.mod_eq_of_lt (by omega)), col_first bs size k (by omega), UInt8.zero_xor]
  rw [← h1, show bs.length = k + 1 + (bs.length - (k + 1)) by omega]
  exact col_gap bs size k (k + 1) _ fun j hj => by rw [Nat.mod_eq_of_lt (by omega)]; omega
theorem foldL_short (bs : List UInt8) (size : Nat) (h : bs.length ≤ size) : (foldL bs size).take bs.length = bs := by
  apply List.ext_getElem
  · simp [foldL_length]; omega
  · intro i h1 h2
    rw [List.getElem_take]
    have := foldL_getD bs size i (by omega)
    rw [col_short bs size i h2 h] at this
    simpa [List.getD, foldL_length, List.getElem?_eq_getElem h2, List.getElem?_eq_getElem (show i < (foldL bs size).length by rw [foldL_length]; omega)] using this
theorem fold_one (x y : UInt8) : foldL [x, y] 1 = [x ^^^ y] := by simp [foldL, col, List.range_succ]
end Go.FoldW
