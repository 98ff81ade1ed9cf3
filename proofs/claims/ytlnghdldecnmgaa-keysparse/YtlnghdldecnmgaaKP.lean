/- The document's reading, in memory. Conditions: none. -/
import Derived.Test.YtlnghdldecnmgaaKM
import Derived.Test.YtlnghdldecnmgaaKO
import Derived.Test.YtlnghdldecnmgaaKT
import Derived.StillTailTactics
set_option maxRecDepth 8000
set_option linter.unusedSimpArgs false
set_option linter.unusedVariables false
namespace Go.Kx
open Go.RowKit Go.Bs
/-- what the document's reading tells. -/
def RParE (l : List UInt8) (e : Ending) : Prop := match parseF l with
  | some k => e = .returned (.tuple #[k.val, .bool true])
  | none => e = .returned (.tuple #[(noneK 0).val, .bool false])
theorem ix_eq_all : ∀ b : Fin 256, ∀ i : Fin 10, (letters.getD i.val 0 = UInt8.ofNat b.val) ↔ ix letters (UInt8.ofNat b.val) = (i.val : Int) := by decide +kernel
theorem ix_eq (x : UInt8) (i : Nat) (hi : i < 10) : (letters.getD i 0 = x) ↔ ix letters x = (i : Int) := by
  have := ix_eq_all ⟨x.toNat, x.toNat_lt⟩ ⟨i, hi⟩
  simpa using this
/-- the kind as far as the letters have been gone through. -/
def kdTo (x : UInt8) (i : Nat) : Int := if 0 ≤ ix letters x ∧ ix letters x + 1 < i then ix letters x + 1 else 0
theorem kdTo_yes (x : UInt8) (i : Nat) (h1 : 1 ≤ i) (hi : i ≤ 10) (h : letters.getD (i - 1) 0 = x) : kdTo x (i + 1) = (i : Int) := by
  have := (ix_eq x (i - 1) (by omega)).1 h
  unfold kdTo
  rw [if_pos (by omega)]
  omega
theorem kdTo_no (x : UInt8) (i : Nat) (h1 : 1 ≤ i) (hi : i ≤ 10) (h : letters.getD (i - 1) 0 ≠ x) : kdTo x (i + 1) = kdTo x i := by
  have := mt (ix_eq x (i - 1) (by omega)).2 h
  unfold kdTo
  by_cases c : 0 ≤ ix letters x ∧ ix letters x + 1 < (i : Int)
  · rw [if_pos c, if_pos (by omega)]
  · rw [if_neg c, if_neg (by omega)]
theorem kdTo_all (x : UInt8) : kdTo x 11 = ix letters x + 1 := by
  unfold kdTo
  rcases ix_bd letters x with h | h
  · have : letters.length = 10 := rfl
    by_cases h0 : 0 ≤ ix letters x
    · rw [if_pos (by omega)]
    · rw [if_neg (by omega)]; omega
  · rw [if_neg (by omega)]; omega
theorem refR_n2 {l : List UInt8} (h : l.length < 3) : refR 2 l = none := by unfold refR; rw [if_pos rfl, if_pos h]
theorem refR_n3 {l : List UInt8} (h : l.length < 5) : refR 3 l = none := by unfold refR; rw [if_neg (by decide), if_pos rfl, if_pos h]
theorem refR_n4 {l : List UInt8} (h : l.length < 3) : refR 4 l = none := by unfold refR; rw [if_neg (by decide), if_neg (by decide), if_pos rfl, if_pos h]
theorem refR_n6 {l : List UInt8} (h : zat l = l.length) : refR 6 l = none := by unfold refR; rw [if_neg (by decide), if_neg (by decide), if_neg (by decide), if_pos (by decide), if_pos h]
theorem refR_n7 {l : List UInt8} (h : zat l = l.length) : refR 7 l = none := by unfold refR; rw [if_neg (by decide), if_neg (by decide), if_neg (by decide), if_pos (by decide), if_pos h]
theorem refR_n9 {l : List UInt8} (h : zat l = l.length ∨ l.length - zat l < 4) : refR 9 l = none := by unfold refR; rw [if_neg (by decide), if_neg (by decide), if_neg (by decide), if_neg (by decide), if_pos rfl, if_pos h]
theorem refR_2 {l : List UInt8} (h : ¬ l.length < 3) : refR 2 l = some ⟨2, [], [], (beN (l.take 3) : Nat), 0⟩ := by unfold refR; rw [if_pos rfl, if_neg h]
theorem refR_3 {l : List UInt8} (h : ¬ l.length < 5) : refR 3 l = some ⟨3, [], [], (beN (l.take 3) : Nat), ((256 * (l.getD 3 0).toNat + (l.getD 4 0).toNat : Nat) : Int)⟩ := by unfold refR; rw [if_neg (by decide), if_pos rfl, if_neg h]
theorem refR_4 {l : List UInt8} (h : ¬ l.length < 3) : refR 4 l = some ⟨4, l.drop 3, [], (beN (l.take 3) : Nat), 0⟩ := by unfold refR; rw [if_neg (by decide), if_neg (by decide), if_pos rfl, if_neg h]
theorem refR_6 {l : List UInt8} (h : ¬ zat l = l.length) : refR 6 l = some ⟨6, l.take (zat l), l.drop (zat l + 1), 0, 0⟩ := by unfold refR; rw [if_neg (by decide), if_neg (by decide), if_neg (by decide), if_pos (by decide), if_neg h]
theorem refR_7 {l : List UInt8} (h : ¬ zat l = l.length) : refR 7 l = some ⟨7, l.take (zat l), l.drop (zat l + 1), 0, 0⟩ := by unfold refR; rw [if_neg (by decide), if_neg (by decide), if_neg (by decide), if_pos (by decide), if_neg h]
theorem refR_9 {l : List UInt8} (h : ¬ (zat l = l.length ∨ l.length - zat l < 4)) : refR 9 l = some ⟨9, l.take (zat l), [], (beN ((l.drop (zat l + 1)).take 3) : Nat), 0⟩ := by unfold refR; rw [if_neg (by decide), if_neg (by decide), if_neg (by decide), if_neg (by decide), if_pos rfl, if_neg h]
theorem five_cells {w : World} {g t : Nat} {a b c d e : Value} (h : w.heap[g]? = some (.cells #[a, b, c, d, e] t (0, 0))) : w.cell? ⟨g, 0, none⟩ = some a ∧ w.cell? ⟨g, 1, none⟩ = some b ∧ w.cell? ⟨g, 2, none⟩ = some c ∧ w.cell? ⟨g, 3, none⟩ = some d ∧ w.cell? ⟨g, 4, none⟩ = some e :=
  ⟨by rw [cell_of_row w g _ _ t (0, 0) h]; rfl, by rw [cell_of_row w g _ _ t (0, 0) h]; rfl, by rw [cell_of_row w g _ _ t (0, 0) h]; rfl, by rw [cell_of_row w g _ _ t (0, 0) h]; rfl, by rw [cell_of_row w g _ _ t (0, 0) h]; rfl⟩
theorem set_far {w : World} {z h i : Nat} {k : Ky} (H : KyAt w z k) (v : Value) (hz : z ≠ h) : KyAt (w.setCell ⟨h, i, none⟩ v) z k := (Below.heap_setCell w ⟨h, i, none⟩ v z hz).trans H
theorem set_size (w : World) (a : Addr) (v : Value) : (w.setCell a v).heap.size = w.heap.size := by simp [World.setCell]
theorem set5_row {w : World} {z : Nat} {k : Ky} (h : KyAt w z k) (a b c d e : Value) : (((((w.setCell ⟨z, 0, none⟩ a).setCell ⟨z, 1, none⟩ b).setCell ⟨z, 2, none⟩ c).setCell ⟨z, 3, none⟩ d).setCell ⟨z, 4, none⟩ e).heap[z]? = some (.cells #[a, b, c, d, e] 23 (0, 0)) := by
  have := row_setT (i := 4) (row_setT (i := 3) (row_setT (i := 2) (row_setT (i := 1) (row_setT (i := 0) h a) b) c) d) e
  simpa [Ky.cells] using this
end Go.Kx
