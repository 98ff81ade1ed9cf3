/- Noughts ahead of digits. Conditions: none. -/
import Derived.Test.YtkkanhbcmdokcaaNum
namespace Go.Bs
theorem leN_zeros : ∀ j, leN (zeros j) = 0
  | 0 => rfl
  | j + 1 => by
    have : zeros (j + 1) = 0 :: zeros j := by simp [zeros, List.replicate_succ]
    rw [this, leN, leN_zeros j]; rfl
theorem leN_more (j : Nat) : ∀ xs : List UInt8, leN (xs ++ zeros j) = leN xs
  | [] => by rw [List.nil_append, leN_zeros]; rfl
  | b :: r => by rw [List.cons_append, leN, leN, leN_more j r]
theorem encD_lead (m N : Nat) (h : N < 32 ^ m) : ∀ j, encD (m + j) N = List.replicate j 48 ++ encD m N
  | 0 => by simp
  | j + 1 => by
    have hlt : N < 32 ^ (m + j) := Nat.lt_of_lt_of_le h (Nat.pow_le_pow_right (by omega) (by omega))
    rw [← Nat.add_assoc, encD, encD_lead m N h j, Nat.div_eq_of_lt hlt, List.replicate_succ]
    rfl
theorem encL_more (xs : List UInt8) (k : Nat) : encL (xs ++ zeros (5 * k)) = List.replicate (8 * k) 48 ++ encL xs := by
  unfold encL
  rw [leN_more, List.length_append, zeros_length, show nDig (xs.length + 5 * k) = nDig xs.length + 8 * k by unfold nDig; omega, encD_lead _ _ (leN_lt_digs xs)]
theorem digit_all : ∀ i : Fin 256, (0 ≤ v32 (UInt8.ofNat i.val)) ↔ ((48 ≤ i.val ∧ i.val ≤ 57) ∨ (97 ≤ i.val ∧ i.val ≤ 122 ∧ i.val ≠ 101 ∧ i.val ≠ 111 ∧ i.val ≠ 116 ∧ i.val ≠ 117)) := by decide +kernel
theorem digit_iff (c : UInt8) : (0 ≤ v32 c) ↔ ((48 ≤ c.toNat ∧ c.toNat ≤ 57) ∨ (97 ≤ c.toNat ∧ c.toNat ≤ 122 ∧ c.toNat ≠ 101 ∧ c.toNat ≠ 111 ∧ c.toNat ≠ 116 ∧ c.toNat ≠ 117)) := by
  have := digit_all ⟨c.toNat, c.toNat_lt⟩
  rwa [ofNat_toNat] at this
/-- with one digit that is none a text is none's. -/
theorem bad_digit (l : List UInt8) (c : UInt8) (hc : c ∈ l) (h : ¬ 0 ≤ v32 c) : encL (decL l) ≠ l := fun hg => h (((good_iff l).1 hg).2.1 c hc)
end Go.Bs
