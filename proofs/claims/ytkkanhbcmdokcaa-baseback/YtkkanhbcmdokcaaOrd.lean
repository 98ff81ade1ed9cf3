/- Digits rise as numbers do. Conditions: none. -/
import Derived.Test.YtkkanhbcmdokcaaNum
namespace Go.Bs
theorem dig_lt_all : ∀ i j : Fin 32, decide (dig i.val < dig j.val) = decide (i.val < j.val) ∧ (dig i.val == dig j.val) = decide (i.val = j.val) := by decide +kernel
theorem dig_less (p q : Nat) (hp : p < 32) (hq : q < 32) : decide (dig p < dig q) = decide (p < q) := (dig_lt_all ⟨p, hp⟩ ⟨q, hq⟩).1
theorem dig_beq (p q : Nat) (hp : p < 32) (hq : q < 32) : (dig p == dig q) = decide (p = q) := (dig_lt_all ⟨p, hp⟩ ⟨q, hq⟩).2

theorem less_encD (N M : Nat) : ∀ m, Op.bytesLess (encD m N) (encD m M) = decide (N % 32 ^ m < M % 32 ^ m)
  | 0 => by simp [encD, Op.bytesLess, Nat.mod_one]
  | m + 1 => by
    have hp : N / 32 ^ m % 32 < 32 := Nat.mod_lt _ (by omega)
    have hq : M / 32 ^ m % 32 < 32 := Nat.mod_lt _ (by omega)
    have h1 : N % 32 ^ m < 32 ^ m := Nat.mod_lt _ (pos32 m)
    have h2 : M % 32 ^ m < 32 ^ m := Nat.mod_lt _ (pos32 m)
    rw [encD, encD, Op.bytesLess, dig_less _ _ hp hq, dig_beq _ _ hp hq, less_encD N M m, Nat.pow_succ, Nat.mod_mul, Nat.mod_mul]
    generalize N / 32 ^ m % 32 = p at *
    generalize M / 32 ^ m % 32 = q at *
    generalize N % 32 ^ m = x at *
    generalize M % 32 ^ m = y at *
    generalize 32 ^ m = P at *
    rcases Nat.lt_trichotomy p q with h | h | h
    · have h3 : P * (p + 1) ≤ P * q := Nat.mul_le_mul_left _ h
      rw [Nat.mul_add, Nat.mul_one] at h3
      simp [h]
      omega
    · subst h
      simp
    · have h3 : P * (q + 1) ≤ P * p := Nat.mul_le_mul_left _ h
      rw [Nat.mul_add, Nat.mul_one] at h3
      have h4 : ¬ p < q := by omega
      have h5 : ¬ p = q := by omega
      simp [h4, h5]
      omega

theorem less_encL (a b : List UInt8) (h : a.length = b.length) : Op.bytesLess (encL a) (encL b) = decide (leN a < leN b) := by
  rw [encL, encL, h, less_encD, Nat.mod_eq_of_lt (leN_lt_digs b), Nat.mod_eq_of_lt (by have := leN_lt_digs a; rwa [h] at this)]

theorem leN_inj (a b : List UInt8) (h : a.length = b.length) (he : leN a = leN b) : a = b := by
  rw [← byteL_leN a, ← byteL_leN b, h, he]
theorem beq_encL (a b : List UInt8) : (encL a == encL b) = decide (a = b) := by
  by_cases h : a = b
  · subst h; simp
  · have : encL a ≠ encL b := fun e => h (encL_inj e)
    simp [h, this]

theorem leN_cut (l : List UInt8) (i : Nat) : leN l = leN (l.take i) + 256 ^ i * leN (l.drop i) := by
  induction i generalizing l with
  | zero => simp [leN]
  | succ i ih =>
    cases l with
    | nil => simp [leN]
    | cons b r =>
      rw [List.take_succ_cons, List.drop_succ_cons, leN, leN, ih r, Nat.pow_succ, Nat.mul_add]
      rw [Nat.mul_comm (256 ^ i) 256, Nat.mul_assoc, Nat.add_assoc]
/-- the highest byte that is unlike tells. -/
theorem leN_first (a b : List UInt8) (n i : Nat) (ha : a.length = n) (hb : b.length = n) (hi : i < n) (x y : UInt8) (hx : a.getD i 0 = x) (hy : b.getD i 0 = y) (hd : a.drop (i + 1) = b.drop (i + 1)) (hne : x ≠ y) :
    decide (leN a < leN b) = decide (x.toNat < y.toNat) ∧ leN a ≠ leN b := by
  have e1 := leN_cut a i
  have e2 := leN_cut b i
  have d1 : a.drop i = x :: a.drop (i + 1) := by rw [List.drop_eq_getElem_cons (show i < a.length by omega), ← hx, getD_get _ _ (by omega)]
  have d2 : b.drop i = y :: a.drop (i + 1) := by rw [List.drop_eq_getElem_cons (show i < b.length by omega), ← hy, getD_get _ _ (by omega), hd]
  have l1 : leN (a.take i) < 256 ^ i := leN_take_lt a i
  have l2 : leN (b.take i) < 256 ^ i := leN_take_lt b i
  have hnat : x.toNat ≠ y.toNat := fun e => hne (UInt8.toNat_inj.1 e)
  rw [d1, leN, Nat.mul_add] at e1
  rw [d2, leN, Nat.mul_add] at e2
  rw [e1, e2]
  generalize leN (a.take i) = p at *
  generalize leN (b.take i) = q at *
  generalize 256 ^ i * (256 * leN (a.drop (i + 1))) = z at *
  generalize 256 ^ i = P at *
  rcases Nat.lt_or_gt_of_ne hnat with h | h
  · have h3 : P * (x.toNat + 1) ≤ P * y.toNat := Nat.mul_le_mul_left _ h
    rw [Nat.mul_add, Nat.mul_one] at h3
    exact ⟨by simp [h]; omega, by omega⟩
  · have h3 : P * (y.toNat + 1) ≤ P * x.toNat := Nat.mul_le_mul_left _ h
    rw [Nat.mul_add, Nat.mul_one] at h3
    have h4 : ¬ x.toNat < y.toNat := by omega
    exact ⟨by simp [h4]; omega, by omega⟩
end Go.Bs
