/- Digits of words: plain words. Conditions: none. -/
import Derived.Test.YtmimffbjghhdhaaDoorSha
namespace Go.Sha

theorem bit_eq (x i : Nat) : x / 2 ^ i % 2 = (x.testBit i).toNat := (Nat.toNat_testBit x i).symm
theorem xor3_bit (a b c i : Nat) : (a ^^^ b ^^^ c) / 2 ^ i % 2 = (a / 2 ^ i + b / 2 ^ i + c / 2 ^ i) % 2 := by
  have h1 := bit_eq a i
  have h2 := bit_eq b i
  have h3 := bit_eq c i
  have h4 := bit_eq (a ^^^ b ^^^ c) i
  rw [Nat.testBit_xor, Nat.testBit_xor] at h4
  rw [h4]
  clear h4
  generalize a.testBit i = p at h1 ⊢
  generalize b.testBit i = q at h2 ⊢
  generalize c.testBit i = r at h3 ⊢
  cases p <;> cases q <;> cases r <;> simp only [Bool.toNat_true, Bool.toNat_false, Bool.xor_false, Bool.xor_true, Bool.not_true, Bool.not_false] at h1 h2 h3 ⊢ <;> omega
theorem ch_bit (e f g i : Nat) (he : e < 4294967296) (hi : i < 32) : ch e f g / 2 ^ i % 2 = if e / 2 ^ i % 2 = 1 then f / 2 ^ i % 2 else g / 2 ^ i % 2 := by
  have h1 := bit_eq e i
  have h2 := bit_eq f i
  have h3 := bit_eq g i
  have h4 := bit_eq (ch e f g) i
  have h5 : (4294967295 - e).testBit i = !e.testBit i := by
    have := Nat.testBit_two_pow_sub_succ (n := 32) (x := e) he i
    rw [show 2 ^ 32 - (e + 1) = 4294967295 - e by omega] at this
    rw [this]
    simp [hi]
  unfold ch at h4
  rw [Nat.testBit_xor, Nat.testBit_and, Nat.testBit_and, h5] at h4
  unfold ch
  rw [h4, h1, h2, h3]
  cases e.testBit i <;> cases f.testBit i <;> cases g.testBit i <;> simp
theorem maj_bit (a b c i : Nat) : maj a b c / 2 ^ i % 2 = (a / 2 ^ i % 2 + b / 2 ^ i % 2 + c / 2 ^ i % 2) / 2 := by
  have h1 := bit_eq a i
  have h2 := bit_eq b i
  have h3 := bit_eq c i
  have h4 := bit_eq (maj a b c) i
  unfold maj at h4
  rw [Nat.testBit_xor, Nat.testBit_xor, Nat.testBit_and, Nat.testBit_and, Nat.testBit_and] at h4
  unfold maj
  rw [h4, h1, h2, h3]
  cases a.testBit i <;> cases b.testBit i <;> cases c.testBit i <;> simp
theorem mod_succ (x i : Nat) : x % 2 ^ (i + 1) = x % 2 ^ i + 2 ^ i * (x / 2 ^ i % 2) := by
  rw [Nat.pow_succ, Nat.mod_mul]
theorem half_pow (x i : Nat) : x / 2 ^ i / 2 = x / 2 ^ (i + 1) := by rw [Nat.div_div_eq_div_mul, Nat.pow_succ]
end Go.Sha
