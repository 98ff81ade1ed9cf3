/- rot and RotateLeft32. Conditions: none. -/
import Derived.Test.YtmimffbjghhdhaaDoorProg
import Derived.Test.YtmimffbjghhdhaaDoorSha
namespace Go.Proofs.YtmimffbjghhdhaaDoor
open Go.RowKit Go.Bs Go.Sha

theorem and31 (n : Nat) (h0 : 0 < n) (h : n < 32) : bits .and .u64 (18446744073709551616 - (n : Int)) 31 = ((32 - n : Nat) : Int) := by
  have : n = 1 ∨ n = 2 ∨ n = 3 ∨ n = 4 ∨ n = 5 ∨ n = 6 ∨ n = 7 ∨ n = 8 ∨ n = 9 ∨ n = 10 ∨ n = 11 ∨ n = 12 ∨ n = 13 ∨ n = 14 ∨ n = 15 ∨ n = 16 ∨ n = 17 ∨ n = 18 ∨ n = 19 ∨ n = 20 ∨ n = 21 ∨ n = 22 ∨ n = 23 ∨ n = 24 ∨ n = 25 ∨ n = 26 ∨ n = 27 ∨ n = 28 ∨ n = 29 ∨ n = 30 ∨ n = 31 := by omega
  rcases this with h | h | h | h | h | h | h | h | h | h | h | h | h | h | h | h | h | h | h | h | h | h | h | h | h | h | h | h | h | h | h <;> subst h <;> decide

theorem or_rot (x n : Nat) (hx : x < 4294967296) (h0 : 0 < n) (h : n < 32) : bits .or .u32 ((x : Int) * 2 ^ (32 - n) % 4294967296) ((x : Int) / 2 ^ (32 - (32 - n))) = ((rotr x n : Nat) : Int) := by
  have e0 : 32 - (32 - n) = n := by omega
  have e1 : ((2 : Int) ^ (32 - n)) = ((2 ^ (32 - n) : Nat) : Int) := by simp
  have e2 : ((2 : Int) ^ n) = ((2 ^ n : Nat) : Int) := by simp
  have hp : (4294967296 : Nat) = 2 ^ n * 2 ^ (32 - n) := by rw [← Nat.pow_add, show n + (32 - n) = 32 by omega]
  have e3 : x * 2 ^ (32 - n) % 4294967296 = x % 2 ^ n * 2 ^ (32 - n) := by
    conv => lhs; rw [hp]
    exact Nat.mul_mod_mul_right _ _ _
  have h1 : x / 2 ^ n < 2 ^ (32 - n) := by
    rw [Nat.div_lt_iff_lt_mul (Nat.two_pow_pos n), Nat.mul_comm, ← hp]; exact hx
  have h2 : x % 2 ^ n * 2 ^ (32 - n) < 4294967296 := by rw [← e3]; exact Nat.mod_lt _ (by decide)
  have h3 : x / 2 ^ n < 4294967296 := Nat.lt_of_le_of_lt (Nat.div_le_self _ _) hx
  have e4 : ((x : Int) * 2 ^ (32 - n) % 4294967296) = ((x % 2 ^ n * 2 ^ (32 - n) : Nat) : Int) := by rw [e1, ← e3]; rfl
  have e5 : ((x : Int) / 2 ^ n) = ((x / 2 ^ n : Nat) : Int) := by rw [e2]; rfl
  rw [e0, e4, e5, u32_or_nat _ _ h2 h3]
  congr 1
  rw [Nat.mul_comm (x % 2 ^ n), ← Nat.two_pow_add_eq_or_of_lt h1]
  unfold rotr
  rw [Nat.mul_comm (x % 2 ^ n), Nat.add_comm]

theorem rotl_any (x n : Nat) (hx : x < 4294967296) (h0 : 0 < n) (h : n < 32) (w : World) :
    Calls Tryd.prog 51 #[.int .u32 x, .int .i64 (-(n : Int))] w fun e w' => e = .returned (.int .u32 (rotr x n : Nat)) ∧ w = w' := by
  have ha := and31 n h0 h
  have HO := Lib.hid (or_rot x n hx h0 h)
  have e1 : IntKind.u64.wrap (-(n : Int)) = 18446744073709551616 - (n : Int) := by rw [IntKind.wrap_u64]; omega
  go_enter Tryd.func51, Tryd.ntmps51
  go_wp2
  go_ret
  exact ⟨congrArg (fun z => Ending.returned (Value.int .u32 z)) HO.out, rfl⟩

theorem rot_any (x n : Nat) (hx : x < 4294967296) (h0 : 0 < n) (h : n < 32) (w : World) :
    Calls Tryd.prog 42 #[.int .u32 x, .int .i64 n] w fun e w' => e = .returned (.int .u32 (rotr x n : Nat)) ∧ w = w' := by
  have HC := Lib.hid (rotl_any x n hx h0 h w)
  go_enter Tryd.func42, Tryd.ntmps42
  go_wp2_with fail
  refine HC.out.mono ?_
  rintro e w' ⟨rfl, rfl⟩
  go_wp2
  go_ret
  exact ⟨rfl, rfl⟩

/-- rot at a number that the text writes down. -/
theorem rot_at (m : Int) (n : Nat) (hm : m = (n : Int)) (x : Nat) (hx : x < 4294967296) (h0 : 0 < n) (h : n < 32) (w : World) :
    Calls Tryd.prog 42 #[.int .u32 x, .int .i64 m] w fun e w' => e = .returned (.int .u32 (rotr x n : Nat)) ∧ w = w' := by
  subst hm; exact rot_any x n hx h0 h w
theorem rot_st (m : Int) (n : Nat) (hm : m = (n : Int)) (x : Nat) (hx : x < 4294967296) (h0 : 0 < n) (h : n < 32) (w : World) :
    Calls Tryd.prog 42 #[.int .u32 x, .int .i64 m] w fun e w' => e = .returned (.int .u32 (rotr x n : Nat)) ∧ w' = w := by
  refine (rot_at m n hm x hx h0 h w).mono ?_
  rintro e w' ⟨rfl, rfl⟩
  exact ⟨rfl, rfl⟩
theorem xor3 (a b c : Nat) (ha : a < 4294967296) (hb : b < 4294967296) (hc : c < 4294967296) : bits .xor .u32 (bits .xor .u32 (a : Int) (b : Int)) (c : Int) = ((a ^^^ b ^^^ c : Nat) : Int) := by
  rw [u32_xor_nat a b ha hb, u32_xor_nat _ c (xor_lt ha hb) hc]
end Go.Proofs.YtmimffbjghhdhaaDoor
