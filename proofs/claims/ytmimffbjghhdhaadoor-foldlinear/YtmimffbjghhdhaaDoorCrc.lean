/- CRC-32 as plain words: what it is, and that one byte turned turns it. Conditions: none. -/
import Derived.Test.YtmimffbjghhdhaaDoorBase
namespace Go.Crc

def poly : Nat := 3988292384
def step (s : Nat) : Nat := if s % 2 = 1 then (s / 2) ^^^ poly else s / 2
def steps : Nat → Nat → Nat
  | 0, s => s
  | k + 1, s => step (steps k s)
def byte (s : Nat) (b : UInt8) : Nat := steps 8 (s ^^^ b.toNat)
def run (s : Nat) (bs : List UInt8) : Nat := bs.foldl byte s
def crc (bs : List UInt8) : Nat := 4294967295 - run 4294967295 bs

theorem poly_lt : poly < 4294967296 := by decide
theorem xor_lt {a b : Nat} (ha : a < 4294967296) (hb : b < 4294967296) : a ^^^ b < 4294967296 := Nat.xor_lt_two_pow (n := 32) ha hb
theorem step_lt {s : Nat} (h : s < 4294967296) : step s < 4294967296 := by
  unfold step
  split
  · exact xor_lt (by omega) poly_lt
  · omega
theorem steps_lt {s : Nat} (h : s < 4294967296) : ∀ k, steps k s < 4294967296
  | 0 => h
  | k + 1 => step_lt (steps_lt h k)
theorem byte_lt {s : Nat} (h : s < 4294967296) (b : UInt8) : byte s b < 4294967296 := steps_lt (xor_lt h (by have := b.toNat_lt; omega)) 8
theorem run_one (s : Nat) (x : UInt8) : run s [x] = byte s x := by rw [run, List.foldl_cons, List.foldl_nil]
theorem run_cons (s : Nat) (x : UInt8) (bs : List UInt8) : run s (x :: bs) = run (byte s x) bs := by rw [run, List.foldl_cons, run]
theorem run_lt : ∀ (bs : List UInt8) {s : Nat}, s < 4294967296 → run s bs < 4294967296
  | [], _, h => h
  | b :: bs, _, h => by rw [run_cons]; exact run_lt bs (byte_lt h b)
theorem top_xor {x : Nat} (h : x < 2147483648) : 2147483648 ≤ x ^^^ poly := by
  have h1 : (x ^^^ poly).testBit 31 = true := by
    rw [Nat.testBit_xor, Nat.testBit_lt_two_pow (i := 31) (by omega)]
    decide
  have := Nat.ge_two_pow_of_testBit h1
  omega
theorem step_inj {s t : Nat} (hs : s < 4294967296) (ht : t < 4294967296) (h : step s = step t) : s = t := by
  unfold step at h
  by_cases h1 : s % 2 = 1 <;> by_cases h2 : t % 2 = 1
  · rw [if_pos h1, if_pos h2] at h
    have : s / 2 = t / 2 := by
      have := congrArg (· ^^^ poly) h
      simpa [Nat.xor_assoc] using this
    omega
  · rw [if_pos h1, if_neg h2] at h
    have := top_xor (x := s / 2) (by omega)
    omega
  · rw [if_neg h1, if_pos h2] at h
    have := top_xor (x := t / 2) (by omega)
    omega
  · rw [if_neg h1, if_neg h2] at h
    omega
theorem steps_inj : ∀ (k : Nat) {s t : Nat}, s < 4294967296 → t < 4294967296 → steps k s = steps k t → s = t
  | 0, _, _, _, _, h => h
  | k + 1, _, _, hs, ht, h => steps_inj k hs ht (step_inj (steps_lt hs k) (steps_lt ht k) h)
theorem xor_inj {a b c : Nat} (h : a ^^^ c = b ^^^ c) : a = b := by
  have := congrArg (· ^^^ c) h
  simpa [Nat.xor_assoc] using this
theorem byte_inj {s t : Nat} (hs : s < 4294967296) (ht : t < 4294967296) (b : UInt8) (h : byte s b = byte t b) : s = t :=
  xor_inj (steps_inj 8 (xor_lt hs (by have := b.toNat_lt; omega)) (xor_lt ht (by have := b.toNat_lt; omega)) h)
theorem byte_inj2 {s : Nat} (hs : s < 4294967296) (a b : UInt8) (h : byte s a = byte s b) : a = b := by
  have h1 := steps_inj 8 (xor_lt hs (by have := a.toNat_lt; omega)) (xor_lt hs (by have := b.toNat_lt; omega)) h
  rw [Nat.xor_comm s, Nat.xor_comm s] at h1
  exact UInt8.toNat_inj.1 (xor_inj h1)
theorem run_inj : ∀ (bs : List UInt8) {s t : Nat}, s < 4294967296 → t < 4294967296 → run s bs = run t bs → s = t
  | [], _, _, _, _, h => h
  | b :: bs, _, _, hs, ht, h => byte_inj hs ht b (run_inj bs (byte_lt hs b) (byte_lt ht b) (by rwa [run_cons, run_cons] at h))
theorem run_app : ∀ (as bs : List UInt8) (s : Nat), run s (as ++ bs) = run (run s as) bs
  | [], _, _ => rfl
  | a :: as, bs, s => by rw [List.cons_append, run_cons, run_cons, run_app as bs (byte s a)]
theorem run_set : ∀ (bs : List UInt8) (i : Nat) (x : UInt8) {s : Nat}, s < 4294967296 → (hi : i < bs.length) → run s (bs.set i x) = run s bs → x = bs[i]
  | b :: bs, 0, x, s, hs, _, h => byte_inj2 hs x b (run_inj bs (byte_lt hs x) (byte_lt hs b) (by rwa [List.set_cons_zero, run_cons, run_cons] at h))
  | b :: bs, i + 1, x, s, hs, hi, h => run_set bs i x (byte_lt hs b) (by simpa using hi) (by rwa [List.set_cons_succ, run_cons, run_cons] at h)
/-- one byte turned: another sum. -/
theorem crc_set (bs : List UInt8) (i : Nat) (x : UInt8) (hi : i < bs.length) (hx : x ≠ bs[i]) : crc (bs.set i x) ≠ crc bs := by
  intro h
  unfold crc at h
  have h1 := run_lt (s := 4294967295) (bs.set i x) (by omega)
  have h2 := run_lt (s := 4294967295) bs (by omega)
  have h3 : run 4294967295 (bs.set i x) = run 4294967295 bs := by omega
  exact hx (run_set bs i x (s := 4294967295) (by omega) hi h3)
theorem crc_lt (bs : List UInt8) : crc bs < 4294967296 := by unfold crc; omega
theorem crc_nil : crc [] = 0 := by decide
theorem crc_nine : crc [49, 50, 51, 52, 53, 54, 55, 56, 57] = 3421780262 := by decide +kernel
end Go.Crc
