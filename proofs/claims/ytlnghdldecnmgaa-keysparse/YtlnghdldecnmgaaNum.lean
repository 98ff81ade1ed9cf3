/- Plain words on numbers as digits of the bases 16 and 32. Conditions: none. -/
import Derived.Test.YtlnghdldecnmgaaB2
import Derived.Lib.Bytealg
namespace Go.Bs
open Go.RowKit

def D16 : List UInt8 := [48, 49, 50, 51, 52, 53, 54, 55, 56, 57, 97, 98, 99, 100, 101, 102]
def D32 : List UInt8 := [48, 49, 50, 51, 52, 53, 54, 55, 56, 57, 97, 98, 99, 100, 102, 103, 104, 105, 106, 107, 108, 109, 110, 112, 113, 114, 115, 118, 119, 120, 121, 122]
def h16 (n : Nat) : UInt8 := D16.getD n 0
def dig (n : Nat) : UInt8 := D32.getD n 0
def v16 (c : UInt8) : Int := Lib.indexByte D16 c
def v32 (c : UInt8) : Int := Lib.indexByte D32 c

theorem v32_dig_all : ∀ i : Fin 32, v32 (dig i.val) = (i.val : Int) := by decide +kernel
theorem v32_dig (n : Nat) (h : n < 32) : v32 (dig n) = (n : Int) := v32_dig_all ⟨n, h⟩
theorem v16_h16_all : ∀ i : Fin 16, v16 (h16 i.val) = (i.val : Int) := by decide +kernel
theorem v16_h16 (n : Nat) (h : n < 16) : v16 (h16 n) = (n : Int) := v16_h16_all ⟨n, h⟩
theorem v32_all : ∀ i : Fin 256, (v32 (UInt8.ofNat i.val) < 32 ∧ -1 ≤ v32 (UInt8.ofNat i.val)) ∧ (0 ≤ v32 (UInt8.ofNat i.val) → dig (v32 (UInt8.ofNat i.val)).toNat = UInt8.ofNat i.val) := by decide +kernel
theorem v16_all : ∀ i : Fin 256, (v16 (UInt8.ofNat i.val) < 16 ∧ -1 ≤ v16 (UInt8.ofNat i.val)) ∧ (0 ≤ v16 (UInt8.ofNat i.val) → h16 (v16 (UInt8.ofNat i.val)).toNat = UInt8.ofNat i.val) := by decide +kernel
theorem ofNat_toNat (c : UInt8) : UInt8.ofNat c.toNat = c := by simp
theorem v32_lt (c : UInt8) : v32 c < 32 := by have := (v32_all ⟨c.toNat, c.toNat_lt⟩).1.1; rwa [ofNat_toNat] at this
theorem v32_ge (c : UInt8) : -1 ≤ v32 c := by have := (v32_all ⟨c.toNat, c.toNat_lt⟩).1.2; rwa [ofNat_toNat] at this
theorem dig_v32 (c : UInt8) (h : 0 ≤ v32 c) : dig (v32 c).toNat = c := by have := (v32_all ⟨c.toNat, c.toNat_lt⟩).2; rw [ofNat_toNat] at this; exact this h
theorem v16_lt (c : UInt8) : v16 c < 16 := by have := (v16_all ⟨c.toNat, c.toNat_lt⟩).1.1; rwa [ofNat_toNat] at this
theorem v16_ge (c : UInt8) : -1 ≤ v16 c := by have := (v16_all ⟨c.toNat, c.toNat_lt⟩).1.2; rwa [ofNat_toNat] at this
theorem h16_v16 (c : UInt8) (h : 0 ≤ v16 c) : h16 (v16 c).toNat = c := by have := (v16_all ⟨c.toNat, c.toNat_lt⟩).2; rw [ofNat_toNat] at this; exact this h

/-! which place -/
theorem indexByte_hit (l : List UInt8) (c : UInt8) : ∀ k, k < l.length → l.getD k 0 = c → (∀ j, j < k → l.getD j 0 ≠ c) → Lib.indexByte l c = (k : Int) := by
  induction l with
  | nil => intro k h; simp at h
  | cons b l ih =>
    intro k hk hc hne
    unfold Lib.indexByte
    cases k with
    | zero =>
      have : b = c := by simpa using hc
      simp [this]
    | succ k =>
      have hb : b ≠ c := by simpa using hne 0 (by omega)
      have := ih k (by simpa using hk) (by simpa using hc) (fun j hj => by simpa using hne (j + 1) (by omega))
      rw [if_neg (by simpa using hb), this, if_neg (by rw [beq_iff_eq]; omega)]
      omega
theorem indexByte_none (l : List UInt8) (c : UInt8) : (∀ j, j < l.length → l.getD j 0 ≠ c) → Lib.indexByte l c = -1 := by
  induction l with
  | nil => intro _; rfl
  | cons b l ih =>
    intro hne
    unfold Lib.indexByte
    have hb : b ≠ c := by simpa using hne 0 (by simp)
    have := ih (fun j hj => by simpa using hne (j + 1) (by simpa using hj))
    rw [if_neg (by simpa using hb), this]
    rfl

/-! the base 32 -/
def encD : Nat → Nat → List UInt8
  | 0, _ => []
  | m + 1, N => dig (N / 32 ^ m % 32) :: encD m N
def numD : List UInt8 → Nat
  | [] => 0
  | c :: r => (v32 c).toNat * 32 ^ r.length + numD r
def nDig (n : Nat) : Nat := (8 * n + 4) / 5
def nByt (n : Nat) : Nat := 5 * n / 8
def byteL (n N : Nat) : List UInt8 := (List.range n).map (byteAt N)
def encL (bs : List UInt8) : List UInt8 := encD (nDig bs.length) (leN bs)
def decL (s : List UInt8) : List UInt8 := byteL (nByt s.length) (numD s)

theorem encD_length (m N : Nat) : (encD m N).length = m := by
  induction m with
  | zero => rfl
  | succ m ih => simp [encD, ih]
theorem encL_length (bs : List UInt8) : (encL bs).length = nDig bs.length := encD_length _ _
theorem byteL_length (n N : Nat) : (byteL n N).length = n := by simp [byteL]
theorem decL_length (s : List UInt8) : (decL s).length = nByt s.length := byteL_length _ _
theorem leN_byteL (n N : Nat) : leN (byteL n N) = N % 256 ^ n := leN_bytes N n
theorem byteL_leN (l : List UInt8) : byteL l.length (leN l) = l := bytes_leN l
theorem byteL_getD (n N i : Nat) (h : i < n) : (byteL n N).getD i 0 = byteAt N i := by simp [byteL, List.getD, h]

theorem pow32 (k : Nat) : 32 ^ k = 2 ^ (5 * k) := by rw [Nat.pow_mul]
theorem pow256 (k : Nat) : 256 ^ k = 2 ^ (8 * k) := by rw [Nat.pow_mul]
theorem pos32 (k : Nat) : 0 < 32 ^ k := Nat.pow_pos (by omega)
theorem pos256 (k : Nat) : 0 < 256 ^ k := Nat.pow_pos (by omega)
theorem pow_le (n m : Nat) (h : 8 * n ≤ 5 * m) : 256 ^ n ≤ 32 ^ m := by rw [pow32, pow256]; exact Nat.pow_le_pow_right (by omega) h
theorem pow_at (k : Nat) : 32 ^ k = 256 ^ (5 * k / 8) * 2 ^ (5 * k % 8) := by
  rw [pow32, pow256, ← Nat.pow_add]
  congr 1
  omega

theorem numD_lt : ∀ s : List UInt8, numD s < 32 ^ s.length
  | [] => by simp [numD]
  | c :: r => by
    have h := numD_lt r
    have hv := v32_lt c
    have h1 : (v32 c).toNat ≤ 31 := by omega
    have h2 : (v32 c).toNat * 32 ^ r.length ≤ 31 * 32 ^ r.length := Nat.mul_le_mul_right _ h1
    simp only [numD, List.length_cons, Nat.pow_succ]
    omega

theorem numD_encD (N : Nat) : ∀ m, numD (encD m N) = N % 32 ^ m
  | 0 => by simp [numD, encD, Nat.mod_one]
  | m + 1 => by
    rw [encD, numD, encD_length, v32_dig _ (Nat.mod_lt _ (by omega)), numD_encD N m, Int.toNat_natCast, Nat.pow_succ, Nat.mod_mul, Nat.mul_comm, Nat.add_comm]

theorem encD_add (N q j : Nat) : ∀ m, encD m (N + 32 ^ (m + j) * q) = encD m N
  | 0 => rfl
  | m + 1 => by
    have e : 32 ^ (m + 1 + j) * q = 32 ^ (m + (j + 1)) * q := by rw [Nat.add_assoc, Nat.add_comm 1 j]
    have e2 : 32 ^ (m + (j + 1)) * q = 32 ^ m * (32 * (32 ^ j * q)) := by
      rw [Nat.pow_add, Nat.pow_succ, Nat.mul_assoc, Nat.mul_comm (32 ^ j) 32, Nat.mul_assoc 32]
    rw [encD, encD, e, encD_add N q (j + 1) m, e2, Nat.add_mul_div_left _ _ (pos32 m), Nat.add_mul_mod_self_left]

theorem encD_mod (N m : Nat) : encD m (N % 32 ^ m) = encD m N := by
  have h := encD_add (N % 32 ^ m) (N / 32 ^ m) 0 m
  rw [Nat.add_zero, Nat.mod_add_div] at h
  exact h.symm

theorem encD_numD : ∀ s : List UInt8, (∀ c ∈ s, 0 ≤ v32 c) → encD s.length (numD s) = s
  | [], _ => rfl
  | c :: r, h => by
    have hc := h c (by simp)
    have ih := encD_numD r (fun x hx => h x (by simp [hx]))
    have hl := numD_lt r
    have hv := v32_lt c
    have e : numD (c :: r) = numD r + 32 ^ (r.length + 0) * (v32 c).toNat := by rw [numD, Nat.mul_comm, Nat.add_comm, Nat.add_zero]
    rw [List.length_cons, encD, e, encD_add, ih, Nat.add_zero, Nat.add_mul_div_left _ _ (pos32 _), Nat.div_eq_of_lt hl, Nat.zero_add, Nat.mod_eq_of_lt (by omega), dig_v32 c hc]

theorem encD_valid (N : Nat) : ∀ m, ∀ c ∈ encD m N, 0 ≤ v32 c
  | 0, c, h => by simp [encD] at h
  | m + 1, c, h => by
    rw [encD] at h
    rcases List.mem_cons.1 h with rfl | h
    · rw [v32_dig _ (Nat.mod_lt _ (by omega))]; omega
    · exact encD_valid N m c h

theorem leN_lt_digs (bs : List UInt8) : leN bs < 32 ^ nDig bs.length := Nat.lt_of_lt_of_le (leN_lt bs) (pow_le _ _ (by unfold nDig; omega))
theorem nByt_nDig (n : Nat) : nByt (nDig n) = n := by unfold nByt nDig; omega
theorem numD_encL (bs : List UInt8) : numD (encL bs) = leN bs := by rw [encL, numD_encD, Nat.mod_eq_of_lt (leN_lt_digs bs)]
/-- what was made digits is told. -/
theorem dec_enc (bs : List UInt8) : decL (encL bs) = bs := by
  rw [decL, encL_length, nByt_nDig, numD_encL, byteL_leN]

theorem good_iff (s : List UInt8) : encL (decL s) = s ↔ (nDig (nByt s.length) = s.length ∧ (∀ c ∈ s, 0 ≤ v32 c) ∧ numD s < 256 ^ nByt s.length) := by
  constructor
  · intro h
    have hl : nDig (nByt s.length) = s.length := by
      have := congrArg List.length h
      rwa [encL_length, decL_length] at this
    refine ⟨hl, ?_, ?_⟩
    · rw [← h]; exact encD_valid _ _
    · have e := congrArg numD h
      rw [numD_encL] at e
      have hlt := leN_lt (decL s)
      rw [e, decL_length] at hlt
      exact hlt
  · rintro ⟨h1, h2, h3⟩
    rw [encL, decL_length, h1, decL, leN_byteL, Nat.mod_eq_of_lt h3, encD_numD s h2]

theorem encL_inj {a b : List UInt8} (h : encL a = encL b) : a = b := by rw [← dec_enc a, ← dec_enc b, h]

/-! one digit out of bytes -/
theorem leN_drop : ∀ (l : List UInt8) (a : Nat), leN l / 256 ^ a = leN (l.drop a)
  | [], a => by simp [leN]
  | b :: r, 0 => by simp
  | b :: r, a + 1 => by
    have hb : b.toNat < 256 := b.toNat_lt
    rw [List.drop_succ_cons, ← leN_drop r a, leN, Nat.pow_succ, Nat.mul_comm (256 ^ a) 256, ← Nat.div_div_eq_div_mul, show (b.toNat + 256 * leN r) / 256 = leN r by omega]
theorem leN_two (l : List UInt8) : ∃ z, leN l = (l.getD 0 0).toNat + 256 * (l.getD 1 0).toNat + 65536 * z := by
  rcases l with _ | ⟨a, _ | ⟨b, r⟩⟩
  · exact ⟨0, by simp [leN]⟩
  · exact ⟨0, by simp [leN]⟩
  · exact ⟨leN r, by simp [leN]; omega⟩
theorem getD_drop (l : List UInt8) (a i : Nat) : (l.drop a).getD i 0 = l.getD (a + i) 0 := by simp [List.getD, List.getElem?_drop]

theorem five_shift (x z u : Nat) (hu : u < 8) : (x + 65536 * z) / 2 ^ u % 32 = x / 2 ^ u % 32 := by
  have : u = 0 ∨ u = 1 ∨ u = 2 ∨ u = 3 ∨ u = 4 ∨ u = 5 ∨ u = 6 ∨ u = 7 := by omega
  rcases this with h | h | h | h | h | h | h | h <;> subst h <;> simp only [Nat.reducePow] <;> omega

theorem five (bs : List UInt8) (k : Nat) : ((bs.getD (5 * k / 8) 0).toNat + 256 * (bs.getD (5 * k / 8 + 1) 0).toNat) / 2 ^ (5 * k % 8) % 32 = leN bs / 32 ^ k % 32 := by
  obtain ⟨z, hz⟩ := leN_two (bs.drop (5 * k / 8))
  rw [pow_at k, ← Nat.div_div_eq_div_mul, leN_drop, hz, five_shift _ _ _ (Nat.mod_lt _ (by omega)), getD_drop, getD_drop]
  rfl

/-! one digit into bytes -/
theorem byteAt_div (N a : Nat) : byteAt N a = UInt8.ofNat (N / 256 ^ a) := rfl
theorem ofNat_add256 (x y : Nat) : UInt8.ofNat (x + 256 * y) = UInt8.ofNat x := by
  apply UInt8.toNat_inj.1
  simp

theorem byteAt_low (X y a i : Nat) (h : i < a) : byteAt (X + y * 256 ^ a) i = byteAt X i := by
  obtain ⟨d, rfl⟩ : ∃ d, a = i + (d + 1) := ⟨a - i - 1, by omega⟩
  have e : y * 256 ^ (i + (d + 1)) = 256 ^ i * (256 * (y * 256 ^ d)) := by
    rw [Nat.pow_add, Nat.pow_succ, Nat.mul_left_comm, Nat.mul_comm (256 ^ d) 256, Nat.mul_left_comm y 256]
  unfold byteAt
  rw [e, Nat.add_mul_div_left _ _ (pos256 i), ofNat_add256]
theorem byteAt_high (X y a j : Nat) : byteAt (X + y * 256 ^ a) (a + j) = byteAt (X / 256 ^ a + y) j := by
  unfold byteAt
  rw [Nat.pow_add, ← Nat.div_div_eq_div_mul, Nat.add_mul_div_right _ _ (pos256 a)]

theorem set_ext (a b : List UInt8) (hl : a.length = b.length) (h : ∀ i, i < a.length → a.getD i 0 = b.getD i 0) : a = b := by
  apply List.ext_getElem hl
  intro i h1 h2
  have := h i h1
  rwa [getD_get _ _ h1, getD_get _ _ h2] at this
theorem getD_set (l : List UInt8) (i j : Nat) (x : UInt8) (hj : j < l.length) : (l.set i x).getD j 0 = if i = j then x else l.getD j 0 := by
  rw [getD_get _ _ (by simpa using hj), List.getElem_set, getD_get _ _ hj]

/-- y, set at the byte a, where X reaches no further than this byte's low bits. -/
theorem byteL_put (n X y a : Nat) (h : (X / 256 ^ a + y) / 256 = y / 256) (hy : y < 65536) :
    byteL n (X + y * 256 ^ a) = ((byteL n X).set a (UInt8.ofNat (X / 256 ^ a + y))).set (a + 1) (UInt8.ofNat (y / 256)) := by
  apply set_ext
  · simp [byteL_length]
  · intro i hi
    rw [byteL_length] at hi
    rw [byteL_getD _ _ _ hi, getD_set _ _ _ _ (by simpa [byteL_length] using hi), getD_set _ _ _ _ (by simpa [byteL_length] using hi), byteL_getD _ _ _ hi]
    by_cases h1 : a + 1 = i
    · subst h1
      rw [if_pos rfl, byteAt_high]
      unfold byteAt
      rw [Nat.pow_one, h]
    · rw [if_neg h1]
      by_cases h2 : a = i
      · subst h2
        rw [if_pos rfl]
        have := byteAt_high X y a 0
        rw [Nat.add_zero] at this
        rw [this]
        unfold byteAt
        rw [Nat.pow_zero, Nat.div_one]
      · rw [if_neg h2]
        by_cases h3 : i < a
        · exact byteAt_low _ _ _ _ h3
        · obtain ⟨j, rfl⟩ : ∃ j, i = a + (j + 2) := ⟨i - a - 2, by omega⟩
          rw [byteAt_high]
          unfold byteAt
          have e1 : 256 ^ (j + 2) = 256 * (256 * 256 ^ j) := by rw [Nat.pow_succ, Nat.pow_succ]; ac_rfl
          have e2 : 256 ^ (a + (j + 2)) = 256 ^ a * (256 * (256 * 256 ^ j)) := by rw [Nat.pow_add, e1]
          rw [e1, e2, ← Nat.div_div_eq_div_mul, ← Nat.div_div_eq_div_mul (X), ← Nat.div_div_eq_div_mul (X / 256 ^ a), h]
          have hX : X / 256 ^ a / 256 ≤ (X / 256 ^ a + y) / 256 := Nat.div_le_div_right (by omega)
          rw [h] at hX
          rw [← Nat.div_div_eq_div_mul, ← Nat.div_div_eq_div_mul]
          generalize X / 256 ^ a = q at *
          rw [show y / 256 / 256 = 0 by omega, show q / 256 / 256 = 0 by omega]
theorem byteL_put0 (n X y a : Nat) (h : (X / 256 ^ a + y) / 256 = 0) : byteL n (X + y * 256 ^ a) = (byteL n X).set a (UInt8.ofNat (X / 256 ^ a + y)) := by
  have hy : y / 256 = 0 := by generalize X / 256 ^ a = q at *; omega
  rw [byteL_put n X y a (by rw [h, hy]) (by omega)]
  apply set_ext
  · simp
  · intro i hi
    simp only [List.length_set] at hi
    rw [getD_set _ _ _ _ (by simpa using hi)]
    by_cases h1 : a + 1 = i
    · subst h1
      rw [byteL_length] at hi
      rw [if_pos rfl, getD_set _ _ _ _ (by simpa [byteL_length] using hi), if_neg (by omega), byteL_getD _ _ _ hi, hy]
      unfold byteAt
      rw [Nat.pow_succ, ← Nat.div_div_eq_div_mul, show X / 256 ^ a / 256 = 0 by generalize X / 256 ^ a = q at *; omega]
    · rw [if_neg h1]
/-- beyond the last byte. -/
theorem byteL_over (n X y a : Nat) (h : n ≤ a) : byteL n (X + y * 256 ^ a) = byteL n X := by
  apply set_ext
  · simp [byteL_length]
  · intro i hi
    rw [byteL_length] at hi
    rw [byteL_getD _ _ _ hi, byteL_getD _ _ _ hi, byteAt_low _ _ _ _ (by omega)]

theorem low_add (r v u : Nat) (hu : u < 8) (hr : r < 2 ^ u) : (r + v * 2 ^ u) / 256 = v * 2 ^ u / 256 ∧ (r % 256 ||| v * 2 ^ u % 256) = (r + v * 2 ^ u) % 256 := by
  have : u = 0 ∨ u = 1 ∨ u = 2 ∨ u = 3 ∨ u = 4 ∨ u = 5 ∨ u = 6 ∨ u = 7 := by omega
  constructor
  · rcases this with h | h | h | h | h | h | h | h <;> subst h <;> simp only [Nat.reducePow] at hr ⊢ <;> omega
  · have hr8 : r < 256 := Nat.lt_of_lt_of_le hr (by rcases this with h | h | h | h | h | h | h | h <;> subst h <;> decide)
    rw [Nat.mod_eq_of_lt hr8]
    have e : v * 2 ^ u % 256 = 2 ^ u * (v % 2 ^ (8 - u)) := by
      rcases this with h | h | h | h | h | h | h | h <;> subst h <;> simp only [Nat.reducePow, Nat.reduceSub] <;> omega
    have e2 : (r + v * 2 ^ u) % 256 = 2 ^ u * (v % 2 ^ (8 - u)) + r := by
      rcases this with h | h | h | h | h | h | h | h <;> subst h <;> simp only [Nat.reducePow, Nat.reduceSub] at hr ⊢ <;> omega
    rw [e, e2, Nat.or_comm, Nat.two_pow_add_eq_or_of_lt hr]

theorem i64_or_nat (a b : Nat) (ha : a < 9223372036854775808) (hb : b < 9223372036854775808) : bits .or .i64 (a : Int) (b : Int) = ((a ||| b : Nat) : Int) := by
  have hx : a ||| b < 2 ^ 63 := Nat.or_lt_two_pow (by omega) (by omega)
  show IntKind.i64.wrap ((BitVec.ofInt 64 (a : Int) ||| BitVec.ofInt 64 (b : Int)).toNat : Int) = _
  rw [BitVec.toNat_or, ofInt_u64 a (by omega), ofInt_u64 b (by omega), IntKind.wrap_i64]
  omega
theorem i64_and_nat (a b : Nat) (ha : a < 9223372036854775808) (hb : b < 9223372036854775808) : bits .and .i64 (a : Int) (b : Int) = ((a &&& b : Nat) : Int) := by
  have hx : a &&& b < 2 ^ 63 := Nat.and_lt_two_pow _ (by omega)
  show IntKind.i64.wrap ((BitVec.ofInt 64 (a : Int) &&& BitVec.ofInt 64 (b : Int)).toNat : Int) = _
  rw [BitVec.toNat_and, ofInt_u64 a (by omega), ofInt_u64 b (by omega), IntKind.wrap_i64]
  omega
theorem i64_and31 (a : Nat) (ha : a < 9223372036854775808) : bits .and .i64 (a : Int) 31 = ((a % 32 : Nat) : Int) := by
  have := i64_and_nat a 31 ha (by omega)
  rw [show ((31 : Nat) : Int) = 31 from rfl, show (31 : Nat) = 2 ^ 5 - 1 from rfl, Nat.and_two_pow_sub_one_eq_mod] at this
  exact this
theorem i64_or8 (x y : Nat) (hx : x < 256) (hy : y < 256) : bits .or .i64 (x : Int) ((y : Int) * 256) = ((x + 256 * y : Nat) : Int) := by
  have := i64_or_nat x (2 ^ 8 * y) (by omega) (by omega)
  rw [Nat.or_comm, ← Nat.two_pow_add_eq_or_of_lt (by omega : x < 2 ^ 8)] at this
  rw [show ((y : Int) * 256) = ((2 ^ 8 * y : Nat) : Int) by omega, this]
  congr 1
  omega
theorem five_val2 (x y u : Nat) (hx : x < 256) (hy : y < 256) : bits .and .i64 (bits .or .i64 (x : Int) ((y : Int) * 256) / 2 ^ u) 31 = (((x + 256 * y) / 2 ^ u % 32 : Nat) : Int) := by
  have e : (((x + 256 * y : Nat) : Int) / 2 ^ u) = (((x + 256 * y) / 2 ^ u : Nat) : Int) := by simp
  have hl : (x + 256 * y) / 2 ^ u ≤ x + 256 * y := Nat.div_le_self _ _
  rw [i64_or8 x y hx hy, e, i64_and31 _ (by omega)]
theorem five_val1 (x u : Nat) (hx : x < 256) : bits .and .i64 ((x : Int) / 2 ^ u) 31 = ((x / 2 ^ u % 32 : Nat) : Int) := by
  have e : ((x : Int) / 2 ^ u) = ((x / 2 ^ u : Nat) : Int) := by simp
  have hl : x / 2 ^ u ≤ x := Nat.div_le_self _ _
  rw [e, i64_and31 _ (by omega)]

theorem dig_str (d : Nat) (h : d < D32.length) : D32[d] = dig d := (getD_get D32 d h).symm
theorem h16_str (d : Nat) (h : d < D16.length) : D16[d] = h16 d := (getD_get D16 d h).symm
theorem byteL_zero (n : Nat) : byteL n 0 = zeros n := by
  apply set_ext
  · simp [byteL_length, zeros_length]
  · intro i hi
    rw [byteL_length] at hi
    rw [byteL_getD _ _ _ hi]
    simp [byteAt, zeros, List.getD, hi]
theorem numD_drop (i : Nat) : ∀ l : List UInt8, numD (l.drop i) ≤ numD l := by
  induction i with
  | zero => intro l; simp
  | succ i ih =>
    intro l
    cases l with
    | nil => simp
    | cons c r =>
      rw [List.drop_succ_cons]
      refine Nat.le_trans (ih r) ?_
      rw [numD]
      omega
/-- the last k + 1 letters. -/
theorem drop_last (l : List UInt8) (L k : Nat) (hl : l.length = L) (hk : k < L) : l.drop (L - (k + 1)) = l.getD (L - 1 - k) 0 :: l.drop (L - k) := by
  have e : L - (k + 1) = L - 1 - k := by omega
  have e2 : L - k = L - 1 - k + 1 := by omega
  rw [e, e2, List.drop_eq_getElem_cons (show L - 1 - k < l.length by omega), getD_get l _ (by omega)]
theorem numD_last (l : List UInt8) (L k v : Nat) (hl : l.length = L) (hk : k < L) (hv : v32 (l.getD (L - 1 - k) 0) = (v : Int)) : numD (l.drop (L - (k + 1))) = numD (l.drop (L - k)) + v * 32 ^ k := by
  rw [drop_last l L k hl hk, numD, hv, Int.toNat_natCast, List.length_drop, hl, show L - (L - k) = k by omega, Nat.add_comm]

/-! the base 16 -/
def hexL : List UInt8 → List UInt8
  | [] => []
  | b :: r => h16 (b.toNat / 16) :: h16 (b.toNat % 16) :: hexL r
theorem hexL_length : ∀ l : List UInt8, (hexL l).length = 2 * l.length
  | [] => rfl
  | b :: r => by simp only [hexL, List.length_cons, hexL_length r]; omega
theorem hexL_append : ∀ a b : List UInt8, hexL (a ++ b) = hexL a ++ hexL b
  | [], b => rfl
  | x :: a, b => by simp [hexL, hexL_append a b]
theorem hexL_even : ∀ (l : List UInt8) (k : Nat), k < l.length → (hexL l).getD (2 * k) 0 = h16 ((l.getD k 0).toNat / 16)
  | [], k, h => by simp at h
  | b :: r, 0, h => by simp [hexL]
  | b :: r, k + 1, h => by
    have := hexL_even r k (by simpa using h)
    simpa [hexL, show 2 * (k + 1) = 2 * k + 1 + 1 by omega] using this
theorem hexL_odd : ∀ (l : List UInt8) (k : Nat), k < l.length → (hexL l).getD (2 * k + 1) 0 = h16 ((l.getD k 0).toNat % 16)
  | [], k, h => by simp at h
  | b :: r, 0, h => by simp [hexL]
  | b :: r, k + 1, h => by
    have := hexL_odd r k (by simpa using h)
    simpa [hexL, show 2 * (k + 1) + 1 = 2 * k + 1 + 1 + 1 by omega] using this
/-- the byte that two letters tell. -/
def pairB (s : List UInt8) (k : Nat) : UInt8 := UInt8.ofNat (16 * (v16 (s.getD (2 * k) 0)).toNat + (v16 (s.getD (2 * k + 1) 0)).toNat)
def unhexL (s : List UInt8) : List UInt8 := (List.range (s.length / 2)).map (pairB s)
def good16 (s : List UInt8) : Prop := s.length % 2 = 0 ∧ ∀ j, j < s.length → 0 ≤ v16 (s.getD j 0)
theorem unhexL_length (s : List UInt8) : (unhexL s).length = s.length / 2 := by simp [unhexL]
theorem unhexL_getD (s : List UInt8) (k : Nat) (h : k < s.length / 2) : (unhexL s).getD k 0 = pairB s k := by simp [unhexL, List.getD, h]
theorem good_hexL (l : List UInt8) : good16 (hexL l) := by
  refine ⟨by rw [hexL_length]; omega, fun j hj => ?_⟩
  rw [hexL_length] at hj
  rcases Nat.mod_two_eq_zero_or_one j with h | h
  · obtain ⟨k, rfl⟩ : ∃ k, j = 2 * k := ⟨j / 2, by omega⟩
    have := (l.getD k 0).toNat_lt
    rw [hexL_even l k (by omega), v16_h16 _ (by omega)]; omega
  · obtain ⟨k, rfl⟩ : ∃ k, j = 2 * k + 1 := ⟨j / 2, by omega⟩
    rw [hexL_odd l k (by omega), v16_h16 _ (by omega)]; omega
theorem unhex_hex (l : List UInt8) : unhexL (hexL l) = l := by
  apply set_ext
  · rw [unhexL_length, hexL_length]; omega
  · intro k hk
    rw [unhexL_length, hexL_length] at hk
    have hb := (l.getD k 0).toNat_lt
    rw [unhexL_getD _ _ (by rw [hexL_length]; exact hk), pairB, hexL_even l k (by omega), hexL_odd l k (by omega), v16_h16 _ (by omega), v16_h16 _ (by omega), Int.toNat_natCast, Int.toNat_natCast,
      show 16 * ((l.getD k 0).toNat / 16) + (l.getD k 0).toNat % 16 = (l.getD k 0).toNat by omega, ofNat_toNat]
theorem hex_unhex (s : List UInt8) (h : good16 s) : hexL (unhexL s) = s := by
  obtain ⟨h0, hv⟩ := h
  apply set_ext
  · rw [hexL_length, unhexL_length]; omega
  · intro j hj
    rw [hexL_length, unhexL_length] at hj
    have key : ∀ k, k < s.length / 2 → (pairB s k).toNat = 16 * (v16 (s.getD (2 * k) 0)).toNat + (v16 (s.getD (2 * k + 1) 0)).toNat := by
      intro k hk
      have h1 := v16_lt (s.getD (2 * k) 0)
      have h2 := v16_lt (s.getD (2 * k + 1) 0)
      simp only [pairB, UInt8.toNat_ofNat']
      omega
    rcases Nat.mod_two_eq_zero_or_one j with h | h
    · obtain ⟨k, rfl⟩ : ∃ k, j = 2 * k := ⟨j / 2, by omega⟩
      have h2 := v16_lt (s.getD (2 * k + 1) 0)
      rw [hexL_even _ k (by rw [unhexL_length]; omega), unhexL_getD s k (by omega), key k (by omega),
        show (16 * (v16 (s.getD (2 * k) 0)).toNat + (v16 (s.getD (2 * k + 1) 0)).toNat) / 16 = (v16 (s.getD (2 * k) 0)).toNat by omega, h16_v16 _ (hv _ (by omega))]
    · obtain ⟨k, rfl⟩ : ∃ k, j = 2 * k + 1 := ⟨j / 2, by omega⟩
      have h2 := v16_lt (s.getD (2 * k + 1) 0)
      rw [hexL_odd _ k (by rw [unhexL_length]; omega), unhexL_getD s k (by omega), key k (by omega),
        show (16 * (v16 (s.getD (2 * k) 0)).toNat + (v16 (s.getD (2 * k + 1) 0)).toNat) % 16 = (v16 (s.getD (2 * k + 1) 0)).toNat by omega, h16_v16 _ (hv _ (by omega))]

theorem fill_step (t : List UInt8) (n k : Nat) (x : UInt8) (hl : t.length = n) (hk : k < n) (hx : t.getD k 0 = x) : (t.take k ++ zeros (n - k)).set k x = t.take (k + 1) ++ zeros (n - (k + 1)) := by
  obtain ⟨j, rfl⟩ : ∃ j, n = k + (j + 1) := ⟨n - k - 1, by omega⟩
  have h1 : (t.take k).length = k := by rw [List.length_take]; omega
  rw [show k + (j + 1) - k = j + 1 by omega, show k + (j + 1) - (k + 1) = j by omega, List.set_append_right _ _ (by omega), h1, Nat.sub_self, take_snoc t k (by omega), hx]
  simp [zeros, List.replicate_succ]
theorem or4 (a b : Nat) (ha : a < 16) (hb : b < 16) : bits .or .i64 ((a : Int) * 16) (b : Int) = ((16 * a + b : Nat) : Int) := by
  have := i64_or_nat (2 ^ 4 * a) b (by omega) (by omega)
  rw [← Nat.two_pow_add_eq_or_of_lt (by omega : b < 2 ^ 4)] at this
  rw [show ((a : Int) * 16) = ((2 ^ 4 * a : Nat) : Int) by omega, this]
theorem pairB_val (l : List UInt8) (k a b : Nat) (ha : v16 (l.getD (2 * k) 0) = (a : Int)) (hb : v16 (l.getD (2 * k + 1) 0) = (b : Int)) (ha' : a < 16) (hb' : b < 16) : Value.int .u8 (((16 * a + b : Nat) : Int) % 256) = B (pairB l k) := by
  show _ = Value.int .u8 ((pairB l k).toNat : Int)
  unfold pairB
  rw [ha, hb, Int.toNat_natCast, Int.toNat_natCast, UInt8.toNat_ofNat']
  congr 1
theorem app_str (a b : List UInt8) : (⟨a.toArray⟩ : ByteArray) ++ (⟨b.toArray⟩ : ByteArray) = ⟨(a ++ b).toArray⟩ := by
  apply ByteArray.ext
  simp
theorem ext16_all : ∀ i : Fin 16, (⟨#[48, 49, 50, 51, 52, 53, 54, 55, 56, 57, 97, 98, 99, 100, 101, 102]⟩ : ByteArray).extract i.val (i.val + 1) = ⟨[h16 i.val].toArray⟩ := by decide +kernel
theorem ext16 (d : Nat) (h : d < 16) : (⟨#[48, 49, 50, 51, 52, 53, 54, 55, 56, 57, 97, 98, 99, 100, 101, 102]⟩ : ByteArray).extract d (d + 1) = ⟨[h16 d].toArray⟩ := ext16_all ⟨d, h⟩
theorem ext32_all : ∀ i : Fin 32, (⟨#[48, 49, 50, 51, 52, 53, 54, 55, 56, 57, 97, 98, 99, 100, 102, 103, 104, 105, 106, 107, 108, 109, 110, 112, 113, 114, 115, 118, 119, 120, 121, 122]⟩ : ByteArray).extract i.val (i.val + 1) = ⟨[dig i.val].toArray⟩ := by decide +kernel
theorem ext32 (d : Nat) (h : d < 32) : (⟨#[48, 49, 50, 51, 52, 53, 54, 55, 56, 57, 97, 98, 99, 100, 102, 103, 104, 105, 106, 107, 108, 109, 110, 112, 113, 114, 115, 118, 119, 120, 121, 122]⟩ : ByteArray).extract d (d + 1) = ⟨[dig d].toArray⟩ := ext32_all ⟨d, h⟩

theorem bit_shift (x z u : Nat) (hu : u < 8) : (x + 256 * z) / 2 ^ u % 2 = x / 2 ^ u % 2 := by
  have : u = 0 ∨ u = 1 ∨ u = 2 ∨ u = 3 ∨ u = 4 ∨ u = 5 ∨ u = 6 ∨ u = 7 := by omega
  rcases this with h | h | h | h | h | h | h | h <;> subst h <;> simp only [Nat.reducePow] <;> omega
theorem leN_one (l : List UInt8) : ∃ z, leN l = (l.getD 0 0).toNat + 256 * z := by
  rcases l with _ | ⟨a, r⟩
  · exact ⟨0, by simp [leN]⟩
  · exact ⟨leN r, by simp [leN]⟩
theorem pow_split (i : Nat) : 2 ^ i = 256 ^ (i / 8) * 2 ^ (i % 8) := by
  rw [pow256, ← Nat.pow_add]
  congr 1
  omega
theorem bit_in (bs : List UInt8) (i : Nat) : (bs.getD (i / 8) 0).toNat / 2 ^ (i % 8) % 2 = leN bs / 2 ^ i % 2 := by
  obtain ⟨z, hz⟩ := leN_one (bs.drop (i / 8))
  rw [pow_split i, ← Nat.div_div_eq_div_mul, leN_drop, hz, bit_shift _ _ _ (Nat.mod_lt _ (by omega)), getD_drop]
  rfl
theorem bit_out (bs : List UInt8) (n i : Nat) (hl : bs.length = n) (h : 8 * n ≤ i) : leN bs / 2 ^ i % 2 = 0 := by
  have h1 := leN_lt bs
  rw [hl, pow256] at h1
  rw [Nat.div_eq_of_lt (Nat.lt_of_lt_of_le h1 (Nat.pow_le_pow_right (by omega) h))]
theorem bits_step (Q t : Nat) : 2 * (Q / 2 % 2 ^ t) + Q % 2 = Q % 2 ^ (t + 1) := by
  rw [Nat.pow_succ, Nat.mul_comm (2 ^ t) 2, Nat.mod_mul, Nat.add_comm]
theorem half (N e : Nat) : N / 2 ^ e / 2 = N / 2 ^ (e + 1) := by rw [Nat.div_div_eq_div_mul, Nat.pow_succ]
theorem low_bits (v j : Nat) : v % 2 ^ (j + 1) = v % 2 ^ j + 2 ^ j * (v / 2 ^ j % 2) := by rw [Nat.pow_succ, Nat.mod_mul]
theorem add_bit (X v k j : Nat) : X + 2 ^ (5 * k) * (v % 2 ^ (j + 1)) = X + 2 ^ (5 * k) * (v % 2 ^ j) + 2 ^ (5 * k + j) * (v / 2 ^ j % 2) := by
  rw [low_bits, Nat.mul_add, ← Nat.mul_assoc, ← Nat.pow_add, Nat.add_assoc]
theorem lt_bits (X v k j : Nat) (hX : X < 32 ^ k) : X + 2 ^ (5 * k) * (v % 2 ^ j) < 2 ^ (5 * k + j) := by
  rw [pow32] at hX
  have h1 : v % 2 ^ j + 1 ≤ 2 ^ j := Nat.mod_lt _ (Nat.pow_pos (by omega))
  have h2 := Nat.mul_le_mul_left (2 ^ (5 * k)) h1
  rw [← Nat.pow_add, Nat.mul_add, Nat.mul_one] at h2
  omega
/-- one bit, set. -/
theorem byteL_bit (n Y t : Nat) (hY : Y < 2 ^ t) (ht : t / 8 < n) : byteL n (Y + 2 ^ t) = (byteL n Y).set (t / 8) (UInt8.ofNat ((byteAt Y (t / 8)).toNat + 2 ^ (t % 8))) ∧ (byteAt Y (t / 8)).toNat + 2 ^ (t % 8) < 256 := by
  have hq : Y / 256 ^ (t / 8) < 2 ^ (t % 8) := by
    rw [Nat.div_lt_iff_lt_mul (pos256 _), Nat.mul_comm, ← pow_split]
    exact hY
  have h7 : t % 8 < 8 := Nat.mod_lt _ (by omega)
  have hs : 2 ^ (t % 8) ≤ 128 := by
    have : t % 8 = 0 ∨ t % 8 = 1 ∨ t % 8 = 2 ∨ t % 8 = 3 ∨ t % 8 = 4 ∨ t % 8 = 5 ∨ t % 8 = 6 ∨ t % 8 = 7 := by omega
    rcases this with h | h | h | h | h | h | h | h <;> rw [h] <;> decide
  have hb : (byteAt Y (t / 8)).toNat = Y / 256 ^ (t / 8) := by
    rw [byteAt_toNat]
    exact Nat.mod_eq_of_lt (by omega)
  refine ⟨?_, by omega⟩
  rw [hb, ← byteL_put0 n Y (2 ^ (t % 8)) (t / 8) (Nat.div_eq_of_lt (by omega)), Nat.mul_comm, ← pow_split]
theorem byteL_bit_over (n Y t : Nat) (ht : n ≤ t / 8) : byteL n (Y + 2 ^ t) = byteL n Y := by
  rw [pow_split t, Nat.mul_comm, byteL_over _ _ _ _ ht]
end Go.Bs
