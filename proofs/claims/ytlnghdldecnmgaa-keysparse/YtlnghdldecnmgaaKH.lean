/- The document's May. Conditions: none. -/
import Derived.Test.YtlnghdldecnmgaaKG
set_option maxRecDepth 8000
set_option linter.unusedSimpArgs false
set_option linter.unusedVariables false
namespace Go.Kx
open Go.RowKit Go.Bs
def mayT (k : Ky) : Bool := (!(shp k.kind).1 || nameL k.a) && ((shp k.kind).1 || decide (k.a = [])) && (!(shp k.kind).2.1 || nameL k.b) && ((shp k.kind).2.1 || decide (k.b = []))
def mayN (k : Ky) : Bool := (!(shp k.kind).2.2.1 || numR k.kind k.n) && ((shp k.kind).2.2.1 || decide (k.n = 0))
def mayM (k : Ky) : Bool := ((shp k.kind).2.2.2 && decide (0 ≤ k.m) && decide (k.m ≤ 65535)) || (!(shp k.kind).2.2.2 && decide (k.m = 0))
def mayR (k : Ky) : Bool := decide (1 ≤ k.kind) && decide (k.kind ≤ 10) && mayT k && mayN k && mayM k
theorem numR_iff (kind n : Int) : numR kind n = true ↔ n ≤ 16777215 ∧ (1 ≤ n ∨ kind = 9 ∧ n = 0) := by
  simp [numR]
theorem may1 (a b : List UInt8) (n m : Int) : mayR ⟨1, a, b, n, m⟩ = true ↔ a = [] ∧ b = [] ∧ n = 0 ∧ m = 0 := by
  simp [mayR, mayT, mayN, mayM, shp, numR_iff, and_assoc]
theorem may2 (a b : List UInt8) (n m : Int) : mayR ⟨2, a, b, n, m⟩ = true ↔ a = [] ∧ b = [] ∧ (n ≤ 16777215 ∧ 1 ≤ n) ∧ m = 0 := by
  simp [mayR, mayT, mayN, mayM, shp, numR_iff, and_assoc]
theorem may3 (a b : List UInt8) (n m : Int) : mayR ⟨3, a, b, n, m⟩ = true ↔ a = [] ∧ b = [] ∧ (n ≤ 16777215 ∧ 1 ≤ n) ∧ 0 ≤ m ∧ m ≤ 65535 := by
  simp [mayR, mayT, mayN, mayM, shp, numR_iff, and_assoc]
theorem may4 (a b : List UInt8) (n m : Int) : mayR ⟨4, a, b, n, m⟩ = true ↔ nameL a = true ∧ b = [] ∧ (n ≤ 16777215 ∧ 1 ≤ n) ∧ m = 0 := by
  simp [mayR, mayT, mayN, mayM, shp, numR_iff, and_assoc]
theorem may5 (a b : List UInt8) (n m : Int) : mayR ⟨5, a, b, n, m⟩ = true ↔ nameL a = true ∧ b = [] ∧ n = 0 ∧ m = 0 := by
  simp [mayR, mayT, mayN, mayM, shp, numR_iff, and_assoc]
theorem may6 (a b : List UInt8) (n m : Int) : mayR ⟨6, a, b, n, m⟩ = true ↔ nameL a = true ∧ nameL b = true ∧ n = 0 ∧ m = 0 := by
  simp [mayR, mayT, mayN, mayM, shp, numR_iff, and_assoc]
theorem may7 (a b : List UInt8) (n m : Int) : mayR ⟨7, a, b, n, m⟩ = true ↔ nameL a = true ∧ nameL b = true ∧ n = 0 ∧ m = 0 := by
  simp [mayR, mayT, mayN, mayM, shp, numR_iff, and_assoc]
theorem may8 (a b : List UInt8) (n m : Int) : mayR ⟨8, a, b, n, m⟩ = true ↔ nameL a = true ∧ b = [] ∧ n = 0 ∧ m = 0 := by
  simp [mayR, mayT, mayN, mayM, shp, numR_iff, and_assoc]
theorem may9 (a b : List UInt8) (n m : Int) : mayR ⟨9, a, b, n, m⟩ = true ↔ nameL a = true ∧ b = [] ∧ (n ≤ 16777215 ∧ (1 ≤ n ∨ n = 0)) ∧ m = 0 := by
  simp [mayR, mayT, mayN, mayM, shp, numR_iff, and_assoc]
theorem may10 (a b : List UInt8) (n m : Int) : mayR ⟨10, a, b, n, m⟩ = true ↔ nameL a = true ∧ b = [] ∧ n = 0 ∧ m = 0 := by
  simp [mayR, mayT, mayN, mayM, shp, numR_iff, and_assoc]
theorem mayR_is (k : Ky) : mayR k = true ↔ ∃ s, Is k s := by
  constructor
  · intro h
    obtain ⟨kind, a, b, n, m⟩ := k
    have hk : 1 ≤ kind ∧ kind ≤ 10 := by
      simp only [mayR, Bool.and_eq_true, decide_eq_true_eq] at h
      exact ⟨h.1.1.1.1, h.1.1.1.2⟩
    rcases kinds hk with rfl | rfl | rfl | rfl | rfl | rfl | rfl | rfl | rfl | rfl
    · obtain ⟨rfl, rfl, rfl, rfl⟩ := (may1 _ _ _ _).1 h
      exact ⟨_, .count⟩
    · obtain ⟨rfl, rfl, ⟨h1, h2⟩, rfl⟩ := (may2 _ _ _ _).1 h
      obtain ⟨q, rfl⟩ := nat_of (show 0 ≤ n by omega)
      exact ⟨_, .inode q (by omega) (by omega)⟩
    · obtain ⟨rfl, rfl, ⟨h1, h2⟩, h3, h4⟩ := (may3 _ _ _ _).1 h
      obtain ⟨q, rfl⟩ := nat_of (show 0 ≤ n by omega)
      obtain ⟨r, rfl⟩ := nat_of (show 0 ≤ m by omega)
      exact ⟨_, .chunk q r (by omega) (by omega) (by omega)⟩
    · obtain ⟨ha, rfl, ⟨h1, h2⟩, rfl⟩ := (may4 _ _ _ _).1 h
      obtain ⟨q, rfl⟩ := nat_of (show 0 ≤ n by omega)
      exact ⟨_, .entry q a (by omega) (by omega) ha⟩
    · obtain ⟨ha, rfl, rfl, rfl⟩ := (may5 _ _ _ _).1 h
      exact ⟨_, .one 5 a (by omega) ha⟩
    · obtain ⟨ha, hb, rfl, rfl⟩ := (may6 _ _ _ _).1 h
      exact ⟨_, .two 6 a b (by omega) ha hb⟩
    · obtain ⟨ha, hb, rfl, rfl⟩ := (may7 _ _ _ _).1 h
      exact ⟨_, .two 7 a b (by omega) ha hb⟩
    · obtain ⟨ha, rfl, rfl, rfl⟩ := (may8 _ _ _ _).1 h
      exact ⟨_, .one 8 a (by omega) ha⟩
    · obtain ⟨ha, rfl, ⟨h1, h2⟩, rfl⟩ := (may9 _ _ _ _).1 h
      obtain ⟨q, rfl⟩ := nat_of (show 0 ≤ n by omega)
      exact ⟨_, .gen a q ha (by omega)⟩
    · obtain ⟨ha, rfl, rfl, rfl⟩ := (may10 _ _ _ _).1 h
      exact ⟨_, .one 10 a (by omega) ha⟩
  · rintro ⟨s, h⟩
    cases h with
    | count => decide
    | inode n h1 h2 => exact (may2 _ _ _ _).2 ⟨rfl, rfl, ⟨by omega, by omega⟩, rfl⟩
    | chunk n m h1 h2 h3 => exact (may3 _ _ _ _).2 ⟨rfl, rfl, ⟨by omega, by omega⟩, by omega, by omega⟩
    | entry n a h1 h2 h3 => exact (may4 _ _ _ _).2 ⟨h3, rfl, ⟨by omega, by omega⟩, rfl⟩
    | one kind a hk h => rcases hk with rfl | rfl | rfl
                         · exact (may5 _ _ _ _).2 ⟨h, rfl, rfl, rfl⟩
                         · exact (may8 _ _ _ _).2 ⟨h, rfl, rfl, rfl⟩
                         · exact (may10 _ _ _ _).2 ⟨h, rfl, rfl, rfl⟩
    | two kind a b hk h h' => rcases hk with rfl | rfl
                              · exact (may6 _ _ _ _).2 ⟨h, h', rfl, rfl⟩
                              · exact (may7 _ _ _ _).2 ⟨h, h', rfl, rfl⟩
    | gen a n h h2 => exact (may9 _ _ _ _).2 ⟨h, rfl, ⟨by omega, by omega⟩, rfl⟩
theorem mayR_isSome (k : Ky) : mayR k = (bytesF k).isSome := by
  rw [Bool.eq_iff_iff, mayR_is, Option.isSome_iff_exists]
  simp only [bytesF_iff]
end Go.Kx
