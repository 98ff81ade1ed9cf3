/- What begins with a Prefix; how bytes rise: in plain words. Conditions: none. -/
import Derived.Test.YtlnghdldecnmgaaKO
import Derived.Test.YtlnghdldecnmgaaKT
set_option maxRecDepth 8000
set_option linter.unusedSimpArgs false
set_option linter.unusedVariables false
namespace Go.Kx
open Go.RowKit Go.Bs
theorem be_inj (size n m : Nat) (hn : n < 256 ^ size) (hm : m < 256 ^ size) (h : be size n = be size m) : n = m := by
  have := congrArg beN h
  rwa [beN_be, beN_be, Nat.mod_eq_of_lt hn, Nat.mod_eq_of_lt hm] at this
/-- s begins with p. -/
def begins (s p : List UInt8) : Bool := decide (p.length ≤ s.length) && (s.take p.length == p)
theorem begins_cons (x y : UInt8) (s p : List UInt8) : begins (x :: s) (y :: p) = ((x == y) && begins s p) := by
  unfold begins
  by_cases h : x = y
  · subst h; simp
  · have : (x == y) = false := by simpa using h
    simp [h, this]
theorem begins_nil (s : List UInt8) : begins s [] = true := by simp [begins]
theorem begins_app (p r : List UInt8) (q : List UInt8) (h : p.length = q.length) : begins (p ++ r) q = decide (p = q) := by
  unfold begins
  rw [← h, List.take_left' rfl]
  by_cases e : p = q
  · subst e; simp
  · simp [e]
theorem begins_name {a b r : List UInt8} (ha : a.contains 0 = false) (hb : b.contains 0 = false) : begins (a ++ 0 :: r) (b ++ [0]) = decide (a = b) := by
  by_cases e : a = b
  · subst e
    have : a ++ 0 :: r = (a ++ [0]) ++ r := by simp
    rw [this, begins_app _ _ _ rfl]
    simp
  · rw [decide_eq_false e]
    unfold begins
    by_cases hl : (b ++ [0]).length ≤ (a ++ 0 :: r).length
    · have : ¬ (a ++ 0 :: r).take (b ++ [0]).length = b ++ [0] := by
        intro h
        apply e
        have h2 : a ++ 0 :: r = b ++ 0 :: (a ++ 0 :: r).drop (b ++ [0]).length := by
          have h3 := List.take_append_drop (b ++ [0]).length (a ++ 0 :: r)
          rw [h] at h3
          simpa using h3.symm
        have h4 := congrArg (List.takeWhile (· != 0)) h2
        rwa [(take_cut ha).1, (take_cut hb).1] at h4
      have hf : ((a ++ 0 :: r).take (b ++ [0]).length == b ++ [0]) = false := by rw [beq_eq_false_iff_ne]; exact this
      rw [hf, Bool.and_false]
    · simp only [decide_eq_false hl, Bool.false_and]
theorem prefix_head {k : Ky} {p : List UInt8} (h : prefixF k = some p) : (1 ≤ k.kind ∧ k.kind ≤ 10) ∧ ∃ q, p = letterOf k.kind :: q := by
  by_cases hk : 1 ≤ k.kind ∧ k.kind ≤ 10
  · refine ⟨hk, ?_⟩
    by_cases h1 : k.kind = 3 ∨ k.kind = 4
    · rw [prefix_num k h1] at h
      split at h
      · cases h; exact ⟨_, rfl⟩
      · cases h
    · by_cases h2 : k.kind = 6 ∨ k.kind = 7 ∨ k.kind = 9
      · rw [prefix_nam k h2] at h
        split at h
        · cases h; exact ⟨_, rfl⟩
        · cases h
      · rw [prefix_one k (by omega)] at h
        cases h; exact ⟨_, rfl⟩
  · rw [prefix_none k hk] at h
    cases h
theorem letter_eq (x : UInt8) : (x == x) = true := by simp
theorem begins_has {a b : Ky} {s p : List UInt8} (h : Is a s) (hp : prefixF b = some p) : begins s p = hasF a b := by
  obtain ⟨hbk, q, rfl⟩ := prefix_head hp
  obtain ⟨r, rfl⟩ := h.head
  rw [begins_cons]
  by_cases hk : a.kind = b.kind
  rotate_left
  · have : (letterOf a.kind == letterOf b.kind) = false := by
      rw [beq_eq_false_iff_ne]
      exact fun e => hk (letterOf_inj h.kind hbk e)
    rw [this]
    simp [hasF, hk]
  · rw [hk, letter_eq, Bool.true_and]
    obtain ⟨kb, ab, bb, nb, mb⟩ := b
    simp only at hk hbk hp
    subst hk
    generalize hs : letterOf a.kind :: r = s at h
    cases h with
    | count =>
      rw [prefix_one _ (by simp)] at hp
      injection hp with hp; injection hp with _ hp; subst hp
      rw [begins_nil]; rfl
    | inode n h1 h2 =>
      rw [prefix_one _ (by simp)] at hp
      injection hp with hp; injection hp with _ hp; subst hp
      rw [begins_nil]; rfl
    | chunk n m h1 h2 h3 =>
      injection hs with _ hs; subst hs
      rw [prefix_num _ (by simp)] at hp
      split at hp
      · rename_i hc
        simp only at hc
        obtain ⟨n', rfl⟩ := nat_of (show 0 ≤ nb by omega)
        injection hp with hp; injection hp with _ hp; subst hp
        rw [begins_app _ _ _ (by rw [be_length, be_length])]
        by_cases e : n = n'
        · subst e; simp [hasF]
        · have : ¬ be 3 n = be 3 (n' : Int).toNat := fun h => e (be_inj 3 n n' (by omega) (by omega) h)
          rw [Int.toNat_natCast] at this ⊢
          have e' : ¬ ((n : Int) = (n' : Int)) := by omega
          simp [hasF, e', this]
      · cases hp
    | entry n a h1 h2 h3 =>
      injection hs with _ hs; subst hs
      rw [prefix_num _ (by simp)] at hp
      split at hp
      · rename_i hc
        simp only at hc
        obtain ⟨n', rfl⟩ := nat_of (show 0 ≤ nb by omega)
        injection hp with hp; injection hp with _ hp; subst hp
        rw [begins_app _ _ _ (by rw [be_length, be_length])]
        by_cases e : n = n'
        · subst e; simp [hasF]
        · have : ¬ be 3 n = be 3 (n' : Int).toNat := fun h => e (be_inj 3 n n' (by omega) (by omega) h)
          rw [Int.toNat_natCast] at this ⊢
          have e' : ¬ ((n : Int) = (n' : Int)) := by omega
          simp [hasF, e', this]
      · cases hp
    | one kind a hkk h =>
      rw [prefix_one _ (by simp only; omega)] at hp
      injection hp with hp; injection hp with _ hp; subst hp
      rw [begins_nil]
      rcases hkk with rfl | rfl | rfl <;> simp [hasF]
    | two kind a b hkk h h' =>
      injection hs with _ hs; subst hs
      rw [prefix_nam _ (by simp only; omega)] at hp
      split at hp
      · rename_i hc
        injection hp with hp; injection hp with _ hp; subst hp
        rw [begins_name (nameL_no h).1 (nameL_no hc).1]
        rcases hkk with rfl | rfl <;> simp [hasF]
      · cases hp
    | gen a n h h2 =>
      injection hs with _ hs; subst hs
      rw [prefix_nam _ (by simp)] at hp
      split at hp
      · rename_i hc
        injection hp with hp; injection hp with _ hp; subst hp
        rw [begins_name (nameL_no h).1 (nameL_no hc).1]
        simp [hasF]
      · cases hp
end Go.Kx
