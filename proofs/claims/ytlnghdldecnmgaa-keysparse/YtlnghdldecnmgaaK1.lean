/- Keys in plain words: which bytes a key has. Conditions: none. -/
import Derived.Test.YtlnghdldecnmgaaK0
set_option maxRecDepth 8000
set_option linter.unusedSimpArgs false
set_option linter.unusedVariables false
namespace Go.Kx
open Go.RowKit Go.Bs

inductive Is : Ky → List UInt8 → Prop
  | count : Is ⟨1, [], [], 0, 0⟩ [110]
  | inode (n : Nat) (h1 : 1 ≤ n) (h2 : n ≤ 16777215) : Is ⟨2, [], [], n, 0⟩ (105 :: be 3 n)
  | chunk (n m : Nat) (h1 : 1 ≤ n) (h2 : n ≤ 16777215) (h3 : m ≤ 65535) : Is ⟨3, [], [], n, m⟩ (99 :: (be 3 n ++ be 2 m))
  | entry (n : Nat) (a : List UInt8) (h1 : 1 ≤ n) (h2 : n ≤ 16777215) (h3 : nameL a = true) : Is ⟨4, a, [], n, 0⟩ (100 :: (be 3 n ++ a))
  | one (kind : Int) (a : List UInt8) (hk : kind = 5 ∨ kind = 8 ∨ kind = 10) (h : nameL a = true) : Is ⟨kind, a, [], 0, 0⟩ (letterOf kind :: a)
  | two (kind : Int) (a b : List UInt8) (hk : kind = 6 ∨ kind = 7) (h : nameL a = true) (h' : nameL b = true) : Is ⟨kind, a, b, 0, 0⟩ (letterOf kind :: (a ++ 0 :: b))
  | gen (a : List UInt8) (n : Nat) (h : nameL a = true) (h2 : n ≤ 16777215) : Is ⟨9, a, [], n, 0⟩ (103 :: (a ++ 0 :: be 3 n))

theorem nat_of {n : Int} (h : 0 ≤ n) : ∃ m : Nat, n = m := ⟨n.toNat, by omega⟩
theorem bytesF_is {k : Ky} {s : List UInt8} (h : bytesF k = some s) : Is k s := by
  obtain ⟨kind, a, b, n, m⟩ := k
  by_cases hk : 1 ≤ kind ∧ kind ≤ 10
  · rcases kinds hk with rfl | rfl | rfl | rfl | rfl | rfl | rfl | rfl | rfl | rfl <;>
      simp only [bytesF, lay, fields, fin, layF, takeF, clearF, Ky.num, Ky.txt, Ky.setN, Ky.setT, hk, and_self, if_true, if_false, noneK, Bool.false_eq_true, reduceIte] at h
    · simp only [Ky.mk.injEq, true_and] at h
      split at h
      · rename_i he
        obtain ⟨rfl, rfl, rfl, rfl⟩ := he
        cases h
        exact .count
      · cases h
    · by_cases c : ((1 : Nat) : Int) ≤ n ∧ n ≤ ((16777215 : Nat) : Int)
      · obtain ⟨q, rfl⟩ := nat_of (show 0 ≤ n by omega)
        rw [if_pos c] at h
        simp only [Ky.mk.injEq, true_and] at h
        split at h
        · rename_i he
          obtain ⟨rfl, rfl, rfl⟩ := he
          cases h
          exact .inode q (by omega) (by omega)
        · cases h
      · rw [if_neg c] at h
        cases h
    · by_cases c : ((1 : Nat) : Int) ≤ n ∧ n ≤ ((16777215 : Nat) : Int)
      · obtain ⟨q, rfl⟩ := nat_of (show 0 ≤ n by omega)
        rw [if_pos c] at h
        simp only at h
        by_cases d : ((0 : Nat) : Int) ≤ m ∧ m ≤ ((65535 : Nat) : Int)
        · obtain ⟨r, rfl⟩ := nat_of (show 0 ≤ m by omega)
          rw [if_pos d] at h
          simp only [Ky.mk.injEq, true_and] at h
          split at h
          · rename_i he
            obtain ⟨rfl, rfl, _⟩ := he
            cases h
            exact .chunk q r (by omega) (by omega) (by omega)
          · cases h
        · rw [if_neg d] at h
          cases h
      · rw [if_neg c] at h
        cases h
    · by_cases c : ((1 : Nat) : Int) ≤ n ∧ n ≤ ((16777215 : Nat) : Int)
      · obtain ⟨q, rfl⟩ := nat_of (show 0 ≤ n by omega)
        rw [if_pos c] at h
        simp only at h
        by_cases d : nameL a = true
        · rw [if_pos d] at h
          simp only [Ky.mk.injEq, true_and] at h
          split at h
          · rename_i he
            obtain ⟨rfl, rfl⟩ := he
            cases h
            exact .entry q a (by omega) (by omega) d
          · cases h
        · rw [if_neg d] at h
          cases h
      · rw [if_neg c] at h
        cases h
    · by_cases d : nameL a = true
      · rw [if_pos d] at h
        simp only [Ky.mk.injEq, true_and] at h
        split at h
        · rename_i he
          obtain ⟨rfl, rfl, rfl⟩ := he
          cases h
          exact .one 5 a (by omega) d
        · cases h
      · rw [if_neg d] at h
        cases h
    · by_cases d : nameL a = true
      · rw [if_pos d] at h
        simp only at h
        by_cases d2 : nameL b = true
        · rw [if_pos d2] at h
          simp only [Ky.mk.injEq, true_and] at h
          split at h
          · rename_i he
            obtain ⟨rfl, rfl⟩ := he
            cases h
            simpa using Is.two 6 a b (by omega) d d2
          · cases h
        · rw [if_neg d2] at h
          cases h
      · rw [if_neg d] at h
        cases h
    · by_cases d : nameL a = true
      · rw [if_pos d] at h
        simp only at h
        by_cases d2 : nameL b = true
        · rw [if_pos d2] at h
          simp only [Ky.mk.injEq, true_and] at h
          split at h
          · rename_i he
            obtain ⟨rfl, rfl⟩ := he
            cases h
            simpa using Is.two 7 a b (by omega) d d2
          · cases h
        · rw [if_neg d2] at h
          cases h
      · rw [if_neg d] at h
        cases h
    · by_cases d : nameL a = true
      · rw [if_pos d] at h
        simp only [Ky.mk.injEq, true_and] at h
        split at h
        · rename_i he
          obtain ⟨rfl, rfl, rfl⟩ := he
          cases h
          exact .one 8 a (by omega) d
        · cases h
      · rw [if_neg d] at h
        cases h
    · by_cases d : nameL a = true
      · rw [if_pos d] at h
        simp only at h
        by_cases c : ((0 : Nat) : Int) ≤ n ∧ n ≤ ((16777215 : Nat) : Int)
        · obtain ⟨q, rfl⟩ := nat_of (show 0 ≤ n by omega)
          rw [if_pos c] at h
          simp only [Ky.mk.injEq, true_and] at h
          split at h
          · rename_i he
            obtain ⟨rfl, rfl⟩ := he
            cases h
            simpa [letterOf, letters] using Is.gen a q d (by omega)
          · cases h
        · rw [if_neg c] at h
          cases h
      · rw [if_neg d] at h
        cases h
    · by_cases d : nameL a = true
      · rw [if_pos d] at h
        simp only [Ky.mk.injEq, true_and] at h
        split at h
        · rename_i he
          obtain ⟨rfl, rfl, rfl⟩ := he
          cases h
          exact .one 10 a (by omega) d
        · cases h
      · rw [if_neg d] at h
        cases h
  · simp [bytesF, lay, hk] at h
theorem Is.bytes {k : Ky} {s : List UInt8} (h : Is k s) : bytesF k = some s := by
  cases h with
  | count => decide
  | inode n h1 h2 =>
    have c : ((1 : Nat) : Int) ≤ (n : Int) ∧ (n : Int) ≤ ((16777215 : Nat) : Int) := by omega
    simp only [bytesF, lay, fields, fin, layF, takeF, clearF, Ky.num, Ky.setN, noneK, if_pos c, Bool.false_eq_true, reduceIte, Int.reduceLE, and_self, Int.toNat_natCast]
    rfl
  | chunk n m h1 h2 h3 =>
    have c : ((1 : Nat) : Int) ≤ (n : Int) ∧ (n : Int) ≤ ((16777215 : Nat) : Int) := by omega
    have d : ((0 : Nat) : Int) ≤ (m : Int) ∧ (m : Int) ≤ ((65535 : Nat) : Int) := by omega
    simp only [bytesF, lay, fields, fin, layF, takeF, clearF, Ky.num, Ky.setN, noneK, if_pos c, if_pos d, Bool.false_eq_true, reduceIte, Int.reduceLE, and_self, Int.toNat_natCast]
    rfl
  | entry n a h1 h2 h3 =>
    have c : ((1 : Nat) : Int) ≤ (n : Int) ∧ (n : Int) ≤ ((16777215 : Nat) : Int) := by omega
    simp only [bytesF, lay, fields, fin, layF, takeF, clearF, Ky.num, Ky.txt, Ky.setN, Ky.setT, noneK, if_pos c, if_pos h3, Bool.false_eq_true, reduceIte, Int.reduceLE, and_self, Int.toNat_natCast]
    rfl
  | one kind a hk h =>
    rcases hk with rfl | rfl | rfl <;>
      (simp only [bytesF, lay, fields, fin, layF, takeF, clearF, Ky.num, Ky.txt, Ky.setN, Ky.setT, noneK, if_pos h, Bool.false_eq_true, reduceIte, Int.reduceLE, and_self]; rfl)
  | two kind a b hk h h' =>
    rcases hk with rfl | rfl <;>
      (simp only [bytesF, lay, fields, fin, layF, takeF, clearF, Ky.num, Ky.txt, Ky.setN, Ky.setT, noneK, if_pos h, if_pos h', Bool.false_eq_true, reduceIte, Int.reduceLE, and_self]; simp)
  | gen a n h h2 =>
    have c : ((0 : Nat) : Int) ≤ (n : Int) ∧ (n : Int) ≤ ((16777215 : Nat) : Int) := by omega
    simp only [bytesF, lay, fields, fin, layF, takeF, clearF, Ky.num, Ky.txt, Ky.setN, Ky.setT, noneK, if_pos c, if_pos h, Bool.false_eq_true, reduceIte, Int.reduceLE, and_self, Int.toNat_natCast]
    simp [letterOf, letters]
theorem bytesF_iff (k : Ky) (s : List UInt8) : bytesF k = some s ↔ Is k s := ⟨bytesF_is, Is.bytes⟩

theorem take_be (n size : Nat) (l : List UInt8) : (be size n ++ l).take size = be size n ∧ (be size n ++ l).drop size = l := ⟨List.take_left' (be_length _ _), List.drop_left' (be_length _ _)⟩
theorem Is.read {k : Ky} {s : List UInt8} (h : Is k s) : readF s = k := by
  cases h with
  | count => decide
  | inode n h1 h2 =>
    have e := take_be n 3 []
    rw [List.append_nil] at e
    have e0 : ix letters 105 + 1 = 2 := by decide
    simp only [readF, e0, fields, fin, readsK, readK, noneK, Ky.setN, Bool.false_eq_true, reduceIte, e.1, beN_be]
    rw [Nat.mod_eq_of_lt (by omega)]
  | chunk n m h1 h2 h3 =>
    have e := take_be n 3 (be 2 m)
    have e' := take_be m 2 []
    rw [List.append_nil] at e'
    have e0 : ix letters 99 + 1 = 3 := by decide
    simp only [readF, e0, fields, fin, readsK, readK, noneK, Ky.setN, Bool.false_eq_true, reduceIte, e.1, e.2, e'.1, beN_be]
    rw [Nat.mod_eq_of_lt (by omega), Nat.mod_eq_of_lt (by omega)]
  | entry n a h1 h2 h3 =>
    have e := take_be n 3 a
    have e0 : ix letters 100 + 1 = 4 := by decide
    simp only [readF, e0, fields, fin, readsK, readK, noneK, Ky.setN, Ky.setT, Bool.false_eq_true, reduceIte, e.1, e.2, beN_be]
    rw [Nat.mod_eq_of_lt (by omega)]
  | one kind a hk h =>
    have e0 := ix_letterOf kind (by omega)
    simp only [readF, e0]
    rcases hk with rfl | rfl | rfl <;> rfl
  | two kind a b hk h h' =>
    have e0 := ix_letterOf kind (by omega)
    have e := take_cut (r := b) (nameL_no h).1
    simp only [readF, e0]
    rcases hk with rfl | rfl <;> simp only [fields, readsK, readK, noneK, Ky.setT, Bool.false_eq_true, reduceIte, e.1, e.2]
  | gen a n h h2 =>
    have e0 : ix letters 103 + 1 = 9 := by decide
    have e := take_cut (r := be 3 n) (nameL_no h).1
    have e' := take_be n 3 []
    rw [List.append_nil] at e'
    simp only [readF, e0, fields, readsK, readK, noneK, Ky.setN, Ky.setT, Bool.false_eq_true, reduceIte, e.1, e.2, e'.1, beN_be]
    rw [Nat.mod_eq_of_lt (by omega)]
theorem parseF_iff (s : List UInt8) (k : Ky) : parseF s = some k ↔ Is k s := by
  unfold parseF
  constructor
  · intro h
    split at h
    · rename_i he
      cases h
      exact bytesF_is he
    · cases h
  · intro h
    rw [h.read, if_pos h.bytes]
theorem Is.inj {k k' : Ky} {s : List UInt8} (h : Is k s) (h' : Is k' s) : k = k' := h.read.symm.trans h'.read
theorem Is.fn {k : Ky} {s s' : List UInt8} (h : Is k s) (h' : Is k s') : s = s' := by
  have := h.bytes.symm.trans h'.bytes
  exact Option.some.inj this
theorem Is.kind {k : Ky} {s : List UInt8} (h : Is k s) : 1 ≤ k.kind ∧ k.kind ≤ 10 := by
  cases h <;> simp <;> omega
theorem Is.head {k : Ky} {s : List UInt8} (h : Is k s) : ∃ r, s = letterOf k.kind :: r := by
  cases h <;> exact ⟨_, rfl⟩
theorem Is.len {k : Ky} {s : List UInt8} (h : Is k s) : 1 ≤ s.length ∧ s.length ≤ 130 := by
  cases h with
  | count => simp
  | inode n h1 h2 => simp [be_length]
  | chunk n m h1 h2 h3 => simp [be_length]
  | entry n a h1 h2 h3 => have := nameL_no h3; simp [be_length]; omega
  | one kind a hk h => have := nameL_no h; simp; omega
  | two kind a b hk h h' => have := nameL_no h; have := nameL_no h'; simp; omega
  | gen a n h h2 => have := nameL_no h; simp [be_length]; omega
end Go.Kx
