/- How bytes rise, in plain words. Conditions: none. -/
import Derived.Test.YtlnghdldecnmgaaKU
set_option maxRecDepth 8000
set_option linter.unusedSimpArgs false
set_option linter.unusedVariables false
namespace Go.Kx
open Go.RowKit Go.Bs
theorem less_lt : ∀ (x y : List UInt8), Op.bytesLess x y = decide (x < y)
  | [], [] => by simp [Op.bytesLess]
  | _ :: _, [] => by simp [Op.bytesLess]
  | [], _ :: _ => by simp [Op.bytesLess]
  | a :: x, b :: y => by
    rw [Op.bytesLess, less_lt x y]
    simp only [List.cons_lt_cons_iff]
    by_cases h1 : a < b <;> by_cases h2 : a = b <;> by_cases h3 : x < y <;> simp [h1, h2, h3]
theorem beN_from : ∀ (l : List UInt8) (v : Nat), l.foldl (fun v x => v * 256 + x.toNat) v = v * 256 ^ l.length + beN l
  | [], v => by simp [beN]
  | x :: l, v => by
    show l.foldl _ (v * 256 + x.toNat) = _
    rw [beN_from l]
    show _ = _ + l.foldl _ (0 * 256 + x.toNat)
    rw [beN_from l, List.length_cons, Nat.pow_succ, Nat.add_mul, Nat.zero_mul, Nat.zero_add, Nat.mul_assoc, Nat.mul_comm 256, Nat.add_assoc]
theorem beN_cons (x : UInt8) (l : List UInt8) : beN (x :: l) = x.toNat * 256 ^ l.length + beN l := by
  show l.foldl _ (0 * 256 + x.toNat) = _
  rw [beN_from l, Nat.zero_mul, Nat.zero_add]
theorem lt_be : ∀ (p q : List UInt8), p.length = q.length → ((p < q) ↔ beN p < beN q)
  | [], [], _ => by simp
  | [], _ :: _, h => by simp at h
  | _ :: _, [], h => by simp at h
  | a :: p, b :: q, h => by
    have hl : p.length = q.length := by simpa using h
    rw [List.cons_lt_cons_iff, lt_be p q hl, beN_cons, beN_cons, hl]
    have h1 := beN_lt p
    have h2 := beN_lt q
    rw [hl] at h1
    obtain ⟨K, hK⟩ : ∃ K, 256 ^ q.length = K := ⟨_, rfl⟩
    rw [hK] at h1 h2 ⊢
    by_cases c : a < b
    · have c' : a.toNat < b.toNat := c
      have : a.toNat * K + K ≤ b.toNat * K := by rw [← Nat.succ_mul]; exact Nat.mul_le_mul_right K c'
      simp only [c, true_or, true_iff]
      omega
    · by_cases e : a = b
      · subst e
        simp
      · have c' : b.toNat < a.toNat := by
          have h3 : ¬ a.toNat < b.toNat := c
          have h4 : a.toNat ≠ b.toNat := fun h => e (UInt8.toNat_inj.1 h)
          omega
        have : b.toNat * K + K ≤ a.toNat * K := by rw [← Nat.succ_mul]; exact Nat.mul_le_mul_right K c'
        simp only [c, e, false_or, false_and, false_iff]
        omega
theorem lt_app : ∀ (p q x y : List UInt8), p.length = q.length → ((p ++ x < q ++ y) ↔ (p < q ∨ p = q ∧ x < y))
  | [], [], x, y, _ => by simp
  | [], _ :: _, _, _, h => by simp at h
  | _ :: _, [], _, _, h => by simp at h
  | a :: p, b :: q, x, y, h => by
    have hl : p.length = q.length := by simpa using h
    simp only [List.cons_append, List.cons_lt_cons_iff, lt_app p q x y hl, List.cons.injEq]
    by_cases c : a < b
    · simp [c]
    · by_cases e : a = b
      · subst e; simp
      · simp [c, e]
theorem lt_be_app (size n m : Nat) (x y : List UInt8) (hn : n < 256 ^ size) (hm : m < 256 ^ size) : (be size n ++ x < be size m ++ y) ↔ (n < m ∨ n = m ∧ x < y) := by
  rw [lt_app _ _ _ _ (by rw [be_length, be_length]), lt_be _ _ (by rw [be_length, be_length]), beN_be, beN_be, Nat.mod_eq_of_lt hn, Nat.mod_eq_of_lt hm]
  constructor
  · rintro (h | ⟨h, h'⟩)
    · exact .inl h
    · exact .inr ⟨be_inj size n m hn hm h, h'⟩
  · rintro (h | ⟨h, h'⟩)
    · exact .inl h
    · exact .inr ⟨by rw [h], h'⟩
theorem lt_be' (size n m : Nat) (hn : n < 256 ^ size) (hm : m < 256 ^ size) : (be size n < be size m) ↔ n < m := by
  have h := lt_be_app size n m [] [] hn hm
  simpa using h
theorem cons_lt (x : UInt8) (p q : List UInt8) : (x :: p < x :: q) ↔ p < q := by
  rw [List.cons_lt_cons_iff]
  simp
theorem lt_self (a : List UInt8) : ¬ a < a := List.lt_irrefl a
theorem app_lt (a p q : List UInt8) : (a ++ p < a ++ q) ↔ p < q := by
  rw [lt_app a a p q rfl]
  have := lt_self a
  simp only [this, false_or, true_and]
theorem rise {k k' : Ky} {s t : List UInt8} (h : Is k s) (h' : Is k' t) (hk : k.kind = k'.kind) (ha : k.a = k'.a) (hb : k.b = k'.b) (hm : k.kind ≠ 3 → k.m = k'.m) :
    Op.bytesLess s t = decide (k.n < k'.n ∨ k.n = k'.n ∧ k.m < k'.m) := by
  rw [less_lt]
  congr 1
  rw [eq_iff_iff]
  cases h with
  | count =>
    generalize hkk : k' = kk at h'
    cases h' with
    | count =>
      subst hkk
      have := lt_self [110]
      simp [this]
    | one kind a hq h => subst hkk; simp only at hk; omega
    | two kind a b hq h h' => subst hkk; simp only at hk; omega
    | _ => subst hkk; simp at hk
  | inode n h1 h2 =>
    generalize hkk : k' = kk at h'
    cases h' with
    | inode n' h1' h2' =>
      subst hkk
      rw [cons_lt, lt_be' 3 n n' (by omega) (by omega)]
      simp
    | one kind a hq h => subst hkk; simp only at hk; omega
    | two kind a b hq h h' => subst hkk; simp only at hk; omega
    | _ => subst hkk; simp at hk
  | chunk n m h1 h2 h3 =>
    generalize hkk : k' = kk at h'
    cases h' with
    | chunk n' m' h1' h2' h3' =>
      subst hkk
      rw [cons_lt, lt_be_app 3 n n' _ _ (by omega) (by omega), lt_be' 2 m m' (by omega) (by omega)]
      simp only
      omega
    | one kind a hq h => subst hkk; simp only at hk; omega
    | two kind a b hq h h' => subst hkk; simp only at hk; omega
    | _ => subst hkk; simp at hk
  | entry n a h1 h2 h3 =>
    generalize hkk : k' = kk at h'
    cases h' with
    | entry n' a' h1' h2' h3' =>
      subst hkk
      simp only at ha
      subst ha
      rw [cons_lt, lt_be_app 3 n n' _ _ (by omega) (by omega)]
      have := lt_self a
      simp [this]
    | one kind a hq h => subst hkk; simp only at hk; omega
    | two kind a b hq h h' => subst hkk; simp only at hk; omega
    | _ => subst hkk; simp at hk
  | one kind a hq h =>
    generalize hkk : k' = kk at h'
    cases h' with
    | one kind' a' hq' h' =>
      subst hkk
      simp only at hk ha
      subst hk; subst ha
      have := lt_self (letterOf kind :: a)
      simp [this]
    | two kind' a' b' hq' h h' => subst hkk; simp only at hk; omega
    | count => subst hkk; simp only at hk; omega
    | inode n' h1' h2' => subst hkk; simp only at hk; omega
    | chunk n' m' h1' h2' h3' => subst hkk; simp only at hk; omega
    | entry n' a' h1' h2' h3' => subst hkk; simp only at hk; omega
    | gen a' n' h h2 => subst hkk; simp only at hk; omega
  | two kind a b hq h h'' =>
    generalize hkk : k' = kk at h'
    cases h' with
    | one kind' a' hq' h' => subst hkk; simp only at hk; omega
    | two kind' a' b' hq' h h' =>
      subst hkk
      simp only at hk ha hb
      subst hk; subst ha; subst hb
      have := lt_self (letterOf kind :: (a ++ 0 :: b))
      simp [this]
    | count => subst hkk; simp only at hk; omega
    | inode n' h1' h2' => subst hkk; simp only at hk; omega
    | chunk n' m' h1' h2' h3' => subst hkk; simp only at hk; omega
    | entry n' a' h1' h2' h3' => subst hkk; simp only at hk; omega
    | gen a' n' h h2 => subst hkk; simp only at hk; omega
  | gen a n h h2 =>
    generalize hkk : k' = kk at h'
    cases h' with
    | gen a' n' h' h2' =>
      subst hkk
      simp only at ha
      subst ha
      rw [cons_lt, app_lt, cons_lt, lt_be' 3 n n' (by omega) (by omega)]
      simp
    | one kind a hq h => subst hkk; simp only at hk; omega
    | two kind a b hq h h' => subst hkk; simp only at hk; omega
    | _ => subst hkk; simp at hk
end Go.Kx
