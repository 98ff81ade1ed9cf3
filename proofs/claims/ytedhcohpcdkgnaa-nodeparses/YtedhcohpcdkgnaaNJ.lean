/- What bytes are read as: plain words. Conditions: none. -/
import Derived.Test.YtedhcohpcdkgnaaNG
import Derived.Test.YtedhcohpcdkgnaaN8
namespace Go.Bs
open Go.RowKit
def knd (b : List UInt8) : Nat := (stNum (b, false) 1).1
def cnt (b : List UInt8) : Nat × St := stNum (stNum (b, false) 1).2 2
/-- the node that is read, and what is behind it. -/
def rdN (b : List UInt8) : Nd × St :=
  if knd b = 1 then (⟨true, (prs (cnt b).1 (cnt b).2).1, [], []⟩, (prs (cnt b).1 (cnt b).2).2)
  else (⟨false, [], (kys (cnt b).1 (chs ((cnt b).1 + 1) (cnt b).2).2).1, (chs ((cnt b).1 + 1) (cnt b).2).1⟩, (kys (cnt b).1 (chs ((cnt b).1 + 1) (cnt b).2).2).2)
def okP (b : List UInt8) : Prop := (knd b = 1 ∨ knd b = 2) ∧ (rdN b).2.2 = false ∧ (rdN b).1.chk (b.length : Int) = 0 ∧ (rdN b).2.1.all (· == 0) = true
/-! what is consumed -/
theorem stTake_sh {s : St} {k : Nat} (h : (stTake s k).2.2 = false) : s.2 = false ∧ k ≤ s.1.length ∧ stTake s k = (s.1.take k, (s.1.drop k, false)) := by
  unfold stTake at h ⊢
  split at h
  · cases h
  · rename_i h1
    rw [if_neg h1]
    refine ⟨?_, by omega, rfl⟩
    cases e : s.2
    · rfl
    · exact absurd (.inl e) h1
theorem stTxt_sh {s : St} (h : (stTxt s).2.2 = false) : s.2 = false ∧ ∃ x l, s.1 = x :: l ∧ x.toNat ≤ l.length ∧ stTxt s = (⟨(l.take x.toNat).toArray⟩, (l.drop x.toNat, false)) := by
  have h2 := stTake_sh (s := (stNum s 1).2) (k := (stNum s 1).1) h
  have h1 := stTake_sh (s := s) (k := 1) h2.1
  obtain ⟨b, sh⟩ := s
  simp only at h1
  obtain ⟨rfl, hl, e⟩ := h1
  cases b with
  | nil => simp at hl
  | cons x l =>
    have e1 : stNum (x :: l, false) 1 = (x.toNat, (l, false)) := by
      unfold stNum
      rw [e]
      simp [beN]
    rw [e1] at h2
    refine ⟨rfl, x, l, rfl, h2.2.1, ?_⟩
    unfold stTxt
    rw [e1, h2.2.2]
theorem prs_use (s : St) : ∀ j, (prs j s).2.2 = false → 2 * (prs j s).1.length + (prs j s).2.1.length ≤ s.1.length ∧ (prs j s).1.length = j ∧ s.2 = false
  | 0 => by intro h; exact ⟨by simp [prs], rfl, h⟩
  | j + 1 => by
    intro h
    by_cases hb : (prs j s).2.2 = true
    · rw [prs, if_pos hb] at h
      rw [hb] at h; cases h
    · have hb' : (prs j s).2.2 = false := by simpa using hb
      obtain ⟨i1, i2, i3⟩ := prs_use s j hb'
      rw [prs_step j s hb'] at h ⊢
      obtain ⟨t1, x, l, e1, e2, e3⟩ := stTxt_sh h
      obtain ⟨t2, x2, l2, f1, f2, f3⟩ := stTxt_sh (s := (prs j s).2) t1
      rw [f3] at e1 e3
      simp only at e1
      have g1 : (l2.drop x2.toNat).length = l.length + 1 := by rw [e1]; rfl
      have g2 : (prs j s).2.1.length = l2.length + 1 := by rw [f1]; rfl
      rw [List.length_drop] at g1
      refine ⟨?_, by simp [i2], i3⟩
      rw [f3, e3]
      simp only [List.length_append, List.length_cons, List.length_nil, List.length_drop]
      omega
theorem kys_use (s : St) : ∀ j, (kys j s).2.2 = false → (kys j s).1.length + (kys j s).2.1.length ≤ s.1.length ∧ (kys j s).1.length = j ∧ s.2 = false
  | 0 => by intro h; exact ⟨by simp [kys], rfl, h⟩
  | j + 1 => by
    intro h
    by_cases hb : (kys j s).2.2 = true
    · rw [kys, if_pos hb] at h
      rw [hb] at h; cases h
    · have hb' : (kys j s).2.2 = false := by simpa using hb
      obtain ⟨i1, i2, i3⟩ := kys_use s j hb'
      rw [kys_step j s hb'] at h ⊢
      obtain ⟨t2, x2, l2, f1, f2, f3⟩ := stTxt_sh (s := (kys j s).2) h
      have g2 : (kys j s).2.1.length = l2.length + 1 := by rw [f1]; rfl
      refine ⟨?_, by simp [i2], i3⟩
      rw [f3]
      simp only [List.length_append, List.length_cons, List.length_nil, List.length_drop]
      omega
theorem chs_use (s : St) : ∀ j, (chs j s).2.2 = false → 3 * (chs j s).1.length + (chs j s).2.1.length ≤ s.1.length ∧ (chs j s).1.length = j ∧ s.2 = false
  | 0 => by intro h; exact ⟨by simp [chs], rfl, h⟩
  | j + 1 => by
    intro h
    by_cases hb : (chs j s).2.2 = true
    · rw [chs, if_pos hb] at h
      rw [hb] at h; cases h
    · have hb' : (chs j s).2.2 = false := by simpa using hb
      obtain ⟨i1, i2, i3⟩ := chs_use s j hb'
      rw [chs_step j s hb'] at h ⊢
      obtain ⟨t1, t2, t3⟩ := stTake_sh (s := (chs j s).2) (k := 3) h
      refine ⟨?_, by simp [i2], i3⟩
      unfold stNum
      rw [t3]
      simp only [List.length_append, List.length_cons, List.length_nil, List.length_drop]
      omega
theorem cnt_lt (b : List UInt8) : (cnt b).1 ≤ 65535 := by
  have := stNum_lt (stNum (b, false) 1).2 2 (by omega)
  unfold cnt
  omega
theorem cnt_len (b : List UInt8) : (cnt b).2.1.length ≤ b.length := Nat.le_trans (stTake_ahead _ _) (stTake_ahead _ _)
theorem rdN_few (b : List UInt8) (hb : b.length ≤ 5000) (h : (rdN b).2.2 = false) : (rdN b).1.Few 7000 := by
  have hc := cnt_len b
  unfold rdN at h ⊢
  split
  · rename_i hk
    rw [if_pos hk] at h
    have h1 := prs_use _ _ h
    exact ⟨by show (prs _ _).1.length ≤ _; omega, by simp, by simp, fun p hp => by have := prs_size _ _ p hp; omega, by simp⟩
  · rename_i hk
    rw [if_neg hk] at h
    have h1 := kys_use _ _ h
    have h2 := chs_use _ _ h1.2.2
    exact ⟨by simp, by show (kys _ _).1.length ≤ _; omega, by show (chs _ _).1.length ≤ _; omega, by simp, fun p hp => by have := kys_size _ _ p hp; omega⟩
end Go.Bs
