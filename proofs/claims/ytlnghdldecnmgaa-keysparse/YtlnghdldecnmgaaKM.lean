/- The document's Bytes, whole; what Prefix is, by kind. Conditions: none. -/
import Derived.Test.YtlnghdldecnmgaaKJ2
import Derived.Test.YtlnghdldecnmgaaKI
set_option maxRecDepth 8000
set_option linter.unusedSimpArgs false
set_option linter.unusedVariables false
namespace Go.Kx
open Go.RowKit Go.Bs
theorem Is.bd {k : Ky} {s : List UInt8} (h : Is k s) : Bd k := by
  cases h with
  | count => exact ⟨by simp, by simp, by simp, by simp⟩
  | inode n h1 h2 => exact ⟨by simp, by simp, ⟨by simp only; omega, by simp only; omega⟩, by simp⟩
  | chunk n m h1 h2 h3 => exact ⟨by simp, by simp, ⟨by simp only; omega, by simp only; omega⟩, ⟨by simp only; omega, by simp only; omega⟩⟩
  | entry n a h1 h2 h3 => have := nameL_no h3; exact ⟨by simp only; omega, by simp, ⟨by simp only; omega, by simp only; omega⟩, by simp⟩
  | one kind a hk h => have := nameL_no h; exact ⟨by simp only; omega, by simp, by simp, by simp⟩
  | two kind a b hk h h' => have := nameL_no h; have := nameL_no h'; exact ⟨by simp only; omega, by simp only; omega, by simp, by simp⟩
  | gen a n h h2 => have := nameL_no h; exact ⟨by simp only; omega, by simp, ⟨by simp only; omega, by simp only; omega⟩, by simp⟩
theorem prefix_one (k : Ky) (h : k.kind = 1 ∨ k.kind = 2 ∨ k.kind = 5 ∨ k.kind = 8 ∨ k.kind = 10) : prefixF k = some [letterOf k.kind] := by
  obtain ⟨kind, a, b, n, m⟩ := k
  simp only at h
  rcases h with rfl | rfl | rfl | rfl | rfl <;> rfl
theorem prefix_num (k : Ky) (h : k.kind = 3 ∨ k.kind = 4) : prefixF k = if 1 ≤ k.n ∧ k.n ≤ 16777215 then some (letterOf k.kind :: be 3 k.n.toNat) else none := by
  obtain ⟨kind, a, b, n, m⟩ := k
  simp only at h
  rcases h with rfl | rfl <;>
    (simp only [prefixF, lay, fields, fin, layF, takeF, List.length_cons, List.length_nil, List.take_succ_cons, List.take_zero, Ky.num, Bool.false_eq_true, if_false]
     by_cases c : 1 ≤ n ∧ n ≤ 16777215
     · have c' : ((1 : Nat) : Int) ≤ n ∧ n ≤ ((16777215 : Nat) : Int) := by omega
       simp [c, c']
     · have c' : ¬ (((1 : Nat) : Int) ≤ n ∧ n ≤ ((16777215 : Nat) : Int)) := by omega
       simp [c, c'])
theorem prefix_nam (k : Ky) (h : k.kind = 6 ∨ k.kind = 7 ∨ k.kind = 9) : prefixF k = if nameL k.a = true then some (letterOf k.kind :: (k.a ++ [0])) else none := by
  obtain ⟨kind, a, b, n, m⟩ := k
  simp only at h
  rcases h with rfl | rfl | rfl <;>
    (simp only [prefixF, lay, fields, fin, layF, takeF, List.length_cons, List.length_nil, List.take_succ_cons, List.take_zero]
     by_cases c : nameL a = true
     · simp [c]
     · simp [c])
theorem prefix_none (k : Ky) (h : ¬ (1 ≤ k.kind ∧ k.kind ≤ 10)) : prefixF k = none := by
  unfold prefixF lay
  rw [if_neg h]
  rfl
end Go.Kx
namespace Go.Proofs.Ytlnghdldecnmgaa
open Go.RowKit Go.Bs Go.Kx
theorem rBytes_any (k : Ky) (s : List UInt8) (h : Is k s) (w : World) : Calls Try.prog 16 #[k.val] w fun e w' => e = .returned (st s) ∧ Below w.heap.size w w' := by
  have hb := h.bd
  cases h with
  | count => exact rBytes_1 [] [] 0 0 w _ _ _ rfl rfl rfl (by simp) (by simp)
  | inode n h1 h2 => exact rBytes_2 [] [] _ 0 n rfl w _ _ _ rfl rfl rfl (by simp) (by simp) h2
  | chunk n m h1 h2 h3 => exact rBytes_3 [] [] _ _ n m rfl rfl w _ _ _ rfl rfl rfl (by simp) (by simp) h2 h3
  | entry n a h1 h2 h3 => exact rBytes_4 a [] _ 0 n rfl w _ _ _ rfl rfl rfl hb.a (by simp) h2
  | one kind a hk h =>
    rcases hk with rfl | rfl | rfl
    · exact rBytes_5 a [] 0 0 w _ _ _ rfl rfl rfl hb.a (by simp)
    · exact rBytes_8 a [] 0 0 w _ _ _ rfl rfl rfl hb.a (by simp)
    · exact rBytes_10 a [] 0 0 w _ _ _ rfl rfl rfl hb.a (by simp)
  | two kind a b hk h h' =>
    rcases hk with rfl | rfl
    · exact rBytes_6 a b 0 0 w _ _ _ rfl rfl rfl hb.a hb.b
    · exact rBytes_7 a b 0 0 w _ _ _ rfl rfl rfl hb.a hb.b
  | gen a n h h2 => exact rBytes_9 a [] _ 0 n rfl w _ _ _ rfl rfl rfl hb.a (by simp) h2
end Go.Proofs.Ytlnghdldecnmgaa
