/- What is asked of nodes: few, Most, Range, Size. Conditions: none. -/
import Derived.Test.YtedhcohpcdkgnaaN0
namespace Go.Proofs.Ytedhcohpcdkgnaa
open Go.RowKit Go.Bs

theorem bstep {a b c : World} (h : Below a.heap.size a b) (h' : Below b.heap.size b c) : Below a.heap.size a c := h.trans (h'.mono h.size)

theorem most_nat (b : Nat) (h1 : 64 ≤ b) : (((b - 16) / 4 - 4 : Nat) : Int) = ((b : Int) - 16) / 4 - 4 := by omega
theorem Most_no (b : Int) (h : ¬ (64 ≤ b ∧ b ≤ 4096)) (w : World) : Calls Try.prog 12 #[.int .i64 b] w fun e w' => e = .returned (.tuple #[.int .i64 0, .int .i64 1]) ∧ w = w' := by
  by_cases h1 : b < 64
  · go_enter Try.func12, Try.ntmps12
    go_wp2
    go_ret2
    exact ⟨rfl, rfl⟩
  · have h2 : 4096 < b := by omega
    go_enter Try.func12, Try.ntmps12
    go_wp2
    go_ret2
    exact ⟨rfl, rfl⟩
theorem Most_yes (b : Nat) (h1 : 64 ≤ b) (h2 : b ≤ 4096) (w : World) : Calls Try.prog 12 #[.int .i64 (b : Int)] w fun e w' => e = .returned (.tuple #[.int .i64 (((b - 16) / 4 - 4 : Nat) : Int), .int .i64 0]) ∧ w = w' := by
  go_enter Try.func12, Try.ntmps12
  go_wp2
  go_ret2
  exact ⟨by rw [most_nat b h1]; rfl, rfl⟩
theorem Range_any (b : Int) (w : World) : Calls Try.prog 15 #[.int .i64 b] w fun e w' => e = .returned (.bool (decide (64 ≤ b) && decide (b ≤ 4096))) ∧ w = w' := by
  by_cases h1 : 64 ≤ b
  · by_cases h2 : b ≤ 4096
    · go_enter Try.func15, Try.ntmps15
      go_wp2
      go_ret
      exact ⟨by simp [h1, h2], rfl⟩
    · go_enter Try.func15, Try.ntmps15
      go_wp2
      go_ret
      exact ⟨by simp [h1, h2], rfl⟩
  · go_enter Try.func15, Try.ntmps15
    go_wp2
    go_ret
    exact ⟨by rw [decide_eq_false (show ¬ 64 ≤ b by omega)]; rfl, rfl⟩
theorem rMost_yes (b : Nat) (h1 : 64 ≤ b) (h2 : b ≤ 4096) (w : World) : Calls Try.prog 17 #[.int .i64 (b : Int)] w fun e w' => e = .returned (.int .i64 (((b - 16) / 4 - 4 : Nat) : Int)) ∧ w = w' := by
  go_enter Try.func17, Try.ntmps17
  go_wp2
  go_ret
  exact ⟨by rw [most_nat b h1]; rfl, rfl⟩
end Go.Proofs.Ytedhcohpcdkgnaa
