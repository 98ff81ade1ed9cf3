/- Deeds that are done one by one, till one fails. Conditions: none. -/
import Derived.Test.YtjoglmkiphdfiaaW1
set_option maxRecDepth 8000
namespace Go.Proofs.Ytjoglmkiphdfiaa
open Go.RowKit Go.Bs Go.Dk

set_option maxHeartbeats 2000000 in
theorem do_any (w : World) (n : Nat) (hn : n ≤ 1000000) (q c : Nat) (fn : Nat → Nat) (fb cp : Nat → Array Value) (J : Nat → World → Prop) (Jx : Int → World → Prop)
    (ent : ∀ i, i < n → ∀ args W, (callFunc (fn i) args).run Try.prog W = .ok (.enter (fn i) args) W)
    (keep : ∀ i W, J i W → ∀ j, j < n → W.cell? ⟨q, j, none⟩ = some (.func (.func (fn j)) (fb j) (cp j)))
    (step : ∀ i, i < n → ∀ W, J i W → Calls Try.prog (fn i) (fb i ++ cp i) W fun e W' => ∃ x, e = .returned (.int .i64 x) ∧ ((x = 0 ∧ J (i + 1) W') ∨ (x ≠ 0 ∧ Jx x W')))
    (h0 : J 0 w) :
    Calls Try.prog 62 #[.slice (some ⟨q, 0, none⟩) n c] w fun e w' => ∃ x, e = .returned (.int .i64 x) ∧ ((x = 0 ∧ J n w') ∨ (x ≠ 0 ∧ Jx x w')) := by
  have H0 := Lib.hid h0
  clear h0
  go_enter Try.func62, Try.ntmps62
  go_wp2
  go_loopw [8] (fun i wr => ∃ k : Nat, k ≤ n ∧ i = .int .i64 k ∧ J k wr) (fun i _ => n - (intOf i).toNat)
  case atStart => exact ⟨0, Nat.zero_le _, rfl, H0.out⟩
  case round =>
    obtain ⟨k, hk, rfl, hJ⟩ := hrel
    by_cases hlt : k < n
    · have hc := keep k wr hJ k hlt
      have HC := Lib.hid (step k hlt wr hJ)
      have hent := ent k hlt
      clear keep step hJ ent
      go_wp2_with fail
      refine HC.out.mono ?_
      rintro e w1 ⟨x, rfl, ⟨rfl, hJ⟩ | ⟨hx, hJ⟩⟩
      · have HJ := Lib.hid hJ
        clear hJ hent
        go_wp2
        exact ⟨⟨k + 1, by omega, rfl, HJ.out⟩, by simp [intOf]; omega⟩
      · have HJ := Lib.hid hJ
        clear hJ hent
        go_wp2
        go_ret
        exact ⟨x, rfl, .inr ⟨hx, HJ.out⟩⟩
    · obtain rfl : k = n := by omega
      clear keep step ent
      have HJ := Lib.hid hJ
      clear hJ
      go_wp2
      go_ret
      exact ⟨0, rfl, .inl ⟨rfl, HJ.out⟩⟩
end Go.Proofs.Ytjoglmkiphdfiaa
