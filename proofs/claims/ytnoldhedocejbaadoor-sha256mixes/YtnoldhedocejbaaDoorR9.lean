/- the document's Is. Conditions: none. -/
import Derived.Test.YtnoldhedocejbaaDoorS10
namespace Go.Proofs.YtnoldhedocejbaaDoor
open Go.RowKit Go.Bs Go.Sha

def IsR (zs : List Int) (n : Nat) (w : World) (e : Ending) (w' : World) : Prop := ∃ b, e = .returned (.bool b) ∧ w' = w ∧ (b = true ↔ ∀ j, j < n → okI (zs.getD j 0))
set_option maxHeartbeats 1000000 in
theorem Is_any (A : Option Addr) (n c : Nat) (zs : List Int) (w : World) (h : RdI w A n c zs) (hn : n ≤ 1000000) :
    Calls Tryd.prog 15 #[.slice A n c] w (IsR zs n w) := by
  have HR := Lib.hid h
  clear h
  go_enter Tryd.func15, Tryd.ntmps15
  go_wp2
  go_loopw [3] (fun i wr => ∃ k : Nat, k ≤ n ∧ i = .int .i64 k ∧ wr = w ∧ Hid (∀ j, j < k → okI (zs.getD j 0))) (fun i _ => n - (intOf i).toNat)
  case atStart => exact ⟨0, Nat.zero_le _, rfl, rfl, fun j hj => absurd hj (by omega)⟩
  case round =>
    obtain ⟨k, hk, rfl, rfl, HK⟩ := hrel
    by_cases hlt : k < n
    · obtain ⟨g, o, rfl, hg, hc⟩ := HR.out.cells (by omega)
      have c1 := hc k hlt
      obtain ⟨z, hz⟩ : ∃ z, zs.getD k 0 = z := ⟨_, rfl⟩
      rw [hz] at c1
      have HZ := Lib.hid hz
      clear hc hz
      have hki : (k : Int) < (n : Int) := by omega
      by_cases h1 : z < 0
      · go_wp2
        go_ret
        refine ⟨false, rfl, rfl, by simp, fun h2 => ?_⟩
        have := (h2 k hlt).1
        rw [HZ.out] at this
        omega
      · by_cases h2 : 4294967296 ≤ z
        · go_wp2
          go_ret
          refine ⟨false, rfl, rfl, by simp, fun h3 => ?_⟩
          have := (h3 k hlt).2
          rw [HZ.out] at this
          omega
        · go_wp2
          refine ⟨?rel, ?measure⟩
          case rel =>
            refine ⟨k + 1, by omega, by go_num, by trivial, fun j hj => ?_⟩
            rcases Nat.lt_or_ge j k with hjk | hjk
            · exact HK.out j hjk
            · obtain rfl : j = k := by omega
              rw [HZ.out]
              exact ⟨by omega, by omega⟩
          case measure => simp [intOf]; omega
    · obtain rfl : k = n := by omega
      go_wp2
      go_ret
      exact ⟨true, rfl, rfl, fun _ => HK.out, fun _ => rfl⟩
end Go.Proofs.YtnoldhedocejbaaDoor
