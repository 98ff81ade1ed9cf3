/- x[:h]. Conditions: none. -/
import Derived.Test.YtmimffbjghhdhaaDoorSl
namespace Go.Proofs.YtmimffbjghhdhaaDoor
open Go.RowKit Go.Bs
theorem slice_to (A : Option Addr) (n c h : Nat) (hh : h ≤ c) (w : World) : (Instr.slice 22 (.slice A n c) none (some (.int .i64 (h : Int))) none).run Tryd.prog w = .ok (.slice A h c) w := by
  rw [run_slice_h (P := Tryd.prog) w 22 A n c (by rw [elem22]; exact Tryd.underlying22) .i64 (h : Int) (by omega) (by omega), elem22, size5, Result.andThen_ok]
  cases A <;> simp [sliced]
  rename_i a
  unfold Addr.add
  split <;> simp_all
end Go.Proofs.YtmimffbjghhdhaaDoor
