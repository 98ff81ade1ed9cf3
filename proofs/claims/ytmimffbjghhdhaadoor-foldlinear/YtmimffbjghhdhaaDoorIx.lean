/- An array's element. Conditions: none. -/
import Derived.Test.YtmimffbjghhdhaaDoorS2
namespace Go.Proofs.YtmimffbjghhdhaaDoor
open Go.RowKit Go.Bs Go.Sha
theorem index_u32 (t n : Nat) (ht : Tryd.prog.underlying t = some (.array n 41)) (xs : List Nat) (k : Nat) (hk : k < n) (hl : xs.length = n) (w : World) :
    (Instr.index t (.agg (xs.map U).toArray) (.int .i64 (k : Int))).run Tryd.prog w = .ok (U (xs.getD k 0)) w := by
  have h1 : (sizeOf 41).run Tryd.prog w = .ok 1 w := by kernel_rfl
  have h2 : (isAgg 41).run Tryd.prog w = .ok false w := by kernel_rfl
  have h3 : xs[k]? = some (xs.getD k 0) := by simp [List.getD, List.getElem?_eq_getElem (show k < xs.length by omega)]
  have h4 : (0 : Int) ≤ (k : Int) ∧ (k : Int) < (n : Int) := by omega
  unfold Instr.index
  simp only [asIntOf, Sem.run_bind, Sem.run_pure, run_underlying ht, Result.andThen_ok, h4, and_self, if_true, h1]
  have h5 : ((k : Int).toNat * 1) = k := by simp
  have h6 : (xs.map U).toArray[k]? = some (U (xs.getD k 0)) := by rw [List.getElem?_toArray, List.getElem?_map, h3]; rfl
  unfold part
  simp only [h5, Sem.run_bind, h2, Result.andThen_ok, h6, Bool.false_eq_true, if_false, Sem.run_pure]
end Go.Proofs.YtmimffbjghhdhaaDoor
