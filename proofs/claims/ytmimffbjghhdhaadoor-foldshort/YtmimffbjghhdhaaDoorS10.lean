/- Mix. Conditions: none. -/
import Derived.Test.YtmimffbjghhdhaaDoorS9
namespace Go.Proofs.YtmimffbjghhdhaaDoor
open Go.RowKit Go.Bs Go.Sha Go.Inv

abbrev N (z : Int) : Value := .int .i64 z
theorem index_i64 (zs : List Int) (k : Nat) (hk : k < 8) (hl : zs.length = 8) (w : World) :
    (Instr.index 64 (.agg (zs.map N).toArray) (.int .i64 (k : Int))).run Tryd.prog w = .ok (N (zs.getD k 0)) w := by
  have h1 : (sizeOf 3).run Tryd.prog w = .ok 1 w := by kernel_rfl
  have h2 : (isAgg 3).run Tryd.prog w = .ok false w := by kernel_rfl
  have h3 : zs[k]? = some (zs.getD k 0) := by simp [List.getD, List.getElem?_eq_getElem (show k < zs.length by omega)]
  have h4 : (0 : Int) ≤ (k : Int) ∧ (k : Int) < ((8 : Nat) : Int) := by omega
  unfold Instr.index
  simp only [asIntOf, Sem.run_bind, Sem.run_pure, run_underlying Tryd.underlying64, Result.andThen_ok, h4, and_self, if_true, h1]
  have h5 : ((k : Int).toNat * 1) = k := by simp
  have h6 : (zs.map N).toArray[k]? = some (N (zs.getD k 0)) := by rw [List.getElem?_toArray, List.getElem?_map, h3]; rfl
  unfold part
  simp only [h5, Sem.run_bind, h2, Result.andThen_ok, h6, Bool.false_eq_true, if_false, Sem.run_pure]

abbrev Z8i : Array Value := #[.int .i64 0, .int .i64 0, .int .i64 0, .int .i64 0, .int .i64 0, .int .i64 0, .int .i64 0, .int .i64 0]
theorem wl_storeRow {ops : Array Oper} {rest : List Oper} {ty0 : TypeId} {pos : String} {after : Array Edge} {a : Act} {w w' : World} {Q : Exit → Act → World → Prop} {ty : TypeId} {x y : Operand} {ad : Addr} {v : Value}
    (hx : a.eval x = .pointer (some ad)) (hy : a.eval y = v) (hs : (storeVar ty ad v).run Tryd.prog w = .ok () w')
    (h : wpList Tryd.prog ops Q rest (a.put none undef) w') : wpList Tryd.prog ops Q (⟨none, .store ty x y, ty0, pos, after, none⟩ :: rest) a w := by
  refine wpList_plain rfl fun K hK => ?_
  unfold Oper.wp execOp
  simp only [hx, hy, Instr.storeAt, Instr.sureAddr, Sem.run_bind, Sem.run_pure, Result.andThen_ok, hs]
  exact hK _ _ h
def okI (z : Int) : Prop := 0 ≤ z ∧ z < 4294967296
def wl (zs : List Int) (k : Nat) : List Nat := (zs.take k).map Int.toNat ++ List.replicate (8 - k) 0
theorem wl_length (zs : List Int) (k : Nat) (hl : zs.length = 8) (h : k ≤ 8) : (wl zs k).length = 8 := by simp [wl]; omega
theorem wl_set (zs : List Int) (k : Nat) (hl : zs.length = 8) (h : k < 8) : (wl zs k).set k (zs.getD k 0).toNat = wl zs (k + 1) := by
  unfold wl
  have h1 : ((zs.take k).map Int.toNat).length = k := by simp; omega
  rw [List.set_append_right _ _ (by omega), h1, Nat.sub_self, show 8 - k = (8 - (k + 1)) + 1 by omega, List.replicate_succ, List.set_cons_zero]
  rw [List.take_succ_eq_append_getElem (by omega), List.map_append, List.append_assoc]
  have h2 : zs.getD k 0 = zs[k]'(by omega) := by simp [List.getD, List.getElem?_eq_getElem (show k < zs.length by omega)]
  rw [h2]
  rfl
def stOf (zs : List Int) : St := ⟨(zs.getD 0 0).toNat, (zs.getD 1 0).toNat, (zs.getD 2 0).toNat, (zs.getD 3 0).toNat, (zs.getD 4 0).toNat, (zs.getD 5 0).toNat, (zs.getD 6 0).toNat, (zs.getD 7 0).toNat⟩

/-- what Mix answers. -/
def MixR (zs : List Int) (n : Nat) (bs : List UInt8) (w : World) (e : Ending) (w' : World) : Prop := Below w.heap.size w w' ∧
  ((n = 64 ∧ (∀ z ∈ zs, okI z) ∧ e = .returned (.tuple #[(mixS (stOf zs) bs).n, .int .i64 0])) ∨ (¬ (n = 64 ∧ ∀ z ∈ zs, okI z) ∧ e = .returned (.tuple #[.agg Z8i, .int .i64 1])))

end Go.Proofs.YtmimffbjghhdhaaDoor
