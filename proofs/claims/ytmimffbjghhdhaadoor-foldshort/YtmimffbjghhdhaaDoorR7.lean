/- the document's Sum. Conditions: none. -/
import Derived.Test.YtmimffbjghhdhaaDoorR6
import Derived.Test.YtmimffbjghhdhaaDoorS13
import Derived.Deep.RegionLaw
import Derived.Deep.CutRange
namespace Go.Proofs.YtmimffbjghhdhaaDoor
open Go.RowKit Go.Bs Go.Sha

theorem step_app4 {ops : Array Oper} {o : Oper} {a : Act} {w : World} {K : Act → World → Prop} {Q : Exit → Act → World → Prop} {E : Prop} (hgd : o.guard = none) (s x : Operand)
    (ho : o.op = .call { callee := .builtin .append, args := #[s, x], argTypes := #[22, 22] })
    (base : Nat) (v : Value) (xs : List UInt8) (hs : a.eval s = v) (hown : Own w base 5 v xs) (y0 y1 y2 y3 : Value) (z0 z1 z2 z3 : UInt8) (hy0 : y0 = B z0) (hy1 : y1 = B z1) (hy2 : y2 = B z2) (hy3 : y3 = B z3) (hx : a.eval x = .slice (some ⟨w.heap.size, 0, none⟩) 4 4) (hsz : xs.length + 4 ≤ 70368744177664) (hbase : base ≤ w.heap.size)
    (h : ∀ v' w', Own w' base 5 v' (xs ++ [z0, z1, z2, z3]) → Below base w w' → K (a.put o.dst v') w') :
    if Region.wanted o (yielded ops a.tmps) = true then Oper.wp Tryd.prog o a (w.alloc (.cells #[y0, y1, y2, y3] 5)) K Q else E := by
  have hw : Region.wanted o (yielded ops a.tmps) = true := by simp [Region.wanted, hgd]
  rw [if_pos hw]
  obtain ⟨v', w', hrun, h2, h3⟩ := run_app (P := Tryd.prog) (w.alloc (.cells #[y0, y1, y2, y3] 5)) base 22 o.type 5 Tryd.underlying22 u8_info v xs (hown.alloc _) (some ⟨w.heap.size, 0, none⟩) 4 4 [z0, z1, z2, z3] (four_rd w 5 z0 z1 z2 z3 y0 y1 y2 y3 hy0 hy1 hy2 hy3) hsz (by simp; omega)
  refine op_append s x ho _ _ v' hs hx hrun ?_
  exact h v' w' h2 (((Below.refl base w).alloc hbase _).trans h3)
end Go.Proofs.YtmimffbjghhdhaaDoor
