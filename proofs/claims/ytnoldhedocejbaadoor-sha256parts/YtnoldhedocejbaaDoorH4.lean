/- Bytes behind bytes: what a Hash must hold. Conditions: none. -/
import Derived.Test.YtnoldhedocejbaaDoorH0
import Derived.Test.YtnoldhedocejbaaDoorH3
namespace Go.Proofs.YtnoldhedocejbaaDoor
open Go.RowKit Go.Bs Go.Sha

theorem fin_tail (P ys : List UInt8) (j : Nat) (hP : P.length = 64 * j) (blk1 : List UInt8) (hl : blk1.length = 64) (W : World) (gh n1 M : Nat) (hn : ys.length = n1) (hM : (P ++ ys).length = M)
    (h : HB W gh (state (state Sha.start P) ys) (blk1.take 0 ++ ((ys.drop (n1 / 64 * 64)).take (n1 % 64) ++ blk1.drop (0 + n1 % 64))) M) : HashIs W gh (P ++ ys) := by
  subst hn hM
  refine ⟨blk1.take 0 ++ ((ys.drop (ys.length / 64 * 64)).take (ys.length % 64) ++ blk1.drop (0 + ys.length % 64)), ?_, ?_⟩
  · rw [state_app Sha.start P ys j hP]
    exact h
  · have e1 : (P ++ ys).length % 64 = ys.length % 64 := by rw [List.length_append, hP]; omega
    have e2 : (P ++ ys).length / 64 * 64 = P.length + ys.length / 64 * 64 := by rw [List.length_append, hP]; omega
    have e3 : (ys.drop (ys.length / 64 * 64)).length = ys.length % 64 := by rw [List.length_drop]; omega
    rw [e1, e2, List.take_zero, List.nil_append, List.take_of_length_le (Nat.le_of_eq e3), List.take_left' e3]
    have e5 : (P ++ ys).drop (P.length + ys.length / 64 * 64) = ys.drop (ys.length / 64 * 64) := by
      rw [List.drop_append, List.drop_of_length_le (l := P) (by omega), List.nil_append, Nat.add_sub_cancel_left]
    exact e5.symm
theorem fin_short (bs xs blk : List UInt8) (W : World) (gh n m M : Nat) (hn : xs.length = n) (hm : bs.length % 64 = m) (hM : (bs ++ xs).length = M) (hlt : m + n < 64) (hl : blk.length = 64) (htk : blk.take m = bs.drop (bs.length / 64 * 64))
    (h : HB W gh (state Sha.start bs) (blk.take m ++ (xs.take n ++ blk.drop (m + n))) M) : HashIs W gh (bs ++ xs) := by
  subst hn hm hM
  have e3 : (bs.drop (bs.length / 64 * 64)).length = bs.length % 64 := by rw [List.length_drop]; omega
  refine ⟨blk.take (bs.length % 64) ++ (xs.take xs.length ++ blk.drop (bs.length % 64 + xs.length)), ?_, ?_⟩
  · rw [state_rest Sha.start bs]
    have e : (bs.drop (bs.length / 64 * 64) ++ xs).length / 64 = 0 := by rw [List.length_append, e3]; omega
    rw [show state (state Sha.start bs) (bs.drop (bs.length / 64 * 64) ++ xs) = state Sha.start bs by rw [state, e]; rfl]
    exact h
  · have e1 : (bs ++ xs).length % 64 = bs.length % 64 + xs.length := by rw [List.length_append]; omega
    have e2 : (bs ++ xs).length / 64 * 64 = bs.length / 64 * 64 := by rw [List.length_append]; omega
    rw [e1, e2, htk, List.take_of_length_le (Nat.le_refl xs.length), ← List.append_assoc, List.take_left' (by rw [List.length_append, e3]), List.drop_append_of_le_length (by omega)]
theorem full_state (bs ys blk : List UInt8) (m k : Nat) (hm : bs.length % 64 = m) (hk : m + k = 64) (hy : ys.length = k) (htk : blk.take m = bs.drop (bs.length / 64 * 64)) :
    mixS (state Sha.start bs) (blk.take m ++ ys) = state Sha.start (bs ++ ys) := by
  have e3 : (bs.drop (bs.length / 64 * 64)).length = m := by rw [List.length_drop]; omega
  have e4 : (blk.take m ++ ys).length = 64 := by rw [htk, List.length_append, e3]; omega
  rw [state_rest Sha.start bs, ← htk]
  generalize state Sha.start bs = T
  rw [state, e4]
  show _ = blocks 1 _ _
  rw [blocks, blocks, List.take_of_length_le (l := blk.take m ++ ys) (Nat.le_of_eq e4)]
theorem op_storeV {o : Oper} {a : Act} {w w' : World} {K : Act → World → Prop} {Q : Exit → Act → World → Prop} (ty : TypeId) (x y : Operand) (hop : o.op = .store ty x y) (ad : Addr) (v : Value)
    (hx : a.eval x = .pointer (some ad)) (hy : a.eval y = v) (hs : (storeVar ty ad v).run Tryd.prog w = .ok () w') (h : K (a.put o.dst undef) w') : o.wp Tryd.prog a w K Q := by
  unfold Oper.wp execOp
  simp only [hop, hx, hy, Instr.storeAt, Instr.sureAddr, Sem.run_bind, Sem.run_pure, Result.andThen_ok, hs]
  exact h
end Go.Proofs.YtnoldhedocejbaaDoor
