/- A node that is put together, without a cursor; places as cursors. Conditions: none. -/
import Derived.Test.YtedhcohpcdkgnaaNN
import Derived.Test.YtedhcohpcdkgnaaNH
namespace Go.Bs
open Go.RowKit
/-- a node's block and its rows, without a cursor. -/
structure Mo (w : World) (t2 h base : Nat) (lf : Bool) (pv kv cv : Value) (N : Nd) : Prop where
  row : w.heap[h]? = some (.cells #[.bool lf, pv, kv, cv] 26 (0, 0))
  zero : w.heap[t2]? = some (.cells #[.bool false, .slice none 0 0, .slice none 0 0, .slice none 0 0] 26 (0, 0))
  p : w.ownsRow base 49 2 pv N.ps.length (pcells N.ps)
  k : w.ownsRow base 9 1 kv N.ks.length (scells N.ks)
  c : w.ownsRow base 3 1 cv N.cs.length (icells N.cs)
  dpk : ∀ i, pv.ownBlock = some i → kv.ownBlock ≠ some i
  dpc : ∀ i, pv.ownBlock = some i → cv.ownBlock ≠ some i
  dkc : ∀ i, kv.ownBlock = some i → cv.ownBlock ≠ some i
  hb : h < base
  th : t2 < h
  bs : base ≤ w.heap.size
theorem Mo.keep {w w' : World} {t2 h base : Nat} {lf : Bool} {pv kv cv : Value} {N : Nd} (H : Mo w t2 h base lf pv kv cv N) (hb : Below w.heap.size w w') : Mo w' t2 h base lf pv kv cv N := by
  have h1 := H.hb
  have h2 := H.th
  have h5 := H.bs
  exact ⟨(hb.block h (by omega)).trans H.row, (hb.block t2 (by omega)).trans H.zero, own_keep H.p hb, own_keep H.k hb, own_keep H.c hb, H.dpk, H.dpc, H.dkc, H.hb, H.th, Nat.le_trans H.bs hb.size⟩
theorem Mo.cells {w : World} {t2 h base : Nat} {lf : Bool} {pv kv cv : Value} {N : Nd} (H : Mo w t2 h base lf pv kv cv N) :
    w.cell? ⟨h, 0, none⟩ = some (.bool lf) ∧ w.cell? ⟨h, 1, none⟩ = some pv ∧ w.cell? ⟨h, 2, none⟩ = some kv ∧ w.cell? ⟨h, 3, none⟩ = some cv ∧ (∀ i, w.frozen? ⟨h, i, none⟩ = false) := by
  refine ⟨?_, ?_, ?_, ?_, fun i => ?_⟩
  · rw [cell_of_row w h _ _ 26 (0, 0) H.row]; rfl
  · rw [cell_of_row w h _ _ 26 (0, 0) H.row]; rfl
  · rw [cell_of_row w h _ _ 26 (0, 0) H.row]; rfl
  · rw [cell_of_row w h _ _ 26 (0, 0) H.row]; rfl
  · simp [World.frozen?, H.row]
/-- what is not short lies in the bytes. -/
def Tl (b : List UInt8) (s : St) : Prop := s.2 = false → ∃ k, k ≤ b.length ∧ s.1 = b.drop k
theorem Tl.take {b : List UInt8} {s : St} (h : Tl b s) (k : Nat) : Tl b (stTake s k).2 := by
  intro h2
  obtain ⟨h3, h4, h5⟩ := stTake_sh h2
  obtain ⟨i, hi, e⟩ := h h3
  rw [h5]
  refine ⟨i + k, ?_, ?_⟩
  · rw [e, List.length_drop] at h4; omega
  · show s.1.drop k = _
    rw [e, List.drop_drop]
theorem Tl.txt {b : List UInt8} {s : St} (h : Tl b s) : Tl b (stTxt s).2 := (h.take 1).take _
theorem Tl.num {b : List UInt8} {s : St} (h : Tl b s) (k : Nat) : Tl b (stNum s k).2 := h.take k
theorem Tl.prs {b : List UInt8} {s : St} (h : Tl b s) : ∀ j, Tl b (prs j s).2
  | 0 => h
  | j + 1 => by
    rw [Go.Bs.prs]; split
    · exact Tl.prs h j
    · exact ((Tl.prs h j).txt).txt
theorem Tl.kys {b : List UInt8} {s : St} (h : Tl b s) : ∀ j, Tl b (kys j s).2
  | 0 => h
  | j + 1 => by
    rw [Go.Bs.kys]; split
    · exact Tl.kys h j
    · exact (Tl.kys h j).txt
theorem Tl.chs {b : List UInt8} {s : St} (h : Tl b s) : ∀ j, Tl b (chs j s).2
  | 0 => h
  | j + 1 => by
    rw [Go.Bs.chs]; split
    · exact Tl.chs h j
    · exact (Tl.chs h j).num 3
theorem atI_neg {n : Nat} {s : St} : (atI n s < 0) ↔ s.2 = true := by
  unfold atI; split
  · rename_i h; simp [h]
  · rename_i h; simp [h]
theorem cnt_of (x y z : UInt8) (l : List UInt8) : knd (x :: y :: z :: l) = x.toNat ∧ cnt (x :: y :: z :: l) = (y.toNat * 256 + z.toNat, (l, false)) := by
  have e1 : stNum (x :: y :: z :: l, false) 1 = (x.toNat, (y :: z :: l, false)) := stNum1_fore x _
  constructor
  · unfold knd; rw [e1]
  · unfold cnt
    rw [e1]
    unfold stNum stTake
    rw [if_neg (by simp)]
    simp [beN]
section
variable {P : Program}
theorem wpList_runN (w : World) {ops : Array Oper} {rest : List Oper} {o : Oper} {a : Act} {Q : Exit → Act → World → Prop} (hgd : o.guard = none) (s x : Operand) (t ty : TypeId)
    (ho : o.op = .call { callee := .builtin .append, args := #[s, x], argTypes := #[t, t] }) (hty : o.type = ty) (v1 v2 v' : Value) (w' : World) (hs : a.eval s = v1) (hx : a.eval x = v2) (hrun : (Builtin.append_ #[t, t] ty #[v1, v2]).run P w = .ok v' w')
    (h : wpList P ops Q rest (a.put o.dst v') w') : wpList P ops Q (o :: rest) a w := by
  refine wpList_plain hgd fun K hK => ?_
  subst hty
  unfold Oper.wp execOp
  simp only [ho, resolve, invoke, builtin, Sem.run_bind, Sem.run_pure, Result.andThen_ok, List.map_toArray, List.map_cons, List.map_nil, hs, hx, hrun]
  exact hK _ _ h
end
end Go.Bs
namespace Go.Proofs.Ytedhcohpcdkgnaa
open Go.RowKit Go.Bs
theorem Mo.appP {w : World} {t2 h base : Nat} {lf : Bool} {pv kv cv : Value} {N : Nd} (H : Mo w t2 h base lf pv kv cv N) (hl : N.ps.length ≤ 100000) (a b : ByteArray) :
    ∃ v' w7, (Builtin.append_ #[22, 22] 22 #[pv, .slice (some ⟨w.heap.size, 0, none⟩) 1 1]).run Try.prog (w.alloc (.cells #[.string a, .string b] 49)) = .ok v' w7 ∧
      w7.cell? ⟨h, 1, none⟩ = some pv ∧ w7.frozen? ⟨h, 1, none⟩ = false ∧ 
      Mo (w7.setCell ⟨h, 1, none⟩ v') t2 h base lf v' kv cv { N with ps := N.ps ++ [(a, b)] } ∧ Fr (fun k => h ≤ k) w (w7.setCell ⟨h, 1, none⟩ v') := by
  obtain ⟨i, zv, hi, hz, hs, hby, hzs⟩ := pair_info
  have HX := H.keep ((Below.refl w.heap.size w).alloc (Nat.le_refl _) (.cells #[.string a, .string b] 49))
  have hr : RdP (w.alloc (.cells #[.string a, .string b] 49)) (some ⟨w.heap.size, 0, none⟩) 1 1 [(a, b)] ∨ True := .inr trivial
  obtain ⟨v', w7, hrun, hown, hgr, hat⟩ := run_appN (P := Try.prog) (w.alloc (.cells #[.string a, .string b] 49)) base 22 22 49 2 32 i zv Try.underlying22 hi hz hs hby hzs (by omega) pv N.ps.length (pcells N.ps) HX.p (some ⟨w.heap.size, 0, none⟩) 1 1 (pcells [(a, b)]) (fun e => by cases e) rfl
    (fun ad had j u hu => by
      cases had
      rw [addr_add, Nat.zero_add, cell_of_row _ w.heap.size j _ 49 (0, 0) (heap_alloc_new w _)]
      have : (#[Value.string a, Value.string b] : Array Value)[j]? = ([Value.string a, Value.string b] : List Value)[j]? := by simp
      rw [this]; exact hu) (pcells_one _) (by unfold maxLen; omega) (by omega) HX.bs
  have hsz : (w.alloc (.cells #[.string a, .string b] 49)).heap.size = w.heap.size + 1 := by simp
  have nb : ∀ k, k < base → w7.heap[k]? = (w.alloc (.cells #[.string a, .string b] 49)).heap[k]? := fun k hk => hgr.block k (by have := HX.bs; omega) fun e => by have := (own_lt HX.p k e.symm).1; omega
  have h1 := H.hb
  have h2 := H.th
  have h5 := H.bs
  have c1 : w7.cell? ⟨h, 1, none⟩ = some pv := (cell_of_blk (nb h h1)).trans HX.cells.2.1
  have row7 : w7.heap[h]? = some (.cells #[.bool lf, pv, kv, cv] 26 (0, 0)) := (nb h h1).trans HX.row
  have f7 : Fr (fun k => base ≤ k) w w7 := ((Fr.refl _ w).alloc _).grown hgr fun k hk => .inl (own_lt HX.p k hk).1
  have kb : ∀ {e size : Nat} {v : Value} {n : Nat} {xs : List Value}, (w.alloc (.cells #[.string a, .string b] 49)).ownsRow base e size v n xs → (∀ i, pv.ownBlock = some i → v.ownBlock ≠ some i) → (w7.setCell ⟨h, 1, none⟩ v').ownsRow base e size v n xs := fun hv hd => own_keepB hv fun j hj =>
    (set_other w7 h 1 j v' (by have := (own_lt hv j hj).1; omega)).trans (hgr.block j (own_lt hv j hj).2 fun e => hd j e.symm hj)
  have nw : ∀ {v : Value} {e size : Nat} {n : Nat} {xs : List Value}, w.ownsRow base e size v n xs → (∀ i, pv.ownBlock = some i → v.ownBlock ≠ some i) → ∀ i, v'.ownBlock = some i → v.ownBlock ≠ some i := fun hv hd j hj e => by
    rcases hat with h6 | h6
    · exact hd j (h6 ▸ hj) e
    · rw [h6] at hj
      injection hj with hj
      have := (own_lt hv j e).2
      omega
  refine ⟨v', w7, hrun, c1, by simp [World.frozen?, row7], ⟨by rw [row_set row7]; rfl, (set_other w7 h 1 t2 v' (by omega)).trans ((nb t2 (by omega)).trans HX.zero), ?_, kb HX.k H.dpk, kb HX.c H.dpc, nw H.k H.dpk, nw H.c H.dpc, H.dkc, H.hb, H.th, ?_⟩, ?_⟩
  · show (w7.setCell ⟨h, 1, none⟩ v').ownsRow base 49 2 v' (N.ps ++ [(a, b)]).length (pcells (N.ps ++ [(a, b)]))
    rw [List.length_append, pcells_app]
    exact own_keepB hown fun j hj => set_other w7 h 1 j v' (by have := (own_lt hown j hj).1; omega)
  · have := f7.size
    simp [World.setCell]; omega
  · exact (f7.mono fun k hk => by omega).setCell (.inl (Nat.le_refl _)) v'
theorem Mo.appK {w : World} {t2 h base : Nat} {lf : Bool} {pv kv cv : Value} {N : Nd} (H : Mo w t2 h base lf pv kv cv N) (hl : N.ks.length ≤ 100000) (a : ByteArray) :
    ∃ v' w7, (Builtin.append_ #[23, 23] 23 #[kv, .slice (some ⟨w.heap.size, 0, none⟩) 1 1]).run Try.prog (w.alloc (.cells #[.string a] 9)) = .ok v' w7 ∧
      w7.cell? ⟨h, 2, none⟩ = some kv ∧ w7.frozen? ⟨h, 2, none⟩ = false ∧ 
      Mo (w7.setCell ⟨h, 2, none⟩ v') t2 h base lf pv v' cv { N with ks := N.ks ++ [a] } ∧ Fr (fun k => h ≤ k) w (w7.setCell ⟨h, 2, none⟩ v') := by
  obtain ⟨i, zv, hi, hz, hs, hby, hzs⟩ := str_info
  have HX := H.keep ((Below.refl w.heap.size w).alloc (Nat.le_refl _) (.cells #[.string a] 9))
  obtain ⟨v', w7, hrun, hown, hgr, hat⟩ := run_appN (P := Try.prog) (w.alloc (.cells #[.string a] 9)) base 23 23 9 1 16 i zv Try.underlying23 hi hz hs hby hzs (by omega) kv N.ks.length (scells N.ks) HX.k (some ⟨w.heap.size, 0, none⟩) 1 1 (scells [a]) (fun e => by cases e) rfl
    (fun ad had j u hu => by
      cases had
      rw [addr_add, Nat.zero_add, cell_of_row _ w.heap.size j _ 9 (0, 0) (heap_alloc_new w _)]
      have : (#[.string a] : Array Value)[j]? = ([.string a] : List Value)[j]? := by simp
      rw [this]; exact hu) (scells_one _) (by unfold maxLen; omega) (by omega) HX.bs
  have hsz : (w.alloc (.cells #[.string a] 9)).heap.size = w.heap.size + 1 := by simp
  have nb : ∀ k, k < base → w7.heap[k]? = (w.alloc (.cells #[.string a] 9)).heap[k]? := fun k hk => hgr.block k (by have := HX.bs; omega) fun e => by have := (own_lt HX.k k e.symm).1; omega
  have h1 := H.hb
  have h2 := H.th
  have h5 := H.bs
  have c1 : w7.cell? ⟨h, 2, none⟩ = some kv := (cell_of_blk (nb h h1)).trans HX.cells.2.2.1
  have row7 : w7.heap[h]? = some (.cells #[.bool lf, pv, kv, cv] 26 (0, 0)) := (nb h h1).trans HX.row
  have f7 : Fr (fun k => base ≤ k) w w7 := ((Fr.refl _ w).alloc _).grown hgr fun k hk => .inl (own_lt HX.k k hk).1
  have kb : ∀ {e size : Nat} {v : Value} {n : Nat} {xs : List Value}, (w.alloc (.cells #[.string a] 9)).ownsRow base e size v n xs → (∀ i, kv.ownBlock = some i → v.ownBlock ≠ some i) → (w7.setCell ⟨h, 2, none⟩ v').ownsRow base e size v n xs := fun hv hd => own_keepB hv fun j hj =>
    (set_other w7 h 2 j v' (by have := (own_lt hv j hj).1; omega)).trans (hgr.block j (own_lt hv j hj).2 fun e => hd j e.symm hj)
  have nw : ∀ {v : Value} {e size : Nat} {n : Nat} {xs : List Value}, w.ownsRow base e size v n xs → (∀ i, kv.ownBlock = some i → v.ownBlock ≠ some i) → ∀ i, v'.ownBlock = some i → v.ownBlock ≠ some i := fun hv hd j hj e => by
    rcases hat with h6 | h6
    · exact hd j (h6 ▸ hj) e
    · rw [h6] at hj
      injection hj with hj
      have := (own_lt hv j e).2
      omega
  refine ⟨v', w7, hrun, c1, by simp [World.frozen?, row7], ⟨by rw [row_set row7]; rfl, (set_other w7 h 2 t2 v' (by omega)).trans ((nb t2 (by omega)).trans HX.zero), kb HX.p (fun i e1 e2 => H.dpk i e2 e1), ?_, kb HX.c H.dkc, (fun i e1 e2 => nw H.p (fun i e1 e2 => H.dpk i e2 e1) i e2 e1), H.dpc, nw H.c H.dkc, H.hb, H.th, ?_⟩, ?_⟩
  · show (w7.setCell ⟨h, 2, none⟩ v').ownsRow base 9 1 v' (N.ks ++ [a]).length (scells (N.ks ++ [a]))
    rw [List.length_append, scells_app]
    exact own_keepB hown fun j hj => set_other w7 h 2 j v' (by have := (own_lt hown j hj).1; omega)
  · have := f7.size
    simp [World.setCell]; omega
  · exact (f7.mono fun k hk => by omega).setCell (.inl (Nat.le_refl _)) v'
theorem Mo.appC {w : World} {t2 h base : Nat} {lf : Bool} {pv kv cv : Value} {N : Nd} (H : Mo w t2 h base lf pv kv cv N) (hl : N.cs.length ≤ 100000) (a : Int) :
    ∃ v' w7, (Builtin.append_ #[24, 24] 24 #[cv, .slice (some ⟨w.heap.size, 0, none⟩) 1 1]).run Try.prog (w.alloc (.cells #[.int .i64 a] 3)) = .ok v' w7 ∧
      w7.cell? ⟨h, 3, none⟩ = some cv ∧ w7.frozen? ⟨h, 3, none⟩ = false ∧ 
      Mo (w7.setCell ⟨h, 3, none⟩ v') t2 h base lf pv kv v' { N with cs := N.cs ++ [a] } ∧ Fr (fun k => h ≤ k) w (w7.setCell ⟨h, 3, none⟩ v') := by
  obtain ⟨i, zv, hi, hz, hs, hby, hzs⟩ := int_info
  have HX := H.keep ((Below.refl w.heap.size w).alloc (Nat.le_refl _) (.cells #[.int .i64 a] 3))
  obtain ⟨v', w7, hrun, hown, hgr, hat⟩ := run_appN (P := Try.prog) (w.alloc (.cells #[.int .i64 a] 3)) base 24 24 3 1 8 i zv Try.underlying24 hi hz hs hby hzs (by omega) cv N.cs.length (icells N.cs) HX.c (some ⟨w.heap.size, 0, none⟩) 1 1 (icells [a]) (fun e => by cases e) rfl
    (fun ad had j u hu => by
      cases had
      rw [addr_add, Nat.zero_add, cell_of_row _ w.heap.size j _ 3 (0, 0) (heap_alloc_new w _)]
      have : (#[.int .i64 a] : Array Value)[j]? = ([.int .i64 a] : List Value)[j]? := by simp
      rw [this]; exact hu) (icells_one _) (by unfold maxLen; omega) (by omega) HX.bs
  have hsz : (w.alloc (.cells #[.int .i64 a] 3)).heap.size = w.heap.size + 1 := by simp
  have nb : ∀ k, k < base → w7.heap[k]? = (w.alloc (.cells #[.int .i64 a] 3)).heap[k]? := fun k hk => hgr.block k (by have := HX.bs; omega) fun e => by have := (own_lt HX.c k e.symm).1; omega
  have h1 := H.hb
  have h2 := H.th
  have h5 := H.bs
  have c1 : w7.cell? ⟨h, 3, none⟩ = some cv := (cell_of_blk (nb h h1)).trans HX.cells.2.2.2.1
  have row7 : w7.heap[h]? = some (.cells #[.bool lf, pv, kv, cv] 26 (0, 0)) := (nb h h1).trans HX.row
  have f7 : Fr (fun k => base ≤ k) w w7 := ((Fr.refl _ w).alloc _).grown hgr fun k hk => .inl (own_lt HX.c k hk).1
  have kb : ∀ {e size : Nat} {v : Value} {n : Nat} {xs : List Value}, (w.alloc (.cells #[.int .i64 a] 3)).ownsRow base e size v n xs → (∀ i, cv.ownBlock = some i → v.ownBlock ≠ some i) → (w7.setCell ⟨h, 3, none⟩ v').ownsRow base e size v n xs := fun hv hd => own_keepB hv fun j hj =>
    (set_other w7 h 3 j v' (by have := (own_lt hv j hj).1; omega)).trans (hgr.block j (own_lt hv j hj).2 fun e => hd j e.symm hj)
  have nw : ∀ {v : Value} {e size : Nat} {n : Nat} {xs : List Value}, w.ownsRow base e size v n xs → (∀ i, cv.ownBlock = some i → v.ownBlock ≠ some i) → ∀ i, v'.ownBlock = some i → v.ownBlock ≠ some i := fun hv hd j hj e => by
    rcases hat with h6 | h6
    · exact hd j (h6 ▸ hj) e
    · rw [h6] at hj
      injection hj with hj
      have := (own_lt hv j e).2
      omega
  refine ⟨v', w7, hrun, c1, by simp [World.frozen?, row7], ⟨by rw [row_set row7]; rfl, (set_other w7 h 3 t2 v' (by omega)).trans ((nb t2 (by omega)).trans HX.zero), kb HX.p (fun i e1 e2 => H.dpc i e2 e1), kb HX.k (fun i e1 e2 => H.dkc i e2 e1), ?_, H.dpk, (fun i e1 e2 => nw H.p (fun i e1 e2 => H.dpc i e2 e1) i e2 e1), (fun i e1 e2 => nw H.k (fun i e1 e2 => H.dkc i e2 e1) i e2 e1), H.hb, H.th, ?_⟩, ?_⟩
  · show (w7.setCell ⟨h, 3, none⟩ v').ownsRow base 3 1 v' (N.cs ++ [a]).length (icells (N.cs ++ [a]))
    rw [List.length_append, icells_app]
    exact own_keepB hown fun j hj => set_other w7 h 3 j v' (by have := (own_lt hown j hj).1; omega)
  · have := f7.size
    simp [World.setCell]; omega
  · exact (f7.mono fun k hk => by omega).setCell (.inl (Nat.le_refl _)) v'
end Go.Proofs.Ytedhcohpcdkgnaa
