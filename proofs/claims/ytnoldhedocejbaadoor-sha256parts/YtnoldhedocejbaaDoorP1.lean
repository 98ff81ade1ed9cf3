/- Rows of bytes, appended; own rows by their blocks. Conditions: none. -/
import Derived.Test.YtnoldhedocejbaaDoorH5
import Derived.Deep.Matrix
namespace Go.Proofs.YtnoldhedocejbaaDoor
open Go.RowKit Go.Bs Go.Sha

def cat (F : Nat → List UInt8) : Nat → List UInt8
  | 0 => []
  | k + 1 => cat F k ++ F k
theorem cat_len (F : Nat → List UInt8) (k b : Nat) (h : ∀ j, j < k → (F j).length ≤ b) : (cat F k).length ≤ k * b := by
  induction k with
  | zero => simp [cat]
  | succ k ih =>
    rw [cat, List.length_append, Nat.succ_mul]
    have := ih fun j hj => h j (by omega)
    have := h k (by omega)
    omega
/-- a slice of slices of bytes. -/
def RdP (w : World) (A : Option Addr) (n : Nat) (F : Nat → List UInt8) : Prop :=
  ∀ j, j < n → ∃ g o a l c, A = some ⟨g, o, none⟩ ∧ g < w.heap.size ∧ w.cell? ⟨g, o + j, none⟩ = some (.slice a l c) ∧ Rd w a l c (F j)
theorem RdP.keep {w w' : World} {A : Option Addr} {n : Nat} {F : Nat → List UInt8} (h : RdP w A n F) (hb : Below w.heap.size w w') : RdP w' A n F := fun j hj => by
  obtain ⟨g, o, a, l, c, e, hg, hc, hr⟩ := h j hj
  exact ⟨g, o, a, l, c, e, Nat.lt_of_lt_of_le hg hb.size, (hb.cell (p := ⟨g, o + j, none⟩) hg).trans hc, hr.keep hb⟩

theorem own_lt {w : World} {base e : Nat} {v : Value} {bs : List UInt8} (h : Own w base e v bs) (k : Nat) (hk : v.ownBlock = some k) : base ≤ k ∧ k < w.heap.size := by
  rcases h.2 with ⟨rfl, _⟩ | ⟨g, cap, cur, rfl, e2, e3, _⟩
  · cases hk
  · have hk' : g = k := by simpa [Value.ownBlock] using hk
    subst hk'
    refine ⟨e2, ?_⟩
    rcases Nat.lt_or_ge g w.heap.size with hlt | hge
    · exact hlt
    · rw [Array.getElem?_eq_none hge] at e3; cases e3
/-- an own row with something in it: its block. -/
theorem own_block {w : World} {base e : Nat} {v : Value} {bs : List UInt8} (h : Own w base e v bs) (n : Nat) (hn : bs.length = n) (h0 : 0 < n) : ∃ g c cur, v = .slice (some ⟨g, 0, none⟩) n c ∧ base ≤ g ∧ w.heap[g]? = some (.cells cur e (0, 0)) ∧ n ≤ cur.size := by
  subst hn
  rcases h.2 with ⟨rfl, h1⟩ | ⟨g, cap, cur, e1, e2, e3, e4, e5, e6, _⟩
  · omega
  · exact ⟨g, cap, cur, e1, e2, e3, by omega⟩
theorem own_grown {w w' : World} {row : Option Nat} {base e : Nat} {v : Value} {bs : List UInt8} (hg : w.grownBy w' row) (ho : Own w base e v bs) (hne : ∀ k, v.ownBlock = some k → row ≠ some k) : Own w' base e v bs := by
  refine ⟨ho.1, ?_⟩
  rcases ho.2 with h0 | ⟨b, cap, cur, e1, e2, e3, e4⟩
  · exact .inl h0
  · refine .inr ⟨b, cap, cur, e1, e2, ?_, e4⟩
    rw [hg.block b ?_ ?_, e3]
    · rcases Nat.lt_or_ge b w.heap.size with hlt | hge
      · exact hlt
      · rw [Array.getElem?_eq_none hge] at e3; cases e3
    · intro h
      exact hne b (by rw [e1]; rfl) h.symm

theorem run_appB (w : World) (base ty : Nat) (v : Value) (bs : List UInt8) (hown : Own w base 5 v bs) (A : Option Addr) (m c : Nat) (xs : List UInt8) (hr : Rd w A m c xs) (hsz : bs.length + m ≤ 70368744177664) (hbase : base ≤ w.heap.size) :
    ∃ v' w', (Builtin.append_ #[22, 22] ty #[v, .slice A m c]).run Tryd.prog w = .ok v' w' ∧ Own w' base 5 v' (bs ++ xs) ∧ w.grownBy w' v.ownBlock ∧ (v'.ownBlock = v.ownBlock ∨ v'.ownBlock = some w.heap.size) := by
  obtain ⟨i, hi, hz, hs1, hby⟩ := info_parts u8_info
  have hl := hr.len
  rcases A with _ | ad
  · have hm : m = 0 := by
      rcases Nat.eq_zero_or_pos m with h0 | h0
      · exact h0
      · obtain ⟨_, _, h, _⟩ := hr.cells h0
        cases h
    subst hm
    obtain rfl : xs = [] := List.eq_nil_of_length_eq_zero hl
    refine ⟨v, w, ?_, by simpa using hown, ⟨rfl, rfl, rfl, Nat.le_refl _, fun _ _ _ => rfl⟩, .inl rfl⟩
    rcases hown.2 with ⟨rfl, _⟩ | ⟨g, cap, cur, rfl, _, _, hnc, _⟩
    · simp [Builtin.append_, run_underlying Tryd.underlying22, sizeOf, typeInfo, hi, Builtin.lenOf, Builtin.firstCells]
    · simp [Builtin.append_, run_underlying Tryd.underlying22, sizeOf, typeInfo, hi, Builtin.lenOf, Builtin.firstCells, hnc, storeCells]
  · have hcells : ∀ j u, (xs.map B)[j]? = some u → w.cell? (ad.add j) = some u := by
      intro j u hu
      rcases Nat.eq_zero_or_pos m with h0 | h0
      · subst h0
        obtain rfl : xs = [] := List.eq_nil_of_length_eq_zero hl
        simp at hu
      · obtain ⟨g, o, h, _, _⟩ := hr.cells h0
        injection h with h
        subst h
        exact hr.src j u hu
    obtain ⟨v', w', hrun, h2, h3, _, h5⟩ := run_append_own_at (P := Tryd.prog) w base 22 ty 5 i _ 1 1 Tryd.underlying22 hi hz hs1 hby rfl (by omega) v bs.length (bs.map B) hown ad m c (xs.map B) (by simp [hl]) hcells (B_one xs)
      (by unfold maxLen; omega) (by omega) hbase
    refine ⟨v', w', hrun, ?_, h3, h5⟩
    unfold Own
    rw [List.length_append, hl, List.map_append]
    exact h2
theorem wpList_appB (w : World) {ops : Array Oper} {rest : List Oper} {o : Oper} {a : Act} {Q : Exit → Act → World → Prop} (hgd : o.guard = none) (s x : Operand)
    (ho : o.op = .call { callee := .builtin .append, args := #[s, x], argTypes := #[22, 22] })
    (base : Nat) (v : Value) (bs : List UInt8) (hs : a.eval s = v) (hown : Own w base 5 v bs) (A : Option Addr) (m c : Nat) (xs : List UInt8) (hx : a.eval x = .slice A m c) (hr : Rd w A m c xs) (hsz : bs.length + m ≤ 70368744177664) (hbase : base ≤ w.heap.size)
    (h : ∀ v' w', Own w' base 5 v' (bs ++ xs) → w.grownBy w' v.ownBlock → (v'.ownBlock = v.ownBlock ∨ v'.ownBlock = some w.heap.size) → wpList Tryd.prog ops Q rest (a.put o.dst v') w') : wpList Tryd.prog ops Q (o :: rest) a w := by
  refine wpList_plain hgd fun K hK => ?_
  obtain ⟨v', w', hrun, h2, h3, h5⟩ := run_appB w base o.type v bs hown A m c xs hr hsz hbase
  unfold Oper.wp execOp
  simp only [ho, resolve, invoke, builtin, Sem.run_bind, Sem.run_pure, Result.andThen_ok, List.map_toArray, List.map_cons, List.map_nil, hs, hx, hrun]
  exact hK _ _ (h v' w' h2 h3 h5)
theorem HashIs.grown {w w' : World} {row : Option Nat} {g : Nat} {bs : List UInt8} (h : HashIs w g bs) (hg : w.grownBy w' row) (hne : row ≠ some g) : HashIs w' g bs := h.keep (hg.block g h.lt (Ne.symm hne))
end Go.Proofs.YtnoldhedocejbaaDoor
