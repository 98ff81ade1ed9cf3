/- Texts behind bytes of ones own. Conditions: none. -/
import Derived.Test.YtlnghdldecnmgaaK8
import Derived.Lib.AppendStr
set_option maxRecDepth 8000
set_option linter.unusedSimpArgs false
set_option linter.unusedVariables false
namespace Go.Bs
open Go.RowKit
/-- what grew, and alone turned, is v's own row; v' lies there or in new memory. -/
def Gr (w w' : World) (v v' : Value) : Prop := w.grownBy w' v.ownBlock ∧ (v'.ownBlock = v.ownBlock ∨ ∃ k, v'.ownBlock = some k ∧ w.heap.size ≤ k)
theorem Gr.refl (w : World) (v : Value) : Gr w w v v := ⟨⟨rfl, rfl, rfl, Nat.le_refl _, fun _ _ _ => rfl⟩, .inl rfl⟩
theorem Gr.alloc {w w' : World} {v v' : Value} (h : Gr w w' v v') (o : Obj) : Gr w (w'.alloc o) v v' :=
  ⟨⟨h.1.os, h.1.tape, h.1.output, by have := h.1.size; simp; omega, fun k hk hne => (heap_alloc_old w' o (Nat.lt_of_lt_of_le hk h.1.size)).trans (h.1.block k hk hne)⟩, h.2⟩
theorem Gr.trans {a b c : World} {v v1 v2 : Value} (h : Gr a b v v1) (h' : Gr b c v1 v2) : Gr a c v v2 := by
  refine ⟨⟨h'.1.os.trans h.1.os, h'.1.tape.trans h.1.tape, h'.1.output.trans h.1.output, Nat.le_trans h.1.size h'.1.size, fun k hk hne => ?_⟩, ?_⟩
  · refine (h'.1.block k (Nat.lt_of_lt_of_le hk h.1.size) ?_).trans (h.1.block k hk hne)
    intro e
    rcases h.2 with h2 | ⟨j, h2, h3⟩
    · exact hne (e.trans h2)
    · rw [h2] at e; injection e with e; omega
  · rcases h'.2 with h2 | ⟨j, h2, h3⟩
    · rcases h.2 with h4 | ⟨j, h4, h5⟩
      · exact .inl (h2.trans h4)
      · exact .inr ⟨j, h2.trans h4, h5⟩
    · exact .inr ⟨j, h2, Nat.le_trans h.1.size h3⟩
theorem Gr.below {base e : Nat} {w w' : World} {v v' : Value} {bs : List UInt8} (h : Gr w w' v v') (ho : Own w base e v bs) (hb : base ≤ w.heap.size) : Below base w w' := (Below.refl _ _).grown h.1 hb ho.base
theorem Gr.block {w w' : World} {v v' : Value} (h : Gr w w' v v') (z : Nat) (hz : z < w.heap.size) (hne : v.ownBlock ≠ some z) : w'.heap[z]? = w.heap[z]? := h.1.block z hz (fun e => hne e.symm)
theorem Own.block {w : World} {base e : Nat} {v : Value} {bs : List UInt8} (h : Own w base e v bs) : ∀ k, v.ownBlock = some k → k < w.heap.size := by
  intro kk he
  rcases h.2 with ⟨rfl, _⟩ | ⟨gg, cap, cur, rfl, _, hgg, _⟩
  · simp [Value.ownBlock] at he
  · have : gg = kk := by simpa [Value.ownBlock] using he
    subst this
    exact (Array.getElem?_eq_some_iff.1 hgg).1
section
variable {P : Program}
theorem own_str {w : World} {base e : Nat} {v : Value} {bs : List UInt8} {s : ByteArray} (h : w.ownsRow base e 1 v (bs.length + s.size) (bs.map B ++ Lib.strCells s)) : Own w base e v (bs ++ s.data.toList) := by
  have e : (bs ++ s.data.toList).map B = bs.map B ++ Lib.strCells s := by simp [Lib.strCells]
  unfold Own
  rw [e, List.length_append]
  exact h
theorem run_strG (w : World) (base t u ty e : Nat) (ht : P.underlying t = some (.slice e)) (hu : P.underlying u = some .string) (hinfo : (P.info? e).map (fun i => (i.zero, i.size, i.bytes)) = some (some (.int .u8 0), 1, 1))
    (v : Value) (bs : List UInt8) (hown : Own w base e v bs) (h0 : 0 < bs.length) (s : ByteArray) (hsz : bs.length + s.size ≤ 70368744177664) (hbase : base ≤ w.heap.size) :
    ∃ v' w', (Builtin.append_ #[t, u] ty #[v, .string s]).run P w = .ok v' w' ∧ Own w' base e v' (bs ++ s.data.toList) ∧ Gr w w' v v' := by
  obtain ⟨i, hi, hz, hs1, hby⟩ := info_parts hinfo
  obtain ⟨v', w', hr, h2, h3, _⟩ := Lib.run_append_own_string (P := P) w base t u ty e i ht hu hi hz hs1 hby v bs.length (bs.map B) hown s (by unfold maxLen; omega) (by omega) hbase
  refine ⟨v', w', hr, own_str h2, h3, ?_⟩
  rcases hown.2 with ⟨_, h1⟩ | ⟨g, cap, cur, rfl, hbg, hg, hnc, hcm, hcs, htake⟩
  · omega
  · by_cases hroom : bs.length + s.size ≤ cap
    · have hcs' : cur.size = cap := by simpa using hcs
      have hr2 := Lib.run_append_room_string (P := P) w t u ty e i ht hu hi hs1 g bs.length cap cur hg s hroom (by omega)
      rw [hr2] at hr
      injection hr with hr _
      rw [← hr]
      exact .inl rfl
    · have holds : ∀ j u, (bs.map B)[j]? = some u → w.cell? ((⟨g, 0, none⟩ : Addr).add j) = some u := hown.cells (g := g) rfl
      have hr2 := Lib.run_append_grow_string (P := P) w t u ty e i (.int .u8 0) ht hu hi hz ⟨g, 0, none⟩ bs.length cap (bs.map B) (by rw [hs1]; simp) holds s (by omega) (by omega) (by rw [hby]; exact growslice_fits (by omega) (by omega))
      rw [hr2] at hr
      injection hr with hr _
      rw [← hr]
      exact .inr ⟨_, rfl, Nat.le_refl _⟩
theorem wpList_strG (w : World) {ops : Array Oper} {rest : List Oper} {o : Oper} {a : Act} {Q : Exit → Act → World → Prop} (hgd : o.guard = none) (sl x : Operand) (t u : TypeId)
    (ho : o.op = .call { callee := .builtin .append, args := #[sl, x], argTypes := #[t, u] })
    (base e : Nat) (ht : P.underlying t = some (.slice e)) (hu : P.underlying u = some .string) (hinfo : (P.info? e).map (fun i => (i.zero, i.size, i.bytes)) = some (some (.int .u8 0), 1, 1))
    (v : Value) (bs : List UInt8) (hs : a.eval sl = v) (hown : Own w base e v bs) (h0 : 0 < bs.length) (s : ByteArray) (hx : a.eval x = .string s) (hsz : bs.length + s.size ≤ 70368744177664) (hbase : base ≤ w.heap.size)
    (h : ∀ v' w', Own w' base e v' (bs ++ s.data.toList) → Gr w w' v v' → wpList P ops Q rest (a.put o.dst v') w') : wpList P ops Q (o :: rest) a w := by
  refine wpList_plain hgd fun K hK => ?_
  obtain ⟨v', w', hr, h2, h3⟩ := run_strG (P := P) w base t u o.type e ht hu hinfo v bs hown h0 s hsz hbase
  unfold Oper.wp execOp
  simp only [ho, resolve, invoke, builtin, Sem.run_bind, Sem.run_pure, Result.andThen_ok, List.map_toArray, List.map_cons, List.map_nil, hs, hx, hr]
  exact hK _ _ (h v' w' h2 h3)
end
end Go.Bs
