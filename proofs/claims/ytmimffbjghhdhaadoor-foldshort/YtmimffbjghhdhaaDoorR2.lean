/- Slices of words as numbers: read, owned, appended to. Conditions: none. -/
import Derived.Test.YtmimffbjghhdhaaDoorS2
import Derived.Test.YtmimffbjghhdhaaDoorR1
namespace Go.Proofs.YtmimffbjghhdhaaDoor
open Go.RowKit Go.Bs Go.Sha

theorem i64_info : (Tryd.prog.info? 3).map (fun i => (i.zero, i.size, i.bytes)) = some (some (.int .i64 0), 1, 8) := by kernel_rfl

structure RdW (w : World) (A : Option Addr) (n c : Nat) (xs : List Nat) : Prop where
  len : xs.length = n
  cap : n ≤ c
  cells : 0 < n → ∃ g o, A = some ⟨g, o, none⟩ ∧ g < w.heap.size ∧ ∀ j, j < n → w.cell? ⟨g, o + j, none⟩ = some (I (xs.getD j 0))
theorem RdW.keep {w w' : World} {A : Option Addr} {n c : Nat} {xs : List Nat} (h : RdW w A n c xs) (hb : Below w.heap.size w w') : RdW w' A n c xs :=
  ⟨h.len, h.cap, fun hn => by
    obtain ⟨g, o, e, hg, hc⟩ := h.cells hn
    exact ⟨g, o, e, Nat.lt_of_lt_of_le hg hb.size, fun j hj => (hb.cell (p := ⟨g, o + j, none⟩) hg).trans (hc j hj)⟩⟩
theorem RdW.drew {w : World} {A : Option Addr} {n c : Nat} {xs : List Nat} (h : RdW w A n c xs) : RdW w.drew A n c xs := ⟨h.len, h.cap, h.cells⟩

def OwnW (w : World) (base : Nat) (v : Value) (xs : List Nat) : Prop := w.ownsRow base 3 1 v xs.length (xs.map I)
theorem OwnW.nil (w : World) (base : Nat) : OwnW w base (.slice none 0 0) [] := ⟨by simp, .inl ⟨rfl, rfl⟩⟩
theorem OwnW.slice {w : World} {base : Nat} {v : Value} {xs : List Nat} (h : OwnW w base v xs) (n : Nat) (hn : xs.length = n) : ∃ A c, v = .slice A n c ∧ RdW w A n c xs := by
  subst hn
  rcases h.2 with ⟨rfl, h0⟩ | ⟨g, cap, cur, rfl, _, hg, hnc, _, hsz, htk⟩
  · obtain rfl : xs = [] := List.eq_nil_of_length_eq_zero h0
    exact ⟨none, 0, rfl, rfl, Nat.le_refl _, fun h => absurd h (by simp)⟩
  · refine ⟨_, _, rfl, rfl, hnc, fun hn => ⟨g, 0, rfl, ?_, fun j hj => ?_⟩⟩
    · rcases Nat.lt_or_ge g w.heap.size with hlt | hge
      · exact hlt
      · rw [Array.getElem?_eq_none hge] at hg; cases hg
    · have := h.cells (g := g) rfl j (I xs[j]) (by simp [List.getElem?_eq_getElem hj])
      rw [addr_add] at this
      rw [this]
      simp [List.getD, List.getElem?_eq_getElem hj]
theorem OwnW.keep {w w' : World} {base : Nat} {v : Value} {xs : List Nat} (h : OwnW w base v xs) (hb : Below w.heap.size w w') : OwnW w' base v xs := by
  refine ⟨h.1, ?_⟩
  rcases h.2 with h0 | ⟨g, cap, cur, hv, hbg, hg, hr⟩
  · exact .inl h0
  · refine .inr ⟨g, cap, cur, hv, hbg, ?_, hr⟩
    rw [hb.block g ?_, hg]
    rcases Nat.lt_or_ge g w.heap.size with hlt | hge
    · exact hlt
    · rw [Array.getElem?_eq_none hge] at hg; cases hg
theorem OwnW.alloc {w : World} {base : Nat} {v : Value} {xs : List Nat} (h : OwnW w base v xs) (o : Obj) : OwnW (w.alloc o) base v xs := h.keep ((Below.refl _ _).alloc (Nat.le_refl _) o)
theorem OwnW.base {w : World} {base : Nat} {v : Value} {xs : List Nat} (h : OwnW w base v xs) : ∀ k, v.ownBlock = some k → base ≤ k := by
  intro k hk
  rcases h.2 with ⟨rfl, h0⟩ | ⟨g, cap, cur, rfl, hb, _⟩
  · simp [Value.ownBlock] at hk
  · have : g = k := by simpa [Value.ownBlock] using hk
    omega
theorem OwnW.le {w : World} {base base' : Nat} {v : Value} {xs : List Nat} (h : OwnW w base v xs) (hb : base' ≤ base) : OwnW w base' v xs := by
  refine ⟨h.1, ?_⟩
  rcases h.2 with h0 | ⟨g', cap, cur, e1, e2, e3⟩
  · exact .inl h0
  · exact .inr ⟨g', cap, cur, e1, Nat.le_trans hb e2, e3⟩

/-- append of one word that was just laid down. -/
theorem run_appW (w : World) (base : Nat) (ty : TypeId) (v : Value) (xs : List Nat) (hown : OwnW w base v xs) (y : Value) (x : Nat) (hy : y = I x) (hsz : xs.length + 1 ≤ 1048576) (hbase : base ≤ w.heap.size) :
    ∃ v' w', (Builtin.append_ #[53, 53] ty #[v, .slice (some ⟨w.heap.size, 0, none⟩) 1 1]).run Tryd.prog (w.alloc (.cells #[y] 3)) = .ok v' w' ∧ OwnW w' base v' (xs ++ [x]) ∧ Below base w w' := by
  obtain ⟨i, hi, hz, hs1, hby⟩ := info_parts i64_info
  subst hy
  have hcells : ∀ j u, ([x].map I)[j]? = some u → (w.alloc (.cells #[I x] 3)).cell? ((⟨w.heap.size, 0, none⟩ : Addr).add j) = some u := by
    intro j u hu
    rw [addr_add, Nat.zero_add, cell_of_row _ w.heap.size j _ 3 (0, 0) (heap_alloc_new w _)]
    simpa using hu
  obtain ⟨v', w', hrun, h2, h3, _, _⟩ := run_append_own_at (P := Tryd.prog) (w.alloc (.cells #[I x] 3)) base 53 ty 3 i _ 1 8 Tryd.underlying53 hi hz hs1 hby rfl (by omega) v xs.length (xs.map I) (hown.alloc _) ⟨w.heap.size, 0, none⟩ 1 1 ([x].map I) (by simp) hcells (by simp [Value.oneCell'])
    (by unfold maxLen; omega) (by omega) (by simp; omega)
  refine ⟨v', w', hrun, ?_, ?_⟩
  · unfold OwnW
    rw [List.length_append, List.map_append]
    exact h2
  · exact (((Below.refl base w).alloc hbase _)).trans ((Below.refl _ _).grown h3 (by simp; omega) hown.base)
theorem wpList_appW (w : World) {ops : Array Oper} {rest : List Oper} {o : Oper} {a : Act} {Q : Exit → Act → World → Prop} (hgd : o.guard = none) (s x : Operand)
    (ho : o.op = .call { callee := .builtin .append, args := #[s, x], argTypes := #[53, 53] })
    (base : Nat) (v : Value) (xs : List Nat) (hs : a.eval s = v) (hown : OwnW w base v xs) (y : Value) (z : Nat) (hy : y = I z) (hx : a.eval x = .slice (some ⟨w.heap.size, 0, none⟩) 1 1) (hsz : xs.length + 1 ≤ 1048576) (hbase : base ≤ w.heap.size)
    (h : ∀ v' w', OwnW w' base v' (xs ++ [z]) → Below base w w' → wpList Tryd.prog ops Q rest (a.put o.dst v') w') : wpList Tryd.prog ops Q (o :: rest) a (w.alloc (.cells #[y] 3)) := by
  refine wpList_plain hgd fun K hK => ?_
  obtain ⟨v', w', hrun, h2, h3⟩ := run_appW w base o.type v xs hown y z hy hsz hbase
  unfold Oper.wp execOp
  simp only [ho, resolve, invoke, builtin, Sem.run_bind, Sem.run_pure, Result.andThen_ok, List.map_toArray, List.map_cons, List.map_nil, hs, hx, hrun]
  exact hK _ _ (h v' w' h2 h3)
end Go.Proofs.YtmimffbjghhdhaaDoor
