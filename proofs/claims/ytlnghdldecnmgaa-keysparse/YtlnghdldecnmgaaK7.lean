/- The fields of a kind, in memory. Conditions: none. -/
import Derived.Test.YtlnghdldecnmgaaK6
import Derived.Laws.EntriesVeiled
set_option maxRecDepth 8000
set_option linter.unusedSimpArgs false
set_option linter.unusedVariables false
namespace Go.Kx
open Go.RowKit Go.Bs
/-- a field that lies at hand: its two closures, what they know lies from base on. -/
def FAt (w : World) (base : Nat) (v1 v2 : Value) : Fld → Prop
  | .num ism least most size => ∃ q, base ≤ q ∧ v1 = .func (.func 38) #[] #[ptr q, ptr (q + 3), ptr (q + 1), ptr (q + 2)] ∧ v2 = .func (.func 39) #[] #[ptr (q + 3), ptr q] ∧
      w.cell? ⟨q, 0, none⟩ = some (fnN ism) ∧ w.cell? ⟨q + 1, 0, none⟩ = some (.int .i64 (least : Int)) ∧ w.cell? ⟨q + 2, 0, none⟩ = some (.int .i64 (most : Int)) ∧ w.cell? ⟨q + 3, 0, none⟩ = some (.int .i64 (size : Int))
  | .nam isb => ∃ q, base ≤ q ∧ v1 = .func (.func 40) #[] #[ptr q] ∧ v2 = .func (.func 42) #[] #[ptr q] ∧ w.cell? ⟨q, 0, none⟩ = some (fnT isb)
  | .end_ => ∃ q q', base ≤ q ∧ base ≤ q' ∧ v1 = .func (.func 43) #[] #[ptr q'] ∧ v2 = .func (.func 44) #[] #[ptr q'] ∧ w.cell? ⟨q', 0, none⟩ = some (.func (.func 40) #[] #[ptr q]) ∧
      w.cell? ⟨q', 1, none⟩ = some (.func (.func 42) #[] #[ptr q]) ∧ w.cell? ⟨q, 0, none⟩ = some (fnT false)
theorem FAt.fr {w w' : World} {base : Nat} {v1 v2 : Value} {f : Fld} {D : Nat → Prop} (h : FAt w base v1 v2 f) (hf : Fr D w w') (hD : ∀ i, D i → i < base) : FAt w' base v1 v2 f := by
  have key : ∀ (q i : Nat) (v : Value), base ≤ q → w.cell? ⟨q, i, none⟩ = some v → w'.cell? ⟨q, i, none⟩ = some v := fun q i v hq hc => hf.cell hc (fun hd => by have : q < base := hD q hd; omega)
  cases f with
  | num ism least most size =>
    obtain ⟨q, hq, e1, e2, c0, c1, c2, c3⟩ := h
    exact ⟨q, hq, e1, e2, key _ _ _ hq c0, key _ _ _ (by omega) c1, key _ _ _ (by omega) c2, key _ _ _ (by omega) c3⟩
  | nam isb =>
    obtain ⟨q, hq, e1, e2, c0⟩ := h
    exact ⟨q, hq, e1, e2, key _ _ _ hq c0⟩
  | end_ =>
    obtain ⟨q, q', hq, hq', e1, e2, c0, c1, c2⟩ := h
    exact ⟨q, q', hq, hq', e1, e2, key _ _ _ hq' c0, key _ _ _ hq' c1, key _ _ _ hq c2⟩
theorem FAt.mono {w : World} {base base' : Nat} {v1 v2 : Value} {f : Fld} (h : FAt w base v1 v2 f) (hb : base' ≤ base) : FAt w base' v1 v2 f := by
  cases f with
  | num ism least most size =>
    obtain ⟨q, hq, r⟩ := h
    exact ⟨q, by omega, r⟩
  | nam isb =>
    obtain ⟨q, hq, r⟩ := h
    exact ⟨q, by omega, r⟩
  | end_ =>
    obtain ⟨q, q', hq, hq', r⟩ := h
    exact ⟨q, q', by omega, by omega, r⟩
theorem FAt.keep {w w' : World} {base : Nat} {v1 v2 : Value} {f : Fld} (h : FAt w base v1 v2 f) (hb : Below w.heap.size w w') : FAt w' base v1 v2 f :=
  h.fr (Fr.of (D := fun _ => False) hb) (fun _ h => h.elim)
theorem two_cells {w w' : World} {g t : Nat} {u v : Value} (h : w'.heap[g]? = some (.cells #[u, v] t (0, 0))) : w'.cell? ⟨g, 0, none⟩ = some u ∧ w'.cell? ⟨g, 1, none⟩ = some v :=
  ⟨by rw [cell_of_row w' g _ _ t (0, 0) h]; rfl, by rw [cell_of_row w' g _ _ t (0, 0) h]; rfl⟩
theorem one_cell {w' : World} {g t : Nat} {u : Value} (h : w'.heap[g]? = some (.cells #[u] t (0, 0))) : w'.cell? ⟨g, 0, none⟩ = some u := by rw [cell_of_row w' g _ _ t (0, 0) h]; rfl
theorem alloc_at {w : World} {n : Nat} (o : Obj) (h : w.heap.size = n) : (w.alloc o).heap[n]? = some o := by subst h; exact heap_alloc_new w o
theorem alloc_old {w : World} {k : Nat} {x : Option Obj} (o : Obj) (h : k < w.heap.size) (hx : w.heap[k]? = x) : (w.alloc o).heap[k]? = x := (heap_alloc_old w o h).trans hx
theorem below_alloc {w w' : World} {n : Nat} (h : Below n w w') (o : Obj) (hn : n ≤ w'.heap.size) : Below n w (w'.alloc o) := h.alloc hn o
end Go.Kx
namespace Go.Proofs.Ytlnghdldecnmgaa
open Go.RowKit Go.Bs Go.Kx

set_option maxHeartbeats 2000000 in
theorem name_any (w : World) (isb : Bool) : Calls Try.prog 34 #[fnT isb] w fun e w' => ∃ v1 v2, e = .returned (.agg #[v1, v2]) ∧ FAt w' w.heap.size v1 v2 (.nam isb) ∧ Below w.heap.size w w' := by
  cases isb
  · simp only [fnT, Bool.false_eq_true, if_false]
    have HROW : Hid ((((w.alloc (.cells #[.func (.func 29) #[] #[]] 58)).alloc (.cells #[.func (.func 40) #[] #[ptr w.heap.size], .func (.func 42) #[] #[ptr w.heap.size]] 56))).heap[w.heap.size + 1]? = _) := alloc_at _ (by simp)
    have hold : (((w.alloc (.cells #[.func (.func 29) #[] #[]] 58)).alloc (.cells #[.func (.func 40) #[] #[ptr w.heap.size], .func (.func 42) #[] #[ptr w.heap.size]] 56))).heap[w.heap.size]? = _ := alloc_old _ (by simp) (alloc_at _ rfl)
    have HE : Hid (∃ v1 v2, Ending.returned (.agg #[.func (.func 40) #[] #[ptr w.heap.size], .func (.func 42) #[] #[ptr w.heap.size]]) = Ending.returned (.agg #[v1, v2]) ∧ FAt ((w.alloc (.cells #[.func (.func 29) #[] #[]] 58)).alloc (.cells #[.func (.func 40) #[] #[ptr w.heap.size], .func (.func 42) #[] #[ptr w.heap.size]] 56)) w.heap.size v1 v2 (.nam false) ∧ Below w.heap.size w ((w.alloc (.cells #[.func (.func 29) #[] #[]] 58)).alloc (.cells #[.func (.func 40) #[] #[ptr w.heap.size], .func (.func 42) #[] #[ptr w.heap.size]] 56))) :=
      ⟨_, _, rfl, ⟨w.heap.size, Nat.le_refl _, rfl, rfl, one_cell hold⟩, ((Below.refl _ _).alloc (Nat.le_refl _) _).alloc (by simp) _⟩
    clear hold
    go_enter Try.func34, Try.ntmps34
    go_wp2
    exact bodyPost_ret (results_cell_row (P := Try.prog) (fn := Try.f34) rfl _ _ _ 56 _ (0, 0) _ rfl HROW.out Try.underlying56 rfl (by kernel_rfl)) rfl HE.out
  · simp only [fnT, if_true]
    have HROW : Hid ((((w.alloc (.cells #[.func (.func 30) #[] #[]] 58)).alloc (.cells #[.func (.func 40) #[] #[ptr w.heap.size], .func (.func 42) #[] #[ptr w.heap.size]] 56))).heap[w.heap.size + 1]? = _) := alloc_at _ (by simp)
    have hold : (((w.alloc (.cells #[.func (.func 30) #[] #[]] 58)).alloc (.cells #[.func (.func 40) #[] #[ptr w.heap.size], .func (.func 42) #[] #[ptr w.heap.size]] 56))).heap[w.heap.size]? = _ := alloc_old _ (by simp) (alloc_at _ rfl)
    have HE : Hid (∃ v1 v2, Ending.returned (.agg #[.func (.func 40) #[] #[ptr w.heap.size], .func (.func 42) #[] #[ptr w.heap.size]]) = Ending.returned (.agg #[v1, v2]) ∧ FAt ((w.alloc (.cells #[.func (.func 30) #[] #[]] 58)).alloc (.cells #[.func (.func 40) #[] #[ptr w.heap.size], .func (.func 42) #[] #[ptr w.heap.size]] 56)) w.heap.size v1 v2 (.nam true) ∧ Below w.heap.size w ((w.alloc (.cells #[.func (.func 30) #[] #[]] 58)).alloc (.cells #[.func (.func 40) #[] #[ptr w.heap.size], .func (.func 42) #[] #[ptr w.heap.size]] 56))) :=
      ⟨_, _, rfl, ⟨w.heap.size, Nat.le_refl _, rfl, rfl, one_cell hold⟩, ((Below.refl _ _).alloc (Nat.le_refl _) _).alloc (by simp) _⟩
    clear hold
    go_enter Try.func34, Try.ntmps34
    go_wp2
    exact bodyPost_ret (results_cell_row (P := Try.prog) (fn := Try.f34) rfl _ _ _ 56 _ (0, 0) _ rfl HROW.out Try.underlying56 rfl (by kernel_rfl)) rfl HE.out
set_option maxHeartbeats 2000000 in
theorem number_any (w : World) (ism : Bool) (least most size : Nat) (hb : least ≤ 16777215 ∧ most ≤ 16777215 ∧ size ≤ 3) : Calls Try.prog 33 #[fnN ism, .int .i64 (least : Int), .int .i64 (most : Int), .int .i64 (size : Int)] w fun e w' => ∃ v1 v2, e = .returned (.agg #[v1, v2]) ∧ FAt w' w.heap.size v1 v2 (.num ism least most size) ∧ Below w.heap.size w w' := by
  cases ism
  · simp only [fnN, Bool.false_eq_true, if_false]
    have HROW : Hid (((((((w.alloc (.cells #[.func (.func 31) #[] #[]] 60)).alloc (.cells #[.int .i64 (least : Int)] 3)).alloc (.cells #[.int .i64 (most : Int)] 3)).alloc (.cells #[.int .i64 (size : Int)] 3)).alloc (.cells #[.func (.func 38) #[] #[ptr w.heap.size, ptr (w.heap.size + 3), ptr (w.heap.size + 1), ptr (w.heap.size + 2)], .func (.func 39) #[] #[ptr (w.heap.size + 3), ptr w.heap.size]] 56))).heap[w.heap.size + 4]? = _) := alloc_at _ (by simp)
    have b0 : ((((((w.alloc (.cells #[.func (.func 31) #[] #[]] 60)).alloc (.cells #[.int .i64 (least : Int)] 3)).alloc (.cells #[.int .i64 (most : Int)] 3)).alloc (.cells #[.int .i64 (size : Int)] 3)).alloc (.cells #[.func (.func 38) #[] #[ptr w.heap.size, ptr (w.heap.size + 3), ptr (w.heap.size + 1), ptr (w.heap.size + 2)], .func (.func 39) #[] #[ptr (w.heap.size + 3), ptr w.heap.size]] 56))).heap[w.heap.size]? = _ := alloc_old _ (by simp <;> omega) (alloc_old _ (by simp <;> omega) (alloc_old _ (by simp <;> omega) (alloc_old _ (by simp) (alloc_at _ rfl))))
    have b1 : ((((((w.alloc (.cells #[.func (.func 31) #[] #[]] 60)).alloc (.cells #[.int .i64 (least : Int)] 3)).alloc (.cells #[.int .i64 (most : Int)] 3)).alloc (.cells #[.int .i64 (size : Int)] 3)).alloc (.cells #[.func (.func 38) #[] #[ptr w.heap.size, ptr (w.heap.size + 3), ptr (w.heap.size + 1), ptr (w.heap.size + 2)], .func (.func 39) #[] #[ptr (w.heap.size + 3), ptr w.heap.size]] 56))).heap[w.heap.size + 1]? = _ := alloc_old _ (by simp <;> omega) (alloc_old _ (by simp <;> omega) (alloc_old _ (by simp) (alloc_at _ (by simp))))
    have b2 : ((((((w.alloc (.cells #[.func (.func 31) #[] #[]] 60)).alloc (.cells #[.int .i64 (least : Int)] 3)).alloc (.cells #[.int .i64 (most : Int)] 3)).alloc (.cells #[.int .i64 (size : Int)] 3)).alloc (.cells #[.func (.func 38) #[] #[ptr w.heap.size, ptr (w.heap.size + 3), ptr (w.heap.size + 1), ptr (w.heap.size + 2)], .func (.func 39) #[] #[ptr (w.heap.size + 3), ptr w.heap.size]] 56))).heap[w.heap.size + 2]? = _ := alloc_old _ (by simp <;> omega) (alloc_old _ (by simp) (alloc_at _ (by simp)))
    have b3 : ((((((w.alloc (.cells #[.func (.func 31) #[] #[]] 60)).alloc (.cells #[.int .i64 (least : Int)] 3)).alloc (.cells #[.int .i64 (most : Int)] 3)).alloc (.cells #[.int .i64 (size : Int)] 3)).alloc (.cells #[.func (.func 38) #[] #[ptr w.heap.size, ptr (w.heap.size + 3), ptr (w.heap.size + 1), ptr (w.heap.size + 2)], .func (.func 39) #[] #[ptr (w.heap.size + 3), ptr w.heap.size]] 56))).heap[w.heap.size + 3]? = _ := alloc_old _ (by simp) (alloc_at _ (by simp))
    have HE : Hid (∃ v1 v2, Ending.returned (.agg #[.func (.func 38) #[] #[ptr w.heap.size, ptr (w.heap.size + 3), ptr (w.heap.size + 1), ptr (w.heap.size + 2)], .func (.func 39) #[] #[ptr (w.heap.size + 3), ptr w.heap.size]]) = Ending.returned (.agg #[v1, v2]) ∧ FAt (((((w.alloc (.cells #[.func (.func 31) #[] #[]] 60)).alloc (.cells #[.int .i64 (least : Int)] 3)).alloc (.cells #[.int .i64 (most : Int)] 3)).alloc (.cells #[.int .i64 (size : Int)] 3)).alloc (.cells #[.func (.func 38) #[] #[ptr w.heap.size, ptr (w.heap.size + 3), ptr (w.heap.size + 1), ptr (w.heap.size + 2)], .func (.func 39) #[] #[ptr (w.heap.size + 3), ptr w.heap.size]] 56)) w.heap.size v1 v2 (.num false least most size) ∧ Below w.heap.size w (((((w.alloc (.cells #[.func (.func 31) #[] #[]] 60)).alloc (.cells #[.int .i64 (least : Int)] 3)).alloc (.cells #[.int .i64 (most : Int)] 3)).alloc (.cells #[.int .i64 (size : Int)] 3)).alloc (.cells #[.func (.func 38) #[] #[ptr w.heap.size, ptr (w.heap.size + 3), ptr (w.heap.size + 1), ptr (w.heap.size + 2)], .func (.func 39) #[] #[ptr (w.heap.size + 3), ptr w.heap.size]] 56))) :=
      ⟨_, _, rfl, ⟨w.heap.size, Nat.le_refl _, rfl, rfl, one_cell b0, one_cell b1, one_cell b2, one_cell b3⟩, (((((Below.refl _ _).alloc (Nat.le_refl _) _).alloc (by simp) _).alloc (by simp <;> omega) _).alloc (by simp <;> omega) _).alloc (by simp <;> omega) _⟩
    clear b0 b1 b2 b3
    go_enter Try.func33, Try.ntmps33
    go_wp2
    exact bodyPost_ret (results_cell_row (P := Try.prog) (fn := Try.f33) rfl _ _ _ 56 _ (0, 0) _ rfl HROW.out Try.underlying56 rfl (by kernel_rfl)) rfl HE.out
  · simp only [fnN, if_true]
    have HROW : Hid (((((((w.alloc (.cells #[.func (.func 32) #[] #[]] 60)).alloc (.cells #[.int .i64 (least : Int)] 3)).alloc (.cells #[.int .i64 (most : Int)] 3)).alloc (.cells #[.int .i64 (size : Int)] 3)).alloc (.cells #[.func (.func 38) #[] #[ptr w.heap.size, ptr (w.heap.size + 3), ptr (w.heap.size + 1), ptr (w.heap.size + 2)], .func (.func 39) #[] #[ptr (w.heap.size + 3), ptr w.heap.size]] 56))).heap[w.heap.size + 4]? = _) := alloc_at _ (by simp)
    have b0 : ((((((w.alloc (.cells #[.func (.func 32) #[] #[]] 60)).alloc (.cells #[.int .i64 (least : Int)] 3)).alloc (.cells #[.int .i64 (most : Int)] 3)).alloc (.cells #[.int .i64 (size : Int)] 3)).alloc (.cells #[.func (.func 38) #[] #[ptr w.heap.size, ptr (w.heap.size + 3), ptr (w.heap.size + 1), ptr (w.heap.size + 2)], .func (.func 39) #[] #[ptr (w.heap.size + 3), ptr w.heap.size]] 56))).heap[w.heap.size]? = _ := alloc_old _ (by simp <;> omega) (alloc_old _ (by simp <;> omega) (alloc_old _ (by simp <;> omega) (alloc_old _ (by simp) (alloc_at _ rfl))))
    have b1 : ((((((w.alloc (.cells #[.func (.func 32) #[] #[]] 60)).alloc (.cells #[.int .i64 (least : Int)] 3)).alloc (.cells #[.int .i64 (most : Int)] 3)).alloc (.cells #[.int .i64 (size : Int)] 3)).alloc (.cells #[.func (.func 38) #[] #[ptr w.heap.size, ptr (w.heap.size + 3), ptr (w.heap.size + 1), ptr (w.heap.size + 2)], .func (.func 39) #[] #[ptr (w.heap.size + 3), ptr w.heap.size]] 56))).heap[w.heap.size + 1]? = _ := alloc_old _ (by simp <;> omega) (alloc_old _ (by simp <;> omega) (alloc_old _ (by simp) (alloc_at _ (by simp))))
    have b2 : ((((((w.alloc (.cells #[.func (.func 32) #[] #[]] 60)).alloc (.cells #[.int .i64 (least : Int)] 3)).alloc (.cells #[.int .i64 (most : Int)] 3)).alloc (.cells #[.int .i64 (size : Int)] 3)).alloc (.cells #[.func (.func 38) #[] #[ptr w.heap.size, ptr (w.heap.size + 3), ptr (w.heap.size + 1), ptr (w.heap.size + 2)], .func (.func 39) #[] #[ptr (w.heap.size + 3), ptr w.heap.size]] 56))).heap[w.heap.size + 2]? = _ := alloc_old _ (by simp <;> omega) (alloc_old _ (by simp) (alloc_at _ (by simp)))
    have b3 : ((((((w.alloc (.cells #[.func (.func 32) #[] #[]] 60)).alloc (.cells #[.int .i64 (least : Int)] 3)).alloc (.cells #[.int .i64 (most : Int)] 3)).alloc (.cells #[.int .i64 (size : Int)] 3)).alloc (.cells #[.func (.func 38) #[] #[ptr w.heap.size, ptr (w.heap.size + 3), ptr (w.heap.size + 1), ptr (w.heap.size + 2)], .func (.func 39) #[] #[ptr (w.heap.size + 3), ptr w.heap.size]] 56))).heap[w.heap.size + 3]? = _ := alloc_old _ (by simp) (alloc_at _ (by simp))
    have HE : Hid (∃ v1 v2, Ending.returned (.agg #[.func (.func 38) #[] #[ptr w.heap.size, ptr (w.heap.size + 3), ptr (w.heap.size + 1), ptr (w.heap.size + 2)], .func (.func 39) #[] #[ptr (w.heap.size + 3), ptr w.heap.size]]) = Ending.returned (.agg #[v1, v2]) ∧ FAt (((((w.alloc (.cells #[.func (.func 32) #[] #[]] 60)).alloc (.cells #[.int .i64 (least : Int)] 3)).alloc (.cells #[.int .i64 (most : Int)] 3)).alloc (.cells #[.int .i64 (size : Int)] 3)).alloc (.cells #[.func (.func 38) #[] #[ptr w.heap.size, ptr (w.heap.size + 3), ptr (w.heap.size + 1), ptr (w.heap.size + 2)], .func (.func 39) #[] #[ptr (w.heap.size + 3), ptr w.heap.size]] 56)) w.heap.size v1 v2 (.num true least most size) ∧ Below w.heap.size w (((((w.alloc (.cells #[.func (.func 32) #[] #[]] 60)).alloc (.cells #[.int .i64 (least : Int)] 3)).alloc (.cells #[.int .i64 (most : Int)] 3)).alloc (.cells #[.int .i64 (size : Int)] 3)).alloc (.cells #[.func (.func 38) #[] #[ptr w.heap.size, ptr (w.heap.size + 3), ptr (w.heap.size + 1), ptr (w.heap.size + 2)], .func (.func 39) #[] #[ptr (w.heap.size + 3), ptr w.heap.size]] 56))) :=
      ⟨_, _, rfl, ⟨w.heap.size, Nat.le_refl _, rfl, rfl, one_cell b0, one_cell b1, one_cell b2, one_cell b3⟩, (((((Below.refl _ _).alloc (Nat.le_refl _) _).alloc (by simp) _).alloc (by simp <;> omega) _).alloc (by simp <;> omega) _).alloc (by simp <;> omega) _⟩
    clear b0 b1 b2 b3
    go_enter Try.func33, Try.ntmps33
    go_wp2
    exact bodyPost_ret (results_cell_row (P := Try.prog) (fn := Try.f33) rfl _ _ _ 56 _ (0, 0) _ rfl HROW.out Try.underlying56 rfl (by kernel_rfl)) rfl HE.out
set_option maxHeartbeats 2000000 in
theorem ended_any (w : World) (base : Nat) (v1 v2 : Value) (hf : FAt w base v1 v2 (.nam false)) (hb : base ≤ w.heap.size) : Calls Try.prog 35 #[.agg #[v1, v2]] w fun e w' => ∃ v1 v2, e = .returned (.agg #[v1, v2]) ∧ FAt w' base v1 v2 .end_ ∧ Below w.heap.size w w' := by
  obtain ⟨q, hq, rfl, rfl, hc⟩ := hf
  have HROW : Hid (((w.alloc (.cells #[.func (.func 40) #[] #[ptr q], .func (.func 42) #[] #[ptr q]] 56)).alloc (.cells #[.func (.func 43) #[] #[ptr w.heap.size], .func (.func 44) #[] #[ptr w.heap.size]] 56)).heap[w.heap.size + 1]? = _) := alloc_at _ (by simp)
  have b0 : ((w.alloc (.cells #[.func (.func 40) #[] #[ptr q], .func (.func 42) #[] #[ptr q]] 56)).alloc (.cells #[.func (.func 43) #[] #[ptr w.heap.size], .func (.func 44) #[] #[ptr w.heap.size]] 56)).heap[w.heap.size]? = _ := alloc_old _ (by simp) (alloc_at _ rfl)
  have HB : Below w.heap.size w ((w.alloc (.cells #[.func (.func 40) #[] #[ptr q], .func (.func 42) #[] #[ptr q]] 56)).alloc (.cells #[.func (.func 43) #[] #[ptr w.heap.size], .func (.func 44) #[] #[ptr w.heap.size]] 56)) := ((Below.refl _ _).alloc (Nat.le_refl _) _).alloc (by simp) _
  have HE : Hid (∃ v1 v2, Ending.returned (.agg #[.func (.func 43) #[] #[ptr w.heap.size], .func (.func 44) #[] #[ptr w.heap.size]]) = Ending.returned (.agg #[v1, v2]) ∧ FAt ((w.alloc (.cells #[.func (.func 40) #[] #[ptr q], .func (.func 42) #[] #[ptr q]] 56)).alloc (.cells #[.func (.func 43) #[] #[ptr w.heap.size], .func (.func 44) #[] #[ptr w.heap.size]] 56)) base v1 v2 .end_ ∧ Below w.heap.size w ((w.alloc (.cells #[.func (.func 40) #[] #[ptr q], .func (.func 42) #[] #[ptr q]] 56)).alloc (.cells #[.func (.func 43) #[] #[ptr w.heap.size], .func (.func 44) #[] #[ptr w.heap.size]] 56))) :=
    ⟨_, _, rfl, ⟨q, w.heap.size, hq, hb, rfl, rfl, (two_cells (w := w) b0).1, (two_cells (w := w) b0).2, (HB.cell (p := ⟨q, 0, none⟩) (blt_of_cell hc)).trans hc⟩, HB⟩
  unfold ptr at HE HROW ⊢
  clear b0 HB hc
  go_enter Try.func35, Try.ntmps35
  go_wp2
  exact bodyPost_ret (results_cell_row (P := Try.prog) (fn := Try.f35) rfl _ _ _ 56 _ (0, 0) _ rfl HROW.out Try.underlying56 rfl (by kernel_rfl)) rfl HE.out
end Go.Proofs.Ytlnghdldecnmgaa
