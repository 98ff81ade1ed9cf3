/- numbers and Start. Conditions: none. -/
import Derived.Test.YtmimffbjghhdhaaDoorS1
import Derived.Test.YtmimffbjghhdhaaDoorW32
namespace Go.Proofs.YtmimffbjghhdhaaDoor
open Go.RowKit Go.Bs Go.Sha

theorem load51 (w : World) (g t : Nat) (s : St) (h : w.heap[g]? = some (.cells s.cs t (0, 0))) : (loadVar 42 ⟨g, 0, none⟩).run Tryd.prog w = .ok (.agg s.cs) w :=
  run_loadVar_row (P := Tryd.prog) w g t 42 s.cs (0, 0) _ h Tryd.underlying42 rfl (by kernel_rfl)
theorem store51 (w : World) (g t : Nat) (s : St) (old : Array Value) (h : w.heap[g]? = some (.cells old t (0, 0))) (ho : old.size = 8) : (Instr.storeAt 42 (.pointer (some ⟨g, 0, none⟩)) (.agg s.cs)).run Tryd.prog w = .ok () (w.setRow g s.cs) := by
  simp only [Instr.storeAt, Instr.sureAddr, Sem.run_bind, Sem.run_pure, Result.andThen_ok, run_storeVar_row (P := Tryd.prog) w g t 42 old s.cs h (by kernel_rfl) ho (cs_one s)]
theorem loadA51 (w : World) (g t : Nat) (s : St) (h : w.heap[g]? = some (.cells s.cs t (0, 0))) : (Instr.loadAt 42 (.pointer (some ⟨g, 0, none⟩))).run Tryd.prog w = .ok (.agg s.cs) w := by
  simp only [Instr.loadAt, Instr.sureAddr, Sem.run_bind, Sem.run_pure, Result.andThen_ok, load51 w g t s h]
theorem load29 (w : World) (g t : Nat) (s : St) (h : w.heap[g]? = some (.cells s.ns t (0, 0))) : (loadVar 64 ⟨g, 0, none⟩).run Tryd.prog w = .ok (.agg s.ns) w :=
  run_loadVar_row (P := Tryd.prog) w g t 64 s.ns (0, 0) _ h Tryd.underlying64 rfl (by kernel_rfl)
theorem store29 (w : World) (g t : Nat) (s : St) (old : Array Value) (h : w.heap[g]? = some (.cells old t (0, 0))) (ho : old.size = 8) : (Instr.storeAt 64 (.pointer (some ⟨g, 0, none⟩)) (.agg s.ns)).run Tryd.prog w = .ok () (w.setRow g s.ns) := by
  simp only [Instr.storeAt, Instr.sureAddr, Sem.run_bind, Sem.run_pure, Result.andThen_ok, run_storeVar_row (P := Tryd.prog) w g t 64 old s.ns h (by kernel_rfl) ho (ns_one s)]
theorem loadA29 (w : World) (g t : Nat) (s : St) (h : w.heap[g]? = some (.cells s.ns t (0, 0))) : (Instr.loadAt 64 (.pointer (some ⟨g, 0, none⟩))).run Tryd.prog w = .ok (.agg s.ns) w := by
  simp only [Instr.loadAt, Instr.sureAddr, Sem.run_bind, Sem.run_pure, Result.andThen_ok, load29 w g t s h]

theorem below3 (w : World) (a b c : Obj) : Below w.heap.size w (((w.alloc a).alloc b).alloc c) := (((Below.refl _ _).alloc (Nat.le_refl _) _).alloc (by simp) _).alloc (by simp; omega) _

/-- What the two tables of the program hold. -/
structure Laid (w : World) : Prop where
  start : ∀ i, i < 8 → w.cell? ⟨0, i, none⟩ = some (U (Sha.start.l.getD i 0))
  k : ∀ i, i < 64 → w.cell? ⟨1, i, none⟩ = some (U (KL.getD i 0))

theorem Laid.lt {w : World} (h : Laid w) : 2 ≤ w.heap.size := by
  have := h.k 0 (by omega)
  rcases Nat.lt_or_ge 1 w.heap.size with hlt | hge
  · exact hlt
  · simp [World.cell?, Array.getElem?_eq_none hge] at this

theorem Laid.keep {w w' : World} (h : Laid w) (hb : Below w.heap.size w w') : Laid w' :=
  have := h.lt
  ⟨fun i hi => (hb.cell (p := ⟨0, i, none⟩) (by show 0 < _; omega)).trans (h.start i hi), fun i hi => (hb.cell (p := ⟨1, i, none⟩) (by show 1 < _; omega)).trans (h.k i hi)⟩

theorem Laid.eight {w : World} (h : Laid w) : w.cell? ⟨0, 0, none⟩ = some (.int .u32 1779033703) ∧ w.cell? ⟨0, 1, none⟩ = some (.int .u32 3144134277) ∧ w.cell? ⟨0, 2, none⟩ = some (.int .u32 1013904242) ∧ w.cell? ⟨0, 3, none⟩ = some (.int .u32 2773480762) ∧ w.cell? ⟨0, 4, none⟩ = some (.int .u32 1359893119) ∧ w.cell? ⟨0, 5, none⟩ = some (.int .u32 2600822924) ∧ w.cell? ⟨0, 6, none⟩ = some (.int .u32 528734635) ∧ w.cell? ⟨0, 7, none⟩ = some (.int .u32 1541459225) :=
  ⟨h.start 0 (by omega), h.start 1 (by omega), h.start 2 (by omega), h.start 3 (by omega), h.start 4 (by omega), h.start 5 (by omega), h.start 6 (by omega), h.start 7 (by omega)⟩

theorem start_v : Sha.start.v = .agg #[.int .u32 1779033703, .int .u32 3144134277, .int .u32 1013904242, .int .u32 2773480762, .int .u32 1359893119, .int .u32 2600822924, .int .u32 528734635, .int .u32 1541459225] := rfl

end Go.Proofs.YtmimffbjghhdhaaDoor
