/- A key in memory; frames. Conditions: none. -/
import Derived.Test.YtlnghdldecnmgaaK1
import Derived.Test.YtlnghdldecnmgaaProg
import Derived.Deep.QuietTactic
import Derived.BigQuiet
import Derived.Laws.Cover1
set_option maxRecDepth 8000
set_option linter.unusedSimpArgs false
set_option linter.unusedVariables false
namespace Go.Bs
open Go.RowKit

/-- the blocks of D alone may have turned. -/
structure Fr (D : Nat → Prop) (w w' : World) : Prop where
  os : w'.os = w.os
  tape : w'.tape = w.tape
  output : w'.output = w.output
  size : w.heap.size ≤ w'.heap.size
  block : ∀ k, k < w.heap.size → ¬ D k → w'.heap[k]? = w.heap[k]?
theorem Fr.refl (D : Nat → Prop) (w : World) : Fr D w w := ⟨rfl, rfl, rfl, Nat.le_refl _, fun _ _ _ => rfl⟩
theorem Fr.step {D D' : Nat → Prop} {a b c : World} (h : Fr D a b) (k : Fr D' b c) (hD : ∀ i, D' i → D i ∨ a.heap.size ≤ i) : Fr D a c :=
  ⟨k.os.trans h.os, k.tape.trans h.tape, k.output.trans h.output, Nat.le_trans h.size k.size, fun i hi hn => (k.block i (Nat.lt_of_lt_of_le hi h.size) (fun hd => (hD i hd).elim hn (by omega))).trans (h.block i hi hn)⟩
theorem Fr.trans {D : Nat → Prop} {a b c : World} (h : Fr D a b) (k : Fr D b c) : Fr D a c := h.step k fun _ hd => .inl hd
theorem Fr.of {D : Nat → Prop} {a b : World} (h : Below a.heap.size a b) : Fr D a b := ⟨h.os, h.tape, h.output, h.size, fun k hk _ => h.block k hk⟩
theorem Fr.below {D : Nat → Prop} {N : Nat} {a b : World} (h : Fr D a b) (h1 : ∀ k, D k → N ≤ k) (h2 : N ≤ a.heap.size) : Below N a b :=
  ⟨h.os, h.tape, h.output, h.size, fun k hk => h.block k (by omega) (fun hd => by have := h1 k hd; omega)⟩
theorem Fr.drew {D : Nat → Prop} {a b : World} (h : Fr D a b) : Fr D a b.drew := ⟨h.os, h.tape, h.output, h.size, h.block⟩
theorem Fr.alloc {D : Nat → Prop} {a b : World} (h : Fr D a b) (o : Obj) : Fr D a (b.alloc o) :=
  h.trans (Fr.of ((Below.refl _ _).alloc (Nat.le_refl _) o))
theorem Fr.grown {D : Nat → Prop} {a b c : World} {row : Option Nat} (h : Fr D a b) (hg : b.grownBy c row) (hr : ∀ k, row = some k → D k ∨ a.heap.size ≤ k) : Fr D a c :=
  h.step (D' := fun k => row = some k) ⟨hg.os, hg.tape, hg.output, hg.size, fun k hk hn => hg.block k hk (fun e => hn e.symm)⟩ hr
theorem Fr.setCell {D : Nat → Prop} {a b : World} (h : Fr D a b) {g i : Nat} (hg : D g ∨ a.heap.size ≤ g) (v : Value) : Fr D a (b.setCell ⟨g, i, none⟩ v) :=
  h.step (D' := fun k => k = g) ⟨rfl, rfl, rfl, by simp [World.setCell], fun k _ hn => Below.heap_setCell b ⟨g, i, none⟩ v k hn⟩ (fun k e => by subst e; exact hg)
theorem Fr.setRow {D : Nat → Prop} {a b : World} (h : Fr D a b) {g : Nat} (hg : D g ∨ a.heap.size ≤ g) (cs : Array Value) : Fr D a (b.setRow g cs) :=
  h.step (D' := fun k => k = g) ⟨rfl, rfl, rfl, by simp, fun k _ hn => setRow_other b g k cs hn⟩ (fun k e => by subst e; exact hg)
theorem Fr.mono {D D' : Nat → Prop} {a b : World} (h : Fr D a b) (hD : ∀ k, D k → D' k) : Fr D' a b := ⟨h.os, h.tape, h.output, h.size, fun k hk hn => h.block k hk (fun hd => hn (hD k hd))⟩
theorem cell_of_blk {w w' : World} {a : Addr} (h : w'.heap[a.block]? = w.heap[a.block]?) : w'.cell? a = w.cell? a := by simp only [World.cell?, h]
theorem blt_of_cell {w : World} {a : Addr} {v : Value} (h : w.cell? a = some v) : a.block < w.heap.size := by
  rcases Nat.lt_or_ge a.block w.heap.size with hlt | hge
  · exact hlt
  · simp [World.cell?, Array.getElem?_eq_none hge] at h
theorem blt_of_row {w : World} {g : Nat} {o : Obj} (h : w.heap[g]? = some o) : g < w.heap.size := by
  rcases Nat.lt_or_ge g w.heap.size with hlt | hge
  · exact hlt
  · simp [Array.getElem?_eq_none hge] at h
theorem row_setT {w : World} {h i t : Nat} {cs : Array Value} (H : w.heap[h]? = some (.cells cs t (0, 0))) (v : Value) : (w.setCell ⟨h, i, none⟩ v).heap[h]? = some (.cells (cs.setIfInBounds i v) t (0, 0)) := by
  rw [setCell_eq_setRow w h i _ t _ _ H, setRow_heap w h _ _ t _ H]
theorem Fr.cell {D : Nat → Prop} {a b : World} (h : Fr D a b) {p : Addr} {v : Value} (hc : a.cell? p = some v) (hD : ¬ D p.block) : b.cell? p = some v := (cell_of_blk (h.block p.block (blt_of_cell hc) hD)).trans hc
end Go.Bs
namespace Go.Kx
open Go.RowKit Go.Bs

/-- a text. -/
def st (l : List UInt8) : Value := .string ⟨l.toArray⟩
def Ky.cells (k : Ky) : Array Value := #[.int .i64 k.kind, st k.a, st k.b, .int .i64 k.n, .int .i64 k.m]
def Ky.val (k : Ky) : Value := .agg #[.int .i64 k.kind, st k.a, st k.b, .int .i64 k.n, .int .i64 k.m]
/-- a key that lies in a block. -/
def KyAt (w : World) (z : Nat) (k : Ky) : Prop := w.heap[z]? = some (.cells k.cells 23 (0, 0))
theorem KyAt.lt {w : World} {z : Nat} {k : Ky} (h : KyAt w z k) : z < w.heap.size := blt_of_row h
theorem KyAt.at {w : World} {z : Nat} {k : Ky} (h : KyAt w z k) : w.cell? ⟨z, 0, none⟩ = some (.int .i64 k.kind) ∧ w.cell? ⟨z, 1, none⟩ = some (st k.a) ∧ w.cell? ⟨z, 2, none⟩ = some (st k.b) ∧ w.cell? ⟨z, 3, none⟩ = some (.int .i64 k.n) ∧ w.cell? ⟨z, 4, none⟩ = some (.int .i64 k.m) ∧ ∀ i, w.frozen? ⟨z, i, none⟩ = false :=
  ⟨by rw [cell_of_row w z _ _ 23 (0, 0) h]; rfl, by rw [cell_of_row w z _ _ 23 (0, 0) h]; rfl, by rw [cell_of_row w z _ _ 23 (0, 0) h]; rfl, by rw [cell_of_row w z _ _ 23 (0, 0) h]; rfl, by rw [cell_of_row w z _ _ 23 (0, 0) h]; rfl, fun i => by unfold KyAt at h; simp [World.frozen?, h]⟩
theorem KyAt.fr {w w' : World} {z : Nat} {k : Ky} {D : Nat → Prop} (h : KyAt w z k) (hf : Fr D w w') (hz : ¬ D z) : KyAt w' z k := (hf.block z h.lt hz).trans h
theorem KyAt.keep {w w' : World} {z : Nat} {k : Ky} (h : KyAt w z k) (hb : Below w.heap.size w w') : KyAt w' z k := (hb.block z h.lt).trans h
theorem KyAt.new (w : World) (k : Ky) : KyAt (w.alloc (.cells k.cells 23)) w.heap.size k := heap_alloc_new w _
theorem KyAt.setN {w : World} {z : Nat} {k : Ky} (h : KyAt w z k) (ism : Bool) (v : Int) : KyAt (w.setCell ⟨z, if ism then 4 else 3, none⟩ (.int .i64 v)) z (k.setN ism v) := by
  have := row_setT (i := if ism then 4 else 3) h (.int .i64 v)
  cases ism <;> simpa [KyAt, Ky.cells, Ky.setN] using this
theorem KyAt.setT {w : World} {z : Nat} {k : Ky} (h : KyAt w z k) (isb : Bool) (l : List UInt8) : KyAt (w.setCell ⟨z, if isb then 2 else 1, none⟩ (st l)) z (k.setT isb l) := by
  have := row_setT (i := if isb then 2 else 1) h (st l)
  cases isb <;> simpa [KyAt, Ky.cells, Ky.setT] using this
theorem size_list (l : List UInt8) : (⟨l.toArray⟩ : ByteArray).size = l.length := by simp [ByteArray.size]
end Go.Kx
