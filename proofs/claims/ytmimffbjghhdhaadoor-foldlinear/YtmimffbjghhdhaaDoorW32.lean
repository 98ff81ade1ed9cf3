/- Plain words on blocks of words. Conditions: none. -/
import Derived.Test.YtmimffbjghhdhaaDoorSha
import Derived.Laws.Tables
namespace Go.Sha
open Go.RowKit Go.Bs

abbrev U (x : Nat) : Value := .int .u32 (x : Int)
abbrev I (x : Nat) : Value := .int .i64 (x : Int)

/-- A block of words, whole. -/
def BlkU (w : World) (g : Nat) (t : TypeId) (xs : List Nat) : Prop := w.heap[g]? = some (.cells (xs.map U).toArray t (0, 0))
theorem BlkU.lt {w : World} {g t : Nat} {xs : List Nat} (h : BlkU w g t xs) : g < w.heap.size := by
  rcases Nat.lt_or_ge g w.heap.size with hlt | hge
  · exact hlt
  · unfold BlkU at h; rw [Array.getElem?_eq_none hge] at h; cases h
theorem BlkU.cell {w : World} {g t : Nat} {xs : List Nat} (h : BlkU w g t xs) (i : Nat) (hi : i < xs.length) : w.cell? ⟨g, i, none⟩ = some (U (xs.getD i 0)) := by
  rw [cell_of_row w g i _ t (0, 0) h]
  simp [List.getElem?_eq_getElem hi]
theorem BlkU.frozen {w : World} {g t : Nat} {xs : List Nat} (h : BlkU w g t xs) (i : Nat) : w.frozen? ⟨g, i, none⟩ = false := by
  unfold BlkU at h
  simp [World.frozen?, h]
theorem BlkU.keep {w w' : World} {g t N : Nat} {xs : List Nat} (h : BlkU w g t xs) (hb : Below N w w') (hg : g < N) : BlkU w' g t xs := (hb.block g hg).trans h
theorem BlkU.set {w : World} {g t : Nat} {xs : List Nat} (h : BlkU w g t xs) (i : Nat) (x : Nat) : BlkU (w.setCell ⟨g, i, none⟩ (U x)) g t (xs.set i x) := by
  unfold BlkU at h ⊢
  simp [World.setCell, Array.getElem?_modify, h, List.map_set]
theorem BlkU.drewN {w : World} {g t : Nat} {xs : List Nat} (h : BlkU w g t xs) (k : Nat) : BlkU (w.drewN k) g t xs := h
theorem BlkU.drew {w : World} {g t : Nat} {xs : List Nat} (h : BlkU w g t xs) : BlkU w.drew g t xs := h
theorem BlkU.other {w : World} {g t g' : Nat} {xs : List Nat} (h : BlkU w g t xs) (i : Nat) (v : Value) (hne : g' ≠ g) : BlkU (w.setCell ⟨g', i, none⟩ v) g t xs :=
  (Below.heap_setCell w ⟨g', i, none⟩ v g (fun e => hne e.symm)).trans h
theorem drewK {N : Nat} {a w : World} (h : Below N a w) (n : Nat) : Below N a (w.drewN n) := ⟨h.os, h.tape, h.output, h.size, h.block⟩
def rowU (t : TypeId) (xs : List Nat) : Obj := .cells (xs.map U).toArray t (0, 0)
theorem BlkU.new (w : World) (t : TypeId) (xs : List Nat) : BlkU (w.alloc (rowU t xs)) w.heap.size t xs := heap_alloc_new w _
abbrev St.cs (s : St) : Array Value := #[U s.a, U s.b, U s.c, U s.d, U s.e, U s.f, U s.g, U s.h]
abbrev St.ns (s : St) : Array Value := #[I s.a, I s.b, I s.c, I s.d, I s.e, I s.f, I s.g, I s.h]
def St.v (s : St) : Value := .agg s.cs
def St.n (s : St) : Value := .agg s.ns
theorem cs_one (s : St) : s.cs.all (·.oneCell') = true := by simp [St.cs, Value.oneCell']
theorem ns_one (s : St) : s.ns.all (·.oneCell') = true := by simp [St.ns, Value.oneCell']
theorem below_row {w w' : World} {N g : Nat} (h : Below N w w') (hg : N ≤ g) (hs : N ≤ w'.heap.size) (cs : Array Value) : Below N w (w'.setRow g cs) :=
  h.grown (grown_setRow w' g _) hs (fun k hk => by injection hk with hk; omega)

section
variable {P : Program}
/-- a whole row, stored and loaded, as the walk meets it. -/
theorem stC (w : World) (g t n : Nat) (cs old : Array Value) (h : w.heap[g]? = some (.cells old t (0, 0))) (hn : cs.size = n) (ho : old.size = n) (h1 : cs.all (·.oneCell') = true) :
    (storeCells ⟨g, 0, none⟩ cs.toList).run P w = .ok () (w.setRow g cs) :=
  run_storeCells_from (P := P) g t cs.toList 0 old w h (by simp; omega) (fun v hv => (Array.all_eq_true_iff_forall_mem.1 h1) v (by simpa using hv)) |>.trans (by simp)
theorem ldC (w : World) (g t n : Nat) (cs : Array Value) (fr : Nat × Nat) (h : w.heap[g]? = some (.cells cs t fr)) (hn : cs.size = n) :
    (loadCellsFrom ⟨g, 0, none⟩ 0 n #[]).run P w = .ok cs w := by
  subst hn
  have := run_loadCells_list (P := P) w ⟨g, 0, none⟩ cs.toList (fun j v hv => by
    rw [addr_add, Nat.zero_add, cell_of_row _ _ j cs t fr h]
    simpa using hv)
  simpa [loadCells] using this
end

/-- what a function returns whose result lies in a variable. -/
theorem results_cell {P : Program} {fn : Func} {t : Tmp} {ty : TypeId} {ad : Addr} {v : Value} (h : fn.results = #[.cell t ty]) (tmps : Array Value) (w : World) (ht : tmps.getD t undef = .pointer (some ad))
    (hl : (loadVar ty ad).run P w = .ok v w) : (results fn tmps).run P w = .ok v w := by
  have ht' : tmps[t]?.getD undef = .pointer (some ad) := by rw [← ht]; simp [Array.getD_eq_getD_getElem?]
  simp [results, h, ht', hl, asAddr]
theorem results_cell2 {P : Program} {fn : Func} {t u : Tmp} {ty : TypeId} {ad : Addr} {v : Value} (h : fn.results = #[.cell t ty, .tmp u]) (tmps : Array Value) (w : World) (ht : tmps.getD t undef = .pointer (some ad))
    (hl : (loadVar ty ad).run P w = .ok v w) : (results fn tmps).run P w = .ok (.tuple #[v, tmps.getD u undef]) w := by
  have ht' : tmps[t]?.getD undef = .pointer (some ad) := by rw [← ht]; simp [Array.getD_eq_getD_getElem?]
  simp [results, h, ht', hl, asAddr]
end Go.Sha
