/- A disk in memory; what is asked of it without a change. Conditions: none. -/
import Derived.Test.YtjoglmkiphdfiaaD1
import Derived.WalkKit
import Derived.Deep.QuietTactic
import Derived.BigQuiet
set_option maxRecDepth 8000
namespace Go.Proofs.Ytjoglmkiphdfiaa
open Go.RowKit Go.Bs Go.Dk

theorem Rd.keepB {w w' : World} {A : Option Addr} {n c : Nat} {bs : List UInt8} (h : Rd w A n c bs) (hs : w.heap.size ≤ w'.heap.size) (hk : ∀ a, A = some a → w'.heap[a.block]? = w.heap[a.block]?) : Rd w' A n c bs :=
  ⟨h.len, h.cap, fun hn => by
    obtain ⟨g, o, e, hg, hc⟩ := h.cells hn
    exact ⟨g, o, e, by omega, fun j hj => (World.cell?_of_block (a := ⟨g, o + j, none⟩) (hk ⟨g, o, none⟩ e)).trans (hc j hj)⟩⟩

/-- a slice of bools. -/
structure RdQ (w : World) (A : Option Addr) (n c : Nat) (ks : List Bool) : Prop where
  len : ks.length = n
  cap : n ≤ c
  cells : 0 < n → ∃ g o, A = some ⟨g, o, none⟩ ∧ g < w.heap.size ∧ ∀ j, j < n → w.cell? ⟨g, o + j, none⟩ = some (.bool (ks.getD j false))
theorem RdQ.nil (w : World) (A : Option Addr) (c : Nat) : RdQ w A 0 c [] := ⟨rfl, Nat.zero_le _, fun h => absurd h (by omega)⟩
theorem RdQ.keepB {w w' : World} {A : Option Addr} {n c : Nat} {ks : List Bool} (h : RdQ w A n c ks) (hs : w.heap.size ≤ w'.heap.size) (hk : ∀ a, A = some a → w'.heap[a.block]? = w.heap[a.block]?) : RdQ w' A n c ks :=
  ⟨h.len, h.cap, fun hn => by
    obtain ⟨g, o, e, hg, hc⟩ := h.cells hn
    exact ⟨g, o, e, by omega, fun j hj => (World.cell?_of_block (a := ⟨g, o + j, none⟩) (hk ⟨g, o, none⟩ e)).trans (hc j hj)⟩⟩
theorem RdQ.keep {w w' : World} {A : Option Addr} {n c : Nat} {ks : List Bool} (h : RdQ w A n c ks) (hb : Below w.heap.size w w') : RdQ w' A n c ks :=
  ⟨h.len, h.cap, fun hn => by
    obtain ⟨g, o, e, hg, hc⟩ := h.cells hn
    exact ⟨g, o, e, Nat.lt_of_lt_of_le hg hb.size, fun j hj => (hb.cell (p := ⟨g, o + j, none⟩) hg).trans (hc j hj)⟩⟩
theorem RdQ.part {w : World} {A : Option Addr} {n c : Nat} {ks : List Bool} (h : RdQ w A n c ks) (m : Nat) (hm : m ≤ n) : RdQ w A m c (ks.take m) :=
  ⟨by have := h.len; simp; omega, by have := h.cap; omega, fun h0 => by
    obtain ⟨g, o, e, hg, hc⟩ := h.cells (by omega)
    exact ⟨g, o, e, hg, fun j hj => by rw [hc j (by omega)]; simp [List.getD, hj]⟩⟩

/-- a sector's bytes: nil as noughts; in the blocks of D. -/
def RdZ (w : World) (D : Nat → Prop) (v : Value) (n : Nat) (bs : List UInt8) : Prop :=
  (v = .slice none 0 0 ∧ bs = zeros n) ∨ ∃ g c, v = .slice (some ⟨g, 0, none⟩) n c ∧ D g ∧ Rd w (some ⟨g, 0, none⟩) n c bs
theorem RdZ.keep {w w' : World} {D D' : Nat → Prop} {v : Value} {n : Nat} {bs : List UInt8} (h : RdZ w D v n bs) (hs : w.heap.size ≤ w'.heap.size) (hk : ∀ k, D k → w'.heap[k]? = w.heap[k]?) (hD : ∀ k, D k → D' k) : RdZ w' D' v n bs := by
  rcases h with h | ⟨g, c, e, hg, hr⟩
  · exact .inl h
  · exact .inr ⟨g, c, e, hD g hg, Rd.keepB hr hs fun a ha => by injection ha with ha; subst ha; exact hk g hg⟩
/-- the bytes as the copy takes them. -/
theorem RdZ.rd {w : World} {D : Nat → Prop} {v : Value} {n : Nat} {bs : List UInt8} (h : RdZ w D v n bs) : ∃ A m c xs, v = .slice A m c ∧ Rd w A m c xs ∧ m ≤ n ∧ bs = xs ++ zeros (n - m) := by
  rcases h with ⟨rfl, rfl⟩ | ⟨g, c, rfl, _, hr⟩
  · exact ⟨none, 0, 0, [], rfl, Rd.nil _ _ _, Nat.zero_le _, rfl⟩
  · exact ⟨_, n, c, bs, rfl, hr, Nat.le_refl _, by simp [zeros]⟩

abbrev Sl := Option Addr × Nat × Nat
def sv (x : Sl) : Value := .slice x.1 x.2.1 x.2.2
abbrev Ent := Nat × Sl × Sl
def ent (e : Ent) : List Value := [.int .i64 (e.1 : Int), sv e.2.1, sv e.2.2]
def KeepAt (w : World) (D : Nat → Prop) (v : Value) (ks : List Bool) : Prop := ∃ A c, v = .slice A ks.length c ∧ RdQ w A ks.length c ks ∧ ∀ a, A = some a → D a.block
def dc (s : S) (m : Nat) (cv kv : Value) : Array Value := #[.int .i64 (s.sectors : Int), .int .i64 (s.bytes : Int), .map (some m), cv, .bool s.up, .int .i64 (s.deeds : Int), .int .i64 (s.left : Int), kv]

theorem ownsRow_keepB {w w' : World} {base e size n : Nat} {v : Value} {xs : List Value} (h : w.ownsRow base e size v n xs) (hk : ∀ k, v.ownBlock = some k → w'.heap[k]? = w.heap[k]?) : w'.ownsRow base e size v n xs := by
  refine ⟨h.1, ?_⟩
  rcases h.2 with h0 | ⟨g, cap, cur, e1, e2, e3, e4⟩
  · exact .inl h0
  · exact .inr ⟨g, cap, cur, e1, e2, (hk g (by rw [e1]; rfl)).trans e3, e4⟩

theorem KeepAt.keep {w w' : World} {D D' : Nat → Prop} {v : Value} {ks : List Bool} (h : KeepAt w D v ks) (hs : w.heap.size ≤ w'.heap.size) (hk : ∀ k, D k → w'.heap[k]? = w.heap[k]?) (hD : ∀ k, D k → D' k) : KeepAt w' D' v ks := by
  obtain ⟨A, c, e, hr, ha⟩ := h
  exact ⟨A, c, e, hr.keepB hs fun a e => hk _ (ha a e), fun a e => hD _ (ha a e)⟩
def eAt (E : List Ent) (i : Nat) : Ent := E.getD i (0, (none, 0, 0), (none, 0, 0))
def wAt (c : List Wr) (i : Nat) : Wr := c.getD i (0, [])
/-- what the map's values, the cache's entries and the armed list read as, in the blocks of K. -/
structure Data (w : World) (K : Nat → Prop) (s : S) (kv : Value) (M : Nat → Value) (E : List Ent) : Prop where
  vals : ∀ k, k < s.sectors → RdZ w K (M k) s.bytes (cur s.L s.c k)
  ents : ∀ i, i < s.c.length → (eAt E i).1 = (wAt s.c i).1 ∧ RdZ w K (sv (eAt E i).2.1) s.bytes (cur s.L (s.c.take i) (wAt s.c i).1) ∧ RdZ w K (sv (eAt E i).2.2) s.bytes (wAt s.c i).2
  keep : KeepAt w K kv s.keep
theorem Data.move {w w' : World} {K K' : Nat → Prop} {s : S} {kv : Value} {M : Nat → Value} {E : List Ent} (h : Data w K s kv M E) (hs : w.heap.size ≤ w'.heap.size) (hk : ∀ k, K k → w'.heap[k]? = w.heap[k]?) (hK : ∀ k, K k → K' k) : Data w' K' s kv M E :=
  ⟨fun k hl => (h.vals k hl).keep hs hk hK, fun i hi => ⟨(h.ents i hi).1, (h.ents i hi).2.1.keep hs hk hK, (h.ents i hi).2.2.keep hs hk hK⟩, h.keep.keep hs hk hK⟩
/-- the blocks of D that are neither the disk's own, nor its map's, nor its cache's. -/
def Dd (D : Nat → Prop) (g m : Nat) (cv : Value) : Nat → Prop := fun k => D k ∧ k ≠ g ∧ k ≠ m ∧ cv.ownBlock ≠ some k

structure DB (w : World) (g : Nat) (s : S) (D : Nat → Prop) (m : Nat) (cv kv : Value) (M : Nat → Value) (E : List Ent) : Prop where
  ok : s.Ok
  row : w.heap[g]? = some (.cells (dc s m cv kv) 53 (0, 0))
  map : MapIs w m s.sectors M
  cache : w.ownsRow 0 99 3 cv E.length (E.flatMap ent)
  cD : ∀ k, cv.ownBlock = some k → D k ∧ k ≠ g ∧ k ≠ m
  elen : E.length = s.c.length
  data : Data w (Dd D g m cv) s kv M E
  gD : D g
  mD : D m
  gm : g ≠ m
  lt : ∀ k, D k → k < w.heap.size
/-- the disk at block g has the state s; it lies in the blocks of D. -/
def DiskAt (w : World) (g : Nat) (s : S) (D : Nat → Prop) : Prop := ∃ m cv kv M E, DB w g s D m cv kv M E

theorem DB.keepW {w w' : World} {g : Nat} {s : S} {D : Nat → Prop} {m : Nat} {cv kv : Value} {M : Nat → Value} {E : List Ent} (h : DB w g s D m cv kv M E) (hs : w.heap.size ≤ w'.heap.size) (hk : ∀ k, D k → w'.heap[k]? = w.heap[k]?) : DB w' g s D m cv kv M E :=
  ⟨h.ok, (hk g h.gD).trans h.row, h.map.keep (hk m h.mD), ownsRow_keepB h.cache fun k e => hk k (h.cD k e).1, h.cD, h.elen, h.data.move hs (fun k hd => hk k hd.1) (fun _ h => h), h.gD, h.mD, h.gm, fun k hd => Nat.lt_of_lt_of_le (h.lt k hd) hs⟩
theorem DiskAt.keep {w w' : World} {g : Nat} {s : S} {D : Nat → Prop} (h : DiskAt w g s D) (hs : w.heap.size ≤ w'.heap.size) (hk : ∀ k, D k → w'.heap[k]? = w.heap[k]?) : DiskAt w' g s D := by
  obtain ⟨m, cv, kv, M, E, h⟩ := h
  exact ⟨m, cv, kv, M, E, h.keepW hs hk⟩
theorem DiskAt.lt {w : World} {g : Nat} {s : S} {D : Nat → Prop} (h : DiskAt w g s D) : ∀ k, D k → k < w.heap.size := by
  obtain ⟨m, cv, kv, M, E, h⟩ := h
  exact h.lt
theorem DiskAt.ok {w : World} {g : Nat} {s : S} {D : Nat → Prop} (h : DiskAt w g s D) : s.Ok := by
  obtain ⟨m, cv, kv, M, E, h⟩ := h
  exact h.ok
theorem DiskAt.below {w w' : World} {g : Nat} {s : S} {D : Nat → Prop} (h : DiskAt w g s D) (hb : Below w.heap.size w w') : DiskAt w' g s D := h.keep hb.size fun k hd => hb.block k (h.lt k hd)
theorem DiskAt.fr {w w' : World} {g : Nat} {s : S} {D D' : Nat → Prop} (h : DiskAt w g s D) (hb : Fr D' w w') (hD : ∀ k, D k → ¬ D' k) : DiskAt w' g s D := h.keep hb.size fun k hd => hb.block k (h.lt k hd) (hD k hd)
/-- what an operation on the disk at g leaves. -/
def Did (D : Nat → Prop) (g : Nat) (s : S) (w w' : World) : Prop := ∃ D', DiskAt w' g s D' ∧ (∀ k, D' k → D k ∨ w.heap.size ≤ k) ∧ Fr D w w'
theorem Did.refl {w : World} {g : Nat} {s : S} {D : Nat → Prop} (h : DiskAt w g s D) : Did D g s w w := ⟨D, h, fun _ h => .inl h, Fr.refl _ _⟩
theorem Did.step {D D' : Nat → Prop} {g : Nat} {s : S} {a b c : World} (hD : ∀ k, D' k → D k ∨ a.heap.size ≤ k) (hf : Fr D a b) (h : Did D' g s b c) : Did D g s a c := by
  obtain ⟨D2, h1, h2, h3⟩ := h
  refine ⟨D2, h1, fun k hk => ?_, hf.step h3 hD⟩
  rcases h2 k hk with h | h
  · exact hD k h
  · exact .inr (by have := hf.size; omega)

theorem dc_cells {w : World} {g : Nat} {s : S} {m : Nat} {cv kv : Value} (h : w.heap[g]? = some (.cells (dc s m cv kv) 53 (0, 0))) :
    w.cell? ⟨g, 0, none⟩ = some (.int .i64 (s.sectors : Int)) ∧ w.cell? ⟨g, 1, none⟩ = some (.int .i64 (s.bytes : Int)) ∧ w.cell? ⟨g, 2, none⟩ = some (.map (some m)) ∧ w.cell? ⟨g, 3, none⟩ = some cv ∧
    w.cell? ⟨g, 4, none⟩ = some (.bool s.up) ∧ w.cell? ⟨g, 5, none⟩ = some (.int .i64 (s.deeds : Int)) ∧ w.cell? ⟨g, 6, none⟩ = some (.int .i64 (s.left : Int)) ∧ w.cell? ⟨g, 7, none⟩ = some kv ∧ ∀ i, w.frozen? ⟨g, i, none⟩ = false := by
  refine ⟨?_, ?_, ?_, ?_, ?_, ?_, ?_, ?_, fun i => by simp [World.frozen?, h]⟩ <;> (rw [cell_of_row w g _ _ 53 (0, 0) h]; rfl)

def rdy (s : S) : Int := if s.up then 0 else 50
set_option maxHeartbeats 1000000 in
theorem ready_any (w : World) (g : Nat) (s : S) (m : Nat) (cv kv : Value) (h : w.heap[g]? = some (.cells (dc s m cv kv) 53 (0, 0))) :
    Calls Try.prog 64 #[.pointer (some ⟨g, 0, none⟩)] w fun e w' => e = .returned (.int .i64 (rdy s)) ∧ w = w' := by
  obtain ⟨_, _, _, _, c4, _⟩ := dc_cells h
  clear h
  obtain ⟨sectors, bytes, L, c, up, deeds, left, keep⟩ := s
  cases up
  · go_enter Try.func64, Try.ntmps64
    go_wp2
    go_ret
    exact ⟨rfl, rfl⟩
  · go_enter Try.func64, Try.ntmps64
    go_wp2
    go_ret
    exact ⟨rfl, rfl⟩
theorem ready_nil (w : World) : Calls Try.prog 64 #[.pointer none] w fun e w' => e = .returned (.int .i64 3) ∧ w = w' := by
  go_enter Try.func64, Try.ntmps64
  go_wp2
  go_ret
  exact ⟨rfl, rfl⟩
set_option maxHeartbeats 1000000 in
theorem has_any (w : World) (g : Nat) (s : S) (m : Nat) (cv kv : Value) (h : w.heap[g]? = some (.cells (dc s m cv kv) 53 (0, 0))) (hs : s.sectors ≤ 65536) (i : Int) :
    Calls Try.prog 65 #[.pointer (some ⟨g, 0, none⟩), .int .i64 i] w fun e w' => e = .returned (.bool (s.has i)) ∧ w = w' := by
  obtain ⟨c0, _⟩ := dc_cells h
  clear h
  unfold S.has
  by_cases h0 : 0 ≤ i
  · by_cases h1 : i < (s.sectors : Int)
    · go_enter Try.func65, Try.ntmps65
      go_wp2
      go_ret
      exact ⟨by simp [h0, h1], rfl⟩
    · go_enter Try.func65, Try.ntmps65
      go_wp2
      go_ret
      exact ⟨by simp [h0, h1], rfl⟩
  · go_enter Try.func65, Try.ntmps65
    go_wp2
    go_ret
    exact ⟨by simp; omega, rfl⟩
theorem Size_any (w : World) (g : Nat) (s : S) (D : Nat → Prop) (h : DiskAt w g s D) : Calls Try.prog 44 #[.pointer (some ⟨g, 0, none⟩)] w fun e w' => e = .returned (.tuple #[.int .i64 (s.sectors : Int), .int .i64 (s.bytes : Int)]) ∧ ∃ k, w' = w.drewN k := by
  obtain ⟨m, cv, kv, M, E, h⟩ := h
  obtain ⟨c0, c1, _⟩ := dc_cells h.row
  clear h
  go_enter Try.func44, Try.ntmps44
  go_wp2_with fail
  go_quiet (fail)
  go_wp2
  go_ret2
  exact ⟨rfl, _, rfl⟩
theorem Size_nil (w : World) : Calls Try.prog 44 #[.pointer none] w fun e w' => e = .returned (.tuple #[.int .i64 0, .int .i64 0]) ∧ w = w' := by
  go_enter Try.func44, Try.ntmps44
  go_wp2
  go_ret2
  exact ⟨rfl, rfl⟩
end Go.Proofs.Ytjoglmkiphdfiaa
