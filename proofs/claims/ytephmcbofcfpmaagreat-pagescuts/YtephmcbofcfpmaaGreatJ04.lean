/- A disk in memory; what is asked of it without a change. Conditions: none. Copies, a new disk, reading, arming, power. Conditions: none. -/
import Derived.Test.YtephmcbofcfpmaaGreatJ03
import Derived.WalkKit
import Derived.Deep.QuietTactic
import Derived.BigQuiet
import Derived.Maps.OwnOps
import Derived.OwnWalk
import Derived.Lib.BufferWrite
set_option maxRecDepth 8000
set_option linter.unusedSimpArgs false
set_option linter.unusedVariables false
namespace Go.Proofs.YtephmcbofcfpmaaGreat
open Go.RowKit Go.Bs Go.Dk

theorem Rd.keepB {w w' : World} {A : Option Addr} {n c : Nat} {bs : List UInt8} (h : Rd w A n c bs) (hs : w.heap.size ≤ w'.heap.size) (hk : ∀ a, A = some a → w'.heap[a.block]? = w.heap[a.block]?) : Rd w' A n c bs :=
  ⟨h.len, h.cap, fun hn => by
    obtain ⟨g, o, e, hg, hc⟩ := h.cells hn
    exact ⟨g, o, e, by omega, fun j hj => (World.cell?_of_block (a := ⟨g, o + j, none⟩) (hk ⟨g, o, none⟩ e)).trans (hc j hj)⟩⟩

/-- a slice of bools. -/
structure RdQ (w : World) (A : Option Addr) (n c : Nat) (ks : List Bool) : Prop where
  len : ks.length = n
  cap : n ≤ c
  cells : 0 < n → ∃ g o, A = some ⟨g, o, none⟩ ∧ g < w.heap.size ∧ ∀ j, j < n → w.cell? ⟨g, o + j, none⟩ = some (.bool (ks.getD j false))
theorem RdQ.nil (w : World) (A : Option Addr) (c : Nat) : RdQ w A 0 c [] := ⟨rfl, Nat.zero_le _, fun h => absurd h (by omega)⟩
theorem RdQ.keepB {w w' : World} {A : Option Addr} {n c : Nat} {ks : List Bool} (h : RdQ w A n c ks) (hs : w.heap.size ≤ w'.heap.size) (hk : ∀ a, A = some a → w'.heap[a.block]? = w.heap[a.block]?) : RdQ w' A n c ks :=
  ⟨h.len, h.cap, fun hn => by
    obtain ⟨g, o, e, hg, hc⟩ := h.cells hn
    exact ⟨g, o, e, by omega, fun j hj => (World.cell?_of_block (a := ⟨g, o + j, none⟩) (hk ⟨g, o, none⟩ e)).trans (hc j hj)⟩⟩
theorem RdQ.keep {w w' : World} {A : Option Addr} {n c : Nat} {ks : List Bool} (h : RdQ w A n c ks) (hb : Below w.heap.size w w') : RdQ w' A n c ks :=
  ⟨h.len, h.cap, fun hn => by
    obtain ⟨g, o, e, hg, hc⟩ := h.cells hn
    exact ⟨g, o, e, Nat.lt_of_lt_of_le hg hb.size, fun j hj => (hb.cell (p := ⟨g, o + j, none⟩) hg).trans (hc j hj)⟩⟩
theorem RdQ.part {w : World} {A : Option Addr} {n c : Nat} {ks : List Bool} (h : RdQ w A n c ks) (m : Nat) (hm : m ≤ n) : RdQ w A m c (ks.take m) :=
  ⟨by have := h.len; simp; omega, by have := h.cap; omega, fun h0 => by
    obtain ⟨g, o, e, hg, hc⟩ := h.cells (by omega)
    exact ⟨g, o, e, hg, fun j hj => by rw [hc j (by omega)]; simp [List.getD, hj]⟩⟩

/-- a sector's bytes: nil as noughts; in the blocks of D. -/
def RdZ (w : World) (D : Nat → Prop) (v : Value) (n : Nat) (bs : List UInt8) : Prop :=
  (v = .slice none 0 0 ∧ bs = zeros n) ∨ ∃ g c, v = .slice (some ⟨g, 0, none⟩) n c ∧ D g ∧ Rd w (some ⟨g, 0, none⟩) n c bs
theorem RdZ.keep {w w' : World} {D D' : Nat → Prop} {v : Value} {n : Nat} {bs : List UInt8} (h : RdZ w D v n bs) (hs : w.heap.size ≤ w'.heap.size) (hk : ∀ k, D k → w'.heap[k]? = w.heap[k]?) (hD : ∀ k, D k → D' k) : RdZ w' D' v n bs := by
  rcases h with h | ⟨g, c, e, hg, hr⟩
  · exact .inl h
  · exact .inr ⟨g, c, e, hD g hg, Rd.keepB hr hs fun a ha => by injection ha with ha; subst ha; exact hk g hg⟩
/-- the bytes as the copy takes them. -/
theorem RdZ.rd {w : World} {D : Nat → Prop} {v : Value} {n : Nat} {bs : List UInt8} (h : RdZ w D v n bs) : ∃ A m c xs, v = .slice A m c ∧ Rd w A m c xs ∧ m ≤ n ∧ bs = xs ++ zeros (n - m) := by
  rcases h with ⟨rfl, rfl⟩ | ⟨g, c, rfl, _, hr⟩
  · exact ⟨none, 0, 0, [], rfl, Rd.nil _ _ _, Nat.zero_le _, rfl⟩
  · exact ⟨_, n, c, bs, rfl, hr, Nat.le_refl _, by simp [zeros]⟩

abbrev Sl := Option Addr × Nat × Nat
def sv (x : Sl) : Value := .slice x.1 x.2.1 x.2.2
abbrev Ent := Nat × Sl × Sl
def ent (e : Ent) : List Value := [.int .i64 (e.1 : Int), sv e.2.1, sv e.2.2]
def KeepAt (w : World) (D : Nat → Prop) (v : Value) (ks : List Bool) : Prop := ∃ A c, v = .slice A ks.length c ∧ RdQ w A ks.length c ks ∧ ∀ a, A = some a → D a.block
def dc (s : S) (m : Nat) (cv kv : Value) : Array Value := #[.int .i64 (s.sectors : Int), .int .i64 (s.bytes : Int), .map (some m), cv, .bool s.up, .int .i64 (s.deeds : Int), .int .i64 (s.left : Int), kv]

theorem ownsRow_keepB {w w' : World} {base e size n : Nat} {v : Value} {xs : List Value} (h : w.ownsRow base e size v n xs) (hk : ∀ k, v.ownBlock = some k → w'.heap[k]? = w.heap[k]?) : w'.ownsRow base e size v n xs := by
  refine ⟨h.1, ?_⟩
  rcases h.2 with h0 | ⟨g, cap, cur, e1, e2, e3, e4⟩
  · exact .inl h0
  · exact .inr ⟨g, cap, cur, e1, e2, (hk g (by rw [e1]; rfl)).trans e3, e4⟩

theorem KeepAt.keep {w w' : World} {D D' : Nat → Prop} {v : Value} {ks : List Bool} (h : KeepAt w D v ks) (hs : w.heap.size ≤ w'.heap.size) (hk : ∀ k, D k → w'.heap[k]? = w.heap[k]?) (hD : ∀ k, D k → D' k) : KeepAt w' D' v ks := by
  obtain ⟨A, c, e, hr, ha⟩ := h
  exact ⟨A, c, e, hr.keepB hs fun a e => hk _ (ha a e), fun a e => hD _ (ha a e)⟩
def eAt (E : List Ent) (i : Nat) : Ent := E.getD i (0, (none, 0, 0), (none, 0, 0))
def wAt (c : List Wr) (i : Nat) : Wr := c.getD i (0, [])
/-- what the map's values, the cache's entries and the armed list read as, in the blocks of K. -/
structure Data (w : World) (K : Nat → Prop) (s : S) (kv : Value) (M : Nat → Value) (E : List Ent) : Prop where
  vals : ∀ k, k < s.sectors → RdZ w K (M k) s.bytes (cur s.L s.c k)
  ents : ∀ i, i < s.c.length → (eAt E i).1 = (wAt s.c i).1 ∧ RdZ w K (sv (eAt E i).2.1) s.bytes (cur s.L (s.c.take i) (wAt s.c i).1) ∧ RdZ w K (sv (eAt E i).2.2) s.bytes (wAt s.c i).2
  keep : KeepAt w K kv s.keep
theorem Data.move {w w' : World} {K K' : Nat → Prop} {s : S} {kv : Value} {M : Nat → Value} {E : List Ent} (h : Data w K s kv M E) (hs : w.heap.size ≤ w'.heap.size) (hk : ∀ k, K k → w'.heap[k]? = w.heap[k]?) (hK : ∀ k, K k → K' k) : Data w' K' s kv M E :=
  ⟨fun k hl => (h.vals k hl).keep hs hk hK, fun i hi => ⟨(h.ents i hi).1, (h.ents i hi).2.1.keep hs hk hK, (h.ents i hi).2.2.keep hs hk hK⟩, h.keep.keep hs hk hK⟩
/-- the blocks of D that are neither the disk's own, nor its map's, nor its cache's. -/
def Dd (D : Nat → Prop) (g m : Nat) (cv : Value) : Nat → Prop := fun k => D k ∧ k ≠ g ∧ k ≠ m ∧ cv.ownBlock ≠ some k

structure DB (w : World) (g : Nat) (s : S) (D : Nat → Prop) (m : Nat) (cv kv : Value) (M : Nat → Value) (E : List Ent) : Prop where
  ok : s.Ok
  row : w.heap[g]? = some (.cells (dc s m cv kv) 100 (0, 0))
  map : MapIs w m s.sectors M
  cache : w.ownsRow 0 128 3 cv E.length (E.flatMap ent)
  cD : ∀ k, cv.ownBlock = some k → D k ∧ k ≠ g ∧ k ≠ m
  elen : E.length = s.c.length
  data : Data w (Dd D g m cv) s kv M E
  gD : D g
  mD : D m
  gm : g ≠ m
  lt : ∀ k, D k → k < w.heap.size
/-- the disk at block g has the state s; it lies in the blocks of D. -/
def DiskAt (w : World) (g : Nat) (s : S) (D : Nat → Prop) : Prop := ∃ m cv kv M E, DB w g s D m cv kv M E

theorem DB.keepW {w w' : World} {g : Nat} {s : S} {D : Nat → Prop} {m : Nat} {cv kv : Value} {M : Nat → Value} {E : List Ent} (h : DB w g s D m cv kv M E) (hs : w.heap.size ≤ w'.heap.size) (hk : ∀ k, D k → w'.heap[k]? = w.heap[k]?) : DB w' g s D m cv kv M E :=
  ⟨h.ok, (hk g h.gD).trans h.row, h.map.keep (hk m h.mD), ownsRow_keepB h.cache fun k e => hk k (h.cD k e).1, h.cD, h.elen, h.data.move hs (fun k hd => hk k hd.1) (fun _ h => h), h.gD, h.mD, h.gm, fun k hd => Nat.lt_of_lt_of_le (h.lt k hd) hs⟩
theorem DiskAt.keep {w w' : World} {g : Nat} {s : S} {D : Nat → Prop} (h : DiskAt w g s D) (hs : w.heap.size ≤ w'.heap.size) (hk : ∀ k, D k → w'.heap[k]? = w.heap[k]?) : DiskAt w' g s D := by
  obtain ⟨m, cv, kv, M, E, h⟩ := h
  exact ⟨m, cv, kv, M, E, h.keepW hs hk⟩
theorem DiskAt.lt {w : World} {g : Nat} {s : S} {D : Nat → Prop} (h : DiskAt w g s D) : ∀ k, D k → k < w.heap.size := by
  obtain ⟨m, cv, kv, M, E, h⟩ := h
  exact h.lt
theorem DiskAt.ok {w : World} {g : Nat} {s : S} {D : Nat → Prop} (h : DiskAt w g s D) : s.Ok := by
  obtain ⟨m, cv, kv, M, E, h⟩ := h
  exact h.ok
theorem DiskAt.below {w w' : World} {g : Nat} {s : S} {D : Nat → Prop} (h : DiskAt w g s D) (hb : Below w.heap.size w w') : DiskAt w' g s D := h.keep hb.size fun k hd => hb.block k (h.lt k hd)
theorem DiskAt.fr {w w' : World} {g : Nat} {s : S} {D D' : Nat → Prop} (h : DiskAt w g s D) (hb : Fr D' w w') (hD : ∀ k, D k → ¬ D' k) : DiskAt w' g s D := h.keep hb.size fun k hd => hb.block k (h.lt k hd) (hD k hd)
/-- what an operation on the disk at g leaves. -/
def Did (D : Nat → Prop) (g : Nat) (s : S) (w w' : World) : Prop := ∃ D', DiskAt w' g s D' ∧ (∀ k, D' k → D k ∨ w.heap.size ≤ k) ∧ Fr D w w'
theorem Did.refl {w : World} {g : Nat} {s : S} {D : Nat → Prop} (h : DiskAt w g s D) : Did D g s w w := ⟨D, h, fun _ h => .inl h, Fr.refl _ _⟩
theorem Did.step {D D' : Nat → Prop} {g : Nat} {s : S} {a b c : World} (hD : ∀ k, D' k → D k ∨ a.heap.size ≤ k) (hf : Fr D a b) (h : Did D' g s b c) : Did D g s a c := by
  obtain ⟨D2, h1, h2, h3⟩ := h
  refine ⟨D2, h1, fun k hk => ?_, hf.step h3 hD⟩
  rcases h2 k hk with h | h
  · exact hD k h
  · exact .inr (by have := hf.size; omega)

theorem dc_cells {w : World} {g : Nat} {s : S} {m : Nat} {cv kv : Value} (h : w.heap[g]? = some (.cells (dc s m cv kv) 100 (0, 0))) :
    w.cell? ⟨g, 0, none⟩ = some (.int .i64 (s.sectors : Int)) ∧ w.cell? ⟨g, 1, none⟩ = some (.int .i64 (s.bytes : Int)) ∧ w.cell? ⟨g, 2, none⟩ = some (.map (some m)) ∧ w.cell? ⟨g, 3, none⟩ = some cv ∧
    w.cell? ⟨g, 4, none⟩ = some (.bool s.up) ∧ w.cell? ⟨g, 5, none⟩ = some (.int .i64 (s.deeds : Int)) ∧ w.cell? ⟨g, 6, none⟩ = some (.int .i64 (s.left : Int)) ∧ w.cell? ⟨g, 7, none⟩ = some kv ∧ ∀ i, w.frozen? ⟨g, i, none⟩ = false := by
  refine ⟨?_, ?_, ?_, ?_, ?_, ?_, ?_, ?_, fun i => by simp [World.frozen?, h]⟩ <;> (rw [cell_of_row w g _ _ 100 (0, 0) h]; rfl)

def rdy (s : S) : Int := if s.up then 0 else 50
set_option maxHeartbeats 1000000 in
theorem ready_any (w : World) (g : Nat) (s : S) (m : Nat) (cv kv : Value) (h : w.heap[g]? = some (.cells (dc s m cv kv) 100 (0, 0))) :
    Calls Tryz.prog 80 #[.pointer (some ⟨g, 0, none⟩)] w fun e w' => e = .returned (.int .i64 (rdy s)) ∧ w = w' := by
  obtain ⟨_, _, _, _, c4, _⟩ := dc_cells h
  clear h
  obtain ⟨sectors, bytes, L, c, up, deeds, left, keep⟩ := s
  cases up
  · go_enter Tryz.func80, Tryz.ntmps80
    go_wp2
    go_ret
    exact ⟨rfl, rfl⟩
  · go_enter Tryz.func80, Tryz.ntmps80
    go_wp2
    go_ret
    exact ⟨rfl, rfl⟩
theorem ready_nil (w : World) : Calls Tryz.prog 80 #[.pointer none] w fun e w' => e = .returned (.int .i64 3) ∧ w = w' := by
  go_enter Tryz.func80, Tryz.ntmps80
  go_wp2
  go_ret
  exact ⟨rfl, rfl⟩
set_option maxHeartbeats 1000000 in
theorem has_any (w : World) (g : Nat) (s : S) (m : Nat) (cv kv : Value) (h : w.heap[g]? = some (.cells (dc s m cv kv) 100 (0, 0))) (hs : s.sectors ≤ 65536) (i : Int) :
    Calls Tryz.prog 138 #[.pointer (some ⟨g, 0, none⟩), .int .i64 i] w fun e w' => e = .returned (.bool (s.has i)) ∧ w = w' := by
  obtain ⟨c0, _⟩ := dc_cells h
  clear h
  unfold S.has
  by_cases h0 : 0 ≤ i
  · by_cases h1 : i < (s.sectors : Int)
    · go_enter Tryz.func138, Tryz.ntmps138
      go_wp2
      go_ret
      exact ⟨by simp [h0, h1], rfl⟩
    · go_enter Tryz.func138, Tryz.ntmps138
      go_wp2
      go_ret
      exact ⟨by simp [h0, h1], rfl⟩
  · go_enter Tryz.func138, Tryz.ntmps138
    go_wp2
    go_ret
    exact ⟨by simp; omega, rfl⟩
theorem Size_any (w : World) (g : Nat) (s : S) (D : Nat → Prop) (h : DiskAt w g s D) : Calls Tryz.prog 121 #[.pointer (some ⟨g, 0, none⟩)] w fun e w' => e = .returned (.tuple #[.int .i64 (s.sectors : Int), .int .i64 (s.bytes : Int)]) ∧ ∃ k, w' = w.drewN k := by
  obtain ⟨m, cv, kv, M, E, h⟩ := h
  obtain ⟨c0, c1, _⟩ := dc_cells h.row
  clear h
  go_enter Tryz.func121, Tryz.ntmps121
  go_wp2_with fail
  go_quiet (fail)
  go_wp2
  go_ret2
  exact ⟨rfl, _, rfl⟩
theorem Size_nil (w : World) : Calls Tryz.prog 121 #[.pointer none] w fun e w' => e = .returned (.tuple #[.int .i64 0, .int .i64 0]) ∧ w = w' := by
  go_enter Tryz.func121, Tryz.ntmps121
  go_wp2
  go_ret2
  exact ⟨rfl, rfl⟩
end Go.Proofs.YtephmcbofcfpmaaGreat

set_option maxRecDepth 8000
set_option linter.unusedSimpArgs false
set_option linter.unusedVariables false
namespace Go.Proofs.YtephmcbofcfpmaaGreat
open Go.RowKit Go.Bs Go.Dk

theorem u8_info : (Tryz.prog.info? 5).map (fun i => (i.zero, i.size, i.bytes)) = some (some (.int .u8 0), 1, 1) := by kernel_rfl
theorem bool_info : (Tryz.prog.info? 4).map (fun i => (i.zero, i.size, i.bytes)) = some (some (.bool false), 1, 1) := by kernel_rfl
theorem info5 : (Tryz.prog.info? 5).map (·.size) = some 1 := by kernel_rfl
theorem bstep {a b c : World} (h : Below a.heap.size a b) (h' : Below b.heap.size b c) : Below a.heap.size a c := h.trans (h'.mono h.size)
theorem nil_ne (a : Addr) (n c : Nat) (w : World) : (binOp .eql 39 (.slice (some a) n c) (.slice none 0 0)).run Tryz.prog w = .ok (.bool false) w := rfl
theorem nil_neQ (a : Addr) (n c : Nat) (w : World) : (binOp .eql 40 (.slice (some a) n c) (.slice none 0 0)).run Tryz.prog w = .ok (.bool false) w := rfl

theorem make_zeros (n : Nat) (hn : n ≤ 281474976710656) (w : World) :
    (Instr.makeSlice 39 (.int .i64 (n : Int)) (.int .i64 (n : Int))).run Tryz.prog w = .ok (.slice (some ⟨w.heap.size, 0, none⟩) n n) (w.alloc (rowObj 5 (zeros n))) := by
  rw [run_make_row' (P := Tryz.prog) 39 5 (.int .u8 0) 1 Tryz.underlying39 u8_info rfl .i64 .i64 n (by omega) (by omega) w, madeCells_zeros]
  rfl
theorem string_rd (w : World) (A : Option Addr) (n c : Nat) (bs : List UInt8) (h : Rd w A n c bs) : (convert 39 9 (.slice A n c)).run Tryz.prog w = .ok (.string ⟨bs.toArray⟩) w :=
  run_string_rd w 39 9 5 Tryz.underlying39 Tryz.underlying5 Tryz.underlying9 A n c bs h

set_option maxHeartbeats 1000000 in
theorem CloneB_any (A : Option Addr) (n c : Nat) (bs : List UInt8) (w : World) (h : Rd w A n c bs) (hn : n ≤ 17592186044416) (hA : A.isSome) :
    Calls Tryz.prog 143 #[.slice A n c] w fun e w' => ∃ v, e = .returned v ∧ Own w' w.heap.size 5 v bs ∧ Below w.heap.size w w' := by
  obtain ⟨a, rfl⟩ := Option.isSome_iff_exists.1 hA
  have he := nil_ne a n c
  have HR := Lib.hid h
  have HO := Lib.hid (Own.empty w 5)
  clear h
  go_enter Tryz.func143, Tryz.ntmps143
  go_wp2_with (first | (at_builtin; refine wpList_app _ rfl _ _ 39 rfl w.heap.size 5 Tryz.underlying39 u8_info _ [] rfl HO.out _ n c bs rfl (HR.out.alloc _) (by simp; omega) (by simp) ?_; intro v' w1 ho hb) | go_in)
  go_ret
  exact ⟨_, rfl, ho, ((Below.refl _ _).alloc (Nat.le_refl _) _).trans hb⟩

def OwnQ (w : World) (base : Nat) (v : Value) (ks : List Bool) : Prop := w.ownsRow base 4 1 v ks.length (ks.map .bool)
theorem OwnQ.empty (w : World) : OwnQ (w.alloc (.cells #[] 4)) w.heap.size (.slice (some ⟨w.heap.size, 0, none⟩) 0 0) [] :=
  ⟨by simp, .inr ⟨w.heap.size, 0, #[], rfl, Nat.le_refl _, heap_alloc_new w _, Nat.le_refl _, by simp [maxLen], by simp, by simp⟩⟩
theorem OwnQ.rd {w : World} {base : Nat} {v : Value} {ks : List Bool} (h : OwnQ w base v ks) : ∃ A c, v = .slice A ks.length c ∧ RdQ w A ks.length c ks ∧ ∀ a, A = some a → base ≤ a.block ∧ a.block < w.heap.size := by
  rcases h.2 with ⟨rfl, h0⟩ | ⟨g, cap, cur, rfl, hb, hg, hnc, _, hsz, htk⟩
  · obtain rfl : ks = [] := List.eq_nil_of_length_eq_zero h0
    exact ⟨none, 0, rfl, RdQ.nil _ _ _, fun a e => by cases e⟩
  · have hlt : g < w.heap.size := (Array.getElem?_eq_some_iff.1 hg).1
    refine ⟨_, _, rfl, ⟨rfl, hnc, fun hn => ⟨g, 0, rfl, hlt, fun j hj => ?_⟩⟩, fun a e => by cases e; exact ⟨hb, hlt⟩⟩
    have := h.cells (g := g) rfl j (.bool ks[j]) (by simp [List.getElem?_eq_getElem hj])
    rw [addr_add] at this
    rw [this]
    simp [List.getD, List.getElem?_eq_getElem hj]
theorem OwnQ.slice {w : World} {base : Nat} {v : Value} {ks : List Bool} (h : OwnQ w base v ks) (n : Nat) (hn : ks.length = n) : ∃ A c, v = .slice A n c ∧ RdQ w A n c ks ∧ ∀ a, A = some a → base ≤ a.block ∧ a.block < w.heap.size := by subst hn; exact h.rd
theorem RdQ.src {w : World} {g o n c : Nat} {ks : List Bool} (h : RdQ w (some ⟨g, o, none⟩) n c ks) : ∀ j v, (ks.map Value.bool)[j]? = some v → w.cell? ((⟨g, o, none⟩ : Addr).add j) = some v := by
  intro j v hv
  have hl := h.len
  rcases Nat.lt_or_ge j n with hj | hj
  · obtain ⟨g', o', e, _, hc⟩ := h.cells (by omega)
    cases e
    rw [addr_add, hc j hj, ← hv]
    simp [List.getElem?_eq_getElem (show j < ks.length by omega)]
  · rw [List.getElem?_eq_none (by simp; omega)] at hv
    cases hv
theorem RdQ.alloc {w : World} {A : Option Addr} {n c : Nat} {ks : List Bool} (h : RdQ w A n c ks) (o : Obj) : RdQ (w.alloc o) A n c ks := h.keep ((Below.refl _ _).alloc (Nat.le_refl _) o)
theorem Q_one (ks : List Bool) : ∀ v ∈ ks.map Value.bool, v.oneCell' = true := by
  intro v hv
  obtain ⟨x, _, rfl⟩ := List.mem_map.1 hv
  rfl
theorem OwnQ.block {w : World} {base : Nat} {v : Value} {ks : List Bool} (h : OwnQ w base v ks) : ∀ k, v.ownBlock = some k → base ≤ k := by
  intro k hk
  rcases h.2 with ⟨rfl, h0⟩ | ⟨g, cap, cur, rfl, hb, _⟩
  · simp [Value.ownBlock] at hk
  · have : g = k := by simpa [Value.ownBlock] using hk
    omega
theorem run_appQ (w : World) (base ty : Nat) (v : Value) (ks : List Bool) (hown : OwnQ w base v ks) (A : Option Addr) (m c : Nat) (xs : List Bool) (hr : RdQ w A m c xs) (hsz : ks.length + m ≤ 70368744177664) (hbase : base ≤ w.heap.size) :
    ∃ v' w', (Builtin.append_ #[40, 40] ty #[v, .slice A m c]).run Tryz.prog w = .ok v' w' ∧ OwnQ w' base v' (ks ++ xs) ∧ Below base w w' := by
  obtain ⟨i, hi, hz, hs1, hby⟩ := info_parts bool_info
  have hl := hr.len
  rcases A with _ | ad
  · have hm : m = 0 := by
      rcases Nat.eq_zero_or_pos m with h0 | h0
      · exact h0
      · obtain ⟨_, _, h, _⟩ := hr.cells h0
        cases h
    subst hm
    obtain rfl : xs = [] := List.eq_nil_of_length_eq_zero hl
    refine ⟨v, w, ?_, by simpa using hown, Below.refl _ _⟩
    rcases hown.2 with ⟨rfl, _⟩ | ⟨g, cap, cur, rfl, _, _, hnc, _⟩
    · simp [Builtin.append_, run_underlying Tryz.underlying40, sizeOf, typeInfo, hi, Builtin.lenOf, Builtin.firstCells]
    · simp [Builtin.append_, run_underlying Tryz.underlying40, sizeOf, typeInfo, hi, Builtin.lenOf, Builtin.firstCells, hnc, storeCells]
  · have hcells : ∀ j u, (xs.map Value.bool)[j]? = some u → w.cell? (ad.add j) = some u := by
      intro j u hu
      rcases Nat.eq_zero_or_pos m with h0 | h0
      · subst h0
        obtain rfl : xs = [] := List.eq_nil_of_length_eq_zero hl
        simp at hu
      · obtain ⟨g, o, h, _, _⟩ := hr.cells h0
        injection h with h
        subst h
        exact hr.src j u hu
    obtain ⟨v', w', hrun, h2, h3, _, _⟩ := run_append_own_at (P := Tryz.prog) w base 40 ty 4 i _ 1 1 Tryz.underlying40 hi hz hs1 hby rfl (by omega) v ks.length (ks.map .bool) hown ad m c (xs.map .bool) (by simp [hl]) hcells (Q_one xs)
      (by unfold maxLen; omega) (by omega) hbase
    refine ⟨v', w', hrun, ?_, (Below.refl _ _).grown h3 hbase hown.block⟩
    unfold OwnQ
    rw [List.length_append, hl, List.map_append]
    exact h2
theorem wpList_appQ (w : World) {ops : Array Oper} {rest : List Oper} {o : Oper} {a : Act} {Q : Exit → Act → World → Prop} (hgd : o.guard = none) (s x : Operand)
    (ho : o.op = .call { callee := .builtin .append, args := #[s, x], argTypes := #[40, 40] })
    (base : Nat) (v : Value) (ks : List Bool) (hs : a.eval s = v) (hown : OwnQ w base v ks) (A : Option Addr) (m c : Nat) (xs : List Bool) (hx : a.eval x = .slice A m c) (hr : RdQ w A m c xs) (hsz : ks.length + m ≤ 70368744177664) (hbase : base ≤ w.heap.size)
    (h : ∀ v' w', OwnQ w' base v' (ks ++ xs) → Below base w w' → wpList Tryz.prog ops Q rest (a.put o.dst v') w') : wpList Tryz.prog ops Q (o :: rest) a w := by
  refine wpList_plain hgd fun K hK => ?_
  obtain ⟨v', w', hrun, h2, h3⟩ := run_appQ w base o.type v ks hown A m c xs hr hsz hbase
  unfold Oper.wp execOp
  simp only [ho, resolve, invoke, builtin, Sem.run_bind, Sem.run_pure, Result.andThen_ok, List.map_toArray, List.map_cons, List.map_nil, hs, hx, hrun]
  exact hK _ _ (h v' w' h2 h3)

theorem zero62 (w : World) : (zeroValue 100).run Tryz.prog w = .ok (.agg #[.int .i64 0, .int .i64 0, .map none, .slice none 0 0, .bool false, .int .i64 0, .int .i64 0, .slice none 0 0]) w := by kernel_rfl
theorem new_disk (w : World) (a b : Nat) (h0 : 1 ≤ a) (h1 : a ≤ 65536) (h2 : 16 ≤ b) (h3 : b ≤ 4096) :
    DiskAt ((w.alloc (.map #[] 0)).alloc (.cells #[.int .i64 (a : Int), .int .i64 (b : Int), .map (some w.heap.size), .slice none 0 0, .bool true, .int .i64 0, .int .i64 0, .slice none 0 0] 100)) (w.heap.size + 1) (S.new a b) (fun k => k = w.heap.size ∨ k = w.heap.size + 1) := by
  refine ⟨w.heap.size, .slice none 0 0, .slice none 0 0, fun _ => .slice none 0 0, [], S.Ok.new a b h0 h1 h2 h3, ?_, ?_, ⟨rfl, .inl ⟨rfl, rfl⟩⟩, fun k e => (by cases e), rfl, ⟨fun k hk => .inl ⟨rfl, rfl⟩, fun i hi => absurd hi (by simp [S.new]), ⟨none, 0, rfl, RdQ.nil _ _ _, fun a e => (by cases e)⟩⟩, .inr rfl, .inl rfl, by omega, fun k hk => by simp; omega⟩
  · have := heap_alloc_new (w.alloc (.map #[] 0)) (.cells #[.int .i64 (a : Int), .int .i64 (b : Int), .map (some w.heap.size), .slice none 0 0, .bool true, .int .i64 0, .int .i64 0, .slice none 0 0] 100)
    rw [World.size_alloc] at this
    exact this
  · exact (MapIs.made w a).keep (Below.heap_alloc _ _ _ (by simp))
set_option maxHeartbeats 1000000 in
theorem New_any (a b : Nat) (h0 : 1 ≤ a) (h1 : a ≤ 65536) (h2 : 16 ≤ b) (h3 : b ≤ 4096) (w : World) :
    Calls Tryz.prog 12 #[.int .i64 (a : Int), .int .i64 (b : Int)] w fun e w' => ∃ g D, e = .returned (.tuple #[.pointer (some ⟨g, 0, none⟩), .int .i64 0]) ∧ DiskAt w' g (S.new a b) D ∧ (∀ k, D k → w.heap.size ≤ k) ∧ Below w.heap.size w w' := by
  have hz := zero62
  have hmm := @run_makeMap Tryz.prog
  go_enter Tryz.func12, Tryz.ntmps12
  go_wp2
  go_ret2
  exact ⟨_, _, rfl, new_disk w a b h0 h1 h2 h3, fun k hk => by omega, ((Below.refl _ _).alloc (Nat.le_refl _) _).alloc (by simp) _⟩
set_option maxHeartbeats 1000000 in
theorem New_no (a b : Int) (h : ¬ (1 ≤ a ∧ a ≤ 65536 ∧ 16 ≤ b ∧ b ≤ 4096)) (w : World) :
    Calls Tryz.prog 12 #[.int .i64 a, .int .i64 b] w fun e w' => e = .returned (.tuple #[.pointer none, .int .i64 1]) ∧ w = w' := by
  by_cases h1 : 1 ≤ a
  · by_cases h2 : a ≤ 65536
    · by_cases h3 : 16 ≤ b
      · have h4 : ¬ b ≤ 4096 := fun h4 => h ⟨h1, h2, h3, h4⟩
        clear h
        go_enter Tryz.func12, Tryz.ntmps12
        go_wp2
        go_ret2
        exact ⟨rfl, rfl⟩
      · clear h
        go_enter Tryz.func12, Tryz.ntmps12
        go_wp2
        go_ret2
        exact ⟨rfl, rfl⟩
    · clear h
      go_enter Tryz.func12, Tryz.ntmps12
      go_wp2
      go_ret2
      exact ⟨rfl, rfl⟩
  · clear h
    go_enter Tryz.func12, Tryz.ntmps12
    go_wp2
    go_ret2
    exact ⟨rfl, rfl⟩

/-! ### Read -/
def ReadV (w w' : World) (v : Value) (bs : List UInt8) : Prop := (v = .slice none 0 0 ∧ bs = []) ∨ (v = .slice (some ⟨w.heap.size, 0, none⟩) bs.length bs.length ∧ Blk w' w.heap.size 5 bs)
set_option maxHeartbeats 1000000 in
theorem Read_any (w : World) (g : Nat) (s : S) (D : Nat → Prop) (h : DiskAt w g s D) (i : Int) :
    Calls Tryz.prog 105 #[.pointer (some ⟨g, 0, none⟩), .int .i64 i] w fun e w' => ∃ v, e = .returned (.tuple #[v, .int .i64 (s.read i).2]) ∧ ReadV w w' v (s.read i).1 ∧ Below w.heap.size w w' := by
  obtain ⟨m, cv, kv, M, E, h⟩ := h
  have HR := Lib.hid (ready_any w g s m cv kv h.row)
  have HH := Lib.hid (has_any w g s m cv kv h.row h.ok.s1 i)
  obtain ⟨_, c1, c2, _⟩ := dc_cells h.row
  unfold S.read
  cases hu : s.up
  · clear h c1 c2
    go_enter Tryz.func105, Tryz.ntmps105
    go_wp2_with fail
    refine HR.out.mono ?_
    rintro e w1 ⟨rfl, rfl⟩
    unfold rdy
    rw [hu]
    go_wp2
    go_ret2
    exact ⟨_, rfl, .inl ⟨rfl, rfl⟩, Below.refl _ _⟩
  cases hh : s.has i
  · clear h c1 c2
    go_enter Tryz.func105, Tryz.ntmps105
    go_wp2_with fail
    refine HR.out.mono ?_
    rintro e w1 ⟨rfl, rfl⟩
    unfold rdy
    rw [hu]
    go_wp2_with fail
    refine HH.out.mono ?_
    rintro e w1 ⟨rfl, rfl⟩
    rw [hh]
    go_wp2
    go_ret2
    exact ⟨_, rfl, .inl ⟨rfl, rfl⟩, Below.refl _ _⟩
  · obtain ⟨k, rfl, hk⟩ : ∃ k : Nat, i = k ∧ k < s.sectors := by
      simp [S.has] at hh
      exact ⟨i.toNat, by omega, by omega⟩
    obtain ⟨A, mm, cc, xs, hv, hrd, hmn, hxs⟩ := (h.data.vals k hk).rd
    have hb1 := h.ok.b1
    have hs1 := h.ok.s1
    obtain ⟨n, hn⟩ : ∃ n, s.bytes = n := ⟨_, rfl⟩
    rw [hn] at c1 hmn hxs hb1
    have hmk := make_zeros n (by omega) w
    obtain ⟨W, hW⟩ : ∃ W, w.alloc (rowObj 5 (zeros n)) = W := ⟨_, rfl⟩
    have hBW : Below w.heap.size w W := by rw [← hW]; exact (Below.refl _ _).alloc (Nat.le_refl _) _
    have hblk : Blk W w.heap.size 5 (zeros n) := by rw [← hW]; exact Blk.new w 5 (zeros n)
    rw [hW] at hmk
    have hlook := (h.map.keep (hBW.block m (h.lt m h.mD))).look k hk hs1
    rw [hv] at hlook
    have hc2 := (hBW.cell (p := ⟨g, 2, none⟩) (h.lt g h.gD)).trans c2
    obtain ⟨z, hz⟩ : ∃ z, w.heap.size = z := ⟨_, rfl⟩
    have hcopy := fun ty => run_copy_rd (P := Tryz.prog) W 39 39 ty 5 Tryz.underlying39 info5 z 0 n n 5 (zeros n) (by rw [← hz]; exact hblk) A mm cc xs (hrd.keep hBW) hmn (by rw [zeros_length]; omega)
    have hend : (zeros n).take 0 ++ (xs ++ (zeros n).drop (0 + mm)) = cur s.L s.c k := by
      rw [hxs]
      simp [zeros]
    rw [hend] at hcopy
    have hlen := h.ok.curLen k
    have HE : Hid (Blk (W.setRow w.heap.size ((cur s.L s.c k).map B).toArray) w.heap.size 5 (cur s.L s.c k) ∧ Below w.heap.size w (W.setRow w.heap.size ((cur s.L s.c k).map B).toArray)) :=
      ⟨hblk.setRow _, hBW.grown (grown_setRow W w.heap.size _) (by rw [← hW]; simp) (fun k e => by cases e; exact Nat.le_refl _)⟩
    rw [hz] at hmk
    have HZ := Lib.hid hz
    have HLn := Lib.hid hlen
    have HN := Lib.hid hn
    obtain ⟨W2, hW2⟩ : ∃ W2, W.setRow z ((cur s.L s.c k).map B).toArray = W2 := ⟨_, rfl⟩
    rw [hW2] at hcopy
    have HW2 := Lib.hid hW2
    clear h hv hrd hmn hxs hW hBW hblk hend hlen hz hW2 hn c2
    go_enter Tryz.func105, Tryz.ntmps105
    go_wp2_with fail
    refine HR.out.mono ?_
    rintro e w1 ⟨rfl, rfl⟩
    unfold rdy
    rw [hu]
    go_wp2_with fail
    refine HH.out.mono ?_
    rintro e w1 ⟨rfl, rfl⟩
    rw [hh]
    go_wp2
    go_ret2
    refine ⟨_, rfl, .inr ⟨?_, ?_⟩, ?_⟩
    · simp only [Int.toNat_natCast]
      rw [HLn.out, HN.out, HZ.out]
      rfl
    · have := HE.out.1
      rw [HZ.out, HW2.out] at this
      simpa [HZ.out] using this
    · have := HE.out.2
      rw [HZ.out, HW2.out] at this
      rw [HZ.out]; exact this
theorem Read_nil (w : World) (i : Int) : Calls Tryz.prog 105 #[.pointer none, .int .i64 i] w fun e w' => e = .returned (.tuple #[.slice none 0 0, .int .i64 3]) ∧ w = w' := by
  have H := Lib.hid (ready_nil w)
  go_enter Tryz.func105, Tryz.ntmps105
  go_wp2_with fail
  refine H.out.mono ?_
  rintro e w1 ⟨rfl, rfl⟩
  go_wp2
  go_ret2
  exact ⟨rfl, rfl⟩
end Go.Proofs.YtephmcbofcfpmaaGreat

