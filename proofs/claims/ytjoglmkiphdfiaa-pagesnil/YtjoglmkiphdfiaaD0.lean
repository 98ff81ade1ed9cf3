/- Worlds in which some blocks alone may turn; the disk's answers as plain functions. Conditions: none. -/
import Derived.Test.YtjoglmkiphdfiaaB2
set_option maxRecDepth 8000
namespace Go.Dk
open Go.RowKit Go.Bs

/-- the blocks of D alone may have turned. -/
structure Fr (D : Nat → Prop) (w w' : World) : Prop where
  os : w'.os = w.os
  tape : w'.tape = w.tape
  output : w'.output = w.output
  size : w.heap.size ≤ w'.heap.size
  block : ∀ k, k < w.heap.size → ¬ D k → w'.heap[k]? = w.heap[k]?
theorem Fr.refl (D : Nat → Prop) (w : World) : Fr D w w := ⟨rfl, rfl, rfl, Nat.le_refl _, fun _ _ _ => rfl⟩
theorem Fr.step {D D' : Nat → Prop} {a b c : World} (h : Fr D a b) (k : Fr D' b c) (hD : ∀ i, D' i → D i ∨ a.heap.size ≤ i) : Fr D a c :=
  ⟨k.os.trans h.os, k.tape.trans h.tape, k.output.trans h.output, Nat.le_trans h.size k.size, fun i hi hn => (k.block i (Nat.lt_of_lt_of_le hi h.size) (fun hd => (hD i hd).elim hn (by omega))).trans (h.block i hi hn)⟩
theorem Fr.trans {D : Nat → Prop} {a b c : World} (h : Fr D a b) (k : Fr D b c) : Fr D a c := h.step k fun _ hd => .inl hd
theorem Fr.of {D : Nat → Prop} {a b : World} (h : Below a.heap.size a b) : Fr D a b := ⟨h.os, h.tape, h.output, h.size, fun k hk _ => h.block k hk⟩
theorem Fr.below {D : Nat → Prop} {N : Nat} {a b : World} (h : Fr D a b) (h1 : ∀ k, D k → N ≤ k) (h2 : N ≤ a.heap.size) : Below N a b :=
  ⟨h.os, h.tape, h.output, h.size, fun k hk => h.block k (by omega) (fun hd => by have := h1 k hd; omega)⟩
theorem Fr.drew {D : Nat → Prop} {a b : World} (h : Fr D a b) : Fr D a b.drew := ⟨h.os, h.tape, h.output, h.size, h.block⟩
theorem Fr.alloc {D : Nat → Prop} {a b : World} (h : Fr D a b) (o : Obj) : Fr D a (b.alloc o) :=
  h.trans (Fr.of ((Below.refl _ _).alloc (Nat.le_refl _) o))
theorem Fr.grown {D : Nat → Prop} {a b c : World} {row : Option Nat} (h : Fr D a b) (hg : b.grownBy c row) (hr : ∀ k, row = some k → D k ∨ a.heap.size ≤ k) : Fr D a c :=
  h.step (D' := fun k => row = some k) ⟨hg.os, hg.tape, hg.output, hg.size, fun k hk hn => hg.block k hk (fun e => hn e.symm)⟩ hr
theorem Fr.setCell {D : Nat → Prop} {a b : World} (h : Fr D a b) {g i : Nat} (hg : D g ∨ a.heap.size ≤ g) (v : Value) : Fr D a (b.setCell ⟨g, i, none⟩ v) :=
  h.step (D' := fun k => k = g) ⟨rfl, rfl, rfl, by simp [World.setCell], fun k _ hn => Below.heap_setCell b ⟨g, i, none⟩ v k hn⟩ (fun k e => by subst e; exact hg)
theorem Fr.setRow {D : Nat → Prop} {a b : World} (h : Fr D a b) {g : Nat} (hg : D g ∨ a.heap.size ≤ g) (cs : Array Value) : Fr D a (b.setRow g cs) :=
  h.step (D' := fun k => k = g) ⟨rfl, rfl, rfl, by simp, fun k _ hn => setRow_other b g k cs hn⟩ (fun k e => by subst e; exact hg)
theorem Fr.mono {D D' : Nat → Prop} {a b : World} (h : Fr D a b) (hD : ∀ k, D k → D' k) : Fr D' a b := ⟨h.os, h.tape, h.output, h.size, fun k hk hn => h.block k hk (fun hd => hn (hD k hd))⟩

/-! ### the disk by the document -/
def upd {α : Type} (M : Nat → α) (s : Nat) (b : α) : Nat → α := fun k => if k = s then b else M k
theorem upd_same {α : Type} (M : Nat → α) (s : Nat) (b : α) : upd M s b s = b := by simp [upd]
theorem upd_other {α : Type} (M : Nat → α) (s k : Nat) (b : α) (h : k ≠ s) : upd M s b k = M k := by simp [upd, h]
theorem upd_twice {α : Type} (M : Nat → α) (s : Nat) (a b : α) : upd (upd M s a) s b = upd M s b := by
  funext k; simp only [upd]; split <;> rfl
theorem upd_self {α : Type} (M : Nat → α) (s : Nat) : upd M s (M s) = M := by
  funext k; simp only [upd]; split
  · rename_i h; rw [h]
  · rfl

abbrev Wr := Nat × List UInt8
def cur (L : Nat → List UInt8) (c : List Wr) : Nat → List UInt8 := c.foldl (fun M p => upd M p.1 p.2) L
theorem cur_snoc (L : Nat → List UInt8) (c : List Wr) (p : Wr) : cur L (c ++ [p]) = upd (cur L c) p.1 p.2 := by simp [cur]
theorem cur_nil (L : Nat → List UInt8) : cur L [] = L := rfl
/-- those of the cache's writes that are done. -/
def kept (keep : List Bool) (c : List Wr) : List Wr := ((keep.zip c).filter (·.1)).map (·.2)
theorem kept_nil (c : List Wr) : kept [] c = [] := rfl
theorem kept_mem {keep : List Bool} {c : List Wr} {p : Wr} (h : p ∈ kept keep c) : p ∈ c := by
  unfold kept at h
  obtain ⟨q, hq, rfl⟩ := List.mem_map.1 h
  exact (List.of_mem_zip (List.mem_filter.1 hq).1).2
theorem kept_take_succ (keep : List Bool) (c : List Wr) (k : Nat) (hk : k < keep.length) (hc : k < c.length) :
    kept (keep.take (k + 1)) c = kept (keep.take k) c ++ (if keep[k] then [c[k]] else []) := by
  have e : ∀ n, n ≤ c.length → (keep.take n).zip c = (keep.take n).zip (c.take n) := fun n hn => by
    apply List.ext_getElem
    · simp; omega
    · intro i h1 h2; simp
  have hz : (keep.take (k + 1)).zip c = (keep.take k).zip c ++ [(keep[k], c[k])] := by
    rw [e (k + 1) (by omega), e k (by omega), List.take_succ_eq_append_getElem hk, List.take_succ_eq_append_getElem hc, List.zip_append (by simp; omega)]
    rfl
  unfold kept
  rw [hz, List.filter_append, List.map_append]
  congr 1
  cases keep[k] <;> rfl
theorem kept_take_all (keep : List Bool) (c : List Wr) (n : Nat) (h : n = min keep.length c.length) : kept (keep.take n) c = kept keep c := by
  unfold kept
  have : (keep.take n).zip c = keep.zip c := by
    apply List.ext_getElem
    · simp; omega
    · intro i h1 h2; simp
  rw [this]

structure S where
  sectors : Nat
  bytes : Nat
  L : Nat → List UInt8
  c : List Wr
  up : Bool
  deeds : Nat
  left : Nat
  keep : List Bool

structure S.Ok (s : S) : Prop where
  s0 : 1 ≤ s.sectors
  s1 : s.sectors ≤ 65536
  b0 : 16 ≤ s.bytes
  b1 : s.bytes ≤ 4096
  cd : s.c.length ≤ s.deeds + 1
  lf : s.left ≤ 9223372036854775807
  cs : ∀ p ∈ s.c, p.1 < s.sectors ∧ p.2.length = s.bytes
  ls : ∀ k, (s.L k).length = s.bytes

theorem cur_len {L : Nat → List UInt8} {c : List Wr} {n N : Nat} (hL : ∀ k, (L k).length = n) (hc : ∀ p ∈ c, p.1 < N ∧ p.2.length = n) (k : Nat) : (cur L c k).length = n := by
  induction c generalizing L with
  | nil => exact hL k
  | cons p c ih =>
    show (cur (upd L p.1 p.2) c k).length = n
    refine ih (fun j => ?_) (fun q hq => hc q (List.mem_cons_of_mem _ hq))
    unfold upd
    split
    · exact (hc p List.mem_cons_self).2
    · exact hL j

def S.crash (s : S) (keep : List Bool) : S := if s.up then { s with L := cur s.L (kept keep s.c), c := [], up := false } else s
def S.deed (s : S) : S × Int :=
  if s.left = 0 then ({ s with deeds := s.deeds + 1 }, 0) else
  if s.left = 1 then (({ s with deeds := s.deeds + 1, left := 0 } : S).crash s.keep, 50) else
  ({ s with deeds := s.deeds + 1, left := s.left - 1 }, 0)
def S.has (s : S) (i : Int) : Bool := decide (0 ≤ i) && decide (i < s.sectors)
def S.write (s : S) (i : Int) (b : List UInt8) : S × Int :=
  if s.up = false then (s, 50) else if s.has i = false ∨ b.length ≠ s.bytes then (s, 1) else ({ s with c := s.c ++ [(i.toNat, b)] } : S).deed
def S.flush (s : S) : S × Int :=
  if s.up = false then (s, 50) else
  if s.deed.2 = 0 then ({ s.deed.1 with L := cur s.L s.c, c := [] }, 0) else s.deed
def S.arm (s : S) (n : Int) (keep : List Bool) : S := { s with left := n.toNat, keep := keep }
def S.on (s : S) : S := { s with up := true, left := 0, keep := [] }
def S.read (s : S) (i : Int) : List UInt8 × Int :=
  if s.up = false then ([], 50) else if s.has i = false then ([], 1) else (cur s.L s.c i.toNat, 0)
def S.new (sectors bytes : Nat) : S := ⟨sectors, bytes, fun _ => zeros bytes, [], true, 0, 0, []⟩

theorem S.Ok.crash {s : S} (h : s.Ok) (keep : List Bool) : (s.crash keep).Ok := by
  unfold S.crash
  split
  · exact ⟨h.s0, h.s1, h.b0, h.b1, Nat.zero_le _, h.lf, fun p hp => (by cases hp), fun k => cur_len h.ls (fun p hp => h.cs p (kept_mem hp)) k⟩
  · exact h
theorem S.Ok.new (sectors bytes : Nat) (h0 : 1 ≤ sectors) (h1 : sectors ≤ 65536) (h2 : 16 ≤ bytes) (h3 : bytes ≤ 4096) : (S.new sectors bytes).Ok :=
  ⟨h0, h1, h2, h3, Nat.zero_le _, by simp [S.new], fun p hp => (by cases hp), fun _ => zeros_length _⟩
theorem S.Ok.curLen {s : S} (h : s.Ok) (k : Nat) : (cur s.L s.c k).length = s.bytes := cur_len h.ls h.cs k

/-- no more writes in the cache than deeds. -/
def S.Fine (s : S) : Prop := s.c.length ≤ s.deeds
theorem S.Fine.deed {s : S} (h : s.c.length ≤ s.deeds + 1) : s.deed.1.Fine := by
  unfold S.deed S.Fine
  split
  · exact h
  · split
    · unfold S.crash
      split
      · exact Nat.zero_le _
      · exact h
    · exact h
theorem S.Fine.write {s : S} (h : s.Fine) (i : Int) (b : List UInt8) : (s.write i b).1.Fine := by
  unfold S.write
  split
  · exact h
  · split
    · exact h
    · exact S.Fine.deed (by simp; exact h)
theorem S.Fine.flush {s : S} (h : s.Fine) : s.flush.1.Fine := by
  unfold S.flush
  split
  · exact h
  · split
    · exact Nat.zero_le _
    · exact S.Fine.deed (Nat.le_succ_of_le h)
theorem S.Fine.crash {s : S} (h : s.Fine) (ks : List Bool) : (s.crash ks).Fine := by
  unfold S.crash
  split
  · exact Nat.zero_le _
  · exact h
theorem S.crash_deeds (s : S) (ks : List Bool) : (s.crash ks).deeds = s.deeds := by unfold S.crash; split <;> rfl
theorem S.deed_deeds (s : S) : s.deed.1.deeds = s.deeds + 1 := by
  unfold S.deed
  split
  · rfl
  · split
    · rw [S.crash_deeds]
    · rfl
theorem S.write_deeds (s : S) (i : Int) (b : List UInt8) : (s.write i b).1.deeds ≤ s.deeds + 1 := by
  unfold S.write
  split
  · exact Nat.le_succ _
  · split
    · exact Nat.le_succ _
    · rw [S.deed_deeds]; exact Nat.le_refl _
theorem S.flush_deeds (s : S) : s.flush.1.deeds ≤ s.deeds + 1 := by
  unfold S.flush
  split
  · exact Nat.le_succ _
  · split
    · show s.deed.1.deeds ≤ _
      rw [S.deed_deeds]; exact Nat.le_refl _
    · rw [S.deed_deeds]; exact Nat.le_refl _
end Go.Dk
