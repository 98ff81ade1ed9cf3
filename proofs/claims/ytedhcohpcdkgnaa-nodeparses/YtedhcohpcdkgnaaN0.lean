/- Nodes as plain data, and in memory. Conditions: none. -/
import Derived.Test.YtedhcohpcdkgnaaB2
import Derived.Test.YtedhcohpcdkgnaaProg
import Derived.Deep.QuietTactic
import Derived.BigQuiet
import Derived.Laws.Cover1
namespace Go.Bs
open Go.RowKit

abbrev Pr := ByteArray × ByteArray
def pAt (ps : List Pr) (j : Nat) : Pr := ps.getD j (ByteArray.empty, ByteArray.empty)
def sAt (ks : List ByteArray) (j : Nat) : ByteArray := ks.getD j ByteArray.empty
theorem pAt_get (ps : List Pr) (j : Nat) (h : j < ps.length) : pAt ps j = ps[j] := by simp [pAt, List.getD, List.getElem?_eq_getElem h]
theorem sAt_get (ks : List ByteArray) (j : Nat) (h : j < ks.length) : sAt ks j = ks[j] := by simp [sAt, List.getD, List.getElem?_eq_getElem h]
theorem pAt_mem (ps : List Pr) (j : Nat) (h : j < ps.length) : pAt ps j ∈ ps := by rw [pAt_get ps j h]; exact List.getElem_mem h
theorem sAt_mem (ks : List ByteArray) (j : Nat) (h : j < ks.length) : sAt ks j ∈ ks := by rw [sAt_get ks j h]; exact List.getElem_mem h
theorem pTake (ps : List Pr) (k : Nat) (h : k < ps.length) : ps.take (k + 1) = ps.take k ++ [pAt ps k] := by rw [List.take_succ_eq_append_getElem h, pAt_get ps k h]
theorem sTake (ks : List ByteArray) (k : Nat) (h : k < ks.length) : ks.take (k + 1) = ks.take k ++ [sAt ks k] := by rw [List.take_succ_eq_append_getElem h, sAt_get ks k h]

/-- a slice of pairs. -/
structure RdP (w : World) (A : Option Addr) (n c : Nat) (ps : List Pr) : Prop where
  len : ps.length = n
  cap : n ≤ c
  sizes : ∀ p ∈ ps, p.1.size ≤ 140737488351232 ∧ p.2.size ≤ 140737488351232
  cells : 0 < n → ∃ g o, A = some ⟨g, o, none⟩ ∧ g < w.heap.size ∧ ∀ j, j < n → w.cell? ⟨g, o + j * 2, none⟩ = some (.string (pAt ps j).1) ∧ w.cell? ⟨g, o + j * 2 + 1, none⟩ = some (.string (pAt ps j).2)
theorem RdP.nil (w : World) (A : Option Addr) (c : Nat) : RdP w A 0 c [] := ⟨rfl, Nat.zero_le _, by simp, fun h => absurd h (by omega)⟩
theorem RdP.keep {w w' : World} {A : Option Addr} {n c : Nat} {ps : List Pr} (h : RdP w A n c ps) (hb : Below w.heap.size w w') : RdP w' A n c ps :=
  ⟨h.len, h.cap, h.sizes, fun hn => by
    obtain ⟨g, o, e, hg, hc⟩ := h.cells hn
    exact ⟨g, o, e, Nat.lt_of_lt_of_le hg hb.size, fun j hj => ⟨(hb.cell (p := ⟨g, o + j * 2, none⟩) hg).trans (hc j hj).1, (hb.cell (p := ⟨g, o + j * 2 + 1, none⟩) hg).trans (hc j hj).2⟩⟩⟩
theorem RdS.nil (w : World) (A : Option Addr) (c : Nat) : RdS w A 0 c [] := ⟨rfl, Nat.zero_le _, by simp, fun h => absurd h (by omega)⟩
theorem RdS.keep {w w' : World} {A : Option Addr} {n c : Nat} {ss : List ByteArray} (h : RdS w A n c ss) (hb : Below w.heap.size w w') : RdS w' A n c ss :=
  ⟨h.len, h.cap, h.sizes, fun hn => by
    obtain ⟨g, o, e, hg, hc⟩ := h.cells hn
    exact ⟨g, o, e, Nat.lt_of_lt_of_le hg hb.size, fun j hj => (hb.cell (p := ⟨g, o + j, none⟩) hg).trans (hc j hj)⟩⟩
theorem RdI.nil (w : World) (A : Option Addr) (c : Nat) : RdI w A 0 c [] := ⟨rfl, Nat.zero_le _, by simp, fun h => absurd h (by omega)⟩

/-- a node. -/
structure Nd where
  leaf : Bool
  ps : List Pr
  ks : List ByteArray
  cs : List Int
/-- where its rows lie. -/
structure Hd where
  pA : Option Addr
  pl : Nat
  pc : Nat
  kA : Option Addr
  kl : Nat
  kc : Nat
  cA : Option Addr
  cl : Nat
  cc : Nat
def ncs (h : Hd) (b : Bool) : Array Value := #[.bool b, .slice h.pA h.pl h.pc, .slice h.kA h.kl h.kc, .slice h.cA h.cl h.cc]
def nv (h : Hd) (b : Bool) : Value := .agg (ncs h b)
structure NdAt (w : World) (h : Hd) (N : Nd) : Prop where
  p : RdP w h.pA h.pl h.pc N.ps
  k : RdS w h.kA h.kl h.kc N.ks
  c : RdI w h.cA h.cl h.cc N.cs
theorem NdAt.keep {w w' : World} {h : Hd} {N : Nd} (H : NdAt w h N) (hb : Below w.heap.size w w') : NdAt w' h N := ⟨H.p.keep hb, H.k.keep hb, H.c.keep hb⟩
/-- a node in a block of its own. -/
def Bx (w : World) (g : Nat) (h : Hd) (b : Bool) : Prop := w.heap[g]? = some (.cells (ncs h b) 26 (0, 0))
theorem Bx.new (w : World) (h : Hd) (b : Bool) : Bx (w.alloc (.cells (ncs h b) 26)) w.heap.size h b := heap_alloc_new w _
theorem Bx.lt {w : World} {g : Nat} {h : Hd} {b : Bool} (H : Bx w g h b) : g < w.heap.size := (Array.getElem?_eq_some_iff.1 H).1
theorem Bx.keep {w w' : World} {g : Nat} {h : Hd} {b : Bool} (H : Bx w g h b) (hb : Below w.heap.size w w') : Bx w' g h b := (hb.block g H.lt).trans H
theorem Bx.cells {w : World} {g : Nat} {h : Hd} {b : Bool} (H : Bx w g h b) :
    w.cell? ⟨g, 0, none⟩ = some (.bool b) ∧ w.cell? ⟨g, 1, none⟩ = some (.slice h.pA h.pl h.pc) ∧ w.cell? ⟨g, 2, none⟩ = some (.slice h.kA h.kl h.kc) ∧ w.cell? ⟨g, 3, none⟩ = some (.slice h.cA h.cl h.cc) := by
  refine ⟨?_, ?_, ?_, ?_⟩ <;> (rw [cell_of_row w g _ _ 26 (0, 0) H]; rfl)

/-! sizes -/
def psz (p : Pr) : Nat := 2 + p.1.size + p.2.size
def psum (ps : List Pr) : Nat := (ps.map psz).sum
def ssum (ks : List ByteArray) : Nat := (ks.map fun k => 1 + k.size).sum
def Nd.size (N : Nd) : Nat := 3 + 3 * N.cs.length + psum N.ps + ssum N.ks
theorem psum_step (ps : List Pr) (k : Nat) (h : k < ps.length) : psum (ps.take (k + 1)) = psum (ps.take k) + (2 + (pAt ps k).1.size + (pAt ps k).2.size) := by
  rw [pTake ps k h]; simp [psum, psz]
theorem ssum_step (ks : List ByteArray) (k : Nat) (h : k < ks.length) : ssum (ks.take (k + 1)) = ssum (ks.take k) + (1 + (sAt ks k).size) := by
  rw [sTake ks k h]; simp [ssum]
theorem psum_le (ps : List Pr) (h : ∀ p ∈ ps, p.1.size + p.2.size ≤ 2000) : psum ps ≤ 2002 * ps.length := by
  induction ps with
  | nil => simp [psum]
  | cons a l ih =>
    have h1 := h a (by simp)
    have h2 := ih (fun p hp => h p (by simp [hp]))
    simp only [psum, List.map_cons, List.sum_cons, List.length_cons, psz] at h2 ⊢
    omega
theorem ssum_le (ks : List ByteArray) (h : ∀ k ∈ ks, k.size ≤ 2000) : ssum ks ≤ 2001 * ks.length := by
  induction ks with
  | nil => simp [ssum]
  | cons a l ih =>
    have h1 := h a (by simp)
    have h2 := ih (fun p hp => h p (by simp [hp]))
    simp only [ssum, List.map_cons, List.sum_cons, List.length_cons] at h2 ⊢
    omega
/-- a node of no great size. -/
structure Nd.Few (N : Nd) (m : Nat) : Prop where
  p : N.ps.length ≤ m
  k : N.ks.length ≤ m
  c : N.cs.length ≤ m
  sp : ∀ p ∈ N.ps, p.1.size + p.2.size ≤ 2000
  sk : ∀ k ∈ N.ks, k.size ≤ 2000
theorem Nd.Few.mono {N : Nd} {m m' : Nat} (h : N.Few m) (hm : m ≤ m') : N.Few m' := ⟨Nat.le_trans h.p hm, Nat.le_trans h.k hm, Nat.le_trans h.c hm, h.sp, h.sk⟩
theorem psum_take_le (ps : List Pr) (m k : Nat) (hl : ps.length ≤ m) (h : ∀ p ∈ ps, p.1.size + p.2.size ≤ 2000) : psum (ps.take k) ≤ 2002 * m := by
  have := psum_le (ps.take k) (fun p hp => h p (List.mem_of_mem_take hp))
  have : (ps.take k).length ≤ ps.length := List.length_take_le' _ _
  omega
theorem ssum_take_le (ks : List ByteArray) (m k : Nat) (hl : ks.length ≤ m) (h : ∀ p ∈ ks, p.size ≤ 2000) : ssum (ks.take k) ≤ 2001 * m := by
  have := ssum_le (ks.take k) (fun p hp => h p (List.mem_of_mem_take hp))
  have : (ks.take k).length ≤ ks.length := List.length_take_le' _ _
  omega
end Go.Bs
