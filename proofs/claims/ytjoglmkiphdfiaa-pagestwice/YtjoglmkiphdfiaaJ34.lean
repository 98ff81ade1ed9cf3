/- The pages with a row of bools beside them. Conditions: none. -/
import Derived.Test.YtjoglmkiphdfiaaJ33
set_option maxRecDepth 8000
namespace Go.Proofs.Ytjoglmkiphdfiaa
open Go.RowKit Go.Bs Go.Dk Rp

def bR (w : World) (ub N : Nat) (U : Nat → Bool) : Prop := w.heap[ub]? = some (.cells ((List.range N).map fun k => Value.bool (U k)).toArray 4 (0, 0))
theorem bR.cell {w : World} {ub N : Nat} {U : Nat → Bool} (h : bR w ub N U) (k : Nat) (hk : k < N) : w.cell? ⟨ub, k, none⟩ = some (.bool (U k)) ∧ w.frozen? ⟨ub, k, none⟩ = false := by
  refine ⟨?_, by unfold bR at h; simp [World.frozen?, h]⟩
  rw [cell_of_row w ub k _ 4 (0, 0) h]
  simp [hk]
theorem bR.lt {w : World} {ub N : Nat} {U : Nat → Bool} (h : bR w ub N U) : ub < w.heap.size := (Array.getElem?_eq_some_iff.1 h).1
theorem bR.set {w : World} {ub N : Nat} {U : Nat → Bool} (h : bR w ub N U) (p : Nat) (b : Bool) : bR (w.setCell ⟨ub, p, none⟩ (.bool b)) ub N (upd U p b) := by
  unfold bR at h ⊢
  rw [setCell_eq_setRow w ub p _ 4 (0, 0) _ h, setRow_heap w ub _ _ 4 _ h]
  congr 2
  apply Array.ext
  · simp
  · intro i h1 h2
    simp only [Array.getElem_setIfInBounds, List.getElem_toArray, List.getElem_map, List.getElem_range]
    by_cases e : p = i
    · subst e; simp [upd]
    · have : ¬ i = p := fun e' => e e'.symm
      simp [upd, e, this]
theorem madeCells_falseP (n : Nat) : madeCells #[.bool false] n = ((List.range n).map fun _ => Value.bool false).toArray := by
  apply Array.ext
  · simp [madeCells]
  · intro i h1 h2
    simp [madeCells, Nat.mod_one]
theorem make_falseP (n : Nat) (hn : n ≤ 281474976710656) (w : World) : (Instr.makeSlice 37 (.int .i64 (n : Int)) (.int .i64 (n : Int))).run Try.prog w = .ok (.slice (some ⟨w.heap.size, 0, none⟩) n n) (w.alloc (.cells ((List.range n).map fun _ => Value.bool false).toArray 4 (0, 0))) := by
  rw [run_make_row' (P := Try.prog) 37 4 (.bool false) 1 Try.underlying37 bool_info rfl .i64 .i64 n (by omega) (by omega) w, madeCells_falseP]
def St (w0 a : World) (pp t q g : Nat) (s : S) (log N Bz M : Nat) (L : Nat → List UInt8) (T : TX) (U : Nat → Bool) (ub : Nat) : Prop :=
  ∃ D, Sy a pp t q g s log N Bz M L T D ∧ (∀ k, D k → w0.heap.size ≤ k) ∧ Below w0.heap.size w0 a ∧ bR a ub N U ∧ w0.heap.size ≤ ub ∧ ¬ D ub
theorem St.bel {w0 a : World} {pp t q g : Nat} {s : S} {log N Bz M : Nat} {L : Nat → List UInt8} {T : TX} {U : Nat → Bool} {ub : Nat} (h : St w0 a pp t q g s log N Bz M L T U ub) : Below w0.heap.size w0 a ∧ bR a ub N U := by
  obtain ⟨D, h1, h2, h3, h4, h5, h6⟩ := h
  exact ⟨h3, h4⟩
theorem St.step {w0 a b : World} {pp t q g : Nat} {s' : S} {log N Bz M : Nat} {L' : Nat → List UInt8} {T' : TX} {D : Nat → Prop} {U : Nat → Bool} {ub : Nat} (hD : ∀ k, D k → w0.heap.size ≤ k) (hb : Below w0.heap.size w0 a) (ho : bR a ub N U) (hu : w0.heap.size ≤ ub) (hn : ¬ D ub) (h : SyD D pp t q g s' log N Bz M L' T' a b) : St w0 b pp t q g s' log N Bz M L' T' U ub := by
  obtain ⟨D', k1, k2, k3⟩ := h
  have hs := hb.size
  exact ⟨D', k1, fun k hk => (k2 k hk).elim (hD k) (fun e => by omega), hb.trans (k3.below hD hs), (k3.block ub ho.lt hn).trans ho, hu, fun hd => (k2 ub hd).elim hn (fun e' => by have := ho.lt; omega)⟩
theorem St.below {w0 a b : World} {pp t q g : Nat} {s : S} {log N Bz M : Nat} {L : Nat → List UInt8} {T : TX} {U : Nat → Bool} {ub : Nat} (h : St w0 a pp t q g s log N Bz M L T U ub) (hb : Below a.heap.size a b) : St w0 b pp t q g s log N Bz M L T U ub := by
  obtain ⟨D, h1, h2, h3, h4, h5, h6⟩ := h
  exact ⟨D, h1.below hb, h2, h3.trans (hb.mono h3.size), (hb.block ub h4.lt).trans h4, h5, h6⟩
theorem St.setU {w0 a : World} {pp t q g : Nat} {s : S} {log N Bz M : Nat} {L : Nat → List UInt8} {T : TX} {U : Nat → Bool} {ub : Nat} (h : St w0 a pp t q g s log N Bz M L T U ub) (p : Nat) (b : Bool) : St w0 (a.setCell ⟨ub, p, none⟩ (.bool b)) pp t q g s log N Bz M L T (upd U p b) ub := by
  obtain ⟨D, h1, h2, h3, h4, h5, h6⟩ := h
  exact ⟨D, h1.keep (by rw [sc_size]; exact Nat.le_refl _) (fun k hd => sc_other _ _ _ _ _ (fun e => h6 (by rw [← e]; exact hd))), h2, h3.setCell (p := ⟨ub, p, none⟩) h5 _, h4.set p b, h5, h6⟩
section
variable (w0 a : World) (pp t q g : Nat) (s : S) (log N Bz M : Nat) (L : Nat → List UInt8) (T : TX) (U : Nat → Bool) (ub : Nat)
theorem uTake (h : St w0 a pp t q g s log N Bz M L T U ub) : Calls Try.prog 13 #[.pointer (some ⟨t, 0, none⟩)] a fun e w' => e = .returned (.tuple #[.int .i64 (T.take N Bz M).2.1, .int .i64 (T.take N Bz M).2.2]) ∧ St w0 w' pp t q g s log N Bz M L (T.take N Bz M).1 U ub := by
  obtain ⟨D, h1, h2, h3, h4, h5, h6⟩ := h
  refine (sTake a pp t q g s log N Bz M L T D h1).mono ?_
  rintro e w' ⟨rfl, hp⟩
  exact ⟨rfl, St.step h2 h3 h4 h5 h6 hp⟩
theorem uGive (h : St w0 a pp t q g s log N Bz M L T U ub) (p : Int) : Calls Try.prog 16 #[.pointer (some ⟨t, 0, none⟩), .int .i64 p] a fun e w' => e = .returned (.int .i64 (T.give N Bz M p).2) ∧ St w0 w' pp t q g s log N Bz M L (T.give N Bz M p).1 U ub := by
  obtain ⟨D, h1, h2, h3, h4, h5, h6⟩ := h
  refine (sGive a pp t q g s log N Bz M L T D h1 p).mono ?_
  rintro e w' ⟨rfl, hp⟩
  exact ⟨rfl, St.step h2 h3 h4 h5 h6 hp⟩
theorem uRead (h : St w0 a pp t q g s log N Bz M L T U ub) (p : Int) : Calls Try.prog 14 #[.pointer (some ⟨t, 0, none⟩), .int .i64 p] a fun e w' => ∃ A c, e = .returned (.tuple #[.slice A (T.read N Bz M p).1.length c, .int .i64 (T.read N Bz M p).2]) ∧ Rd w' A (T.read N Bz M p).1.length c (T.read N Bz M p).1 ∧ St w0 w' pp t q g s log N Bz M L T U ub := by
  obtain ⟨D, h1, h2, h3, h4, h5, h6⟩ := h
  refine (sRead a pp t q g s log N Bz M L T D h1 p).mono ?_
  rintro e w' ⟨v, rfl, ⟨A, n, c, rfl, hr, _⟩, hp⟩
  have hl := hr.len
  rw [← hl] at hr ⊢
  exact ⟨A, c, rfl, hr, St.step h2 h3 h4 h5 h6 hp⟩
theorem uWrite (h : St w0 a pp t q g s log N Bz M L T U ub) (b : World) (hb : Below a.heap.size a b) (bs : List UInt8) (hk : Blk b a.heap.size 5 bs) (hl : bs.length = Bz) (hB : Bz ≤ 4096) (p : Int) : Calls Try.prog 15 #[.pointer (some ⟨t, 0, none⟩), .int .i64 p, .slice (some ⟨a.heap.size, 0, none⟩) Bz Bz] b fun e w' => e = .returned (.int .i64 (T.write N Bz M p bs).2) ∧ St w0 w' pp t q g s log N Bz M L (T.write N Bz M p bs).1 U ub := by
  have hst := h.below hb
  obtain ⟨D, h1, h2, h3, h4, h5, h6⟩ := h
  have hs := hb.size
  refine (sWrite b pp t q g s log N Bz M L T D (h1.below hb) p _ Bz Bz bs (hk.all' Bz Bz hl (Nat.le_refl _)) (fun x hx hd => ?_) (by omega)).mono ?_
  · cases hx
    have := h1.lt _ hd
    exact Nat.lt_irrefl _ this
  · rintro e w' ⟨rfl, hp⟩
    exact ⟨rfl, St.step h2 (h3.trans (hb.mono h3.size)) ((hb.block ub h4.lt).trans h4) h5 h6 hp⟩
end
end Go.Proofs.Ytjoglmkiphdfiaa

