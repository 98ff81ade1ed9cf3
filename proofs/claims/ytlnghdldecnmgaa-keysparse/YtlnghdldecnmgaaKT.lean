/- Two keys in boxes; what the laws say in plain words. Conditions: none. -/
import Derived.Test.YtlnghdldecnmgaaKQ
set_option maxRecDepth 8000
set_option linter.unusedSimpArgs false
set_option linter.unusedVariables false
namespace Go.Kx
open Go.RowKit Go.Bs
structure K2 (g : Nat) (k0 k1 : Ky) (w W : World) : Prop where
  x : KyAt W g k0
  y : KyAt W (g + 1) k1
  b : Below g w W
  s : g + 2 ≤ W.heap.size
theorem K2.keep {g : Nat} {k0 k1 : Ky} {w W W' : World} (h : K2 g k0 k1 w W) (hb : Below W.heap.size W W') : K2 g k0 k1 w W' :=
  ⟨h.x.keep hb, h.y.keep hb, h.b.trans (hb.mono (by have := h.s; omega)), Nat.le_trans h.s hb.size⟩
theorem K2.new (w : World) (g : Nat) (hg : w.heap.size = g) (k0 k1 : Ky) : K2 g k0 k1 w ((w.alloc (.cells k0.cells 23)).alloc (.cells k1.cells 23)) := by
  subst hg
  refine ⟨(KyAt.new w _).keep ((Below.refl _ _).alloc (Nat.le_refl _) _), ?_, ((Below.refl _ _).alloc (Nat.le_refl _) _).alloc (by simp) _, by simp⟩
  have := KyAt.new (w.alloc (.cells k0.cells 23)) k1
  simpa using this
/-- a key's cells. -/
theorem KyAt.cs {w : World} {z : Nat} {k : Ky} (h : KyAt w z k) : w.cell? ⟨z, 0, none⟩ = some (.int .i64 k.kind) ∧ w.cell? ⟨z, 1, none⟩ = some (.string ⟨k.a.toArray⟩) ∧ w.cell? ⟨z, 2, none⟩ = some (.string ⟨k.b.toArray⟩) ∧ w.cell? ⟨z, 3, none⟩ = some (.int .i64 k.n) ∧ w.cell? ⟨z, 4, none⟩ = some (.int .i64 k.m) :=
  ⟨h.at.1, h.at.2.1, h.at.2.2.1, h.at.2.2.2.1, h.at.2.2.2.2.1⟩
theorem bd_of {k : Ky} (h : k.a.length + k.b.length ≤ 1000) (hn : -9223372036854775808 ≤ k.n ∧ k.n ≤ 9223372036854775807) (hm : -9223372036854775808 ≤ k.m ∧ k.m ≤ 9223372036854775807) : Bd k := ⟨by omega, by omega, hn, hm⟩
theorem Is.short {k k' : Ky} {s t : List UInt8} (h : Is k s) (h' : Is k' t) (hk : k.kind = k'.kind) (he : k.kind = 1 ∨ k.kind = 2 ∨ k.kind = 3) : s.length = t.length := by
  cases h <;> cases h' <;> simp_all [be_length] <;> omega
theorem letters_inj : ∀ i j : Fin 10, letters.getD i.val 0 = letters.getD j.val 0 → i = j := by decide +kernel
theorem letterOf_inj {x y : Int} (hx : 1 ≤ x ∧ x ≤ 10) (hy : 1 ≤ y ∧ y ≤ 10) (h : letterOf x = letterOf y) : x = y := by
  have h1 := ix_letterOf x hx
  have h2 := ix_letterOf y hy
  rw [h] at h1
  omega
end Go.Kx
