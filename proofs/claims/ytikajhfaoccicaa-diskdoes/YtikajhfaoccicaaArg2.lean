/- Arguments: a script of calls. Conditions: none. -/
import Derived.Test.YtikajhfaoccicaaArg
import Derived.Deep.Slices
import Derived.Deep.Fields
namespace Go.Proofs.Ytikajhfaoccicaa
open Go.ChangeShapes Go.WideShapes Go.ChangeAt Go.RowKit Go.Bs Go.Dk Go.Deep

/-- one call of a script. -/
structure Cl where
  call : Int
  sector : Int
  n : Int
  bA : Option Addr
  bl : Nat
  bc : Nat
  bs : List UInt8
  kA : Option Addr
  kl : Nat
  kc : Nat
  ks : List Bool
structure ClAt (w : World) (g o : Nat) (c : Cl) : Prop where
  c0 : w.cell? ⟨g, o, none⟩ = some (.int .i64 c.call)
  c1 : w.cell? ⟨g, o + 1, none⟩ = some (.int .i64 c.sector)
  c2 : w.cell? ⟨g, o + 2, none⟩ = some (.int .i64 c.n)
  c3 : w.cell? ⟨g, o + 3, none⟩ = some (.slice c.bA c.bl c.bc)
  c4 : w.cell? ⟨g, o + 4, none⟩ = some (.slice c.kA c.kl c.kc)
  w0 : -9223372036854775808 ≤ c.call ∧ c.call ≤ 9223372036854775807
  w1 : -9223372036854775808 ≤ c.sector ∧ c.sector ≤ 9223372036854775807
  w2 : -9223372036854775808 ≤ c.n ∧ c.n ≤ 9223372036854775807
  rb : Rd w c.bA c.bl c.bc c.bs
  rq : RdQ w c.kA c.kl c.kc c.ks
  m3 : c.bl ≤ maxLen
  m4 : c.kl ≤ maxLen
theorem ClAt.keep {w w' : World} {g o : Nat} {c : Cl} (h : ClAt w g o c) (hg : g < w.heap.size) (hb : Below w.heap.size w w') : ClAt w' g o c :=
  ⟨(hb.cell (p := ⟨g, o, none⟩) hg).trans h.c0, (hb.cell (p := ⟨g, o + 1, none⟩) hg).trans h.c1, (hb.cell (p := ⟨g, o + 2, none⟩) hg).trans h.c2, (hb.cell (p := ⟨g, o + 3, none⟩) hg).trans h.c3, (hb.cell (p := ⟨g, o + 4, none⟩) hg).trans h.c4, h.w0, h.w1, h.w2, h.rb.keep hb, h.rq.keep hb, h.m3, h.m4⟩
/-- what a law is told of a script that came in. -/
structure IsO (w : World) (a : Option Addr) (len cap : Nat) : Prop where
  m : len ≤ maxLen
  le : len ≤ cap
  at_ : ∀ i, i < len → ∃ g o c, a = some ⟨g, o, none⟩ ∧ g < w.heap.size ∧ ClAt w g (o + i * 5) c
theorem IsO.keep {w w' : World} {a : Option Addr} {len cap : Nat} (h : IsO w a len cap) (hb : Below w.heap.size w w') : IsO w' a len cap :=
  ⟨h.m, h.le, fun i hi => by
    obtain ⟨g, o, c, e, hg, hc⟩ := h.at_ i hi
    exact ⟨g, o, c, e, Nat.lt_of_lt_of_le hg hb.size, hc.keep hg hb⟩⟩

section
variable {H : Type} {enc : TypeId × Value → H} {w : World} {base : Nat} {held : Bool}
theorem IsO.of {fuel : Nat} {a : Option Addr} {len cap : Nat} {x : DataW H × List MemPlace} (hf : DataW.trod enc Try.prog w base (fun _ => true) held fuel 22 [.slice a len cap] = some x) : IsO w a len cap := by
  rcases open_slice Try.underlying22 hf with ⟨hcs, _⟩ | ⟨a, l, c, m, n, D, Pl, hcs, hb, hl, hm, hmm, rfl, hx⟩
  · simp at hcs
    obtain ⟨rfl, rfl, rfl⟩ := hcs
    exact ⟨Nat.zero_le _, Nat.le_refl _, fun i hi => absurd hi (by omega)⟩
  · simp at hcs
    obtain ⟨rfl, rfl, rfl⟩ := hcs
    refine ⟨by omega, hl, fun i hi => ?_⟩
    have ce : Try.prog.cellsOf 35 = 5 := by kernel_rfl
    obtain ⟨g, o, spot⟩ := a
    have hspot : spot = none := by
      obtain ⟨cs0, h0, _⟩ := hx 0 (by rw [hmm]; simp; omega)
      rw [ce] at h0
      obtain ⟨_, hlen, hcell⟩ := World.cells?_some h0
      have f0 := hcell 0 (by omega)
      rw [List.getElem?_eq_getElem (by omega)] at f0
      simpa [Addr.add] using World.cell?_spot f0
    subst hspot
    obtain ⟨cs', h1, h2⟩ := hx i (by rw [hmm]; simp; omega)
    rw [ce] at h1
    obtain ⟨_, hlen, hcell⟩ := World.cells?_some h1
    obtain ⟨xs, k, hk, hxy, _, hxl, hff⟩ := DataW.trod_struct Try.underlying35 h2
    match xs, hxl, cs', hlen with
    | [y0, y1, y2, y3, y4], _, [v0, v1, v2, v3, v4], _ =>
      have ce3 : Try.prog.cellsOf 3 = 1 := by kernel_rfl
      have ce32 : Try.prog.cellsOf 32 = 1 := by kernel_rfl
      have ce33 : Try.prog.cellsOf 33 = 1 := by kernel_rfl
      have g0 := hff 0 _ rfl
      have g1 := hff 1 _ rfl
      have g2 := hff 2 _ rfl
      have g3 := hff 3 _ rfl
      have g4 := hff 4 _ rfl
      simp [ce3, ce32, ce33] at g0 g1 g2 g3 g4
      obtain ⟨z0, e0, _, u0⟩ := DataW.trod_int Try.underlying3 g0
      obtain ⟨z1, e1, _, u1⟩ := DataW.trod_int Try.underlying3 g1
      obtain ⟨z2, e2, _, u2⟩ := DataW.trod_int Try.underlying3 g2
      simp at e0 e1 e2
      subst e0 e1 e2
      obtain ⟨bA, bl, bc, rfl⟩ : ∃ A l c, v3 = .slice A l c := by
        rcases open_slice Try.underlying32 g3 with ⟨hcs, _⟩ | ⟨a, l, c, _, _, _, _, hcs, _⟩
        · simp at hcs; exact ⟨_, _, _, hcs⟩
        · simp at hcs; exact ⟨_, _, _, hcs⟩
      obtain ⟨kA, kl, kc, rfl⟩ : ∃ A l c, v4 = .slice A l c := by
        rcases open_slice Try.underlying33 g4 with ⟨hcs, _⟩ | ⟨a, l, c, _, _, _, _, hcs, _⟩
        · simp at hcs; exact ⟨_, _, _, hcs⟩
        · simp at hcs; exact ⟨_, _, _, hcs⟩
      obtain ⟨m3, bs, hbs⟩ := IsB.of g3
      obtain ⟨m4, ks, hks⟩ := IsQ.of g4
      have f0 := hcell 0 (by omega)
      have f1 := hcell 1 (by omega)
      have f2 := hcell 2 (by omega)
      have f3 := hcell 3 (by omega)
      have f4 := hcell 4 (by omega)
      simp only [addr_add, Nat.add_zero] at f0 f1 f2 f3 f4
      refine ⟨g, o, ⟨z0, z1, z2, bA, bl, bc, bs, kA, kl, kc, ks⟩, rfl, ?_, by simpa using f0, by simpa using f1, by simpa using f2, by simpa using f3, by simpa using f4, bounds_i64 u0, bounds_i64 u1, bounds_i64 u2, hbs, hks, m3, m4⟩
      rcases Nat.lt_or_ge g w.heap.size with hlt | hge
      · exact hlt
      · simp [World.cell?, Array.getElem?_eq_none hge] at f0
end
end Go.Proofs.Ytikajhfaoccicaa
