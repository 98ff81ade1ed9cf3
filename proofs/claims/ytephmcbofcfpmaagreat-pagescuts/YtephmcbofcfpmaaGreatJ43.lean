/- Arguments: rows of bools and ints. Conditions: none. Arguments: a script of calls. Conditions: none. -/
import Derived.Test.YtephmcbofcfpmaaGreatJ42
import Derived.OpenShut
import Derived.ProofKit
import Derived.Deep.Grids
import Derived.Deep.Slices
import Derived.Deep.Fields
set_option maxRecDepth 8000
set_option linter.unusedSimpArgs false
set_option linter.unusedVariables false
namespace Go.Proofs.YtephmcbofcfpmaaGreat
open Go.ChangeShapes Go.WideShapes Go.ChangeAt Go.RowKit Go.Bs Go.Dk Go.Deep

/-- what a law is told of a slice of bools that came in. -/
def IsQ (w : World) (a : Option Addr) (len cap : Nat) : Prop := len ≤ maxLen ∧ ∃ ks, RdQ w a len cap ks
def IsI (w : World) (a : Option Addr) (len cap : Nat) : Prop := len ≤ maxLen ∧ ∃ zs, RdI w a len cap zs
def IsB (w : World) (a : Option Addr) (len cap : Nat) : Prop := len ≤ maxLen ∧ ∃ bs, Rd w a len cap bs

theorem cells_at {w : World} {x : Addr} {n : Nat} {V : Nat → Value} (h : ∀ i, i < n → w.cell? (x.add i) = some (V i)) (h0 : 0 < n) : ∃ g o, x = ⟨g, o, none⟩ ∧ g < w.heap.size ∧ ∀ i, i < n → w.cell? ⟨g, o + i, none⟩ = some (V i) := by
  obtain ⟨g, o, spot⟩ := x
  have hspot : spot = none := by simpa [Addr.add] using World.cell?_spot (h 0 h0)
  subst hspot
  refine ⟨g, o, rfl, ?_, fun i hi => by have := h i hi; rwa [addr_add] at this⟩
  have := h 0 h0
  rcases Nat.lt_or_ge g w.heap.size with hlt | hge
  · exact hlt
  · rw [addr_add] at this; simp [World.cell?, Array.getElem?_eq_none hge] at this

theorem cells4 : Tryz.prog.cellsOf 4 = 1 := by kernel_rfl
section
variable {H : Type} {enc : TypeId × Value → H} {w : World} {base : Nat} {held : Bool}
theorem IsQ.of {fuel : Nat} {a : Option Addr} {len cap : Nat} {x : DataW H × List MemPlace} (hf : DataW.trod enc Tryz.prog w base (fun _ => true) held fuel 40 [.slice a len cap] = some x) : IsQ w a len cap := by
  rcases open_bools Tryz.underlying40 Tryz.underlying4 cells4 hf with ⟨hcs, _⟩ | ⟨x, l, c, B, hcs, _, hl, hm, _, hc⟩
  · simp at hcs
    obtain ⟨rfl, rfl, rfl⟩ := hcs
    exact ⟨Nat.zero_le _, [], RdQ.nil _ _ _⟩
  · simp at hcs
    obtain ⟨rfl, rfl, rfl⟩ := hcs
    refine ⟨by omega, (List.range len).map B, by simp, hl, fun h0 => ?_⟩
    obtain ⟨g, o, rfl, hg, hcc⟩ := cells_at hc (by omega)
    exact ⟨g, o, rfl, hg, fun j hj => by rw [hcc j (by omega)]; simp [List.getD, hj]⟩
theorem IsI.of {fuel : Nat} {a : Option Addr} {len cap : Nat} {x : DataW H × List MemPlace} (hf : DataW.trod enc Tryz.prog w base (fun _ => true) held fuel 131 [.slice a len cap] = some x) : IsI w a len cap := by
  rcases open_ints Tryz.underlying131 Tryz.underlying3 (by kernel_rfl) hf with ⟨hcs, _⟩ | ⟨x, l, c, zs, hcs, _, hl, hm, hz, _, hcell, hwz⟩
  · simp at hcs
    obtain ⟨rfl, rfl, rfl⟩ := hcs
    exact rdI_of_row (.inl ⟨rfl, rfl, rfl, rfl⟩)
  · simp at hcs
    obtain ⟨rfl, rfl, rfl⟩ := hcs
    exact rdI_of_row (.inr ⟨_, rfl, hl, hm, by simpa using hz, hcell, hwz⟩)
theorem IsB.of {fuel : Nat} {a : Option Addr} {len cap : Nat} {x : DataW H × List MemPlace} (hf : DataW.trod enc Tryz.prog w base (fun _ => true) held fuel 39 [.slice a len cap] = some x) : IsB w a len cap := by
  rcases open_ints Tryz.underlying39 Tryz.underlying5 (by kernel_rfl) hf with ⟨hcs, _⟩ | ⟨x, l, c, zs, hcs, _, hl, hm, hz, _, hcell, hwz⟩
  · simp at hcs
    obtain ⟨rfl, rfl, rfl⟩ := hcs
    exact rd_of_row (.inl ⟨rfl, rfl, rfl, rfl⟩)
  · simp at hcs
    obtain ⟨rfl, rfl, rfl⟩ := hcs
    exact rd_of_row (.inr ⟨_, rfl, hl, hm, by simpa using hz, hcell, hwz⟩)
end
end Go.Proofs.YtephmcbofcfpmaaGreat

set_option maxRecDepth 8000
set_option linter.unusedSimpArgs false
set_option linter.unusedVariables false
namespace Go.Proofs.YtephmcbofcfpmaaGreat
open Go.ChangeShapes Go.WideShapes Go.ChangeAt Go.RowKit Go.Bs Go.Dk Go.Deep

/-- one call of a script. -/
structure Cl where
  call : Int
  page : Int
  bA : Option Addr
  bl : Nat
  bc : Nat
  bs : List UInt8
  kA : Option Addr
  kl : Nat
  kc : Nat
  ks : List Bool
structure ClAt (w : World) (g o : Nat) (c : Cl) : Prop where
  c0 : w.cell? ⟨g, o, none⟩ = some (.int .i64 c.call)
  c1 : w.cell? ⟨g, o + 1, none⟩ = some (.int .i64 c.page)
  c2 : w.cell? ⟨g, o + 2, none⟩ = some (.slice c.bA c.bl c.bc)
  c3 : w.cell? ⟨g, o + 3, none⟩ = some (.slice c.kA c.kl c.kc)
  w0 : -9223372036854775808 ≤ c.call ∧ c.call ≤ 9223372036854775807
  w1 : -9223372036854775808 ≤ c.page ∧ c.page ≤ 9223372036854775807
  rb : Rd w c.bA c.bl c.bc c.bs
  rq : RdQ w c.kA c.kl c.kc c.ks
  m3 : c.bl ≤ maxLen
  m4 : c.kl ≤ maxLen
theorem ClAt.keep {w w' : World} {g o : Nat} {c : Cl} (h : ClAt w g o c) (hg : g < w.heap.size) (hb : Below w.heap.size w w') : ClAt w' g o c :=
  ⟨(hb.cell (p := ⟨g, o, none⟩) hg).trans h.c0, (hb.cell (p := ⟨g, o + 1, none⟩) hg).trans h.c1, (hb.cell (p := ⟨g, o + 2, none⟩) hg).trans h.c2, (hb.cell (p := ⟨g, o + 3, none⟩) hg).trans h.c3, h.w0, h.w1, h.rb.keep hb, h.rq.keep hb, h.m3, h.m4⟩
/-- what a law is told of a script that came in. -/
structure IsO (w : World) (a : Option Addr) (len cap : Nat) : Prop where
  m : len ≤ maxLen
  le : len ≤ cap
  at_ : ∀ i, i < len → ∃ g o c, a = some ⟨g, o, none⟩ ∧ g < w.heap.size ∧ ClAt w g (o + i * 4) c
theorem IsO.keep {w w' : World} {a : Option Addr} {len cap : Nat} (h : IsO w a len cap) (hb : Below w.heap.size w w') : IsO w' a len cap :=
  ⟨h.m, h.le, fun i hi => by
    obtain ⟨g, o, c, e, hg, hc⟩ := h.at_ i hi
    exact ⟨g, o, c, e, Nat.lt_of_lt_of_le hg hb.size, hc.keep hg hb⟩⟩

section
variable {H : Type} {enc : TypeId × Value → H} {w : World} {base : Nat} {held : Bool}
theorem IsO.of {fuel : Nat} {a : Option Addr} {len cap : Nat} {x : DataW H × List MemPlace} (hf : DataW.trod enc Tryz.prog w base (fun _ => true) held fuel 22 [.slice a len cap] = some x) : IsO w a len cap := by
  rcases open_slice Tryz.underlying22 hf with ⟨hcs, _⟩ | ⟨a, l, c, m, n, D, Pl, hcs, hb, hl, hm, hmm, rfl, hx⟩
  · simp at hcs
    obtain ⟨rfl, rfl, rfl⟩ := hcs
    exact ⟨Nat.zero_le _, Nat.le_refl _, fun i hi => absurd hi (by omega)⟩
  · simp at hcs
    obtain ⟨rfl, rfl, rfl⟩ := hcs
    refine ⟨by omega, hl, fun i hi => ?_⟩
    have ce : Tryz.prog.cellsOf 42 = 4 := by kernel_rfl
    obtain ⟨g, o, spot⟩ := a
    have hspot : spot = none := by
      obtain ⟨cs0, h0, _⟩ := hx 0 (by rw [hmm]; simp; omega)
      rw [ce] at h0
      obtain ⟨_, hlen, hcell⟩ := World.cells?_some h0
      have f0 := hcell 0 (by omega)
      rw [List.getElem?_eq_getElem (by omega)] at f0
      simpa [Addr.add] using World.cell?_spot f0
    subst hspot
    obtain ⟨cs', h1, h2⟩ := hx i (by rw [hmm]; simp; omega)
    rw [ce] at h1
    obtain ⟨_, hlen, hcell⟩ := World.cells?_some h1
    obtain ⟨xs, k, hk, hxy, _, hxl, hff⟩ := DataW.trod_struct Tryz.underlying42 h2
    match xs, hxl, cs', hlen with
    | [y0, y1, y2, y3], _, [v0, v1, v2, v3], _ =>
      have ce3 : Tryz.prog.cellsOf 3 = 1 := by kernel_rfl
      have ce32 : Tryz.prog.cellsOf 39 = 1 := by kernel_rfl
      have ce33 : Tryz.prog.cellsOf 40 = 1 := by kernel_rfl
      have g0 := hff 0 _ rfl
      have g1 := hff 1 _ rfl
      have g2 := hff 2 _ rfl
      have g3 := hff 3 _ rfl
      simp [ce3, ce32, ce33] at g0 g1 g2 g3
      obtain ⟨z0, e0, _, u0⟩ := DataW.trod_int Tryz.underlying3 g0
      obtain ⟨z1, e1, _, u1⟩ := DataW.trod_int Tryz.underlying3 g1
      simp at e0 e1
      subst e0 e1
      obtain ⟨bA, bl, bc, rfl⟩ : ∃ A l c, v2 = .slice A l c := by
        rcases open_slice Tryz.underlying39 g2 with ⟨hcs, _⟩ | ⟨a, l, c, _, _, _, _, hcs, _⟩
        · simp at hcs; exact ⟨_, _, _, hcs⟩
        · simp at hcs; exact ⟨_, _, _, hcs⟩
      obtain ⟨kA, kl, kc, rfl⟩ : ∃ A l c, v3 = .slice A l c := by
        rcases open_slice Tryz.underlying40 g3 with ⟨hcs, _⟩ | ⟨a, l, c, _, _, _, _, hcs, _⟩
        · simp at hcs; exact ⟨_, _, _, hcs⟩
        · simp at hcs; exact ⟨_, _, _, hcs⟩
      obtain ⟨m3, bs, hbs⟩ := IsB.of g2
      obtain ⟨m4, ks, hks⟩ := IsQ.of g3
      have f0 := hcell 0 (by omega)
      have f1 := hcell 1 (by omega)
      have f2 := hcell 2 (by omega)
      have f3 := hcell 3 (by omega)
      simp only [addr_add, Nat.add_zero] at f0 f1 f2 f3
      refine ⟨g, o, ⟨z0, z1, bA, bl, bc, bs, kA, kl, kc, ks⟩, rfl, ?_, by simpa using f0, by simpa using f1, by simpa using f2, by simpa using f3, bounds_i64 u0, bounds_i64 u1, hbs, hks, m3, m4⟩
      rcases Nat.lt_or_ge g w.heap.size with hlt | hge
      · exact hlt
      · simp [World.cell?, Array.getElem?_eq_none hge] at f0
end
end Go.Proofs.YtephmcbofcfpmaaGreat

