/- Arguments: rows of bools and ints. Conditions: none. -/
import Derived.Test.YtjoglmkiphdfiaaJ32
import Derived.OpenShut
import Derived.ProofKit
import Derived.Deep.Grids
set_option maxRecDepth 8000
namespace Go.Proofs.Ytjoglmkiphdfiaa
open Go.ChangeShapes Go.WideShapes Go.ChangeAt Go.RowKit Go.Bs Go.Dk Go.Deep

/-- what a law is told of a slice of bools that came in. -/
def IsQ (w : World) (a : Option Addr) (len cap : Nat) : Prop := len ≤ maxLen ∧ ∃ ks, RdQ w a len cap ks
def IsI (w : World) (a : Option Addr) (len cap : Nat) : Prop := len ≤ maxLen ∧ ∃ zs, RdI w a len cap zs
def IsB (w : World) (a : Option Addr) (len cap : Nat) : Prop := len ≤ maxLen ∧ ∃ bs, Rd w a len cap bs

theorem cells_at {w : World} {x : Addr} {n : Nat} {V : Nat → Value} (h : ∀ i, i < n → w.cell? (x.add i) = some (V i)) (h0 : 0 < n) : ∃ g o, x = ⟨g, o, none⟩ ∧ g < w.heap.size ∧ ∀ i, i < n → w.cell? ⟨g, o + i, none⟩ = some (V i) := by
  obtain ⟨g, o, spot⟩ := x
  have hspot : spot = none := by simpa [Addr.add] using World.cell?_spot (h 0 h0)
  subst hspot
  refine ⟨g, o, rfl, ?_, fun i hi => by have := h i hi; rwa [addr_add] at this⟩
  have := h 0 h0
  rcases Nat.lt_or_ge g w.heap.size with hlt | hge
  · exact hlt
  · rw [addr_add] at this; simp [World.cell?, Array.getElem?_eq_none hge] at this

theorem cells4 : Try.prog.cellsOf 4 = 1 := by kernel_rfl
section
variable {H : Type} {enc : TypeId × Value → H} {w : World} {base : Nat} {held : Bool}
theorem IsQ.of {fuel : Nat} {a : Option Addr} {len cap : Nat} {x : DataW H × List MemPlace} (hf : DataW.trod enc Try.prog w base (fun _ => true) held fuel 37 [.slice a len cap] = some x) : IsQ w a len cap := by
  rcases open_bools Try.underlying37 Try.underlying4 cells4 hf with ⟨hcs, _⟩ | ⟨x, l, c, B, hcs, _, hl, hm, _, hc⟩
  · simp at hcs
    obtain ⟨rfl, rfl, rfl⟩ := hcs
    exact ⟨Nat.zero_le _, [], RdQ.nil _ _ _⟩
  · simp at hcs
    obtain ⟨rfl, rfl, rfl⟩ := hcs
    refine ⟨by omega, (List.range len).map B, by simp, hl, fun h0 => ?_⟩
    obtain ⟨g, o, rfl, hg, hcc⟩ := cells_at hc (by omega)
    exact ⟨g, o, rfl, hg, fun j hj => by rw [hcc j (by omega)]; simp [List.getD, hj]⟩
theorem IsI.of {fuel : Nat} {a : Option Addr} {len cap : Nat} {x : DataW H × List MemPlace} (hf : DataW.trod enc Try.prog w base (fun _ => true) held fuel 22 [.slice a len cap] = some x) : IsI w a len cap := by
  rcases open_ints Try.underlying22 Try.underlying3 (by kernel_rfl) hf with ⟨hcs, _⟩ | ⟨x, l, c, zs, hcs, _, hl, hm, hz, _, hcell, hwz⟩
  · simp at hcs
    obtain ⟨rfl, rfl, rfl⟩ := hcs
    exact rdI_of_row (.inl ⟨rfl, rfl, rfl, rfl⟩)
  · simp at hcs
    obtain ⟨rfl, rfl, rfl⟩ := hcs
    exact rdI_of_row (.inr ⟨_, rfl, hl, hm, by simpa using hz, hcell, hwz⟩)
theorem IsB.of {fuel : Nat} {a : Option Addr} {len cap : Nat} {x : DataW H × List MemPlace} (hf : DataW.trod enc Try.prog w base (fun _ => true) held fuel 38 [.slice a len cap] = some x) : IsB w a len cap := by
  rcases open_ints Try.underlying38 Try.underlying5 (by kernel_rfl) hf with ⟨hcs, _⟩ | ⟨x, l, c, zs, hcs, _, hl, hm, hz, _, hcell, hwz⟩
  · simp at hcs
    obtain ⟨rfl, rfl, rfl⟩ := hcs
    exact rd_of_row (.inl ⟨rfl, rfl, rfl, rfl⟩)
  · simp at hcs
    obtain ⟨rfl, rfl, rfl⟩ := hcs
    exact rd_of_row (.inr ⟨_, rfl, hl, hm, by simpa using hz, hcell, hwz⟩)
end
end Go.Proofs.Ytjoglmkiphdfiaa

