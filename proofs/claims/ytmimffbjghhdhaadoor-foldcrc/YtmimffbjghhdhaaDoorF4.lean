/- An own row into which a byte is put. Conditions: none. -/
import Derived.Test.YtmimffbjghhdhaaDoorS12
namespace Go.Proofs.YtmimffbjghhdhaaDoor
open Go.RowKit Go.Bs

theorem own_put {w : World} {base n c : Nat} {A : Option Addr} {bs : List UInt8} (h : Own w base 5 (.slice A n c) bs) (hn : bs.length = n) (h0 : 0 < n) :
    ∃ g, A = some ⟨g, 0, none⟩ ∧ base ≤ g ∧ g < w.heap.size ∧ (∀ j, j < n → w.cell? ⟨g, j, none⟩ = some (B (bs.getD j 0))) ∧ (∀ j, w.frozen? ⟨g, j, none⟩ = false) ∧
      ∀ i x, i < n → Rd (w.setCell ⟨g, i, none⟩ (B x)) A n c (bs.set i x) := by
  have hr := h.rd
  rcases h.2 with ⟨h1, h2⟩ | ⟨g, cap, cur, e1, e2, e3, e4, e5, e6, e7⟩
  · cases h1; omega
  · obtain ⟨A', c', hv, hrd⟩ := hr
    rw [hn] at hv hrd
    cases hv
    cases e1
    have hlt : g < w.heap.size := by
      rcases Nat.lt_or_ge g w.heap.size with hlt | hge
      · exact hlt
      · rw [Array.getElem?_eq_none hge] at e3; cases e3
    obtain ⟨g', o', e, hg', hc⟩ := hrd.cells h0
    cases e
    have hc' : ∀ j, j < bs.length → w.cell? ⟨g, j, none⟩ = some (B (bs.getD j 0)) := fun j hj => by
      have := hc j (by omega)
      rwa [Nat.zero_add] at this
    refine ⟨g, rfl, e2, hlt, fun j hj => hc' j (by omega), fun j => by simp [World.frozen?, e3], fun i x hi => ⟨by rw [List.length_set], hrd.cap, fun _ => ⟨g, 0, rfl, by simpa [World.setCell] using hlt, fun j hj => ?_⟩⟩⟩
    rw [Nat.zero_add]
    have hs : (w.setCell ⟨g, i, none⟩ (B x)).heap[g]? = some (.cells (cur.setIfInBounds i (B x)) 5 (0, 0)) := by
      simp [World.setCell, Array.getElem?_modify, e3]
    have hj' := hc' j (by omega)
    rw [cell_of_row _ g j _ 5 (0, 0) e3] at hj'
    rw [cell_of_row _ g j _ 5 (0, 0) hs]
    by_cases hij : i = j
    · subst hij
      have hb : i < cur.size := by
        rcases Nat.lt_or_ge i cur.size with h | h
        · exact h
        · rw [Array.getElem?_eq_none h] at hj'; cases hj'
      simp [hb, List.getD, show i < bs.length by omega]
    · rw [Array.getElem?_setIfInBounds_ne hij, hj']
      simp [List.getD, List.getElem?_set_ne hij]
end Go.Proofs.YtmimffbjghhdhaaDoor
