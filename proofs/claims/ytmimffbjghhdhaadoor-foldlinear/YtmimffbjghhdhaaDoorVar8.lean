/- Eight variables of a word each, turned one after another in an order that is partly open. Conditions: none. -/
import Derived.Test.YtmimffbjghhdhaaDoorW32
import Derived.Test.YtmimffbjghhdhaaDoorInv
namespace Go.Sha
open Go.RowKit Go.Bs Go.Inv

/-- Nothing but these blocks has turned. -/
structure Only (ps : List Nat) (w w' : World) : Prop where
  os : w'.os = w.os
  tape : w'.tape = w.tape
  output : w'.output = w.output
  size : w'.heap.size = w.heap.size
  block : ∀ k, k ∉ ps → w'.heap[k]? = w.heap[k]?
theorem Only.refl (ps : List Nat) (w : World) : Only ps w w := ⟨rfl, rfl, rfl, rfl, fun _ _ => rfl⟩
theorem Only.drew {ps : List Nat} {w w' : World} (h : Only ps w w') : Only ps w w'.drew := ⟨h.os, h.tape, h.output, h.size, h.block⟩
theorem Only.trans {ps : List Nat} {a b c : World} (h : Only ps a b) (k : Only ps b c) : Only ps a c :=
  ⟨k.os.trans h.os, k.tape.trans h.tape, k.output.trans h.output, k.size.trans h.size, fun i hi => (k.block i hi).trans (h.block i hi)⟩
theorem Only.set {ps : List Nat} {w w' : World} (h : Only ps w w') {g : Nat} (hg : g ∈ ps) (i : Nat) (v : Value) : Only ps w (w'.setCell ⟨g, i, none⟩ v) :=
  ⟨h.os, h.tape, h.output, by simpa [World.setCell] using h.size, fun k hk => (Below.heap_setCell w' ⟨g, i, none⟩ v k (fun e => hk (by rw [e]; exact hg))).trans (h.block k hk)⟩
theorem Only.below {ps : List Nat} {w w' v : World} {N : Nat} (hb : Below N v w) (h : Only ps w w') (hp : ∀ g ∈ ps, N ≤ g) : Below N v w' :=
  ⟨h.os.trans hb.os, h.tape.trans hb.tape, h.output.trans hb.output, by rw [h.size]; exact hb.size, fun k hk => (h.block k (fun hm => by have := hp k hm; omega)).trans (hb.block k hk)⟩

def Cel (w : World) (g x : Nat) : Prop := w.heap[g]? = some (.cells #[U x] 41 (0, 0))
theorem Cel.cell {w : World} {g x : Nat} (h : Cel w g x) : w.cell? ⟨g, 0, none⟩ = some (U x) := by rw [cell_of_row w g 0 _ 41 (0, 0) h]; rfl
theorem Cel.frozen {w : World} {g x : Nat} (h : Cel w g x) : w.frozen? ⟨g, 0, none⟩ = false := by unfold Cel at h; simp [World.frozen?, h]
theorem Cel.set {w : World} {g x : Nat} (h : Cel w g x) (y : Nat) : Cel (w.setCell ⟨g, 0, none⟩ (U y)) g y := by
  unfold Cel at h ⊢
  simp [World.setCell, Array.getElem?_modify, h]
theorem Cel.other {w : World} {g g' x : Nat} (h : Cel w g x) (v : Value) (hne : g ≠ g') : Cel (w.setCell ⟨g', 0, none⟩ v) g x :=
  (Below.heap_setCell w ⟨g', 0, none⟩ v g hne).trans h

def ps8 (p : Nat → Nat) : List Nat := [p 0, p 1, p 2, p 3, p 4, p 5, p 6, p 7]
theorem ps8_mem (p : Nat → Nat) (j : Nat) (hj : j < 8) : p j ∈ ps8 p := by
  have : j = 0 ∨ j = 1 ∨ j = 2 ∨ j = 3 ∨ j = 4 ∨ j = 5 ∨ j = 6 ∨ j = 7 := by omega
  rcases this with h | h | h | h | h | h | h | h <;> subst h <;> simp [ps8]

/-- The state's words, as the variables lie: h g f e d c b a. -/
def St.at (s : St) : Nat → Nat
  | 0 => s.h
  | 1 => s.g
  | 2 => s.f
  | 3 => s.e
  | 4 => s.d
  | 5 => s.c
  | 6 => s.b
  | _ => s.a

structure Vars (w : World) (p : Nat → Nat) (s : St) : Prop where
  cel : ∀ j, j < 8 → Cel w (p j) (s.at j)
  inj : ∀ i j, i < 8 → j < 8 → i ≠ j → p i ≠ p j

theorem Vars.only {w w' : World} {p : Nat → Nat} {s : St} {ps : List Nat} (h : Vars w p s) (ho : Only ps w w') (hd : ∀ j, j < 8 → p j ∉ ps) : Vars w' p s :=
  ⟨fun j hj => (ho.block _ (hd j hj)).trans (h.cel j hj), h.inj⟩
theorem Vars.drew {w : World} {p : Nat → Nat} {s : St} (h : Vars w p s) : Vars w.drew p s := ⟨h.cel, h.inj⟩
theorem Vars.keep {w w' : World} {p : Nat → Nat} {s : St} (h : Vars w p s) (hb : Below w.heap.size w w') : Vars w' p s :=
  ⟨fun j hj => (hb.block _ (by
    have := h.cel j hj
    rcases Nat.lt_or_ge (p j) w.heap.size with hlt | hge
    · exact hlt
    · unfold Cel at this; rw [Array.getElem?_eq_none hge] at this; cases this)).trans (h.cel j hj), h.inj⟩

/-- In the midst of the turning: which of the stores 12 .. 19 have come up. -/
structure Mid (w0 : World) (p : Nat → Nat) (ol nw : Nat → Nat) (b : Nat → Bool) (w : World) : Prop where
  cel : ∀ j, j < 8 → Cel w (p j) (if b (12 + j) then nw j else ol j)
  only : Only (ps8 p) w0 w
  chain : ∀ j, j < 7 → b (13 + j) = true → b (12 + j) = true
  l0 : b 12 = true → b 0 = true
  l1 : b 13 = true → b 1 = true
  l2 : b 14 = true → b 2 = true
  l3 : b 15 = true → b 3 = true
  l4 : b 16 = true → b 6 = true
  l5 : b 17 = true → b 7 = true
  l6 : b 18 = true → b 8 = true

theorem upd_ne {b : Nat → Bool} {i k : Nat} (h : k ≠ i) : upd b i k = b k := by unfold upd; simp [h]
theorem upd_eq {b : Nat → Bool} {i : Nat} : upd b i i = true := by unfold upd; simp
theorem upd_mono {b : Nat → Bool} {i k : Nat} (h : b k = true) : upd b i k = true := by unfold upd; simp [h]

theorem Mid.slot {w0 : World} {p ol nw : Nat → Nat} {b : Nat → Bool} {w : World} (h : Mid w0 p ol nw b w) (i : Nat) (hi : i < 12) : Mid w0 p ol nw (upd b i) w where
  cel j hj := by rw [upd_ne (by omega)]; exact h.cel j hj
  only := h.only
  chain j hj h1 := by rw [upd_ne (by omega)] at h1 ⊢; exact h.chain j hj h1
  l0 h1 := by rw [upd_ne (by omega)] at h1; exact upd_mono (h.l0 h1)
  l1 h1 := by rw [upd_ne (by omega)] at h1; exact upd_mono (h.l1 h1)
  l2 h1 := by rw [upd_ne (by omega)] at h1; exact upd_mono (h.l2 h1)
  l3 h1 := by rw [upd_ne (by omega)] at h1; exact upd_mono (h.l3 h1)
  l4 h1 := by rw [upd_ne (by omega)] at h1; exact upd_mono (h.l4 h1)
  l5 h1 := by rw [upd_ne (by omega)] at h1; exact upd_mono (h.l5 h1)
  l6 h1 := by rw [upd_ne (by omega)] at h1; exact upd_mono (h.l6 h1)

theorem Mid.store {w0 : World} {p ol nw : Nat → Nat} {b : Nat → Bool} {w : World} (h : Mid w0 p ol nw b w) (inj : ∀ i j, i < 8 → j < 8 → i ≠ j → p i ≠ p j) (j : Nat) (hj : j < 8) (hc : 0 < j → b (11 + j) = true)
    (hl : ∀ k, k < 12 → (j = 0 ∧ k = 0 ∨ j = 1 ∧ k = 1 ∨ j = 2 ∧ k = 2 ∨ j = 3 ∧ k = 3 ∨ j = 4 ∧ k = 6 ∨ j = 5 ∧ k = 7 ∨ j = 6 ∧ k = 8) → b k = true) :
    Mid w0 p ol nw (upd b (12 + j)) (w.setCell ⟨p j, 0, none⟩ (U (nw j))) where
  cel i hi := by
    by_cases hij : i = j
    · subst hij
      rw [upd_eq]
      exact (h.cel i hi).set _
    · rw [upd_ne (by omega)]
      exact (h.cel i hi).other _ (inj i j hi hj hij)
  only := h.only.set (ps8_mem p j hj) _ _
  chain i hi h1 := by
    by_cases hij : 13 + i = 12 + j
    · have := hc (by omega)
      exact upd_mono (by rw [show 12 + i = 11 + j by omega]; exact this)
    · rw [upd_ne hij] at h1
      exact upd_mono (h.chain i hi h1)
  l0 h1 := by
    by_cases e : j = 0
    · exact upd_mono (hl 0 (by omega) (by omega))
    · rw [upd_ne (by omega)] at h1; exact upd_mono (h.l0 h1)
  l1 h1 := by
    by_cases e : j = 1
    · exact upd_mono (hl 1 (by omega) (by omega))
    · rw [upd_ne (by omega)] at h1; exact upd_mono (h.l1 h1)
  l2 h1 := by
    by_cases e : j = 2
    · exact upd_mono (hl 2 (by omega) (by omega))
    · rw [upd_ne (by omega)] at h1; exact upd_mono (h.l2 h1)
  l3 h1 := by
    by_cases e : j = 3
    · exact upd_mono (hl 3 (by omega) (by omega))
    · rw [upd_ne (by omega)] at h1; exact upd_mono (h.l3 h1)
  l4 h1 := by
    by_cases e : j = 4
    · exact upd_mono (hl 6 (by omega) (by omega))
    · rw [upd_ne (by omega)] at h1; exact upd_mono (h.l4 h1)
  l5 h1 := by
    by_cases e : j = 5
    · exact upd_mono (hl 7 (by omega) (by omega))
    · rw [upd_ne (by omega)] at h1; exact upd_mono (h.l5 h1)
  l6 h1 := by
    by_cases e : j = 6
    · exact upd_mono (hl 8 (by omega) (by omega))
    · rw [upd_ne (by omega)] at h1; exact upd_mono (h.l6 h1)

/-- what a load finds that has not come up. -/
theorem Mid.old {w0 : World} {p ol nw : Nat → Nat} {b : Nat → Bool} {w : World} (h : Mid w0 p ol nw b w) (j k : Nat) (hj : j < 8)
    (hk : j = 1 ∧ k = 0 ∨ j = 2 ∧ k = 1 ∨ j = 3 ∧ k = 2 ∨ j = 4 ∧ k = 3 ∨ j = 5 ∧ k = 6 ∨ j = 6 ∧ k = 7 ∨ j = 7 ∧ k = 8) (hb : b k = false) : w.cell? ⟨p j, 0, none⟩ = some (U (ol j)) := by
  have hst : b (12 + j) = false := by
    cases hq : b (12 + j) with
    | false => rfl
    | true =>
      exfalso
      have hc := h.chain (j - 1) (by omega) (by rw [show 13 + (j - 1) = 12 + j by omega]; exact hq)
      rcases hk with ⟨rfl, rfl⟩ | ⟨rfl, rfl⟩ | ⟨rfl, rfl⟩ | ⟨rfl, rfl⟩ | ⟨rfl, rfl⟩ | ⟨rfl, rfl⟩ | ⟨rfl, rfl⟩
      · rw [h.l0 hc] at hb; cases hb
      · rw [h.l1 hc] at hb; cases hb
      · rw [h.l2 hc] at hb; cases hb
      · rw [h.l3 hc] at hb; cases hb
      · rw [h.l4 hc] at hb; cases hb
      · rw [h.l5 hc] at hb; cases hb
      · rw [h.l6 hc] at hb; cases hb
  have := h.cel j hj
  rw [hst] at this
  exact this.cell
theorem upd_slots {b : Nat → Bool} {u val : Nat → Value} (h : ∀ k, k < 12 → b k = true → u k = val k) (i : Nat) : ∀ k, k < 12 → upd b i k = true → (if k = i then val i else u k) = val k := by
  intro k hk h1
  by_cases e : k = i
  · subst e; simp
  · rw [upd_ne e] at h1; rw [if_neg e]; exact h k hk h1
theorem upd_store {b : Nat → Bool} {u val : Nat → Value} (h : ∀ k, k < 12 → b k = true → u k = val k) (i : Nat) (hi : 12 ≤ i) : ∀ k, k < 12 → upd b i k = true → u k = val k := by
  intro k hk h1
  rw [upd_ne (by omega)] at h1
  exact h k hk h1
end Go.Sha
