/- Eight new variables, made in whichever order. Conditions: none. -/
import Derived.Test.YtmimffbjghhdhaaDoorVar8
namespace Go.Sha
open Go.RowKit Go.Bs Go.Inv

def setv (u : Nat → Value) (i : Nat) (y : Value) : Nat → Value := fun k => if k = i then y else u k
theorem setv_eq (u : Nat → Value) (i : Nat) (y : Value) : setv u i y i = y := by simp [setv]
theorem setv_ne (u : Nat → Value) (i k : Nat) (y : Value) (h : k ≠ i) : setv u i y k = u k := by simp [setv, h]

structure Made (N : Nat) (w0 : World) (x : Nat → Nat) (b : Nat → Bool) (al : Nat → Value) (w : World) : Prop where
  below : Below N w0 w
  size : N ≤ w.heap.size
  cel : ∀ j, j < 8 → b (16 + j) = true → ∃ q, al j = .pointer (some ⟨q, 0, none⟩) ∧ N ≤ q ∧ q < w.heap.size ∧ Cel w q (if b (24 + j) then x j else 0)
  dis : ∀ i j, i < 8 → j < 8 → i ≠ j → b (16 + i) = true → b (16 + j) = true → al i ≠ al j
  st : ∀ j, j < 8 → b (24 + j) = true → b (16 + j) = true

theorem Made.slot {N : Nat} {w0 : World} {x : Nat → Nat} {b : Nat → Bool} {al : Nat → Value} {w : World} (h : Made N w0 x b al w) (i : Nat) (hi : i < 16) : Made N w0 x (upd b i) al w where
  below := h.below
  size := h.size
  cel j hj h1 := by rw [upd_ne (by omega)] at h1 ⊢; exact h.cel j hj h1
  dis i j hi hj hne h1 h2 := by rw [upd_ne (by omega)] at h1 h2; exact h.dis i j hi hj hne h1 h2
  st j hj h1 := by rw [upd_ne (by omega)] at h1 ⊢; exact h.st j hj h1

theorem Cel.new (w : World) (g x : Nat) (h : Cel w g x) (o : Obj) : Cel (w.alloc o) g x := by
  have hlt : g < w.heap.size := by
    rcases Nat.lt_or_ge g w.heap.size with hlt | hge
    · exact hlt
    · unfold Cel at h; rw [Array.getElem?_eq_none hge] at h; cases h
  exact (((Below.refl w.heap.size w).alloc (Nat.le_refl _) o).block g hlt).trans h

theorem Made.alloc {N : Nat} {w0 : World} {x : Nat → Nat} {b : Nat → Bool} {al : Nat → Value} {w : World} (h : Made N w0 x b al w) (j : Nat) (hj : j < 8) (hb : b (16 + j) = false) :
    Made N w0 x (upd b (16 + j)) (setv al j (.pointer (some ⟨w.heap.size, 0, none⟩))) (w.alloc (.cells #[.int .u32 0] 41)) where
  below := h.below.alloc h.size _
  size := by simp; have := h.size; omega
  cel i hi h1 := by
    by_cases e : i = j
    · subst e
      refine ⟨w.heap.size, setv_eq _ _ _, h.size, by simp, ?_⟩
      have h2 : b (24 + i) = false := by
        cases hq : b (24 + i) with
        | false => rfl
        | true => rw [h.st i hi hq] at hb; cases hb
      rw [upd_ne (by omega), h2]
      exact heap_alloc_new w _
    · rw [upd_ne (by omega)] at h1
      obtain ⟨q, e1, e2, e3, e4⟩ := h.cel i hi h1
      refine ⟨q, (setv_ne _ _ _ _ e).trans e1, e2, by simp; omega, ?_⟩
      rw [upd_ne (by omega)]
      exact e4.new w q _ _
  dis i k hi hk hne h1 h2 := by
    by_cases e : i = j
    · subst e
      rw [upd_ne (by omega)] at h2
      obtain ⟨q, e1, e2, e3, e4⟩ := h.cel k hk h2
      rw [setv_eq, setv_ne _ _ _ _ (Ne.symm hne), e1]
      intro hc
      injection hc with hc
      injection hc with hc
      injection hc with hc
      omega
    · by_cases e' : k = j
      · subst e'
        rw [upd_ne (by omega)] at h1
        obtain ⟨q, e1, e2, e3, e4⟩ := h.cel i hi h1
        rw [setv_eq, setv_ne _ _ _ _ e, e1]
        intro hc
        injection hc with hc
        injection hc with hc
        injection hc with hc
        omega
      · rw [upd_ne (by omega)] at h1 h2
        rw [setv_ne _ _ _ _ e, setv_ne _ _ _ _ e']
        exact h.dis i k hi hk hne h1 h2
  st i hi h1 := by
    rw [upd_ne (by omega)] at h1
    exact upd_mono (h.st i hi h1)

theorem Made.store {N : Nat} {w0 : World} {x : Nat → Nat} {b : Nat → Bool} {al : Nat → Value} {w : World} (h : Made N w0 x b al w) (j : Nat) (hj : j < 8) (hb : b (16 + j) = true) (q : Nat) (hq : al j = .pointer (some ⟨q, 0, none⟩)) :
    Made N w0 x (upd b (24 + j)) al (w.setCell ⟨q, 0, none⟩ (U (x j))) where
  below := by
    obtain ⟨q', e1, e2, e3, e4⟩ := h.cel j hj hb
    have : q = q' := by rw [hq] at e1; injection e1 with e1; injection e1 with e1; injection e1
    subst this
    exact h.below.setCell e2 _
  size := by simpa [World.setCell] using h.size
  cel i hi h1 := by
    rw [upd_ne (by omega)] at h1
    obtain ⟨q', e1, e2, e3, e4⟩ := h.cel i hi h1
    refine ⟨q', e1, e2, by simpa [World.setCell] using e3, ?_⟩
    by_cases e : i = j
    · subst e
      have : q = q' := by rw [hq] at e1; injection e1 with e1; injection e1 with e1; injection e1
      subst this
      rw [upd_eq]
      exact e4.set _
    · rw [upd_ne (by omega)]
      refine e4.other _ (fun hc => ?_)
      subst hc
      exact h.dis i j hi hj e h1 hb (by rw [e1, hq])
  dis i k hi hk hne h1 h2 := by
    rw [upd_ne (by omega)] at h1 h2
    exact h.dis i k hi hk hne h1 h2
  st i hi h1 := by
    by_cases e : i = j
    · subst e; exact upd_mono hb
    · rw [upd_ne (by omega)] at h1
      exact upd_mono (h.st i hi h1)

/-- when all are made and filled. -/
theorem Made.done {N : Nat} {w0 : World} {x : Nat → Nat} {b : Nat → Bool} {al : Nat → Value} {w : World} (h : Made N w0 x b al w) (hall : ∀ i, i < 32 → b i = true) :
    ∃ q : Nat → Nat, (∀ j, j < 8 → al j = .pointer (some ⟨q j, 0, none⟩) ∧ N ≤ q j ∧ q j < w.heap.size ∧ Cel w (q j) (x j)) ∧ ∀ i j, i < 8 → j < 8 → i ≠ j → q i ≠ q j := by
  have h1 : ∀ j, ∃ q, j < 8 → al j = .pointer (some ⟨q, 0, none⟩) ∧ N ≤ q ∧ q < w.heap.size ∧ Cel w q (x j) := by
    intro j
    by_cases hj : j < 8
    · obtain ⟨q, e1, e2, e3, e4⟩ := h.cel j hj (hall _ (by omega))
      rw [hall (24 + j) (by omega), if_pos rfl] at e4
      exact ⟨q, fun _ => ⟨e1, e2, e3, e4⟩⟩
    · exact ⟨0, fun h => absurd h hj⟩
  refine ⟨fun j => (h1 j).choose, fun j hj => (h1 j).choose_spec hj, fun i j hi hj hne he => ?_⟩
  have e1 := ((h1 i).choose_spec hi).1
  have e2 := ((h1 j).choose_spec hj).1
  have he' : (h1 i).choose = (h1 j).choose := he
  exact h.dis i j hi hj hne (hall _ (by omega)) (hall _ (by omega)) (by rw [e1, e2, he'])
theorem upd_slots16 {b : Nat → Bool} {u val : Nat → Value} (h : ∀ k, k < 16 → b k = true → u k = val k) (i : Nat) : ∀ k, k < 16 → upd b i k = true → setv u i (val i) k = val k := by
  intro k hk h1
  by_cases e : k = i
  · subst e; exact setv_eq _ _ _
  · rw [upd_ne e] at h1; rw [setv_ne _ _ _ _ e]; exact h k hk h1
theorem upd_other16 {b : Nat → Bool} {u val : Nat → Value} (h : ∀ k, k < 16 → b k = true → u k = val k) (i : Nat) (hi : 16 ≤ i) : ∀ k, k < 16 → upd b i k = true → u k = val k := by
  intro k hk h1
  rw [upd_ne (by omega)] at h1
  exact h k hk h1
end Go.Sha
