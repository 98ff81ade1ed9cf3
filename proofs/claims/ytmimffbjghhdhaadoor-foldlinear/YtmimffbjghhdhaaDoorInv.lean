/- A law on a region that draws its order: what holds whichever operations have come up. Conditions: none. -/
import Derived.Orders
import Derived.KernelRfl
import Derived.WalkKit
namespace Go.Inv
open Go

/-- What each operation waits for. -/
def needs (md : Region.Mode) (ops : Array Oper) : List (List Nat) := ops.toList.map fun o => (o.after.toList.filter fun e => Region.binds md e).map (·.on)
/-- Each waits for earlier ones alone. -/
def back (N : List (List Nat)) : Bool := (List.range N.length).all fun i => (N.getD i []).all fun k => k < i

def upd (b : Nat → Bool) (i : Nat) : Nat → Bool := fun k => k == i || b k

section
variable {P : Program} {ops : Array Oper} {Q : Exit → Act → World → Prop} {md : Region.Mode}

theorem needs_at {i : Nat} {o : Oper} (h : ops[i]? = some o) : (needs md ops).getD i [] = (o.after.toList.filter fun e => Region.binds md e).map (·.on) := by
  unfold needs
  have h' : ops.toList[i]? = some o := by simpa using h
  simp [List.getD, h']

theorem count_pos {l : Array Bool} {i : Nat} (h : l.getD i true = false) : 0 < l.toList.count false := by
  rcases Nat.lt_or_ge i l.size with hi | hi
  · have : l[i] = false := by simpa [hi] using h
    rw [List.count_pos_iff, ← this]
    simp
  · simp [Array.getElem?_eq_none hi] at h

theorem count_set {l : Array Bool} {i : Nat} (h : l.getD i true = false) : (l.setIfInBounds i true).toList.count false + 1 = l.toList.count false := by
  have hp := count_pos h
  rcases Nat.lt_or_ge i l.size with hi | hi
  · have e : l.toList[i]'(by simpa using hi) = false := by simpa [hi] using h
    rw [Array.toList_setIfInBounds, List.count_set (by simpa using hi), e]
    simp only [beq_self_eq_true, if_true, Bool.true_eq_false, beq_iff_eq, if_false, Nat.add_zero, reduceCtorEq]
    omega
  · simp [Array.getElem?_eq_none hi] at h

theorem wpAny_inv (I : Array Bool → Act → World → Prop)
    (hs : ∀ l a w i, I l a w → i ∈ Region.ready md ops l → wpOp P ops Q i (I (l.setIfInBounds i true)) a w)
    (he : ∀ l a w, I l a w → Region.ready md ops l = [] → Q .normal a w) :
    ∀ (fuel : Nat) (l : Array Bool) (a : Act) (w : World), l.toList.count false ≤ fuel → I l a w → wpAny P md ops Q fuel l a w
  | 0, l, a, w, hc, hI => by
    have hr : Region.ready md ops l = [] := by
      rcases hq : Region.ready md ops l with _ | ⟨i, r⟩
      · rfl
      · have hi : i ∈ Region.ready md ops l := by rw [hq]; simp
        have := count_pos (mem_ready.1 hi).1
        omega
    exact ⟨hr, he l a w hI hr⟩
  | fuel + 1, l, a, w, hc, hI =>
    ⟨he l a w hI, fun i hi => wpOp_mono (fun a' w' hI' => wpAny_inv I hs he fuel _ a' w' (by have := count_set (mem_ready.1 hi).1; omega) hI') (hs l a w i hI hi)⟩

theorem all_listed {N : List (List Nat)} (hN : needs md ops = N) (hb : back N = true) {l : Array Bool} (hl : l.size = ops.size) (hr : Region.ready md ops l = []) : ∀ i, i < ops.size → l.getD i false = true := by
  intro i
  induction i using Nat.strongRecOn with
  | _ i ih =>
    intro hi
    rcases hq : l.getD i false with _ | _
    · exfalso
      have ho : ops[i]? = some ops[i] := Array.getElem?_eq_getElem hi
      have hmem : i ∈ Region.ready md ops l := by
        refine mem_ready.2 ⟨?_, ops[i], ho, fun e he hbd => ?_⟩
        · have hil : i < l.size := by omega
          simpa [hil] using hq
        · have hlen : N.length = ops.size := by rw [← hN]; simp [needs]
          have h1 : e.on ∈ N.getD i [] := by
            rw [← hN, needs_at ho, List.mem_map]
            exact ⟨e, by rw [List.mem_filter]; exact ⟨by simpa using he, hbd⟩, rfl⟩
          unfold back at hb
          rw [List.all_eq_true] at hb
          have h2 := hb i (by rw [List.mem_range]; omega)
          rw [List.all_eq_true] at h2
          have h3 := h2 _ h1
          have h4 : e.on < i := by simpa using h3
          exact ih e.on h4 (by omega)
      rw [hr] at hmem
      cases hmem
    · rfl

/-- THE LAW. -/
theorem wp_region_inv {id : Nat} {a : Act} {w : World} (N : List (List Nat)) (n : Nat) (hm : P.follows .mixedOrders = true) (hN : needs .any ops = N) (hb : back N = true) (hn : ops.size = n)
    (I : (Nat → Bool) → Act → World → Prop)
    (h0 : I (fun _ => false) a w.drew)
    (hs : ∀ (b : Nat → Bool) a w i, I b a w → i < n → b i = false → (∀ k ∈ N.getD i [], b k = true) → wpOp P ops Q i (fun a' w' => I (upd b i) a' w') a w)
    (he : ∀ (b : Nat → Bool) a w, I b a w → (∀ i, i < n → b i = true) → Q .normal a w) : (Code.region id ops true).wp P Q a w := by
  subst hn
  refine wp_region_any hm ?_
  refine wpAny_inv (I := fun l a w => l.size = ops.size ∧ I (fun k => l.getD k false) a w) ?_ ?_ ops.size _ a _ ?_ ?_
  · rintro l a w i ⟨hl, hI⟩ hi
    obtain ⟨h1, o, ho, h2⟩ := mem_ready.1 hi
    have hil : i < l.size := by rw [hl]; exact (Array.getElem?_eq_some_iff.1 ho).1
    have hbi : l.getD i false = false := by simpa [hil] using h1
    refine wpOp_mono (fun a' w' h => ⟨by simpa using hl, ?_⟩) (hs _ a w i hI (by omega) hbi (fun k hk => ?_))
    · have e : (fun k => (l.setIfInBounds i true).getD k false) = upd (fun k => l.getD k false) i := by
        funext k
        unfold upd
        by_cases hk : k = i
        · subst hk
          simp [hil]
        · rw [getD_set_ne false (Ne.symm hk)]
          simp [hk]
      rw [e]
      exact h
    · rw [← hN, needs_at ho, List.mem_map] at hk
      obtain ⟨e, he', rfl⟩ := hk
      rw [List.mem_filter] at he'
      exact h2 e (by simpa using he'.1) he'.2
  · rintro l a w ⟨hl, hI⟩ hr
    exact he _ a w hI (all_listed hN hb hl hr)
  · rw [Array.toList_replicate, List.count_replicate_self]
    exact Nat.le_refl _
  · refine ⟨by simp, ?_⟩
    have e : (fun k => (Array.replicate ops.size false).getD k false) = fun _ => false := by
      funext k
      rcases Nat.lt_or_ge k ops.size with hk | hk
      · simp [hk]
      · simp [Array.getElem?_eq_none (show (Array.replicate ops.size false).size ≤ k by simpa using hk)]
    rw [e]
    exact h0

/-- One operation without a guard. -/
theorem wpOp_plain {i : Nat} {o : Oper} {K : Act → World → Prop} {a : Act} {w : World} (ho : ops[i]? = some o) (hg : o.guard = none)
    (h : ∀ K' : Act → World → Prop, (∀ a w, K a w → K' a w) → o.wp P a w K' Q) : wpOp P ops Q i K a w := by
  unfold wpOp
  simp only [ho]
  have hw : Region.wanted o (yielded ops a.tmps) = true := by unfold Region.wanted; rw [hg]
  simp only [hw, if_true]
  exact .inl (h K (fun _ _ h => h))
end
end Go.Inv
