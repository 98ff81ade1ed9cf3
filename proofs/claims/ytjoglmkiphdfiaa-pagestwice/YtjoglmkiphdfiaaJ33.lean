/- Arguments: rows of bools and ints. Conditions: none. Pages taken one by one, in plain words. Conditions: none. -/
import Derived.Test.YtjoglmkiphdfiaaJ32
import Derived.OpenShut
import Derived.ProofKit
import Derived.Deep.Grids
set_option maxRecDepth 8000
namespace Go.Proofs.Ytjoglmkiphdfiaa
open Go.ChangeShapes Go.WideShapes Go.ChangeAt Go.RowKit Go.Bs Go.Dk Go.Deep

/-- what a law is told of a slice of bools that came in. -/
def IsQ (w : World) (a : Option Addr) (len cap : Nat) : Prop := len ≤ maxLen ∧ ∃ ks, RdQ w a len cap ks
def IsI (w : World) (a : Option Addr) (len cap : Nat) : Prop := len ≤ maxLen ∧ ∃ zs, RdI w a len cap zs
def IsB (w : World) (a : Option Addr) (len cap : Nat) : Prop := len ≤ maxLen ∧ ∃ bs, Rd w a len cap bs

theorem cells_at {w : World} {x : Addr} {n : Nat} {V : Nat → Value} (h : ∀ i, i < n → w.cell? (x.add i) = some (V i)) (h0 : 0 < n) : ∃ g o, x = ⟨g, o, none⟩ ∧ g < w.heap.size ∧ ∀ i, i < n → w.cell? ⟨g, o + i, none⟩ = some (V i) := by
  obtain ⟨g, o, spot⟩ := x
  have hspot : spot = none := by simpa [Addr.add] using World.cell?_spot (h 0 h0)
  subst hspot
  refine ⟨g, o, rfl, ?_, fun i hi => by have := h i hi; rwa [addr_add] at this⟩
  have := h 0 h0
  rcases Nat.lt_or_ge g w.heap.size with hlt | hge
  · exact hlt
  · rw [addr_add] at this; simp [World.cell?, Array.getElem?_eq_none hge] at this

theorem cells4 : Try.prog.cellsOf 4 = 1 := by kernel_rfl
section
variable {H : Type} {enc : TypeId × Value → H} {w : World} {base : Nat} {held : Bool}
theorem IsQ.of {fuel : Nat} {a : Option Addr} {len cap : Nat} {x : DataW H × List MemPlace} (hf : DataW.trod enc Try.prog w base (fun _ => true) held fuel 37 [.slice a len cap] = some x) : IsQ w a len cap := by
  rcases open_bools Try.underlying37 Try.underlying4 cells4 hf with ⟨hcs, _⟩ | ⟨x, l, c, B, hcs, _, hl, hm, _, hc⟩
  · simp at hcs
    obtain ⟨rfl, rfl, rfl⟩ := hcs
    exact ⟨Nat.zero_le _, [], RdQ.nil _ _ _⟩
  · simp at hcs
    obtain ⟨rfl, rfl, rfl⟩ := hcs
    refine ⟨by omega, (List.range len).map B, by simp, hl, fun h0 => ?_⟩
    obtain ⟨g, o, rfl, hg, hcc⟩ := cells_at hc (by omega)
    exact ⟨g, o, rfl, hg, fun j hj => by rw [hcc j (by omega)]; simp [List.getD, hj]⟩
theorem IsI.of {fuel : Nat} {a : Option Addr} {len cap : Nat} {x : DataW H × List MemPlace} (hf : DataW.trod enc Try.prog w base (fun _ => true) held fuel 22 [.slice a len cap] = some x) : IsI w a len cap := by
  rcases open_ints Try.underlying22 Try.underlying3 (by kernel_rfl) hf with ⟨hcs, _⟩ | ⟨x, l, c, zs, hcs, _, hl, hm, hz, _, hcell, hwz⟩
  · simp at hcs
    obtain ⟨rfl, rfl, rfl⟩ := hcs
    exact rdI_of_row (.inl ⟨rfl, rfl, rfl, rfl⟩)
  · simp at hcs
    obtain ⟨rfl, rfl, rfl⟩ := hcs
    exact rdI_of_row (.inr ⟨_, rfl, hl, hm, by simpa using hz, hcell, hwz⟩)
theorem IsB.of {fuel : Nat} {a : Option Addr} {len cap : Nat} {x : DataW H × List MemPlace} (hf : DataW.trod enc Try.prog w base (fun _ => true) held fuel 38 [.slice a len cap] = some x) : IsB w a len cap := by
  rcases open_ints Try.underlying38 Try.underlying5 (by kernel_rfl) hf with ⟨hcs, _⟩ | ⟨x, l, c, zs, hcs, _, hl, hm, hz, _, hcell, hwz⟩
  · simp at hcs
    obtain ⟨rfl, rfl, rfl⟩ := hcs
    exact rd_of_row (.inl ⟨rfl, rfl, rfl, rfl⟩)
  · simp at hcs
    obtain ⟨rfl, rfl, rfl⟩ := hcs
    exact rd_of_row (.inr ⟨_, rfl, hl, hm, by simpa using hz, hcell, hwz⟩)
end
end Go.Proofs.Ytjoglmkiphdfiaa

set_option maxRecDepth 8000
namespace Go.Proofs.Ytjoglmkiphdfiaa.Rp
open Go.RowKit Go.Bs Go.Dk

def markB (Bz p : Nat) : List UInt8 := (zeros Bz).set 0 (UInt8.ofNat (p % 255 + 1))
theorem markB_len (Bz p : Nat) : (markB Bz p).length = Bz := by unfold markB; rw [List.length_set, zeros_length]
structure Tw (N Bz M : Nat) (T : TX) (U : Nat → Bool) (left : Nat) : Prop where
  live : T.done = false
  d : Dm N Bz M T.L
  ro : le32 (T.L M) = 0
  us : ∀ p : Nat, p < N → U p = usedP N Bz M T.L (p : Int)
  lf : freeN N Bz M T.L N = left
  by_ : ∀ p : Nat, p < N → usedP N Bz M T.L (p : Int) = true → T.L p = markB Bz p
theorem Tw.new {N Bz M : Nat} (h : Dm N Bz M (fun _ => zeros Bz)) : Tw N Bz M (TX.new fun _ => zeros Bz) (fun _ => false) (N - (M + 1)) :=
  ⟨rfl, h, by
    show le32 (zeros Bz) = 0
    rw [zeros_enc Bz h.b0]
    exact le32_enc Bz 0 h.b0 (by omega), fun p _ => (zeros_used N Bz M p).symm, by
    show freeN N Bz M (fun _ => zeros Bz) N = _
    exact free_fst (j := 0) (fun p => (Fst.new h).used p), fun p _ hu => by
    have : usedP N Bz M (fun _ => zeros Bz) (p : Int) = true := hu
    rw [zeros_used] at this
    cases this⟩
theorem Tw.full {N Bz M : Nat} {T : TX} {U : Nat → Bool} (h : Tw N Bz M T U 0) : T.take N Bz M = (T, 0, 6) := by
  have hf : (List.range N).find? (freeAt N Bz M T.L) = none := by
    have := h.lf
    unfold freeN at this
    have h0 := List.eq_nil_of_length_eq_zero this
    refine find_none fun j hj => ?_
    cases hfr : freeAt N Bz M T.L j
    · rfl
    · have : j ∈ (List.range N).filter (freeAt N Bz M T.L) := List.mem_filter.2 ⟨List.mem_range.2 hj, hfr⟩
      rw [h0] at this
      cases this
  unfold TX.take
  rw [h.live, hf]
  rfl
/-- the lowest one is taken, has bytes 00, and is written. -/
theorem Tw.take {N Bz M : Nat} {T : TX} {U : Nat → Bool} {left : Nat} (h : Tw N Bz M T U left) (h0 : left ≠ 0) :
    ∃ r : Nat, M < r ∧ r < N ∧ U r = false ∧ (T.take N Bz M).2 = ((r : Int), 0) ∧ (T.take N Bz M).1.read N Bz M (r : Int) = (zeros Bz, 0) ∧ ((T.take N Bz M).1.write N Bz M (r : Int) (markB Bz r)).2 = 0 ∧ Tw N Bz M ((T.take N Bz M).1.write N Bz M (r : Int) (markB Bz r)).1 (upd U r true) (left - 1) := by
  have hmem : ∃ r, r < N ∧ freeAt N Bz M T.L r = true := by
    refine Classical.byContradiction fun hno => h0 ?_
    rw [← h.lf]
    unfold freeN
    rw [List.filter_eq_nil_iff.2 (fun i hi hf => hno ⟨i, List.mem_range.1 hi, hf⟩)]
    rfl
  obtain ⟨r, hf⟩ : ∃ r, (List.range N).find? (freeAt N Bz M T.L) = some r := by
    cases hfi : (List.range N).find? (freeAt N Bz M T.L) with
    | none =>
      obtain ⟨r, hr, hfr⟩ := hmem
      have := List.find?_eq_none.1 hfi r (List.mem_range.2 hr)
      exact absurd hfr this
    | some r => exact ⟨r, rfl⟩
  have hrN : r < N := List.mem_range.1 (List.mem_of_find?_eq_some hf)
  have hfr : freeAt N Bz M T.L r = true := List.find?_some hf
  rw [free_used] at hfr
  have hr1 : M < r := by
    cases hd : decide (M < r)
    · rw [hd] at hfr; cases hfr
    · simpa using hd
  have hur : usedP N Bz M T.L (r : Int) = false := by
    cases hu : usedP N Bz M T.L (r : Int)
    · rfl
    · rw [hu] at hfr; simp at hfr
  have hp : M < r ∧ r < N := ⟨hr1, hrN⟩
  have htk : T.take N Bz M = ({ T with L := Dk.upd (turnP Bz T.L r) r (zeros Bz), W := Dk.upd T.W r true }, (r : Int), 0) := by
    unfold TX.take
    rw [h.live, hf]
    rfl
  have hdt := h.d.turn r hrN
  have hd1 : Dm N Bz M (Dk.upd (turnP Bz T.L r) r (zeros Bz)) := hdt.upd _ _ (zeros_length _)
  have hu1 : ∀ j : Int, usedP N Bz M (Dk.upd (turnP Bz T.L r) r (zeros Bz)) j = if j = (r : Int) then true else usedP N Bz M T.L j := fun j => by
    rw [usedP_congr hdt (fun k hk => upd_other _ _ _ _ (by omega)), usedP_turn h.d r hp]
    by_cases e : j = (r : Int)
    · rw [if_pos e, if_pos e, e, hur]; rfl
    · rw [if_neg e, if_neg e]
  have hur1 : usedP N Bz M (Dk.upd (turnP Bz T.L r) r (zeros Bz)) (r : Int) = true := by rw [hu1, if_pos rfl]
  have htn : ((r : Int)).toNat = r := by omega
  have hrd : (T.take N Bz M).1.read N Bz M (r : Int) = (zeros Bz, 0) := by
    rw [htk]
    unfold TX.read
    rw [h.live, hur1]
    show (Dk.upd (turnP Bz T.L r) r (zeros Bz) ((r : Int)).toNat, (0 : Int)) = _
    rw [htn, upd_same]
  have hwr : (T.take N Bz M).1.write N Bz M (r : Int) (markB Bz r) = ({ T with L := Dk.upd (Dk.upd (turnP Bz T.L r) r (zeros Bz)) r (markB Bz r), W := Dk.upd (Dk.upd T.W r true) r true }, 0) := by
    rw [htk]
    unfold TX.write
    have hdc : decide ((markB Bz r).length ≠ Bz) = false := by simp [markB_len]
    rw [h.live, hur1, hdc, htn]
    simp only [Bool.not_true, Bool.false_or, Bool.false_eq_true, if_false]
  refine ⟨r, hr1, hrN, (h.us r hrN).trans hur, by rw [htk], hrd, by rw [hwr], ?_⟩
  rw [hwr, upd_twice]
  have hlow : ∀ k, k < M → Dk.upd (turnP Bz T.L r) r (markB Bz r) k = Dk.upd (turnP Bz T.L r) r (zeros Bz) k := fun k hk => by rw [upd_other _ _ _ _ (by omega), upd_other _ _ _ _ (by omega)]
  have hu2 : ∀ j : Int, usedP N Bz M (Dk.upd (turnP Bz T.L r) r (markB Bz r)) j = if j = (r : Int) then true else usedP N Bz M T.L j := fun j => (usedP_congr hd1 hlow j).trans (hu1 j)
  refine ⟨h.live, hdt.upd _ _ (markB_len _ _), ?_, fun p hpN => ?_, ?_, fun p hpN hu => ?_⟩
  · show le32 (Dk.upd (turnP Bz T.L r) r (markB Bz r) M) = 0
    rw [upd_other _ _ _ _ (by omega), turnP_hi h.d r hrN M (Nat.le_refl _)]
    exact h.ro
  · show upd U r true p = usedP N Bz M (Dk.upd (turnP Bz T.L r) r (markB Bz r)) (p : Int)
    rw [hu2]
    by_cases e : p = r
    · subst e; rw [upd_same, if_pos rfl]
    · rw [upd_other _ _ _ _ e, if_neg (by omega)]; exact h.us p hpN
  · show freeN N Bz M (Dk.upd (turnP Bz T.L r) r (markB Bz r)) N = left - 1
    have hc := count_flip (f := freeAt N Bz M (Dk.upd (turnP Bz T.L r) r (markB Bz r))) (f' := freeAt N Bz M T.L) hrN (by rw [free_used, hu2, if_pos rfl]; simp) (by rw [free_used, hur]; simp [hr1]) (fun k hk => by rw [free_used, free_used, hu2, if_neg (by omega)])
    have := h.lf
    unfold freeN at this ⊢
    omega
  · have hu' : usedP N Bz M (Dk.upd (turnP Bz T.L r) r (markB Bz r)) (p : Int) = true := hu
    rw [hu2] at hu'
    show Dk.upd (turnP Bz T.L r) r (markB Bz r) p = markB Bz p
    by_cases e : p = r
    · subst e; rw [upd_same]
    · rw [if_neg (by omega)] at hu'
      obtain ⟨q', e', h2, h3⟩ := used_nat hu'
      rw [upd_other _ _ _ _ e, turnP_hi h.d r hrN p (by omega)]
      exact h.by_ p hpN hu'
/-- one that is used is given back, and then no more. -/
theorem Tw.give {N Bz M : Nat} {T : TX} {U : Nat → Bool} {left : Nat} (h : Tw N Bz M T U left) (p : Nat) (hpN : p < N) (hu : U p = true) :
    (T.give N Bz M (p : Int)).2 = 0 ∧ Tw N Bz M (T.give N Bz M (p : Int)).1 (upd U p false) (left + 1) ∧ (T.give N Bz M (p : Int)).1.give N Bz M (p : Int) = ((T.give N Bz M (p : Int)).1, 1) := by
  have hus : usedP N Bz M T.L (p : Int) = true := (h.us p hpN).symm.trans hu
  have hp : M < p ∧ p < N := by obtain ⟨q', e, h1, h2⟩ := used_nat hus; omega
  have hnr : decide ((p : Int) = ((0 : Nat) : Int)) = false := by simp; omega
  have htn : ((p : Int)).toNat = p := by omega
  have hg : T.give N Bz M (p : Int) = ({ T with L := turnP Bz T.L p }, 0) := by
    unfold TX.give
    rw [h.live, hus, h.ro, hnr, htn]
    simp only [Bool.not_true, Bool.false_or, Bool.false_eq_true, if_false]
  have hut := fun j => usedP_turn h.d p hp j
  have huf : usedP N Bz M (turnP Bz T.L p) (p : Int) = false := by rw [hut, if_pos rfl, hus]; rfl
  rw [hg]
  refine ⟨rfl, ⟨h.live, h.d.turn p hp.2, ?_, fun k hk => ?_, ?_, fun k hk hk' => ?_⟩, ?_⟩
  · show le32 (turnP Bz T.L p M) = 0
    rw [turnP_hi h.d p hp.2 M (Nat.le_refl _)]; exact h.ro
  · show upd U p false k = usedP N Bz M (turnP Bz T.L p) (k : Int)
    by_cases e : k = p
    · subst e; rw [upd_same, huf]
    · rw [upd_other _ _ _ _ e, hut, if_neg (by omega)]; exact h.us k hk
  · show freeN N Bz M (turnP Bz T.L p) N = left + 1
    rw [free_give h.d p hp hus, h.lf]
  · have hk2 : usedP N Bz M (turnP Bz T.L p) (k : Int) = true := hk'
    rw [hut] at hk2
    have hkp : k ≠ p := fun e => by subst e; rw [if_pos rfl, hus] at hk2; cases hk2
    rw [if_neg (by omega)] at hk2
    obtain ⟨q', e', h2, h3⟩ := used_nat hk2
    show turnP Bz T.L p k = markB Bz k
    rw [turnP_hi h.d p hp.2 k (by omega)]
    exact h.by_ k hk hk2
  · show TX.give N Bz M { T with L := turnP Bz T.L p } (p : Int) = _
    unfold TX.give
    rw [huf]
    simp
end Go.Proofs.Ytjoglmkiphdfiaa.Rp

