/- Arguments: a node, a text, bytes. Conditions: none. -/
import Derived.Test.YtedhcohpcdkgnaaN1
import Derived.OpenShut
import Derived.ProofKit
import Derived.Deep.Slices
import Derived.Deep.Fields
import Derived.Lib.SmallJoins
import Derived.SliceStrings
import Derived.SizedLaws
namespace Go.Proofs.Ytedhcohpcdkgnaa
open Go.ChangeShapes Go.WideShapes Go.ChangeAt Go.RowKit Go.Bs Go.Deep

theorem reach_eq : reachBytes = 140737488351232 := by decide
theorem weightsAll_mem {H : Type} {P : Program} {e : TypeId} : ∀ {l : List (DataW H)} {d : DataW H}, d ∈ l → ∀ n ∈ d.weights P e, n ∈ DataW.weightsAll P e l
  | a :: l, d, hd, n, hn => by
    simp only [DataW.weightsAll, List.mem_append]
    rcases List.mem_cons.1 hd with rfl | h
    · exact .inl hn
    · exact .inr (weightsAll_mem h n hn)

def IsP (w : World) (a : Option Addr) (len cap : Nat) : Prop := len ≤ maxLen ∧ ∃ ps, RdP w a len cap ps
def IsS (w : World) (a : Option Addr) (len cap : Nat) : Prop := len ≤ maxLen ∧ ∃ ks, RdS w a len cap ks
def IsI (w : World) (a : Option Addr) (len cap : Nat) : Prop := len ≤ maxLen ∧ ∃ zs, RdI w a len cap zs
def IsB (w : World) (a : Option Addr) (len cap : Nat) : Prop := len ≤ maxLen ∧ ∃ bs, Rd w a len cap bs
/-- a node that came in. -/
structure NdA (w : World) (h : Hd) (N : Nd) : Prop where
  at_ : NdAt w h N
  p : h.pl ≤ maxLen
  k : h.kl ≤ maxLen
  c : h.cl ≤ maxLen
/-- what a law is told of a node that came in. -/
structure IsN (w : World) (v : Value) : Prop where
  ex : ∃ (h : Hd) (N : Nd), v = nv h N.leaf ∧ NdA w h N

section
variable {H : Type} {enc : TypeId × Value → H} {w : World} {base : Nat} {held : Bool}
theorem IsI.of {fuel : Nat} {a : Option Addr} {len cap : Nat} {x : DataW H × List MemPlace} (hf : DataW.trod enc Try.prog w base (fun _ => true) held fuel 24 [.slice a len cap] = some x) : IsI w a len cap := by
  rcases open_ints Try.underlying24 Try.underlying3 (by kernel_rfl) hf with ⟨hcs, _⟩ | ⟨x, l, c, zs, hcs, _, hl, hm, hz, _, hcell, hwz⟩
  · simp at hcs
    obtain ⟨rfl, rfl, rfl⟩ := hcs
    exact rdI_of_row (.inl ⟨rfl, rfl, rfl, rfl⟩)
  · simp at hcs
    obtain ⟨rfl, rfl, rfl⟩ := hcs
    exact rdI_of_row (.inr ⟨_, rfl, hl, hm, by simpa using hz, hcell, hwz⟩)
theorem IsB.of {fuel : Nat} {a : Option Addr} {len cap : Nat} {x : DataW H × List MemPlace} (hf : DataW.trod enc Try.prog w base (fun _ => true) held fuel 30 [.slice a len cap] = some x) : IsB w a len cap := by
  rcases open_ints Try.underlying30 Try.underlying5 (by kernel_rfl) hf with ⟨hcs, _⟩ | ⟨x, l, c, zs, hcs, _, hl, hm, hz, _, hcell, hwz⟩
  · simp at hcs
    obtain ⟨rfl, rfl, rfl⟩ := hcs
    exact rd_of_row (.inl ⟨rfl, rfl, rfl, rfl⟩)
  · simp at hcs
    obtain ⟨rfl, rfl, rfl⟩ := hcs
    exact rd_of_row (.inr ⟨_, rfl, hl, hm, by simpa using hz, hcell, hwz⟩)
theorem spot_none {a : Addr} {m : Nat} {cs : List Value} (hm : 0 < m) (h : w.cells? base (a.add 0) m = some cs) : a = ⟨a.block, a.off, none⟩ ∧ a.block < w.heap.size := by
  obtain ⟨g, o, spot⟩ := a
  obtain ⟨_, hlen, hcell⟩ := World.cells?_some h
  have f0 := hcell 0 (by omega)
  rw [List.getElem?_eq_getElem (by omega)] at f0
  have hspot : spot = none := by simpa [Addr.add] using World.cell?_spot f0
  subst hspot
  refine ⟨rfl, ?_⟩
  rcases Nat.lt_or_ge g w.heap.size with hlt | hge
  · exact hlt
  · simp [Addr.add, World.cell?, Array.getElem?_eq_none hge] at f0
theorem IsP.of {fuel : Nat} {a : Option Addr} {len cap : Nat} {x : DataW H × List MemPlace} (hf : DataW.trod enc Try.prog w base (fun _ => true) held fuel 22 [.slice a len cap] = some x)
    (hw : ∀ n ∈ x.1.weights Try.prog 22, n ≤ reachBytes) : IsP w a len cap := by
  rcases open_slice Try.underlying22 hf with ⟨hcs, _⟩ | ⟨a, l, c, m, n, D, Pl, hcs, hb, hl, hm, hmm, rfl, hx⟩
  · simp at hcs
    obtain ⟨rfl, rfl, rfl⟩ := hcs
    exact ⟨Nat.zero_le _, [], RdP.nil _ _ _⟩
  · simp at hcs
    obtain ⟨rfl, rfl, rfl⟩ := hcs
    rw [if_pos rfl] at hmm
    subst hmm
    have ce : Try.prog.cellsOf 49 = 2 := by kernel_rfl
    have ce9 : Try.prog.cellsOf 9 = 1 := by kernel_rfl
    rw [ce] at hx
    have key : ∀ i, ∃ p : Pr, i < len → w.cell? ⟨a.block, a.off + i * 2, none⟩ = some (.string p.1) ∧ w.cell? ⟨a.block, a.off + i * 2 + 1, none⟩ = some (.string p.2) ∧ p.1.size ≤ 140737488351232 ∧ p.2.size ≤ 140737488351232 := by
      intro i
      by_cases hi : i < len
      · obtain ⟨cs', h1, h2⟩ := hx i (by omega)
        obtain ⟨_, hlen, hcell⟩ := World.cells?_some h1
        obtain ⟨xs, k, hk, hxy, _, hxl, hff⟩ := DataW.trod_struct Try.underlying49 h2
        match xs, hxl, cs', hlen with
        | [y0, y1], _, [v0, v1], _ =>
          have g0 := hff 0 _ rfl
          have g1 := hff 1 _ rfl
          simp [ce9] at g0 g1
          obtain ⟨s0, e0, u0, _⟩ := DataW.trod_string Try.underlying9 g0
          obtain ⟨s1, e1, u1, _⟩ := DataW.trod_string Try.underlying9 g1
          simp at e0 e1
          subst e0 e1 u0 u1
          have f0 := hcell 0 (by omega)
          have f1 := hcell 1 (by omega)
          have hD : D i = .agg [.lit (.string s0.data.toList), .lit (.string s1.data.toList)] := by
            simp at hxy
            exact hxy.1
          have hmem : D i ∈ (List.range len).map D := List.mem_map.2 ⟨i, List.mem_range.2 hi, rfl⟩
          have hall : ∀ n ∈ (D i).weights Try.prog 49, n ≤ reachBytes := fun n hn => hw n (by
            simp only [DataW.weights, Try.underlying22, List.mem_cons, List.mem_append]
            exact .inr (.inl (weightsAll_mem hmem n hn)))
          rw [hD, reach_eq] at hall
          have hw0 := hall s0.data.toList.length (by simp [DataW.weights, Try.underlying49, DataW.weightsEach])
          have hw1 := hall s1.data.toList.length (by simp [DataW.weights, Try.underlying49, DataW.weightsEach])
          obtain ⟨cs0, h10, _⟩ := hx 0 (by omega)
          rw [Nat.zero_mul] at h10
          obtain ⟨ha, _⟩ := spot_none (by omega) h10
          rw [ha, addr_add, addr_add] at f0 f1
          exact ⟨(s0, s1), fun _ => ⟨by simpa using f0, by simpa using f1, by simpa using hw0, by simpa using hw1⟩⟩
      · exact ⟨(ByteArray.empty, ByteArray.empty), fun h => absurd h hi⟩
    obtain ⟨f, hf⟩ := Classical.axiomOfChoice key
    refine ⟨by omega, (List.range len).map f, by simp, hl, fun p hp => ?_, fun h0 => ?_⟩
    · obtain ⟨i, hi, rfl⟩ := List.mem_map.1 hp
      have := hf i (List.mem_range.1 hi)
      exact ⟨this.2.2.1, this.2.2.2⟩
    · obtain ⟨cs0, h1, _⟩ := hx 0 (by omega)
      rw [Nat.zero_mul] at h1
      obtain ⟨ha, hlt⟩ := spot_none (by omega) h1
      refine ⟨a.block, a.off, by rw [← ha], hlt, fun j hj => ?_⟩
      have hp : pAt ((List.range len).map f) j = f j := by
        rw [pAt_get _ _ (by simpa using hj)]; simp
      rw [hp]
      exact ⟨(hf j hj).1, (hf j hj).2.1⟩
theorem IsS.of {fuel : Nat} {a : Option Addr} {len cap : Nat} {x : DataW H × List MemPlace} (hf : DataW.trod enc Try.prog w base (fun _ => true) held fuel 23 [.slice a len cap] = some x) : IsS w a len cap := by
  rcases open_slice Try.underlying23 hf with ⟨hcs, _⟩ | ⟨a, l, c, m, n, D, Pl, hcs, hb, hl, hm, hmm, rfl, hx⟩
  · simp at hcs
    obtain ⟨rfl, rfl, rfl⟩ := hcs
    exact ⟨Nat.zero_le _, [], RdS.nil _ _ _⟩
  · simp at hcs
    obtain ⟨rfl, rfl, rfl⟩ := hcs
    rw [if_pos rfl] at hmm
    subst hmm
    have ce9 : Try.prog.cellsOf 9 = 1 := by kernel_rfl
    rw [ce9] at hx
    have key : ∀ i, ∃ s : ByteArray, i < len → w.cell? ⟨a.block, a.off + i, none⟩ = some (.string s) ∧ s.size ≤ maxLen := by
      intro i
      by_cases hi : i < len
      · obtain ⟨cs', h1, h2⟩ := hx i (by omega)
        obtain ⟨_, hlen, hcell⟩ := World.cells?_some h1
        obtain ⟨s0, e0, _, u0⟩ := DataW.trod_string Try.underlying9 h2
        subst e0
        have f0 := hcell 0 (by omega)
        obtain ⟨cs0, h10, _⟩ := hx 0 (by omega)
        rw [Nat.zero_mul] at h10
        obtain ⟨ha, _⟩ := spot_none (by omega) h10
        rw [ha, addr_add, addr_add] at f0
        exact ⟨s0, fun _ => ⟨by simpa using f0, u0⟩⟩
      · exact ⟨ByteArray.empty, fun h => absurd h hi⟩
    obtain ⟨f, hf⟩ := Classical.axiomOfChoice key
    refine ⟨by omega, (List.range len).map f, by simp, hl, fun p hp => ?_, fun h0 => ?_⟩
    · obtain ⟨i, hi, rfl⟩ := List.mem_map.1 hp
      exact (hf i (List.mem_range.1 hi)).2
    · obtain ⟨cs0, h1, _⟩ := hx 0 (by omega)
      rw [Nat.zero_mul] at h1
      obtain ⟨ha, hlt⟩ := spot_none (by omega) h1
      refine ⟨a.block, a.off, by rw [← ha], hlt, fun j hj => ?_⟩
      have hp : ((List.range len).map f).getD j ByteArray.empty = f j := by
        rw [show ((List.range len).map f).getD j ByteArray.empty = sAt ((List.range len).map f) j from rfl, sAt_get _ _ (by simpa using hj)]; simp
      rw [hp]
      exact (hf j hj).1
theorem slice_val {t e fuel : Nat} {v : Value} {x : DataW H × List MemPlace} (ht : Try.prog.underlying t = some (.slice e)) (hf : DataW.trod enc Try.prog w base (fun _ => true) held fuel t [v] = some x) : ∃ A l c, v = .slice A l c := by
  rcases open_slice ht hf with ⟨hcs, _⟩ | ⟨a, l, c, _, _, _, _, hcs, _⟩
  · simp at hcs; exact ⟨_, _, _, hcs⟩
  · simp at hcs; exact ⟨_, _, _, hcs⟩
theorem IsN.of {r : Reach} {b0 : Nat} {v : Value} {d : DataW H} {p : List MemPlace} (hv : Value.okWide Try.prog w r b0 26 v) (h : DataW.Trod enc Try.prog w base (fun _ => true) held 26 v d p)
    (hw : ∀ n ∈ d.weights Try.prog 26, n ≤ reachBytes) : IsN w v := by
  obtain ⟨c0, c1, c2, c3, y0, y1, y2, y3, m, rfl, rfl, rfl, hy0, hy1, hy2, hy3⟩ := Joins.open_agg4 Try.underlying26 (by kernel_rfl) (by kernel_rfl) hv h
  obtain ⟨b, e0, _⟩ := DataW.trod_bool Try.underlying4 hy0
  simp at e0
  subst e0
  obtain ⟨pA, pl, pc, rfl⟩ := slice_val Try.underlying22 hy1
  obtain ⟨kA, kl, kc, rfl⟩ := slice_val Try.underlying23 hy2
  obtain ⟨cA, cl, cc, rfl⟩ := slice_val Try.underlying24 hy3
  obtain ⟨m1, ps, h1⟩ := IsP.of hy1 (fun n hn => hw n (by
    simp only [DataW.weights, Try.underlying26, DataW.weightsEach, List.map_cons, List.map_nil, List.mem_append]
    exact .inr (.inl hn)))
  obtain ⟨m2, ks, h2⟩ := IsS.of hy2
  obtain ⟨m3, cs, h3⟩ := IsI.of hy3
  exact ⟨⟨⟨pA, pl, pc, kA, kl, kc, cA, cl, cc⟩, ⟨b, ps, ks, cs⟩, rfl, ⟨⟨h1, h2, h3⟩, m1, m2, m3⟩⟩⟩
end
end Go.Proofs.Ytedhcohpcdkgnaa
