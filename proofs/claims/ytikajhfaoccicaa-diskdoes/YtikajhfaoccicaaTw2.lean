/- Rows of one's own beside the two disks. Conditions: none. -/
import Derived.Test.YtikajhfaoccicaaTw
namespace Go.Proofs.Ytikajhfaoccicaa
open Go.RowKit Go.Bs Go.Dk

theorem Two.moreK {w a b : World} {g r : Nat} {s t : S} {K K' : Nat → Prop} (h : Two w a g r s t K) (hb : Below a.heap.size a b) (hK : ∀ k, K' k → K k ∨ (a.heap.size ≤ k ∧ k < b.heap.size)) : Two w b g r s t K' := by
  obtain ⟨D, D', h1, h2, h3, h4, h5, h6, h7⟩ := h
  refine ⟨D, D', h1.below hb, h2.below hb, h3, h4, h5, h6.trans (hb.mono h6.size), fun k hk => ?_⟩
  rcases hK k hk with hk | ⟨e1, e2⟩
  · exact ⟨Nat.lt_of_lt_of_le (h7 k hk).1 hb.size, (h7 k hk).2⟩
  · exact ⟨e2, fun hd => (by have := h1.lt _ hd; omega), fun hd => (by have := h2.lt _ hd; omega)⟩
theorem Two.frK {w a b : World} {g r : Nat} {s t : S} {K : Nat → Prop} (h : Two w a g r s t K) (hf : Fr K a b) (hK : ∀ k, K k → w.heap.size ≤ k) : Two w b g r s t K := by
  obtain ⟨D, D', h1, h2, h3, h4, h5, h6, h7⟩ := h
  exact ⟨D, D', h1.fr hf (fun k hd e => (h7 k e).2.1 hd), h2.fr hf (fun k hd e => (h7 k e).2.2 hd), h3, h4, h5, h6.trans (hf.below hK h6.size), fun k hk => ⟨Nat.lt_of_lt_of_le (h7 k hk).1 hf.size, (h7 k hk).2⟩⟩

/-- a row of cells that may be stored into. -/
def Row (w : World) (z ty n : Nat) (P : Value → Prop) : Prop := ∃ cur, w.heap[z]? = some (.cells cur ty (0, 0)) ∧ ∀ j, j < n → ∃ v, cur[j]? = some v ∧ P v
theorem Row.cell {w : World} {z ty n : Nat} {P : Value → Prop} (h : Row w z ty n P) (j : Nat) (hj : j < n) : (∃ v, w.cell? ⟨z, j, none⟩ = some v ∧ P v) ∧ w.frozen? ⟨z, j, none⟩ = false := by
  obtain ⟨cur, h1, h2⟩ := h
  obtain ⟨v, h3, h4⟩ := h2 j hj
  exact ⟨⟨v, (cell_of_row w z j cur ty (0, 0) h1).trans h3, h4⟩, by simp [World.frozen?, h1]⟩
theorem Row.set {w : World} {z ty n : Nat} {P : Value → Prop} (h : Row w z ty n P) (j : Nat) (v : Value) (hv : P v) : Row (w.setCell ⟨z, j, none⟩ v) z ty n P := by
  obtain ⟨cur, h1, h2⟩ := h
  refine ⟨cur.setIfInBounds j v, by rw [setCell_eq_setRow w z j _ ty (0, 0) v h1, setRow_heap w z _ _ ty _ h1], fun i hi => ?_⟩
  obtain ⟨u, h3, h4⟩ := h2 i hi
  have hlt : i < cur.size := (Array.getElem?_eq_some_iff.1 h3).1
  rw [Array.getElem?_setIfInBounds]
  by_cases e : j = i
  · subst e
    rw [if_pos rfl, if_pos hlt]
    exact ⟨v, rfl, hv⟩
  · rw [if_neg e]
    exact ⟨u, h3, h4⟩
theorem Row.keep {w w' : World} {z ty n : Nat} {P : Value → Prop} (h : Row w z ty n P) (e : w'.heap[z]? = w.heap[z]?) : Row w' z ty n P := by
  obtain ⟨cur, h1, h2⟩ := h
  exact ⟨cur, e.trans h1, h2⟩
theorem Row.blk {w : World} {z ty : Nat} {bs : List UInt8} (h : Blk w z ty bs) : Row w z ty bs.length (fun _ => True) :=
  ⟨_, h, fun j hj => ⟨B (bs.getD j 0), by simp [List.getElem?_eq_getElem hj, List.getD], trivial⟩⟩
theorem Row.lt {w : World} {z ty n : Nat} {P : Value → Prop} (h : Row w z ty n P) : z < w.heap.size := by
  obtain ⟨cur, h1, _⟩ := h
  exact (Array.getElem?_eq_some_iff.1 h1).1
theorem row_own {w : World} {base e n : Nat} {v : Value} {xs : List Value} (P : Value → Prop) (h : w.ownsRow base e 1 v n xs) (hP : ∀ x ∈ xs, P x) (hn : 0 < n) : ∃ z c, v = .slice (some ⟨z, 0, none⟩) n c ∧ base ≤ z ∧ Row w z e n P := by
  have hl := h.1
  rcases h.2 with ⟨_, h0⟩ | ⟨z, cap, cur, rfl, hb, hg, hnc, _, hsz, htk⟩
  · omega
  · refine ⟨z, cap, rfl, hb, cur, hg, fun j hj => ?_⟩
    have hj1 : j < xs.length := by omega
    have : cur[j]? = some xs[j] := by
      have h2 : (cur.toList.take (n * 1))[j]? = xs[j]? := by rw [htk]
      rw [List.getElem?_take, if_pos (by omega), Array.getElem?_toList, List.getElem?_eq_getElem hj1] at h2
      exact h2
    exact ⟨_, this, hP _ (List.getElem_mem hj1)⟩
/-- what append gave of one's own, bytes. -/
theorem own_form {w : World} {base : Nat} {v : Value} {bs : List UInt8} (h : Go.Bs.Own w base 5 v bs) (n : Nat) (hn : bs.length = n) : ∃ A c z, v = .slice A n c ∧ Rd w A n c bs ∧ (0 < n → A = some ⟨z, 0, none⟩ ∧ base ≤ z ∧ Row w z 5 n (fun _ => True)) := by
  subst hn
  obtain ⟨A, c, rfl, hr⟩ := h.rd
  by_cases h0 : 0 < bs.length
  · obtain ⟨z, c', e, hb, hrow⟩ := row_own (fun _ => True) h (fun _ _ => trivial) h0
    cases e
    exact ⟨_, _, z, rfl, hr, fun _ => ⟨rfl, hb, hrow⟩⟩
  · exact ⟨A, c, 0, rfl, hr, fun h => absurd h h0⟩
/-- what append gave of one's own, bools. -/
theorem own_formQ {w : World} {base : Nat} {v : Value} {ks : List Bool} (h : OwnQ w base v ks) (n : Nat) (hn : ks.length = n) : ∃ A c z, v = .slice A n c ∧ RdQ w A n c ks ∧ (0 < n → A = some ⟨z, 0, none⟩ ∧ base ≤ z ∧ Row w z 4 n (fun v => ∃ b, v = .bool b)) := by
  subst hn
  obtain ⟨A, c, rfl, hr, _⟩ := h.rd
  by_cases h0 : 0 < ks.length
  · obtain ⟨z, c', e, hb, hrow⟩ := row_own (fun v => ∃ b, v = .bool b) h (fun x hx => by
      obtain ⟨b, _, rfl⟩ := List.mem_map.1 hx
      exact ⟨b, rfl⟩) h0
    cases e
    exact ⟨_, _, z, rfl, hr, fun _ => ⟨rfl, hb, hrow⟩⟩
  · exact ⟨A, c, 0, rfl, hr, fun h => absurd h h0⟩
theorem read_form {w w' : World} {v : Value} {bs : List UInt8} (h : ReadV w w' v bs) : ∃ A n, v = .slice A n n ∧ bs.length = n ∧ Rd w' A n n bs ∧ (0 < n → A = some ⟨w.heap.size, 0, none⟩ ∧ Row w' w.heap.size 5 n (fun _ => True)) := by
  rcases h with ⟨rfl, rfl⟩ | ⟨rfl, hb⟩
  · exact ⟨none, 0, rfl, rfl, Rd.nil _ _ _, fun h => absurd h (by omega)⟩
  · exact ⟨_, _, rfl, rfl, hb.all _ (Nat.le_refl _), fun _ => ⟨rfl, Row.blk hb⟩⟩

theorem op_cells {w : World} {z : Nat} {v0 v1 v2 v3 v4 : Value} (h : w.heap[z]? = some (.cells #[v0, v1, v2, v3, v4] 35 (0, 0))) :
    w.cell? ⟨z, 0, none⟩ = some v0 ∧ w.cell? ⟨z, 1, none⟩ = some v1 ∧ w.cell? ⟨z, 2, none⟩ = some v2 ∧ w.cell? ⟨z, 3, none⟩ = some v3 ∧ w.cell? ⟨z, 4, none⟩ = some v4 := by
  refine ⟨?_, ?_, ?_, ?_, ?_⟩ <;> (rw [cell_of_row w z _ _ 35 (0, 0) h]; rfl)
theorem rd_keepC {w w' : World} {A : Option Addr} {n c : Nat} {bs : List UInt8} (h : Rd w A n c bs) (hs : w.heap.size ≤ w'.heap.size) (hk : 0 < n → ∀ a, A = some a → w'.heap[a.block]? = w.heap[a.block]?) : Rd w' A n c bs :=
  ⟨h.len, h.cap, fun hn => by
    obtain ⟨g, o, e, hg, hc⟩ := h.cells hn
    exact ⟨g, o, e, by omega, fun j hj => (World.cell?_of_block (a := ⟨g, o + j, none⟩) (hk hn ⟨g, o, none⟩ e)).trans (hc j hj)⟩⟩
theorem crash_sz (s : S) (ks : List Bool) : (s.crash ks).sectors = s.sectors ∧ (s.crash ks).bytes = s.bytes := by unfold S.crash; split <;> exact ⟨rfl, rfl⟩
theorem deed_sz (s : S) : s.deed.1.sectors = s.sectors ∧ s.deed.1.bytes = s.bytes := by
  unfold S.deed
  split
  · exact ⟨rfl, rfl⟩
  · split
    · exact crash_sz _ _
    · exact ⟨rfl, rfl⟩
theorem write_sz (s : S) (i : Int) (b : List UInt8) : (s.write i b).1.sectors = s.sectors ∧ (s.write i b).1.bytes = s.bytes := by
  unfold S.write
  split
  · exact ⟨rfl, rfl⟩
  · split
    · exact ⟨rfl, rfl⟩
    · exact deed_sz _
theorem flush_sz (s : S) : s.flush.1.sectors = s.sectors ∧ s.flush.1.bytes = s.bytes := by
  unfold S.flush
  split
  · exact ⟨rfl, rfl⟩
  · split
    · exact deed_sz s
    · exact deed_sz s
theorem read_len {s : S} (h : s.Ok) (i : Int) : (s.read i).1.length ≤ 4096 := by
  unfold S.read
  split
  · simp
  · split
    · simp
    · show (cur s.L s.c i.toNat).length ≤ 4096
      rw [h.curLen]
      exact h.b1
theorem on_read (s : S) (k : Nat) (h : k < s.sectors) : s.on.read (k : Int) = (cur s.L s.c k, 0) := by
  unfold S.read
  rw [if_neg (by simp [S.on]), if_neg (by simp [S.has, S.on]; exact h)]
  rfl
end Go.Proofs.Ytikajhfaoccicaa
