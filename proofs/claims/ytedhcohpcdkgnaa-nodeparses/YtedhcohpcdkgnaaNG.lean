/- A node that is being read: its lists, its block and its rows. Conditions: none. -/
import Derived.Test.YtedhcohpcdkgnaaNF
namespace Go.Bs
open Go.RowKit
/-- j pairs, till it is short. -/
def prs : Nat → St → List Pr × St
  | 0, s => ([], s)
  | j + 1, s => if (prs j s).2.2 then prs j s else ((prs j s).1 ++ [((stTxt (prs j s).2).1, (stTxt (stTxt (prs j s).2).2).1)], (stTxt (stTxt (prs j s).2).2).2)
def kys : Nat → St → List ByteArray × St
  | 0, s => ([], s)
  | j + 1, s => if (kys j s).2.2 then kys j s else ((kys j s).1 ++ [(stTxt (kys j s).2).1], (stTxt (kys j s).2).2)
def chs : Nat → St → List Int × St
  | 0, s => ([], s)
  | j + 1, s => if (chs j s).2.2 then chs j s else ((chs j s).1 ++ [((stNum (chs j s).2 3).1 : Int)], (stNum (chs j s).2 3).2)
theorem prs_step (j : Nat) (s : St) (h : (prs j s).2.2 = false) : prs (j + 1) s = ((prs j s).1 ++ [((stTxt (prs j s).2).1, (stTxt (stTxt (prs j s).2).2).1)], (stTxt (stTxt (prs j s).2).2).2) := by
  rw [prs, if_neg (by rw [h]; simp)]
theorem kys_step (j : Nat) (s : St) (h : (kys j s).2.2 = false) : kys (j + 1) s = ((kys j s).1 ++ [(stTxt (kys j s).2).1], (stTxt (kys j s).2).2) := by
  rw [kys, if_neg (by rw [h]; simp)]
theorem chs_step (j : Nat) (s : St) (h : (chs j s).2.2 = false) : chs (j + 1) s = ((chs j s).1 ++ [((stNum (chs j s).2 3).1 : Int)], (stNum (chs j s).2 3).2) := by
  rw [chs, if_neg (by rw [h]; simp)]
theorem prs_stop (j : Nat) (s : St) (h : (prs j s).2.2 = true) : ∀ d, prs (j + d) s = prs j s
  | 0 => rfl
  | d + 1 => by
    have ih := prs_stop j s h d
    rw [← Nat.add_assoc, prs, ih, if_pos h]
theorem kys_stop (j : Nat) (s : St) (h : (kys j s).2.2 = true) : ∀ d, kys (j + d) s = kys j s
  | 0 => rfl
  | d + 1 => by
    have ih := kys_stop j s h d
    rw [← Nat.add_assoc, kys, ih, if_pos h]
theorem chs_stop (j : Nat) (s : St) (h : (chs j s).2.2 = true) : ∀ d, chs (j + d) s = chs j s
  | 0 => rfl
  | d + 1 => by
    have ih := chs_stop j s h d
    rw [← Nat.add_assoc, chs, ih, if_pos h]
theorem prs_size (s : St) : ∀ j, ∀ p ∈ (prs j s).1, p.1.size ≤ 255 ∧ p.2.size ≤ 255
  | 0 => by simp [prs]
  | j + 1 => by
    intro p hp
    rw [prs] at hp
    split at hp
    · exact prs_size s j p hp
    · rcases List.mem_append.1 hp with h | h
      · exact prs_size s j p h
      · obtain rfl := List.mem_singleton.1 h
        exact ⟨stTxt_size _, stTxt_size _⟩
theorem kys_size (s : St) : ∀ j, ∀ p ∈ (kys j s).1, p.size ≤ 255
  | 0 => by simp [kys]
  | j + 1 => by
    intro p hp
    rw [kys] at hp
    split at hp
    · exact kys_size s j p hp
    · rcases List.mem_append.1 hp with h | h
      · exact kys_size s j p h
      · obtain rfl := List.mem_singleton.1 h
        exact stTxt_size _
theorem chs_size (s : St) : ∀ j, ∀ p ∈ (chs j s).1, 0 ≤ p ∧ p < 16777216
  | 0 => by simp [chs]
  | j + 1 => by
    intro p hp
    rw [chs] at hp
    split at hp
    · exact chs_size s j p hp
    · rcases List.mem_append.1 hp with h | h
      · exact chs_size s j p h
      · obtain rfl := List.mem_singleton.1 h
        have := stNum_lt (chs j s).2 3 (by omega)
        omega
theorem prs_le (s : St) : ∀ j, (prs j s).1.length ≤ j
  | 0 => by simp [prs]
  | j + 1 => by
    have := prs_le s j
    rw [prs]; split
    · omega
    · simp; omega
theorem kys_le (s : St) : ∀ j, (kys j s).1.length ≤ j
  | 0 => by simp [kys]
  | j + 1 => by
    have := kys_le s j
    rw [kys]; split
    · omega
    · simp; omega
theorem chs_le (s : St) : ∀ j, (chs j s).1.length ≤ j
  | 0 => by simp [chs]
  | j + 1 => by
    have := chs_le s j
    rw [chs]; split
    · omega
    · simp; omega

/-- the node's block, its rows, and what it hangs on. -/
structure Mk (w : World) (z bx t3 h base : Nat) (lf : Bool) (pv kv cv : Value) (N : Nd) : Prop where
  row : w.heap[h]? = some (.cells #[.bool lf, pv, kv, cv] 26 (0, 0))
  zero : w.heap[t3]? = some (.cells #[.bool false, .slice none 0 0, .slice none 0 0, .slice none 0 0] 26 (0, 0))
  box : w.cell? ⟨bx, 0, none⟩ = some (.pointer (some ⟨z, 0, none⟩))
  p : w.ownsRow base 49 2 pv N.ps.length (pcells N.ps)
  k : w.ownsRow base 9 1 kv N.ks.length (scells N.ks)
  c : w.ownsRow base 3 1 cv N.cs.length (icells N.cs)
  dpk : ∀ i, pv.ownBlock = some i → kv.ownBlock ≠ some i
  dpc : ∀ i, pv.ownBlock = some i → cv.ownBlock ≠ some i
  dkc : ∀ i, kv.ownBlock = some i → cv.ownBlock ≠ some i
  hb : h < base
  th : t3 < h
  bt : bx < t3
  zt : z < t3
  bz : bx ≠ z
  bs : base ≤ w.heap.size
theorem cell_of_blk {w w' : World} {a : Addr} (h : w'.heap[a.block]? = w.heap[a.block]?) : w'.cell? a = w.cell? a := by simp only [World.cell?, h]
theorem blt_of_cell {w : World} {a : Addr} {v : Value} (h : w.cell? a = some v) : a.block < w.heap.size := by
  rcases Nat.lt_or_ge a.block w.heap.size with hlt | hge
  · exact hlt
  · simp [World.cell?, Array.getElem?_eq_none hge] at h
theorem Mk.fr {w w' : World} {z bx t3 h base : Nat} {lf : Bool} {pv kv cv : Value} {N : Nd} (H : Mk w z bx t3 h base lf pv kv cv N) (hf : Fr (· = z) w w') : Mk w' z bx t3 h base lf pv kv cv N := by
  have h1 := H.hb
  have h2 := H.th
  have h3 := H.bt
  have h4 := H.zt
  have h5 := H.bs
  have kb : ∀ {e size : Nat} {v : Value} {n : Nat} {xs : List Value}, w.ownsRow base e size v n xs → w'.ownsRow base e size v n xs := fun hv => own_keepB hv fun i hi => hf.block i (own_lt hv i hi).2 (by have := (own_lt hv i hi).1; intro e; have e2 : i = z := e; omega)
  exact ⟨(hf.block h (by omega) (by intro e; have e2 : h = z := e; omega)).trans H.row, (hf.block t3 (by omega) (by intro e; have e2 : t3 = z := e; omega)).trans H.zero, (cell_of_blk (hf.block bx (by omega) H.bz)).trans H.box, kb H.p, kb H.k, kb H.c, H.dpk, H.dpc, H.dkc, H.hb, H.th, H.bt, H.zt, H.bz, Nat.le_trans H.bs hf.size⟩
theorem Mk.keep {w w' : World} {z bx t3 h base : Nat} {lf : Bool} {pv kv cv : Value} {N : Nd} (H : Mk w z bx t3 h base lf pv kv cv N) (hb : Below w.heap.size w w') : Mk w' z bx t3 h base lf pv kv cv N := H.fr (Fr.of hb)
theorem Mk.cells {w : World} {z bx t3 h base : Nat} {lf : Bool} {pv kv cv : Value} {N : Nd} (H : Mk w z bx t3 h base lf pv kv cv N) :
    w.cell? ⟨h, 0, none⟩ = some (.bool lf) ∧ w.cell? ⟨h, 1, none⟩ = some pv ∧ w.cell? ⟨h, 2, none⟩ = some kv ∧ w.cell? ⟨h, 3, none⟩ = some cv ∧ (∀ i, w.frozen? ⟨h, i, none⟩ = false) := by
  refine ⟨?_, ?_, ?_, ?_, fun i => ?_⟩
  · rw [cell_of_row w h _ _ 26 (0, 0) H.row]; rfl
  · rw [cell_of_row w h _ _ 26 (0, 0) H.row]; rfl
  · rw [cell_of_row w h _ _ 26 (0, 0) H.row]; rfl
  · rw [cell_of_row w h _ _ 26 (0, 0) H.row]; rfl
  · simp [World.frozen?, H.row]
theorem row_set {w : World} {h i : Nat} {cs : Array Value} (H : w.heap[h]? = some (.cells cs 26 (0, 0))) (v : Value) : (w.setCell ⟨h, i, none⟩ v).heap[h]? = some (.cells (cs.setIfInBounds i v) 26 (0, 0)) := by
  rw [setCell_eq_setRow w h i _ 26 _ _ H, setRow_heap w h _ _ 26 _ H]
theorem set_other (w : World) (h i k : Nat) (v : Value) (hk : k ≠ h) : (w.setCell ⟨h, i, none⟩ v).heap[k]? = w.heap[k]? := Below.heap_setCell w ⟨h, i, none⟩ v k hk
/-- where a row of one's own goes on growing. -/
structure Grew (w w7 : World) (v v' : Value) : Prop where
  g : w.grownBy w7 v.ownBlock
  at_ : v'.ownBlock = v.ownBlock ∨ v'.ownBlock = some w.heap.size
theorem Grew.fr {w w7 : World} {v v' : Value} {base e size n : Nat} {xs : List Value} (G : Grew w w7 v v') (ho : w.ownsRow base e size v n xs) : Fr (fun k => base ≤ k) w w7 :=
  (Fr.refl _ w).grown G.g fun k hk => .inl (own_lt ho k hk).1
end Go.Bs
namespace Go.Proofs.Ytedhcohpcdkgnaa
open Go.RowKit Go.Bs
theorem Mk.appP {w : World} {z bx t3 h base : Nat} {lf : Bool} {pv kv cv : Value} {N : Nd} (H : Mk w z bx t3 h base lf pv kv cv N) (hl : N.ps.length ≤ 100000) (a b : ByteArray) :
    ∃ v' w7, (Builtin.append_ #[22, 22] 22 #[pv, .slice (some ⟨w.heap.size, 0, none⟩) 1 1]).run Try.prog (w.alloc (.cells #[.string a, .string b] 49)) = .ok v' w7 ∧
      w7.cell? ⟨bx, 0, none⟩ = some (.pointer (some ⟨z, 0, none⟩)) ∧ w7.cell? ⟨h, 1, none⟩ = some pv ∧ w7.frozen? ⟨h, 1, none⟩ = false ∧ (w7.setCell ⟨h, 1, none⟩ v').cell? ⟨bx, 0, none⟩ = some (.pointer (some ⟨z, 0, none⟩)) ∧
      Mk (w7.setCell ⟨h, 1, none⟩ v') z bx t3 h base lf v' kv cv { N with ps := N.ps ++ [(a, b)] } ∧ Fr (fun k => h ≤ k) w (w7.setCell ⟨h, 1, none⟩ v') := by
  obtain ⟨i, zv, hi, hz, hs, hby, hzs⟩ := pair_info
  have HX := H.keep ((Below.refl w.heap.size w).alloc (Nat.le_refl _) (.cells #[.string a, .string b] 49))
  have hr : RdP (w.alloc (.cells #[.string a, .string b] 49)) (some ⟨w.heap.size, 0, none⟩) 1 1 [(a, b)] ∨ True := .inr trivial
  obtain ⟨v', w7, hrun, hown, hgr, hat⟩ := run_appN (P := Try.prog) (w.alloc (.cells #[.string a, .string b] 49)) base 22 22 49 2 32 i zv Try.underlying22 hi hz hs hby hzs (by omega) pv N.ps.length (pcells N.ps) HX.p (some ⟨w.heap.size, 0, none⟩) 1 1 (pcells [(a, b)]) (fun e => by cases e) rfl
    (fun ad had j u hu => by
      cases had
      rw [addr_add, Nat.zero_add, cell_of_row _ w.heap.size j _ 49 (0, 0) (heap_alloc_new w _)]
      have : (#[Value.string a, Value.string b] : Array Value)[j]? = ([Value.string a, Value.string b] : List Value)[j]? := by simp
      rw [this]; exact hu) (pcells_one _) (by unfold maxLen; omega) (by omega) HX.bs
  have hsz : (w.alloc (.cells #[.string a, .string b] 49)).heap.size = w.heap.size + 1 := by simp
  have nb : ∀ k, k < base → w7.heap[k]? = (w.alloc (.cells #[.string a, .string b] 49)).heap[k]? := fun k hk => hgr.block k (by have := HX.bs; omega) fun e => by have := (own_lt HX.p k e.symm).1; omega
  have h1 := H.hb
  have h2 := H.th
  have h3 := H.bt
  have h4 := H.zt
  have h5 := H.bs
  have c1 : w7.cell? ⟨h, 1, none⟩ = some pv := (cell_of_blk (nb h h1)).trans HX.cells.2.1
  have row7 : w7.heap[h]? = some (.cells #[.bool lf, pv, kv, cv] 26 (0, 0)) := (nb h h1).trans HX.row
  have b7 : w7.cell? ⟨bx, 0, none⟩ = some (.pointer (some ⟨z, 0, none⟩)) := (cell_of_blk (nb bx (by omega))).trans HX.box
  have f7 : Fr (fun k => base ≤ k) w w7 := ((Fr.refl _ w).alloc _).grown hgr fun k hk => .inl (own_lt HX.p k hk).1
  have hb8 : (w7.setCell ⟨h, 1, none⟩ v').cell? ⟨bx, 0, none⟩ = some (.pointer (some ⟨z, 0, none⟩)) := (cell_of_blk (set_other w7 h 1 bx v' (by omega))).trans b7
  have kb : ∀ {e size : Nat} {v : Value} {n : Nat} {xs : List Value}, (w.alloc (.cells #[.string a, .string b] 49)).ownsRow base e size v n xs → (∀ i, pv.ownBlock = some i → v.ownBlock ≠ some i) → (w7.setCell ⟨h, 1, none⟩ v').ownsRow base e size v n xs := fun hv hd => own_keepB hv fun j hj =>
    (set_other w7 h 1 j v' (by have := (own_lt hv j hj).1; omega)).trans (hgr.block j (own_lt hv j hj).2 fun e => hd j e.symm hj)
  have nw : ∀ {v : Value} {e size : Nat} {n : Nat} {xs : List Value}, w.ownsRow base e size v n xs → (∀ i, pv.ownBlock = some i → v.ownBlock ≠ some i) → ∀ i, v'.ownBlock = some i → v.ownBlock ≠ some i := fun hv hd j hj e => by
    rcases hat with h6 | h6
    · exact hd j (h6 ▸ hj) e
    · rw [h6] at hj
      injection hj with hj
      have := (own_lt hv j e).2
      omega
  refine ⟨v', w7, hrun, b7, c1, by simp [World.frozen?, row7], hb8, ⟨by rw [row_set row7]; rfl, (set_other w7 h 1 t3 v' (by omega)).trans ((nb t3 (by omega)).trans HX.zero), hb8, ?_, kb HX.k H.dpk, kb HX.c H.dpc, nw H.k H.dpk, nw H.c H.dpc, H.dkc, H.hb, H.th, H.bt, H.zt, H.bz, ?_⟩, ?_⟩
  · show (w7.setCell ⟨h, 1, none⟩ v').ownsRow base 49 2 v' (N.ps ++ [(a, b)]).length (pcells (N.ps ++ [(a, b)]))
    rw [List.length_append, pcells_app]
    exact own_keepB hown fun j hj => set_other w7 h 1 j v' (by have := (own_lt hown j hj).1; omega)
  · have := f7.size
    simp [World.setCell]; omega
  · exact (f7.mono fun k hk => by omega).setCell (.inl (Nat.le_refl _)) v'
theorem Mk.appK {w : World} {z bx t3 h base : Nat} {lf : Bool} {pv kv cv : Value} {N : Nd} (H : Mk w z bx t3 h base lf pv kv cv N) (hl : N.ks.length ≤ 100000) (a : ByteArray) :
    ∃ v' w7, (Builtin.append_ #[23, 23] 23 #[kv, .slice (some ⟨w.heap.size, 0, none⟩) 1 1]).run Try.prog (w.alloc (.cells #[.string a] 9)) = .ok v' w7 ∧
      w7.cell? ⟨bx, 0, none⟩ = some (.pointer (some ⟨z, 0, none⟩)) ∧ w7.cell? ⟨h, 2, none⟩ = some kv ∧ w7.frozen? ⟨h, 2, none⟩ = false ∧ (w7.setCell ⟨h, 2, none⟩ v').cell? ⟨bx, 0, none⟩ = some (.pointer (some ⟨z, 0, none⟩)) ∧
      Mk (w7.setCell ⟨h, 2, none⟩ v') z bx t3 h base lf pv v' cv { N with ks := N.ks ++ [a] } ∧ Fr (fun k => h ≤ k) w (w7.setCell ⟨h, 2, none⟩ v') := by
  obtain ⟨i, zv, hi, hz, hs, hby, hzs⟩ := str_info
  have HX := H.keep ((Below.refl w.heap.size w).alloc (Nat.le_refl _) (.cells #[.string a] 9))
  obtain ⟨v', w7, hrun, hown, hgr, hat⟩ := run_appN (P := Try.prog) (w.alloc (.cells #[.string a] 9)) base 23 23 9 1 16 i zv Try.underlying23 hi hz hs hby hzs (by omega) kv N.ks.length (scells N.ks) HX.k (some ⟨w.heap.size, 0, none⟩) 1 1 (scells [a]) (fun e => by cases e) rfl
    (fun ad had j u hu => by
      cases had
      rw [addr_add, Nat.zero_add, cell_of_row _ w.heap.size j _ 9 (0, 0) (heap_alloc_new w _)]
      have : (#[.string a] : Array Value)[j]? = ([.string a] : List Value)[j]? := by simp
      rw [this]; exact hu) (scells_one _) (by unfold maxLen; omega) (by omega) HX.bs
  have hsz : (w.alloc (.cells #[.string a] 9)).heap.size = w.heap.size + 1 := by simp
  have nb : ∀ k, k < base → w7.heap[k]? = (w.alloc (.cells #[.string a] 9)).heap[k]? := fun k hk => hgr.block k (by have := HX.bs; omega) fun e => by have := (own_lt HX.k k e.symm).1; omega
  have h1 := H.hb
  have h2 := H.th
  have h3 := H.bt
  have h4 := H.zt
  have h5 := H.bs
  have c1 : w7.cell? ⟨h, 2, none⟩ = some kv := (cell_of_blk (nb h h1)).trans HX.cells.2.2.1
  have row7 : w7.heap[h]? = some (.cells #[.bool lf, pv, kv, cv] 26 (0, 0)) := (nb h h1).trans HX.row
  have b7 : w7.cell? ⟨bx, 0, none⟩ = some (.pointer (some ⟨z, 0, none⟩)) := (cell_of_blk (nb bx (by omega))).trans HX.box
  have f7 : Fr (fun k => base ≤ k) w w7 := ((Fr.refl _ w).alloc _).grown hgr fun k hk => .inl (own_lt HX.k k hk).1
  have hb8 : (w7.setCell ⟨h, 2, none⟩ v').cell? ⟨bx, 0, none⟩ = some (.pointer (some ⟨z, 0, none⟩)) := (cell_of_blk (set_other w7 h 2 bx v' (by omega))).trans b7
  have kb : ∀ {e size : Nat} {v : Value} {n : Nat} {xs : List Value}, (w.alloc (.cells #[.string a] 9)).ownsRow base e size v n xs → (∀ i, kv.ownBlock = some i → v.ownBlock ≠ some i) → (w7.setCell ⟨h, 2, none⟩ v').ownsRow base e size v n xs := fun hv hd => own_keepB hv fun j hj =>
    (set_other w7 h 2 j v' (by have := (own_lt hv j hj).1; omega)).trans (hgr.block j (own_lt hv j hj).2 fun e => hd j e.symm hj)
  have nw : ∀ {v : Value} {e size : Nat} {n : Nat} {xs : List Value}, w.ownsRow base e size v n xs → (∀ i, kv.ownBlock = some i → v.ownBlock ≠ some i) → ∀ i, v'.ownBlock = some i → v.ownBlock ≠ some i := fun hv hd j hj e => by
    rcases hat with h6 | h6
    · exact hd j (h6 ▸ hj) e
    · rw [h6] at hj
      injection hj with hj
      have := (own_lt hv j e).2
      omega
  refine ⟨v', w7, hrun, b7, c1, by simp [World.frozen?, row7], hb8, ⟨by rw [row_set row7]; rfl, (set_other w7 h 2 t3 v' (by omega)).trans ((nb t3 (by omega)).trans HX.zero), hb8, kb HX.p (fun i e1 e2 => H.dpk i e2 e1), ?_, kb HX.c H.dkc, (fun i e1 e2 => nw H.p (fun i e1 e2 => H.dpk i e2 e1) i e2 e1), H.dpc, nw H.c H.dkc, H.hb, H.th, H.bt, H.zt, H.bz, ?_⟩, ?_⟩
  · show (w7.setCell ⟨h, 2, none⟩ v').ownsRow base 9 1 v' (N.ks ++ [a]).length (scells (N.ks ++ [a]))
    rw [List.length_append, scells_app]
    exact own_keepB hown fun j hj => set_other w7 h 2 j v' (by have := (own_lt hown j hj).1; omega)
  · have := f7.size
    simp [World.setCell]; omega
  · exact (f7.mono fun k hk => by omega).setCell (.inl (Nat.le_refl _)) v'
theorem Mk.appC {w : World} {z bx t3 h base : Nat} {lf : Bool} {pv kv cv : Value} {N : Nd} (H : Mk w z bx t3 h base lf pv kv cv N) (hl : N.cs.length ≤ 100000) (a : Int) :
    ∃ v' w7, (Builtin.append_ #[24, 24] 24 #[cv, .slice (some ⟨w.heap.size, 0, none⟩) 1 1]).run Try.prog (w.alloc (.cells #[.int .i64 a] 3)) = .ok v' w7 ∧
      w7.cell? ⟨bx, 0, none⟩ = some (.pointer (some ⟨z, 0, none⟩)) ∧ w7.cell? ⟨h, 3, none⟩ = some cv ∧ w7.frozen? ⟨h, 3, none⟩ = false ∧ (w7.setCell ⟨h, 3, none⟩ v').cell? ⟨bx, 0, none⟩ = some (.pointer (some ⟨z, 0, none⟩)) ∧
      Mk (w7.setCell ⟨h, 3, none⟩ v') z bx t3 h base lf pv kv v' { N with cs := N.cs ++ [a] } ∧ Fr (fun k => h ≤ k) w (w7.setCell ⟨h, 3, none⟩ v') := by
  obtain ⟨i, zv, hi, hz, hs, hby, hzs⟩ := int_info
  have HX := H.keep ((Below.refl w.heap.size w).alloc (Nat.le_refl _) (.cells #[.int .i64 a] 3))
  obtain ⟨v', w7, hrun, hown, hgr, hat⟩ := run_appN (P := Try.prog) (w.alloc (.cells #[.int .i64 a] 3)) base 24 24 3 1 8 i zv Try.underlying24 hi hz hs hby hzs (by omega) cv N.cs.length (icells N.cs) HX.c (some ⟨w.heap.size, 0, none⟩) 1 1 (icells [a]) (fun e => by cases e) rfl
    (fun ad had j u hu => by
      cases had
      rw [addr_add, Nat.zero_add, cell_of_row _ w.heap.size j _ 3 (0, 0) (heap_alloc_new w _)]
      have : (#[.int .i64 a] : Array Value)[j]? = ([.int .i64 a] : List Value)[j]? := by simp
      rw [this]; exact hu) (icells_one _) (by unfold maxLen; omega) (by omega) HX.bs
  have hsz : (w.alloc (.cells #[.int .i64 a] 3)).heap.size = w.heap.size + 1 := by simp
  have nb : ∀ k, k < base → w7.heap[k]? = (w.alloc (.cells #[.int .i64 a] 3)).heap[k]? := fun k hk => hgr.block k (by have := HX.bs; omega) fun e => by have := (own_lt HX.c k e.symm).1; omega
  have h1 := H.hb
  have h2 := H.th
  have h3 := H.bt
  have h4 := H.zt
  have h5 := H.bs
  have c1 : w7.cell? ⟨h, 3, none⟩ = some cv := (cell_of_blk (nb h h1)).trans HX.cells.2.2.2.1
  have row7 : w7.heap[h]? = some (.cells #[.bool lf, pv, kv, cv] 26 (0, 0)) := (nb h h1).trans HX.row
  have b7 : w7.cell? ⟨bx, 0, none⟩ = some (.pointer (some ⟨z, 0, none⟩)) := (cell_of_blk (nb bx (by omega))).trans HX.box
  have f7 : Fr (fun k => base ≤ k) w w7 := ((Fr.refl _ w).alloc _).grown hgr fun k hk => .inl (own_lt HX.c k hk).1
  have hb8 : (w7.setCell ⟨h, 3, none⟩ v').cell? ⟨bx, 0, none⟩ = some (.pointer (some ⟨z, 0, none⟩)) := (cell_of_blk (set_other w7 h 3 bx v' (by omega))).trans b7
  have kb : ∀ {e size : Nat} {v : Value} {n : Nat} {xs : List Value}, (w.alloc (.cells #[.int .i64 a] 3)).ownsRow base e size v n xs → (∀ i, cv.ownBlock = some i → v.ownBlock ≠ some i) → (w7.setCell ⟨h, 3, none⟩ v').ownsRow base e size v n xs := fun hv hd => own_keepB hv fun j hj =>
    (set_other w7 h 3 j v' (by have := (own_lt hv j hj).1; omega)).trans (hgr.block j (own_lt hv j hj).2 fun e => hd j e.symm hj)
  have nw : ∀ {v : Value} {e size : Nat} {n : Nat} {xs : List Value}, w.ownsRow base e size v n xs → (∀ i, cv.ownBlock = some i → v.ownBlock ≠ some i) → ∀ i, v'.ownBlock = some i → v.ownBlock ≠ some i := fun hv hd j hj e => by
    rcases hat with h6 | h6
    · exact hd j (h6 ▸ hj) e
    · rw [h6] at hj
      injection hj with hj
      have := (own_lt hv j e).2
      omega
  refine ⟨v', w7, hrun, b7, c1, by simp [World.frozen?, row7], hb8, ⟨by rw [row_set row7]; rfl, (set_other w7 h 3 t3 v' (by omega)).trans ((nb t3 (by omega)).trans HX.zero), hb8, kb HX.p (fun i e1 e2 => H.dpc i e2 e1), kb HX.k (fun i e1 e2 => H.dkc i e2 e1), ?_, H.dpk, (fun i e1 e2 => nw H.p (fun i e1 e2 => H.dpc i e2 e1) i e2 e1), (fun i e1 e2 => nw H.k (fun i e1 e2 => H.dkc i e2 e1) i e2 e1), H.hb, H.th, H.bt, H.zt, H.bz, ?_⟩, ?_⟩
  · show (w7.setCell ⟨h, 3, none⟩ v').ownsRow base 3 1 v' (N.cs ++ [a]).length (icells (N.cs ++ [a]))
    rw [List.length_append, icells_app]
    exact own_keepB hown fun j hj => set_other w7 h 3 j v' (by have := (own_lt hown j hj).1; omega)
  · have := f7.size
    simp [World.setCell]; omega
  · exact (f7.mono fun k hk => by omega).setCell (.inl (Nat.le_refl _)) v'
end Go.Proofs.Ytedhcohpcdkgnaa
