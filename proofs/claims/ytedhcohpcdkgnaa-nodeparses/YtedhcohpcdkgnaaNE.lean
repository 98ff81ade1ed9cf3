/- Rows of pairs, texts and numbers that a call makes of its own. Conditions: none. -/
import Derived.Test.YtedhcohpcdkgnaaN5
import Derived.Maps.AppendAt
namespace Go.Bs
open Go.RowKit

/-- the blocks of D alone may have turned. -/
structure Fr (D : Nat → Prop) (w w' : World) : Prop where
  os : w'.os = w.os
  tape : w'.tape = w.tape
  output : w'.output = w.output
  size : w.heap.size ≤ w'.heap.size
  block : ∀ k, k < w.heap.size → ¬ D k → w'.heap[k]? = w.heap[k]?
theorem Fr.refl (D : Nat → Prop) (w : World) : Fr D w w := ⟨rfl, rfl, rfl, Nat.le_refl _, fun _ _ _ => rfl⟩
theorem Fr.step {D D' : Nat → Prop} {a b c : World} (h : Fr D a b) (k : Fr D' b c) (hD : ∀ i, D' i → D i ∨ a.heap.size ≤ i) : Fr D a c :=
  ⟨k.os.trans h.os, k.tape.trans h.tape, k.output.trans h.output, Nat.le_trans h.size k.size, fun i hi hn => (k.block i (Nat.lt_of_lt_of_le hi h.size) (fun hd => (hD i hd).elim hn (by omega))).trans (h.block i hi hn)⟩
theorem Fr.trans {D : Nat → Prop} {a b c : World} (h : Fr D a b) (k : Fr D b c) : Fr D a c := h.step k fun _ hd => .inl hd
theorem Fr.of {D : Nat → Prop} {a b : World} (h : Below a.heap.size a b) : Fr D a b := ⟨h.os, h.tape, h.output, h.size, fun k hk _ => h.block k hk⟩
theorem Fr.below {D : Nat → Prop} {N : Nat} {a b : World} (h : Fr D a b) (h1 : ∀ k, D k → N ≤ k) (h2 : N ≤ a.heap.size) : Below N a b :=
  ⟨h.os, h.tape, h.output, h.size, fun k hk => h.block k (by omega) (fun hd => by have := h1 k hd; omega)⟩
theorem Fr.drew {D : Nat → Prop} {a b : World} (h : Fr D a b) : Fr D a b.drew := ⟨h.os, h.tape, h.output, h.size, h.block⟩
theorem Fr.alloc {D : Nat → Prop} {a b : World} (h : Fr D a b) (o : Obj) : Fr D a (b.alloc o) :=
  h.trans (Fr.of ((Below.refl _ _).alloc (Nat.le_refl _) o))
theorem Fr.grown {D : Nat → Prop} {a b c : World} {row : Option Nat} (h : Fr D a b) (hg : b.grownBy c row) (hr : ∀ k, row = some k → D k ∨ a.heap.size ≤ k) : Fr D a c :=
  h.step (D' := fun k => row = some k) ⟨hg.os, hg.tape, hg.output, hg.size, fun k hk hn => hg.block k hk (fun e => hn e.symm)⟩ hr
theorem Fr.setCell {D : Nat → Prop} {a b : World} (h : Fr D a b) {g i : Nat} (hg : D g ∨ a.heap.size ≤ g) (v : Value) : Fr D a (b.setCell ⟨g, i, none⟩ v) :=
  h.step (D' := fun k => k = g) ⟨rfl, rfl, rfl, by simp [World.setCell], fun k _ hn => Below.heap_setCell b ⟨g, i, none⟩ v k hn⟩ (fun k e => by subst e; exact hg)
theorem Fr.setRow {D : Nat → Prop} {a b : World} (h : Fr D a b) {g : Nat} (hg : D g ∨ a.heap.size ≤ g) (cs : Array Value) : Fr D a (b.setRow g cs) :=
  h.step (D' := fun k => k = g) ⟨rfl, rfl, rfl, by simp, fun k _ hn => setRow_other b g k cs hn⟩ (fun k e => by subst e; exact hg)
theorem Fr.mono {D D' : Nat → Prop} {a b : World} (h : Fr D a b) (hD : ∀ k, D k → D' k) : Fr D' a b := ⟨h.os, h.tape, h.output, h.size, fun k hk hn => h.block k hk (fun hd => hn (hD k hd))⟩

/-! cells -/
def pcells (ps : List Pr) : List Value := ps.flatMap fun p => [.string p.1, .string p.2]
def scells (ks : List ByteArray) : List Value := ks.map .string
def icells (cs : List Int) : List Value := cs.map (.int .i64)
theorem pcells_length (ps : List Pr) : (pcells ps).length = ps.length * 2 := by
  induction ps with
  | nil => rfl
  | cons p l ih => simp only [pcells, List.flatMap_cons, List.length_append, List.length_cons, List.length_nil] at ih ⊢; omega
theorem scells_length (ks : List ByteArray) : (scells ks).length = ks.length * 1 := by simp [scells]
theorem icells_length (cs : List Int) : (icells cs).length = cs.length * 1 := by simp [icells]
theorem pcells_at : ∀ (ps : List Pr) (j : Nat), j < ps.length → (pcells ps)[j * 2]? = some (.string (pAt ps j).1) ∧ (pcells ps)[j * 2 + 1]? = some (.string (pAt ps j).2)
  | p :: l, 0, _ => ⟨rfl, rfl⟩
  | p :: l, j + 1, h => by
    have ih := pcells_at l j (by simpa using h)
    have e : pcells (p :: l) = .string p.1 :: .string p.2 :: pcells l := rfl
    have a : pAt (p :: l) (j + 1) = pAt l j := by simp [pAt, List.getD]
    rw [e, a, show (j + 1) * 2 = j * 2 + 1 + 1 by omega]
    simpa using ih
theorem pcells_or : ∀ (ps : List Pr) (j : Nat) (u : Value), (pcells ps)[j]? = some u → ∃ i, i < ps.length ∧ ((j = i * 2 ∧ u = .string (pAt ps i).1) ∨ (j = i * 2 + 1 ∧ u = .string (pAt ps i).2)) := by
  intro ps j u h
  have hl : j < (pcells ps).length := (List.getElem?_eq_some_iff.1 h).1
  rw [pcells_length] at hl
  refine ⟨j / 2, by omega, ?_⟩
  obtain ⟨h1, h2⟩ := pcells_at ps (j / 2) (by omega)
  rcases Nat.mod_two_eq_zero_or_one j with e | e
  · left
    have hj : j = j / 2 * 2 := by omega
    rw [← hj, h] at h1
    exact ⟨hj, Option.some.inj h1⟩
  · right
    have hj : j = j / 2 * 2 + 1 := by omega
    rw [← hj, h] at h2
    exact ⟨hj, Option.some.inj h2⟩
theorem pcells_app (a b : List Pr) : pcells (a ++ b) = pcells a ++ pcells b := by simp [pcells]
theorem scells_app (a b : List ByteArray) : scells (a ++ b) = scells a ++ scells b := by simp [scells]
theorem icells_app (a b : List Int) : icells (a ++ b) = icells a ++ icells b := by simp [icells]
theorem pcells_one (ps : List Pr) : ∀ v ∈ pcells ps, v.oneCell' = true := by
  intro v hv
  obtain ⟨p, _, hp⟩ := List.mem_flatMap.1 hv
  simp at hp
  rcases hp with rfl | rfl <;> rfl
theorem scells_one (ks : List ByteArray) : ∀ v ∈ scells ks, v.oneCell' = true := by
  intro v hv
  obtain ⟨p, _, rfl⟩ := List.mem_map.1 hv
  rfl
theorem icells_one (cs : List Int) : ∀ v ∈ icells cs, v.oneCell' = true := by
  intro v hv
  obtain ⟨p, _, rfl⟩ := List.mem_map.1 hv
  rfl
/-- the cells of what came in. -/
theorem RdP.news {w : World} {a : Addr} {n c : Nat} {ps : List Pr} (h : RdP w (some a) n c ps) : ∀ j u, (pcells ps)[j]? = some u → w.cell? (a.add j) = some u := by
  intro j u hu
  obtain ⟨i, hi, h2⟩ := pcells_or ps j u hu
  rw [h.len] at hi
  obtain ⟨g, o, e, _, hc⟩ := h.cells (by omega)
  injection e with e
  subst e
  rw [addr_add]
  rcases h2 with ⟨rfl, rfl⟩ | ⟨rfl, rfl⟩
  · exact (hc i hi).1
  · rw [← Nat.add_assoc]; exact (hc i hi).2
theorem RdS.news {w : World} {a : Addr} {n c : Nat} {ks : List ByteArray} (h : RdS w (some a) n c ks) : ∀ j u, (scells ks)[j]? = some u → w.cell? (a.add j) = some u := by
  intro j u hu
  have hl : j < (scells ks).length := (List.getElem?_eq_some_iff.1 hu).1
  rw [scells_length] at hl
  obtain ⟨g, o, e, _, hc⟩ := h.cells (by have := h.len; omega)
  injection e with e
  subst e
  rw [addr_add, hc j (by have := h.len; omega)]
  rw [← hu]
  simp [scells, List.getD, List.getElem?_eq_getElem (show j < ks.length by omega)]
theorem RdI.news {w : World} {a : Addr} {n c : Nat} {cs : List Int} (h : RdI w (some a) n c cs) : ∀ j u, (icells cs)[j]? = some u → w.cell? (a.add j) = some u := by
  intro j u hu
  have hl : j < (icells cs).length := (List.getElem?_eq_some_iff.1 hu).1
  rw [icells_length] at hl
  obtain ⟨g, o, e, _, hc⟩ := h.cells (by have := h.len; omega)
  injection e with e
  subst e
  rw [addr_add, hc j (by have := h.len; omega)]
  rw [← hu]
  simp [icells, List.getD, List.getElem?_eq_getElem (show j < cs.length by omega)]
/-- what one's own row reads as. -/
theorem rdP_own {w : World} {base e : Nat} {v : Value} {n : Nat} {ps : List Pr} (h : w.ownsRow base e 2 v n (pcells ps)) (hsz : ∀ p ∈ ps, p.1.size ≤ 140737488351232 ∧ p.2.size ≤ 140737488351232) : ∃ A c, v = .slice A n c ∧ RdP w A n c ps := by
  have hl : ps.length = n := by have := h.1; rw [pcells_length] at this; omega
  rcases h.2 with ⟨rfl, rfl⟩ | ⟨g, cap, cur, rfl, hb, hg, hnc, hcm, hcs, htk⟩
  · exact ⟨none, 0, rfl, hl, Nat.le_refl _, hsz, fun h0 => absurd h0 (by omega)⟩
  · refine ⟨_, _, rfl, hl, hnc, hsz, fun h0 => ⟨g, 0, rfl, (Array.getElem?_eq_some_iff.1 hg).1, fun j hj => ?_⟩⟩
    obtain ⟨h1, h2⟩ := pcells_at ps j (by omega)
    have hc : ∀ i, i < n * 2 → w.cell? ⟨g, i, none⟩ = (pcells ps)[i]? := fun i hi => by
      rw [cell_of_row w g i _ e (0, 0) hg, ← htk, List.getElem?_take_of_lt hi, Array.getElem?_toList]
    rw [Nat.zero_add, hc _ (by omega), hc _ (by omega)]
    exact ⟨h1, h2⟩
theorem rdS_own {w : World} {base e : Nat} {v : Value} {n : Nat} {ks : List ByteArray} (h : w.ownsRow base e 1 v n (scells ks)) (hsz : ∀ p ∈ ks, p.size ≤ maxLen) : ∃ A c, v = .slice A n c ∧ RdS w A n c ks := by
  have hl : ks.length = n := by have := h.1; rw [scells_length] at this; omega
  rcases h.2 with ⟨rfl, rfl⟩ | ⟨g, cap, cur, rfl, hb, hg, hnc, hcm, hcs, htk⟩
  · exact ⟨none, 0, rfl, hl, Nat.le_refl _, hsz, fun h0 => absurd h0 (by omega)⟩
  · refine ⟨_, _, rfl, hl, hnc, hsz, fun h0 => ⟨g, 0, rfl, (Array.getElem?_eq_some_iff.1 hg).1, fun j hj => ?_⟩⟩
    rw [Nat.zero_add, cell_of_row w g j _ e (0, 0) hg, ← Array.getElem?_toList, ← List.getElem?_take_of_lt (show j < n * 1 by omega), htk]
    simp [scells, List.getD, List.getElem?_eq_getElem (show j < ks.length by omega)]
theorem rdI_own {w : World} {base e : Nat} {v : Value} {n : Nat} {cs : List Int} (h : w.ownsRow base e 1 v n (icells cs)) (hsz : ∀ z ∈ cs, -9223372036854775808 ≤ z ∧ z ≤ 9223372036854775807) : ∃ A c, v = .slice A n c ∧ RdI w A n c cs := by
  have hl : cs.length = n := by have := h.1; rw [icells_length] at this; omega
  rcases h.2 with ⟨rfl, rfl⟩ | ⟨g, cap, cur, rfl, hb, hg, hnc, hcm, hcs, htk⟩
  · exact ⟨none, 0, rfl, hl, Nat.le_refl _, hsz, fun h0 => absurd h0 (by omega)⟩
  · refine ⟨_, _, rfl, hl, hnc, hsz, fun h0 => ⟨g, 0, rfl, (Array.getElem?_eq_some_iff.1 hg).1, fun j hj => ?_⟩⟩
    rw [Nat.zero_add, cell_of_row w g j _ e (0, 0) hg, ← Array.getElem?_toList, ← List.getElem?_take_of_lt (show j < n * 1 by omega), htk]
    simp [icells, List.getD, List.getElem?_eq_getElem (show j < cs.length by omega)]
theorem own_empty (w : World) (e size : Nat) : (w.alloc (.cells #[] e)).ownsRow w.heap.size e size (.slice (some ⟨w.heap.size, 0, none⟩) 0 0) 0 [] :=
  ⟨by simp, .inr ⟨w.heap.size, 0, #[], rfl, Nat.le_refl _, heap_alloc_new w _, Nat.le_refl _, by simp [maxLen], by simp, by simp⟩⟩
theorem own_nil (w : World) (base e size : Nat) : w.ownsRow base e size (.slice none 0 0) 0 [] := ⟨by simp, .inl ⟨rfl, rfl⟩⟩
theorem own_keepB {w w' : World} {base e size : Nat} {v : Value} {n : Nat} {xs : List Value} (h : w.ownsRow base e size v n xs) (hk : ∀ k, v.ownBlock = some k → w'.heap[k]? = w.heap[k]?) : w'.ownsRow base e size v n xs := by
  refine ⟨h.1, ?_⟩
  rcases h.2 with h1 | ⟨g, cap, cur, rfl, hb, hg, rest⟩
  · exact .inl h1
  · exact .inr ⟨g, cap, cur, rfl, hb, (hk g rfl).trans hg, rest⟩
theorem own_lt {w : World} {base e size : Nat} {v : Value} {n : Nat} {xs : List Value} (h : w.ownsRow base e size v n xs) (k : Nat) (hk : v.ownBlock = some k) : base ≤ k ∧ k < w.heap.size := by
  rcases h.2 with ⟨rfl, _⟩ | ⟨g, cap, cur, rfl, hb, hg, rest⟩
  · simp [Value.ownBlock] at hk
  · have : g = k := by simpa [Value.ownBlock] using hk
    subst this
    exact ⟨hb, (Array.getElem?_eq_some_iff.1 hg).1⟩
theorem own_keep {w w' : World} {base e size : Nat} {v : Value} {n : Nat} {xs : List Value} (h : w.ownsRow base e size v n xs) (hb : Below w.heap.size w w') : w'.ownsRow base e size v n xs :=
  own_keepB h fun k hk => hb.block k (own_lt h k hk).2
theorem own_alloc {w : World} {base e size : Nat} {v : Value} {n : Nat} {xs : List Value} (h : w.ownsRow base e size v n xs) (o : Obj) : (w.alloc o).ownsRow base e size v n xs := own_keep h ((Below.refl _ _).alloc (Nat.le_refl _) o)
section
variable {P : Program}
theorem run_appN (w : World) (base t ty e size bytes : Nat) (i : TypeInfo) (z : Value) (ht : P.underlying t = some (.slice e)) (hi : P.info? e = some i) (hz : i.zero = some z) (hsize : i.size = size) (hby : i.bytes = bytes) (hzs : z.cells.size = size) (hsz : 0 < size)
    (v : Value) (n : Nat) (xs : List Value) (hown : w.ownsRow base e size v n xs) (A : Option Addr) (m c : Nat) (news : List Value) (hA : A = none → m = 0) (hl : news.length = m * size) (hnews : ∀ a, A = some a → ∀ j u, news[j]? = some u → w.cell? (a.add j) = some u) (h1 : ∀ u ∈ news, u.oneCell' = true)
    (h63 : n + m ≤ maxLen) (hbytes : (n + m) * bytes ≤ 140737488355328) (hbase : base ≤ w.heap.size) :
    ∃ v' w', (Builtin.append_ #[t, t] ty #[v, .slice A m c]).run P w = .ok v' w' ∧ w'.ownsRow base e size v' (n + m) (xs ++ news) ∧ w.grownBy w' v.ownBlock ∧ (v'.ownBlock = v.ownBlock ∨ v'.ownBlock = some w.heap.size) := by
  rcases A with _ | a
  · obtain rfl := hA rfl
    obtain rfl : news = [] := List.eq_nil_of_length_eq_zero (by omega)
    refine ⟨v, w, ?_, by simpa using hown, ⟨rfl, rfl, rfl, Nat.le_refl _, fun _ _ _ => rfl⟩, .inl rfl⟩
    rcases hown.2 with ⟨rfl, rfl⟩ | ⟨g, cap, cur, rfl, _, _, hnc, _⟩
    · simp [Builtin.append_, run_underlying ht, sizeOf, typeInfo, hi, Builtin.lenOf, Builtin.firstCells]
    · simp [Builtin.append_, run_underlying ht, sizeOf, typeInfo, hi, Builtin.lenOf, Builtin.firstCells, hnc, storeCells]
  · obtain ⟨v', w', h2, h3, h4, _, h5⟩ := run_append_own_at (P := P) w base t ty e i z size bytes ht hi hz hsize hby hzs hsz v n xs hown a m c news hl (hnews a rfl) h1 h63 hbytes hbase
    exact ⟨v', w', h2, h3, h4, h5⟩
theorem wpList_appN (w : World) {ops : Array Oper} {rest : List Oper} {o : Oper} {a : Act} {Q : Exit → Act → World → Prop} (hgd : o.guard = none) (s x : Operand) (t : TypeId)
    (ho : o.op = .call { callee := .builtin .append, args := #[s, x], argTypes := #[t, t] })
    (base e size bytes : Nat) (i : TypeInfo) (z : Value) (ht : P.underlying t = some (.slice e)) (hi : P.info? e = some i) (hz : i.zero = some z) (hsize : i.size = size) (hby : i.bytes = bytes) (hzs : z.cells.size = size) (hsz : 0 < size)
    (v : Value) (n : Nat) (xs : List Value) (hs : a.eval s = v) (hown : w.ownsRow base e size v n xs) (A : Option Addr) (m c : Nat) (news : List Value) (hx : a.eval x = .slice A m c) (hA : A = none → m = 0) (hl : news.length = m * size) (hnews : ∀ a, A = some a → ∀ j u, news[j]? = some u → w.cell? (a.add j) = some u) (h1 : ∀ u ∈ news, u.oneCell' = true)
    (h63 : n + m ≤ maxLen) (hbytes : (n + m) * bytes ≤ 140737488355328) (hbase : base ≤ w.heap.size)
    (h : ∀ v' w', w'.ownsRow base e size v' (n + m) (xs ++ news) → w.grownBy w' v.ownBlock → (v'.ownBlock = v.ownBlock ∨ v'.ownBlock = some w.heap.size) → wpList P ops Q rest (a.put o.dst v') w') : wpList P ops Q (o :: rest) a w := by
  refine wpList_plain hgd fun K hK => ?_
  obtain ⟨v', w', hr, h2, h3, h4⟩ := run_appN (P := P) w base t o.type e size bytes i z ht hi hz hsize hby hzs hsz v n xs hown A m c news hA hl hnews h1 h63 hbytes hbase
  unfold Oper.wp execOp
  simp only [ho, resolve, invoke, builtin, Sem.run_bind, Sem.run_pure, Result.andThen_ok, List.map_toArray, List.map_cons, List.map_nil, hs, hx, hr]
  exact hK _ _ (h v' w' h2 h3 h4)
end
end Go.Bs
namespace Go.Proofs.Ytedhcohpcdkgnaa
open Go.RowKit Go.Bs
theorem pair_info : ∃ i z, Try.prog.info? 49 = some i ∧ i.zero = some z ∧ i.size = 2 ∧ i.bytes = 32 ∧ z.cells.size = 2 := by
  have h : (Try.prog.info? 49).map (fun i => (i.zero, i.size, i.bytes)) = some (some (.agg #[.string ByteArray.empty, .string ByteArray.empty]), 2, 32) := by kernel_rfl
  obtain ⟨i, h1, h2, h3, h4⟩ := info_parts h
  exact ⟨i, _, h1, h2, h3, h4, rfl⟩
theorem str_info : ∃ i z, Try.prog.info? 9 = some i ∧ i.zero = some z ∧ i.size = 1 ∧ i.bytes = 16 ∧ z.cells.size = 1 := by
  have h : (Try.prog.info? 9).map (fun i => (i.zero, i.size, i.bytes)) = some (some (.string ByteArray.empty), 1, 16) := by kernel_rfl
  obtain ⟨i, h1, h2, h3, h4⟩ := info_parts h
  exact ⟨i, _, h1, h2, h3, h4, rfl⟩
theorem int_info : ∃ i z, Try.prog.info? 3 = some i ∧ i.zero = some z ∧ i.size = 1 ∧ i.bytes = 8 ∧ z.cells.size = 1 := by
  have h : (Try.prog.info? 3).map (fun i => (i.zero, i.size, i.bytes)) = some (some (.int .i64 0), 1, 8) := by kernel_rfl
  obtain ⟨i, h1, h2, h3, h4⟩ := info_parts h
  exact ⟨i, _, h1, h2, h3, h4, rfl⟩
end Go.Proofs.Ytedhcohpcdkgnaa
