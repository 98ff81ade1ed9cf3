/- A Commit wherever the power goes, in plain words. Conditions: none. A Commit wherever the power goes, and opened anew. Conditions: none. -/
import Derived.Test.YtephmcbofcfpmaaGreatJ20
set_option maxRecDepth 8000
set_option linter.unusedSimpArgs false
set_option linter.unusedVariables false
namespace Go.Dk
open Go.RowKit Go.Bs

abbrev Dk := Nat → List UInt8
/-- a deed went well, and left this; or the power went, and what is left is of P. -/
def Out (P : Dk → Prop) (s : S) (L' : Dk) (c' : List Wr) (R : S × Int) : Prop :=
  (R.2 = 0 ∧ ∃ dd ll, R.1 = { s with L := L', c := c', deeds := dd, left := ll } ∧ (s.left = 0 → ll = 0)) ∨
  (R.2 = 50 ∧ s.left ≠ 0 ∧ R.1.up = false ∧ R.1.c = [] ∧ P R.1.L ∧ R.1.sectors = s.sectors ∧ R.1.bytes = s.bytes)
theorem deed_out {P : Dk → Prop} {s : S} (hu : s.up = true) (hP : ∀ ks, P (cur s.L (kept ks s.c))) : Out P s s.L s.c s.deed := by
  unfold S.deed
  by_cases h0 : s.left = 0
  · rw [if_pos h0]
    exact .inl ⟨rfl, _, _, rfl, fun _ => h0⟩
  · rw [if_neg h0]
    by_cases h1 : s.left = 1
    · rw [if_pos h1]
      refine .inr ⟨rfl, h0, ?_, ?_, ?_, ?_, ?_⟩ <;> (unfold S.crash; rw [if_pos hu])
      exact hP _
    · rw [if_neg h1]
      exact .inl ⟨rfl, _, _, rfl, fun h => absurd h h0⟩
theorem write_out {P : Dk → Prop} {s : S} (hu : s.up = true) (i : Int) (b : List UInt8) (h0 : 0 ≤ i) (h1 : i < (s.sectors : Int)) (hb : b.length = s.bytes) (hP : ∀ ks, P (cur s.L (kept ks (s.c ++ [(i.toNat, b)])))) : Out P s s.L (s.c ++ [(i.toNat, b)]) (s.write i b) := by
  unfold S.write
  rw [if_neg (by simp [hu]), if_neg (by simp [S.has, hb]; omega)]
  exact deed_out (s := { s with c := s.c ++ [(i.toNat, b)] }) hu hP
theorem flush_out {P : Dk → Prop} {s : S} (hu : s.up = true) (hP : ∀ ks, P (cur s.L (kept ks s.c))) : Out P s (cur s.L s.c) [] s.flush := by
  unfold S.flush
  rw [if_neg (by simp [hu])]
  rcases deed_out hu hP with ⟨h1, dd, ll, h2, h3⟩ | ⟨h1, h2, h3, h4, h5, h6⟩
  · rw [if_pos h1]
    exact .inl ⟨rfl, dd, ll, by rw [h2], h3⟩
  · rw [if_neg (by rw [h1]; decide)]
    exact .inr ⟨h1, h2, h3, h4, h5, h6⟩
theorem Out.seq {P : Dk → Prop} {s : S} {L1 L2 : Dk} {c1 c2 : List Wr} {f : Dd1} {fs : List Dd1} (h : Out P s L1 c1 (f s)) (h2 : ∀ dd ll, (s.left = 0 → ll = 0) → Out P { s with L := L1, c := c1, deeds := dd, left := ll } L2 c2 (S.all fs { s with L := L1, c := c1, deeds := dd, left := ll })) :
    Out P s L2 c2 (S.all (f :: fs) s) := by
  unfold S.all
  rcases h with ⟨h0, dd, ll, h3, h4⟩ | ⟨h0, h3⟩
  · rw [if_pos h0, h3]
    rcases h2 dd ll h4 with ⟨k0, dd', ll', k1, k2⟩ | ⟨k0, k1, k2⟩
    · exact .inl ⟨k0, dd', ll', k1, fun h => k2 (h4 h)⟩
    · exact .inr ⟨k0, fun h => k1 (h4 h), k2⟩
  · rw [if_neg (by rw [h0]; decide)]
    exact .inr ⟨h0, h3⟩
theorem Out.nil {P : Dk → Prop} {s : S} : Out P s s.L s.c (S.all [] s) := .inl ⟨rfl, s.deeds, s.left, rfl, fun h => h⟩
def wOf (ws : List Ch) : List Wr := ws.map fun c => (c.1.toNat, c.2)
theorem puts_out {P : Dk → Prop} (ws : List Ch) : ∀ (s : S), s.up = true → (∀ c ∈ ws, 0 ≤ c.1 ∧ c.1 < (s.sectors : Int) ∧ c.2.length = s.bytes) → (∀ j ks, P (cur s.L (kept ks (s.c ++ (wOf ws).take j)))) → Out P s s.L (s.c ++ wOf ws) (s.puts ws) := by
  induction ws with
  | nil => intro s _ _ _; exact .inl ⟨rfl, s.deeds, s.left, by simp [wOf, S.puts], fun h => h⟩
  | cons x ws ih =>
    intro s hu hv hP
    have hx := hv x (by simp)
    have h1 := write_out (P := P) hu x.1 x.2 hx.1 hx.2.1 hx.2.2 (fun ks => by have := hP 1 ks; simpa [wOf] using this)
    unfold S.puts
    rcases h1 with ⟨h0, dd, ll, h3, h4⟩ | ⟨h0, h3⟩
    · rw [if_pos h0, h3]
      have h2 := ih { s with L := s.L, c := s.c ++ [(x.1.toNat, x.2)], deeds := dd, left := ll } hu (fun c hc => hv c (by simp [hc])) (fun j ks => by
        have := hP (j + 1) ks
        simpa [wOf, List.append_assoc] using this)
      rcases h2 with ⟨k0, dd', ll', k1, k2⟩ | ⟨k0, k1, k2⟩
      · exact .inl ⟨k0, dd', ll', by rw [k1]; simp [wOf, List.append_assoc], fun h => k2 (h4 h)⟩
      · exact .inr ⟨k0, fun h => k1 (h4 h), k2⟩
    · rw [if_neg (by rw [h0]; decide)]
      exact .inr ⟨h0, h3⟩

theorem cur_off (c : List Wr) : ∀ (L : Dk) (k : Nat), (∀ p ∈ c, p.1 ≠ k) → cur L c k = L k := by
  induction c with
  | nil => intro L k _; rfl
  | cons p c ih =>
    intro L k h
    show cur (upd L p.1 p.2) c k = L k
    rw [ih _ _ (fun q hq => h q (by simp [hq]))]
    exact upd_other _ _ _ _ (fun e => h p (by simp) e.symm)
/-- where both are alike but for what is written, they are alike. -/
theorem cur_same (c : List Wr) : ∀ (L L' : Dk) (k : Nat), ((∀ p ∈ c, p.1 ≠ k) → L k = L' k) → cur L c k = cur L' c k := by
  induction c with
  | nil => intro L L' k h; exact h (fun p hp => by cases hp)
  | cons p c ih =>
    intro L L' k h
    show cur (upd L p.1 p.2) c k = cur (upd L' p.1 p.2) c k
    refine ih _ _ _ fun hn => ?_
    by_cases e : k = p.1
    · subst e; rw [upd_same, upd_same]
    · rw [upd_other _ _ _ _ e, upd_other _ _ _ _ e]
      refine h fun q hq => ?_
      rcases List.mem_cons.1 hq with rfl | hq
      · exact fun e' => e e'.symm
      · exact hn q hq
theorem kept_one (ks : List Bool) (p : Wr) : kept ks [p] = [] ∨ kept ks [p] = [p] := by
  cases ks with
  | nil => exact .inl rfl
  | cons b ks =>
    cases b
    · left; simp [kept]
    · right; simp [kept]
end Go.Dk

set_option maxRecDepth 8000
set_option linter.unusedSimpArgs false
set_option linter.unusedVariables false
namespace Go.Dk
open Go.RowKit Go.Bs

theorem nums_at : ∀ (l : List Ch) (j : Nat), j < l.length → (l.flatMap nums)[3 * j]? = some (byteAt (chAt l j).1.toNat 2) ∧ (l.flatMap nums)[3 * j + 1]? = some (byteAt (chAt l j).1.toNat 1) ∧ (l.flatMap nums)[3 * j + 2]? = some (byteAt (chAt l j).1.toNat 0)
  | [], j, h => by simp at h
  | x :: l, 0, _ => ⟨rfl, rfl, rfl⟩
  | x :: l, j + 1, h => by
    have := nums_at l j (by simpa using h)
    rw [List.flatMap_cons]
    have e : chAt (x :: l) (j + 1) = chAt l j := by simp [chAt]
    rw [e, show 3 * (j + 1) = 3 * j + 1 + 1 + 1 by omega]
    exact this
theorem cmt_head (bytes : Nat) (l : List Ch) : (cmt bytes l).getD 0 0 = 1 ∧ (cmt bytes l).getD 1 0 = byteAt l.length 1 ∧ (cmt bytes l).getD 2 0 = byteAt l.length 0 := ⟨rfl, rfl, rfl⟩
theorem cmt_at (bytes : Nat) (l : List Ch) (j i : Nat) (hj : j < l.length) (hi : i < 3) : (cmt bytes l).getD (3 + 3 * j + i) 0 = ((l.flatMap nums)[3 * j + i]?).getD 0 := by
  have hl := nums_len l
  have h3 : (cmtH l.length).length = 3 := rfl
  unfold cmt
  rw [List.getD_eq_getElem?_getD, List.getElem?_append_left (by rw [List.length_append, hl, h3]; omega), List.getElem?_append_right (by rw [h3]; omega), h3, show 3 + 3 * j + i - 3 = 3 * j + i by omega]
theorem cmt_cnt (bytes : Nat) (l : List Ch) (h : l.length < 65536) : cntN (cmt bytes l) = l.length := by
  obtain ⟨_, h1, h2⟩ := cmt_head bytes l
  unfold cntN
  rw [h1, h2, byteAt_toNat, byteAt_toNat]
  simp
  omega
theorem cmt_num (bytes : Nat) (l : List Ch) (j : Nat) (hj : j < l.length) (h : (chAt l j).1.toNat < 16777216) : be24 (cmt bytes l) (3 + 3 * j) = (chAt l j).1.toNat := by
  obtain ⟨n0, n1, n2⟩ := nums_at l j hj
  have c0 := cmt_at bytes l j 0 hj (by omega)
  have c1 := cmt_at bytes l j 1 hj (by omega)
  have c2 := cmt_at bytes l j 2 hj (by omega)
  rw [Nat.add_zero, Nat.add_zero, n0] at c0
  rw [n1] at c1
  rw [n2] at c2
  unfold be24
  rw [c0, c1, c2]
  simp only [Option.getD_some, byteAt_toNat]
  simp
  omega
/-- the changes of a commit are told as they were. -/
theorem chs_cmt (s : S) (log bytes : Nat) (l : List Ch) (hn : l.length ≤ log) (hlog : log < 65536) (hnb : s.sectors ≤ 65536) (hv : ∀ j, j < l.length → 0 ≤ (chAt l j).1 ∧ (chAt l j).1 < ((s.sectors - 1 - log : Nat) : Int)) (hL : ∀ j, j < l.length → cur s.L s.c (1 + j) = (chAt l j).2) : chs s log (cmt bytes l) = l := by
  unfold chs
  rw [cmt_cnt bytes l (by omega), Nat.min_eq_left hn]
  have : ∀ m, m ≤ l.length → chsTo s log (cmt bytes l) m = l.take m := by
    intro m
    induction m with
    | zero => intro _; rw [List.take_zero]; rfl
    | succ m ih =>
      intro hm
      have hx := hv m (by omega)
      have hb := cmt_num bytes l m (by omega) (by omega)
      rw [chsTo_yes s log _ m (by rw [hb]; omega), ih (by omega), hb, hL m (by omega), List.take_succ_eq_append_getElem (by omega)]
      congr 2
      have e : chAt l m = l[m] := by simp [chAt, List.getD, List.getElem?_eq_getElem (show m < l.length by omega)]
      rw [← e]
      exact Prod.ext (by show ((chAt l m).1.toNat : Int) = (chAt l m).1; omega) rfl
  rw [this l.length (Nat.le_refl _), List.take_length]

/-! ### what is left of a Commit -/
def unset (L : Dk) : Prop := (L 0).getD 0 0 ≠ 1
/-- the blocks' sectors are alike. -/
def eqB (log : Nat) (L L' : Dk) : Prop := ∀ k, 1 + log ≤ k → L k = L' k
def wB (log : Nat) (l : List Ch) : List Wr := wOf (Go.Proofs.YtephmcbofcfpmaaGreat.blkL log l)
def Old (log : Nat) (L0 L : Dk) : Prop := unset L ∧ eqB log L L0
def New (log : Nat) (L0 : Dk) (l : List Ch) (L : Dk) : Prop := unset L ∧ eqB log L (cur L0 (wB log l))
def Mid (log bytes : Nat) (L0 : Dk) (l : List Ch) (L : Dk) : Prop := L 0 = cmt bytes l ∧ (∀ j, j < l.length → L (1 + j) = (chAt l j).2) ∧ ∀ k, 1 + log ≤ k → (∀ p ∈ wB log l, p.1 ≠ k) → L k = L0 k
def Cut (log bytes : Nat) (L0 : Dk) (l : List Ch) (L : Dk) : Prop := Old log L0 L ∨ Mid log bytes L0 l L ∨ New log L0 l L

theorem wB_ge {log : Nat} {l : List Ch} (hv : ∀ j, j < l.length → 0 ≤ (chAt l j).1) {p : Wr} (h : p ∈ wB log l) : 1 + log ≤ p.1 := by
  unfold wB wOf Go.Proofs.YtephmcbofcfpmaaGreat.blkL at h
  simp only [List.map_map, List.mem_map, Function.comp] at h
  obtain ⟨c, hc, rfl⟩ := h
  obtain ⟨j, hj, rfl⟩ := List.mem_iff_getElem.1 hc
  have := hv j hj
  have e : chAt l j = l[j] := by simp [chAt, List.getD, List.getElem?_eq_getElem hj]
  rw [e] at this
  show 1 + log ≤ (1 + (log : Int) + l[j].1).toNat
  omega
theorem wL_get (l : List Ch) (j : Nat) (hj : j < l.length) : (wOf (Go.Proofs.YtephmcbofcfpmaaGreat.logL l))[j]? = some (1 + j, (chAt l j).2) := by
  unfold wOf Go.Proofs.YtephmcbofcfpmaaGreat.logL
  simp [chAt, List.getD, List.getElem?_eq_getElem hj]
  omega
theorem wL_len (l : List Ch) : (wOf (Go.Proofs.YtephmcbofcfpmaaGreat.logL l)).length = l.length := by simp [wOf, Go.Proofs.YtephmcbofcfpmaaGreat.logL]
theorem wL_mem {l : List Ch} {p : Wr} (h : p ∈ wOf (Go.Proofs.YtephmcbofcfpmaaGreat.logL l)) : 1 ≤ p.1 ∧ p.1 ≤ l.length := by
  obtain ⟨j, e⟩ := List.mem_iff_getElem?.1 h
  have hj : j < l.length := by
    have := (List.getElem?_eq_some_iff.1 e).1
    rw [wL_len] at this
    exact this
  rw [wL_get l j hj] at e
  cases e
  exact ⟨by show 1 ≤ 1 + j; omega, by show 1 + j ≤ l.length; omega⟩
/-- what the log has behind its writes. -/
theorem wL_cur (l : List Ch) (L : Dk) : ∀ j, j < l.length → cur L (wOf (Go.Proofs.YtephmcbofcfpmaaGreat.logL l)) (1 + j) = (chAt l j).2 := by
  intro j hj
  have hsplit : wOf (Go.Proofs.YtephmcbofcfpmaaGreat.logL l) = (wOf (Go.Proofs.YtephmcbofcfpmaaGreat.logL l)).take (j + 1) ++ (wOf (Go.Proofs.YtephmcbofcfpmaaGreat.logL l)).drop (j + 1) := (List.take_append_drop _ _).symm
  have hlen := wL_len l
  have ht : (wOf (Go.Proofs.YtephmcbofcfpmaaGreat.logL l)).take (j + 1) = (wOf (Go.Proofs.YtephmcbofcfpmaaGreat.logL l)).take j ++ [(1 + j, (chAt l j).2)] := by
    rw [List.take_succ_eq_append_getElem (by omega)]
    congr 2
    have := wL_get l j hj
    rw [List.getElem?_eq_getElem (by omega)] at this
    exact Option.some.inj this
  have hc : cur L (wOf (Go.Proofs.YtephmcbofcfpmaaGreat.logL l)) = cur (cur L ((wOf (Go.Proofs.YtephmcbofcfpmaaGreat.logL l)).take (j + 1))) ((wOf (Go.Proofs.YtephmcbofcfpmaaGreat.logL l)).drop (j + 1)) := by
    conv => lhs; rw [hsplit]
    simp only [cur, List.foldl_append]
  rw [hc, cur_off _ _ _ (fun p hp => ?_), ht, cur_snoc]
  · exact upd_same _ _ _
  · obtain ⟨i, hi⟩ := List.mem_iff_getElem?.1 hp
    rw [List.getElem?_drop] at hi
    have hil : j + 1 + i < l.length := by
      have := (List.getElem?_eq_some_iff.1 hi).1
      omega
    rw [wL_get l _ hil] at hi
    cases hi
    show 1 + (j + 1 + i) ≠ 1 + j
    omega

/-- changes that may be committed. -/
structure Fit (s : S) (log : Nat) (l : List Ch) : Prop where
  l1 : log + 1 < s.sectors
  l2 : 3 + 3 * log ≤ s.bytes
  s1 : s.sectors ≤ 65536
  n : l.length ≤ log
  v : ∀ j, j < l.length → (0 ≤ (chAt l j).1 ∧ (chAt l j).1 < ((s.sectors - 1 - log : Nat) : Int)) ∧ (chAt l j).2.length = s.bytes
theorem Fit.of {s : S} {log : Nat} {l : List Ch} (l1 : log + 1 < s.sectors) (l2 : 3 + 3 * log ≤ s.bytes) (s1 : s.sectors ≤ 65536) (h : chk (s.sectors - 1 - log) s.bytes log l = 0) : Fit s log l :=
  ⟨l1, l2, s1, (chk_zero h).1, (chk_zero h).2⟩
theorem Fit.mem {s : S} {log : Nat} {l : List Ch} (h : Fit s log l) {c : Ch} (hc : c ∈ l) : (0 ≤ c.1 ∧ c.1 < ((s.sectors - 1 - log : Nat) : Int)) ∧ c.2.length = s.bytes := by
  obtain ⟨j, hj, rfl⟩ := List.mem_iff_getElem.1 hc
  have e : chAt l j = l[j] := by simp [chAt, List.getD, List.getElem?_eq_getElem hj]
  rw [← e]
  exact h.v j hj
theorem Fit.logs {s : S} {log : Nat} {l : List Ch} (h : Fit s log l) : ∀ c ∈ Go.Proofs.YtephmcbofcfpmaaGreat.logL l, 0 ≤ c.1 ∧ c.1 < (s.sectors : Int) ∧ c.2.length = s.bytes := by
  intro c hc
  unfold Go.Proofs.YtephmcbofcfpmaaGreat.logL at hc
  obtain ⟨j, hj, rfl⟩ := List.mem_mapIdx.1 hc
  have := h.n
  have := h.l1
  exact ⟨by show (0 : Int) ≤ 1 + (j : Int); omega, by show 1 + (j : Int) < _; omega, (h.mem (List.getElem_mem hj)).2⟩
theorem Fit.blks {s : S} {log : Nat} {l : List Ch} (h : Fit s log l) : ∀ c ∈ Go.Proofs.YtephmcbofcfpmaaGreat.blkL log l, 0 ≤ c.1 ∧ c.1 < (s.sectors : Int) ∧ c.2.length = s.bytes := by
  intro c hc
  unfold Go.Proofs.YtephmcbofcfpmaaGreat.blkL at hc
  obtain ⟨d, hd, rfl⟩ := List.mem_map.1 hc
  have h1 := h.mem hd
  have := h.l1
  exact ⟨by show (0 : Int) ≤ 1 + (log : Int) + d.1; omega, by show 1 + (log : Int) + d.1 < _; omega, h1.2⟩
theorem mid_puts {log bytes : Nat} {L0 : Dk} {l : List Ch} {L : Dk} (hv : ∀ j, j < l.length → 0 ≤ (chAt l j).1) (hn : l.length ≤ log) (h : Mid log bytes L0 l L) (c : List Wr) (hc : ∀ p ∈ c, p ∈ wB log l) : Mid log bytes L0 l (cur L c) := by
  refine ⟨?_, fun j hj => ?_, fun k hk hn' => ?_⟩
  · rw [cur_off _ _ _ (fun p hp => by have := wB_ge hv (hc p hp); omega)]; exact h.1
  · rw [cur_off _ _ _ (fun p hp => by have := wB_ge hv (hc p hp); omega)]; exact h.2.1 j hj
  · rw [cur_off _ _ _ (fun p hp => hn' p (hc p hp))]; exact h.2.2 k hk hn'
theorem mid_new {log bytes : Nat} {L0 : Dk} {l : List Ch} {L : Dk} (h : Mid log bytes L0 l L) (hb : 0 < bytes) : New log L0 l (cur (cur L (wB log l)) [(0, zeros bytes)]) := by
  refine ⟨?_, fun k hk => ?_⟩
  · show ((upd (cur L (wB log l)) 0 (zeros bytes)) 0).getD 0 0 ≠ 1
    rw [upd_same]
    unfold zeros
    obtain ⟨b, rfl⟩ : ∃ b, bytes = b + 1 := ⟨bytes - 1, by omega⟩
    simp [List.replicate_succ]
  · show (upd (cur L (wB log l)) 0 (zeros bytes)) k = _
    rw [upd_other _ _ _ _ (by omega)]
    exact cur_same _ _ _ _ fun hn => h.2.2 k hk hn
theorem take_kept_mem {ks : List Bool} {c : List Wr} {j : Nat} {p : Wr} (h : p ∈ kept ks (c.take j)) : p ∈ c := List.mem_of_mem_take (kept_mem h)

/-- a Commit goes well, or the power goes, and all is as it was, or can be brought to its end. -/
theorem commit_cut (s : S) (log : Nat) (l : List Ch) (hb : 16 ≤ s.bytes) (hu : s.up = true) (hc : s.c = []) (hun : unset s.L) (hF : Fit s log l) :
    ∃ LF, Out (Cut log s.bytes s.L l) s LF [] (S.all (Go.Proofs.YtephmcbofcfpmaaGreat.comL log l) s) ∧ New log s.L l LF := by
  have hv : ∀ j, j < l.length → 0 ≤ (chAt l j).1 := fun j hj => (hF.v j hj).1.1
  have hn := hF.n
  have old : ∀ c : List Wr, (∀ p ∈ c, p ∈ wOf (Go.Proofs.YtephmcbofcfpmaaGreat.logL l)) → Old log s.L (cur s.L c) := fun c hc => by
    refine ⟨?_, fun k hk => cur_off _ _ _ fun p hp => by have := wL_mem (hc p hp); omega⟩
    show (cur s.L c 0).getD 0 0 ≠ 1
    rw [cur_off _ _ _ fun p hp => by have := wL_mem (hc p hp); omega]
    exact hun
  have mid : Mid log s.bytes s.L l (cur (cur s.L (wOf (Go.Proofs.YtephmcbofcfpmaaGreat.logL l))) [(0, cmt s.bytes l)]) := by
    refine ⟨?_, fun j hj => ?_, fun k hk _ => ?_⟩
    · show (upd (cur s.L (wOf (Go.Proofs.YtephmcbofcfpmaaGreat.logL l))) 0 _) 0 = _
      exact upd_same _ _ _
    · show (upd (cur s.L (wOf (Go.Proofs.YtephmcbofcfpmaaGreat.logL l))) 0 _) (1 + j) = _
      rw [upd_other _ _ _ _ (by omega)]
      exact wL_cur l s.L j hj
    · show (upd (cur s.L (wOf (Go.Proofs.YtephmcbofcfpmaaGreat.logL l))) 0 _) k = _
      rw [upd_other _ _ _ _ (by omega)]
      exact cur_off _ _ _ fun p hp => by have := wL_mem hp; omega
  refine ⟨_, ?_, mid_new mid (by omega)⟩
  refine Out.seq (L1 := s.L) (c1 := s.c ++ wOf (Go.Proofs.YtephmcbofcfpmaaGreat.logL l)) (puts_out _ s hu hF.logs fun j ks => .inl ?_) fun dd ll h1 => ?_
  · rw [hc, List.nil_append]
    exact old _ fun p hp => take_kept_mem hp
  refine Out.seq (flush_out (s := { s with L := s.L, c := s.c ++ wOf (Go.Proofs.YtephmcbofcfpmaaGreat.logL l), deeds := dd, left := ll }) hu fun ks => .inl ?_) fun dd ll h1 => ?_
  · show Old log s.L (cur s.L (kept ks (s.c ++ _)))
    rw [hc, List.nil_append]
    exact old _ fun p hp => kept_mem hp
  simp only [hc, List.nil_append]
  have one : ∀ ks, Cut log s.bytes s.L l (cur (cur s.L (wOf (Go.Proofs.YtephmcbofcfpmaaGreat.logL l))) (kept ks [(0, cmt s.bytes l)])) := fun ks => by
    rcases kept_one ks (0, cmt s.bytes l) with e | e <;> rw [e]
    · exact .inl (old _ fun p hp => hp)
    · exact .inr (.inl mid)
  refine Out.seq (write_out (s := { s with L := cur s.L (wOf (Go.Proofs.YtephmcbofcfpmaaGreat.logL l)), c := [], deeds := dd, left := ll }) hu 0 (cmt s.bytes l) (by omega) (by have := hF.l1; show (0 : Int) < (s.sectors : Int); omega) (cmt_len _ _ (by have := hF.l2; omega)) one) fun dd ll h1 => ?_
  refine Out.seq (flush_out (s := { s with L := cur s.L (wOf (Go.Proofs.YtephmcbofcfpmaaGreat.logL l)), c := [(0, cmt s.bytes l)], deeds := dd, left := ll }) hu one) fun dd ll h1 => ?_
  refine Out.seq (puts_out _ { s with L := cur (cur s.L (wOf (Go.Proofs.YtephmcbofcfpmaaGreat.logL l))) [(0, cmt s.bytes l)], c := [], deeds := dd, left := ll } hu hF.blks fun j ks => .inr (.inl ?_)) fun dd ll h1 => ?_
  · exact mid_puts hv hn mid _ fun p hp => take_kept_mem (c := wB log l) (ks := ks) (j := j) (by simpa [wB] using hp)
  refine Out.seq (flush_out (s := { s with L := cur (cur s.L (wOf (Go.Proofs.YtephmcbofcfpmaaGreat.logL l))) [(0, cmt s.bytes l)], c := wB log l, deeds := dd, left := ll }) hu fun ks => .inr (.inl ?_)) fun dd ll h1 => ?_
  · exact mid_puts hv hn mid _ fun p hp => kept_mem hp
  have two : ∀ ks, Cut log s.bytes s.L l (cur (cur (cur (cur s.L (wOf (Go.Proofs.YtephmcbofcfpmaaGreat.logL l))) [(0, cmt s.bytes l)]) (wB log l)) (kept ks [(0, zeros s.bytes)])) := fun ks => by
    rcases kept_one ks (0, zeros s.bytes) with e | e <;> rw [e]
    · exact .inr (.inl (mid_puts hv hn mid _ fun p hp => hp))
    · exact .inr (.inr (mid_new mid (by omega)))
  refine Out.seq (write_out (s := { s with L := cur (cur (cur s.L (wOf (Go.Proofs.YtephmcbofcfpmaaGreat.logL l))) [(0, cmt s.bytes l)]) (wB log l), c := [], deeds := dd, left := ll }) hu 0 (zeros s.bytes) (by omega) (by have := hF.l1; show (0 : Int) < (s.sectors : Int); omega) (zeros_length _) two) fun dd ll h1 => ?_
  refine Out.seq (flush_out (s := { s with L := cur (cur (cur s.L (wOf (Go.Proofs.YtephmcbofcfpmaaGreat.logL l))) [(0, cmt s.bytes l)]) (wB log l), c := [(0, zeros s.bytes)], deeds := dd, left := ll }) hu two) fun dd ll h1 => ?_
  exact Out.nil
/-- opened anew, all blocks are as they were, or as the Commit makes them. -/
theorem redo_cut (t : S) (log : Nat) (l : List Ch) (L0 : Dk) (hb : 16 ≤ t.bytes) (hu : t.up = true) (hc : t.c = []) (hl : t.left = 0) (hF : Fit t log l) (hcut : Cut log t.bytes L0 l t.L) :
    ∃ L' dd, t.redo log = ({ t with L := L', deeds := dd }, 0) ∧ unset L' ∧ (eqB log L' L0 ∨ eqB log L' (cur L0 (wB log l))) := by
  have hcur : cur t.L t.c = t.L := by rw [hc]; rfl
  unfold S.redo
  rw [if_neg (by simp [hu]), hcur]
  rcases hcut with h | h | h
  · have h0 : (t.L 0).getD 0 0 ≠ 1 := h.1
    rw [if_pos h0]
    exact ⟨t.L, t.deeds, rfl, h.1, .inl h.2⟩
  · have hv : ∀ j, j < l.length → 0 ≤ (chAt l j).1 := fun j hj => (hF.v j hj).1.1
    rw [if_neg (fun e => e (by rw [h.1]; exact (cmt_head t.bytes l).1)), h.1, chs_cmt t log t.bytes l hF.n (by have := hF.l1; have := hF.s1; omega) hF.s1 (fun j hj => (hF.v j hj).1) (fun j hj => by rw [hcur]; exact h.2.1 j hj)]
    have hn := mid_new h (by omega)
    have hO : Out (fun _ => True) t (cur (cur t.L (wB log l)) [(0, zeros t.bytes)]) [] (S.all (Go.Proofs.YtephmcbofcfpmaaGreat.finL log l) t) := by
      refine Out.seq (L1 := t.L) (c1 := t.c ++ wB log l) (puts_out _ t hu hF.blks fun j ks => trivial) fun dd ll h1 => ?_
      refine Out.seq (flush_out (s := { t with L := t.L, c := t.c ++ wB log l, deeds := dd, left := ll }) hu fun ks => trivial) fun dd ll h1 => ?_
      simp only [hc, List.nil_append]
      refine Out.seq (write_out (s := { t with L := cur t.L (wB log l), c := [], deeds := dd, left := ll }) hu 0 (zeros t.bytes) (by omega) (by have := hF.l1; show (0 : Int) < (t.sectors : Int); omega) (zeros_length _) fun ks => trivial) fun dd ll h1 => ?_
      refine Out.seq (flush_out (s := { t with L := cur t.L (wB log l), c := [(0, zeros t.bytes)], deeds := dd, left := ll }) hu fun ks => trivial) fun dd ll h1 => ?_
      exact Out.nil
    rcases hO with ⟨k0, dd, ll, k1, k2⟩ | ⟨_, k1, _⟩
    · refine ⟨_, dd, Prod.ext ?_ k0, hn.1, .inr hn.2⟩
      rw [k1, k2 hl]
      show _ = _
      rw [hl.symm.trans rfl]
      cases t
      simp_all
    · exact absurd hl k1
  · have h0 : (t.L 0).getD 0 0 ≠ 1 := h.1
    rw [if_pos h0]
    exact ⟨t.L, t.deeds, rfl, h.1, .inr h.2⟩
end Go.Dk

