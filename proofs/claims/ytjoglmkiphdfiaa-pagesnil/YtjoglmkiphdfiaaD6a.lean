/- What is undone and done again at a crash, as plain functions. Conditions: none. -/
import Derived.Test.YtjoglmkiphdfiaaRr
set_option maxRecDepth 8000
namespace Go.Proofs.Ytjoglmkiphdfiaa
open Go.RowKit Go.Bs Go.Dk Go.Shelf

/-- what is undone. -/
def undo {N : Nat} (M : Nat → Value) (xs : List (Al N)) : Nat → Value := xs.foldl (fun M x => upd M x.1.2.1 (sv x.1.2.2.1)) M
theorem undo_snoc {N : Nat} (M : Nat → Value) (xs : List (Al N)) (x : Al N) : undo M (xs ++ [x]) = upd (undo M xs) x.1.2.1 (sv x.1.2.2.1) := by simp [undo]
/-- what is done again. -/
def redo (M : Nat → Value) (E : List Ent) (ks : List Bool) : Nat → Nat → Value
  | 0 => M
  | k + 1 => if ks.getD k false then upd (redo M E ks k) (eAt E k).1 (sv (eAt E k).2.2) else redo M E ks k

theorem take_wAt (c : List Wr) (i : Nat) (h : i < c.length) : c.take (i + 1) = c.take i ++ [wAt c i] := by
  rw [List.take_succ_eq_append_getElem h]
  simp [wAt, List.getD, List.getElem?_eq_getElem h]

theorem undo_reads {w : World} {K : Nat → Prop} {s : S} {kv : Value} {M : Nat → Value} {E : List Ent} (h : Data w K s kv M E) (hl : E.length = s.c.length) (N : Nat) (hN : N = s.sectors) (hE : ∀ i, i < E.length → (eAt E i).1 < N) :
    ∀ j, j ≤ E.length → ∀ k, k < N → RdZ w K (undo M (back E N hE j) k) s.bytes (cur s.L (s.c.take (E.length - j)) k)
  | 0, _, k, hk => by
    rw [Nat.sub_zero, hl, List.take_length]
    exact h.vals k (by omega)
  | j + 1, hj, k, hk => by
    have ih := undo_reads h hl N hN hE j (by omega) k hk
    obtain ⟨i, hi⟩ : ∃ i, E.length - 1 - j = i := ⟨_, rfl⟩
    have e1 : E.length - j = i + 1 := by omega
    have e2 : E.length - (j + 1) = i := by omega
    have hil : i < s.c.length := by omega
    obtain ⟨h1, h2, _⟩ := h.ents i hil
    rw [back_succ E N hE j (by omega), undo_snoc, e2]
    rw [e1, take_wAt _ _ hil, cur_snoc] at ih
    simp only [hi]
    by_cases hks : k = (eAt E i).1
    · subst hks
      rw [upd_same, h1]
      exact h2
    · rw [upd_other _ _ _ _ hks]
      rw [upd_other _ _ _ _ (by rw [← h1]; exact hks)] at ih
      exact ih

theorem redo_reads {w : World} {K : Nat → Prop} {s : S} {kv : Value} {M M0 : Nat → Value} {E : List Ent} (h : Data w K s kv M0 E) (hl : E.length = s.c.length) (ks : List Bool) (hM : ∀ k, k < s.sectors → RdZ w K (M k) s.bytes (s.L k)) :
    ∀ j, j ≤ ks.length → j ≤ s.c.length → ∀ k, k < s.sectors → RdZ w K (redo M E ks j k) s.bytes (cur s.L (kept (ks.take j) s.c) k)
  | 0, _, _, k, hk => by
    rw [List.take_zero, kept_nil, cur_nil]
    exact hM k hk
  | j + 1, hj, hj2, k, hk => by
    have ih := redo_reads h hl ks hM j (by omega) (by omega) k hk
    obtain ⟨h1, _, h3⟩ := h.ents j (by omega)
    rw [kept_take_succ ks s.c j (by omega) (by omega)]
    have e : ks.getD j false = ks[j] := by simp [List.getD, List.getElem?_eq_getElem (show j < ks.length by omega)]
    have e2 : wAt s.c j = s.c[j] := by simp [wAt, List.getD, List.getElem?_eq_getElem (show j < s.c.length by omega)]
    rw [redo, e]
    cases hq : ks[j]
    · simp only [Bool.false_eq_true, if_false, List.append_nil]
      exact ih
    · simp only [if_true]
      rw [cur_snoc]
      rw [← e2]
      by_cases hks : k = (eAt E j).1
      · subst hks
        rw [upd_same, h1, upd_same]
        exact h3
      · rw [upd_other _ _ _ _ hks, upd_other _ _ _ _ (by rw [← h1]; exact hks)]
        exact ih

theorem elem33 : Try.prog.elem 37 = 4 := by kernel_rfl
theorem size4 (w : World) : (sizeOf 4).run Try.prog w = .ok 1 w := by kernel_rfl
theorem slice_to33 (A : Option Addr) (n c h : Nat) (hh : h ≤ c) (w : World) : (Instr.slice 37 (.slice A n c) none (some (.int .i64 (h : Int))) none).run Try.prog w = .ok (.slice A h c) w := by
  rw [run_slice_h (P := Try.prog) w 37 A n c (by rw [elem33]; exact Try.underlying37) .i64 (h : Int) (by omega) (by omega), elem33, size4, Result.andThen_ok]
  cases A <;> simp [sliced]
  rename_i a
  unfold Addr.add
  split <;> simp_all
theorem mixed : Try.prog.follows .mixedOrders = true := by kernel_rfl

/-- Crash's end: the disk behind it. -/
theorem crash_at {w w' : World} {g : Nat} {s : S} {D : Nat → Prop} {m : Nat} {cv kv : Value} {M : Nat → Value} {E : List Ent} (h : DB w g s D m cv kv M E) (hu : s.up = true) (hE : ∀ i, i < E.length → (eAt E i).1 < s.sectors) (ks : List Bool) (mn : Nat) (hmn : mn = min ks.length E.length)
    (cv' : Value) (e1 : cv'.ownBlock = cv.ownBlock) (hc : w'.ownsRow 0 99 3 cv' 0 []) (hrow : w'.heap[g]? = some (.cells (dc { s with up := false } m cv' kv) 53 (0, 0)))
    (nl : Nat) (hnl : E.length = nl) (hmap : MapIs w' m s.sectors (redo (undo M (back E s.sectors hE nl)) E ks mn)) (hfr : Fr (fun k => k = m ∨ k = g ∨ cv.ownBlock = some k) w w') : Did D g (s.crash ks) w w' := by
  subst hnl
  have hs : s.crash ks = { s with L := cur s.L (kept ks s.c), c := [], up := false } := by unfold S.crash; rw [if_pos hu]
  have hok := h.ok.crash ks
  rw [hs] at hok ⊢
  have hsz := hfr.size
  have hkD : ∀ k, Dd D g m cv k → w'.heap[k]? = w.heap[k]? := fun k hd => hfr.block k (h.lt k hd.1) (by rintro (e | e | e); exact hd.2.2.1 e; exact hd.2.1 e; exact hd.2.2.2 e)
  have hdd : ∀ k, Dd D g m cv k → Dd (fun k => D k ∨ (w.heap.size ≤ k ∧ k < w'.heap.size)) g m cv' k := fun k hd => ⟨.inl hd.1, hd.2.1, hd.2.2.1, by rw [e1]; exact hd.2.2.2⟩
  refine ⟨fun k => D k ∨ (w.heap.size ≤ k ∧ k < w'.heap.size), ⟨m, cv', kv, _, [], hok, hrow, hmap, hc, fun k e => ?_, rfl, ⟨fun k hk => ?_, fun i hi => absurd hi (by simp), h.data.keep.keep hsz hkD hdd⟩, .inl h.gD, .inl h.mD, h.gm, fun k hd => ?_⟩, fun k hd => hd.imp id (·.1), hfr.mono ?_⟩
  · rw [e1] at e
    exact ⟨.inl (h.cD k e).1, (h.cD k e).2⟩
  · have h1 := undo_reads h.data h.elen s.sectors rfl hE E.length (Nat.le_refl _)
    rw [Nat.sub_self, List.take_zero, cur_nil] at h1
    have h2 := redo_reads h.data h.elen ks h1 mn (by omega) (by have := h.elen; omega) k hk
    rw [kept_take_all ks s.c mn (by rw [hmn, h.elen])] at h2
    exact h2.keep hsz hkD hdd
  · rcases hd with hd | hd
    · have := h.lt k hd; omega
    · exact hd.2
  · rintro k (e | e | e)
    · subst e; exact h.mD
    · subst e; exact h.gD
    · exact (h.cD k e).1
end Go.Proofs.Ytjoglmkiphdfiaa
