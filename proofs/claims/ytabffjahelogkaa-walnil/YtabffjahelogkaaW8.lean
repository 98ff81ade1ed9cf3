/- Deeds on a wal, one by one. Conditions: none. -/
import Derived.Test.YtabffjahelogkaaW7
namespace Go.Dk
open Go.RowKit Go.Bs
abbrev Dd1 := S → S × Int
def S.all : List Dd1 → S → S × Int
  | [], s => (s, 0)
  | f :: r, s => if (f s).2 = 0 then S.all r (f s).1 else f s
theorem S.all_append (a b : List Dd1) (s : S) : S.all (a ++ b) s = if (S.all a s).2 = 0 then S.all b (S.all a s).1 else S.all a s := by
  induction a generalizing s with
  | nil => simp [S.all]
  | cons x a ih =>
    show (if (x s).2 = 0 then S.all (a ++ b) (x s).1 else x s) = _
    by_cases h : (x s).2 = 0
    · rw [if_pos h, ih]
      simp only [S.all, if_pos h]
    · rw [if_neg h]
      simp only [S.all, if_neg h]
theorem S.all_snoc (a : List Dd1) (x : Dd1) (s s' : S) (h : S.all a s = (s', 0)) : S.all (a ++ [x]) s = x s' := by
  rw [S.all_append, h, if_pos rfl]
  show (if _ then _ else _) = _
  by_cases h2 : (x s').2 = 0
  · rw [if_pos h2]
    show ((x s').1, (0 : Int)) = _
    rw [← h2]
  · rw [if_neg h2]
theorem S.all_stop (a b : List Dd1) (s : S) (h : (S.all a s).2 ≠ 0) : S.all (a ++ b) s = S.all a s := by rw [S.all_append, if_neg h]
def dAt (fs : List Dd1) (i : Nat) : Dd1 := fs.getD i (fun s => (s, 0))
theorem d_take (fs : List Dd1) (k : Nat) (hk : k < fs.length) : fs.take (k + 1) = fs.take k ++ [dAt fs k] := by
  rw [List.take_succ_eq_append_getElem hk]
  simp [dAt, List.getD, List.getElem?_eq_getElem hk]
/-- a deed keeps what must be kept, and does no more than M writes and flushes. -/
structure GoodD (M : Nat) (f : Dd1) : Prop where
  fine : ∀ s : S, s.Fine → (f s).1.Fine
  deeds : ∀ s : S, (f s).1.deeds ≤ s.deeds + M
  sz : ∀ s : S, (f s).1.sectors = s.sectors ∧ (f s).1.bytes = s.bytes
theorem puts_good (L : List Ch) (M : Nat) (h : L.length ≤ M) : GoodD M (fun s => s.puts L) := by
  constructor
  · intro s hs
    induction L generalizing s with
    | nil => exact hs
    | cons x L ih =>
      show (if _ then _ else _ : S × Int).1.Fine
      split
      · exact ih (by simp at h; omega) _ (hs.write _ _)
      · exact hs.write _ _
  · intro s
    have : ∀ (L : List Ch) (s : S), (s.puts L).1.deeds ≤ s.deeds + L.length := by
      intro L
      induction L with
      | nil => intro s; exact Nat.le_refl _
      | cons x L ih =>
        intro s
        have h1 := S.write_deeds s x.1 x.2
        have h2 := ih (s.write x.1 x.2).1
        unfold S.puts
        split <;> (simp; omega)
    exact Nat.le_trans (this L s) (by omega)
  · intro s
    induction L generalizing s with
    | nil => exact ⟨rfl, rfl⟩
    | cons x L ih =>
      have h1 := S.write_sz s x.1 x.2
      have h2 := ih (by simp at h; omega) (s.write x.1 x.2).1
      show (if _ then _ else _ : S × Int).1.sectors = _ ∧ (if _ then _ else _ : S × Int).1.bytes = _
      split
      · exact ⟨h2.1.trans h1.1, h2.2.trans h1.2⟩
      · exact h1
theorem flush_good (M : Nat) (h : 1 ≤ M) : GoodD M S.flush :=
  ⟨fun _ hs => hs.flush, fun s => Nat.le_trans (S.flush_deeds s) (by omega), S.flush_sz⟩
theorem write_good (M : Nat) (h : 1 ≤ M) (i : Int) (b : S → List UInt8) : GoodD M (fun s => s.write i (b s)) :=
  ⟨fun _ hs => hs.write _ _, fun s => Nat.le_trans (S.write_deeds s _ _) (by omega), fun s => S.write_sz s _ _⟩
end Go.Dk
namespace Go.Proofs.Ytabffjahelogkaa
open Go.RowKit Go.Bs Go.Dk

theorem do_all (w : World) (p g : Nat) (s : S) (log : Nat) (down : Bool) (D : Nat → Prop) (h : WalAt w p g s log down D) (hf : s.Fine) (fs : List Dd1) (n M : Nat) (hn : fs.length = n) (hn6 : n ≤ 1000000) (hM : s.deeds + n * M < 900000) (hgood : ∀ i, i < n → GoodD M (dAt fs i))
    (q c : Nat) (fn : Nat → Nat) (fb cp : Nat → Array Value) (hq : ∀ j, j < n → w.cell? ⟨q, j, none⟩ = some (.func (.func (fn j)) (fb j) (cp j))) (hqD : ¬ D q)
    (ent : ∀ i, i < n → ∀ args W, (callFunc (fn i) args).run Try.prog W = .ok (.enter (fn i) args) W)
    (step : ∀ i, i < n → ∀ W s' D', WalAt W p g s' log down D' → s'.Fine → s'.deeds + M < 900000 → (s'.sectors = s.sectors ∧ s'.bytes = s.bytes) → (∀ k, D' k → D k ∨ w.heap.size ≤ k) → Fr D w W →
      Calls Try.prog (fn i) (fb i ++ cp i) W fun e W' => e = .returned (.int .i64 (dAt fs i s').2) ∧ Wd D' p g (dAt fs i s').1 log down W W') :
    Calls Try.prog 32 #[.slice (some ⟨q, 0, none⟩) n c] w fun e w' => e = .returned (.int .i64 (S.all fs s).2) ∧ Wd D p g (S.all fs s).1 log down w w' := by
  refine (do_any w n hn6 q c fn fb cp
    (fun i W => i ≤ n ∧ ∃ s' D', S.all (fs.take i) s = (s', 0) ∧ s'.Fine ∧ s'.deeds ≤ s.deeds + i * M ∧ (s'.sectors = s.sectors ∧ s'.bytes = s.bytes) ∧ WalAt W p g s' log down D' ∧ (∀ k, D' k → D k ∨ w.heap.size ≤ k) ∧ Fr D w W)
    (fun x W => x = (S.all fs s).2 ∧ Wd D p g (S.all fs s).1 log down w W) ent ?_ ?_ ?_).mono ?_
  · rintro i W ⟨_, s', D', _, _, _, _, _, _, hfr⟩ j hj
    have h1 := hq j hj
    exact (World.cell?_of_block (a := ⟨q, j, none⟩) (hfr.block q (lt_of_cell h1) hqD)).trans h1
  · rintro i hi W ⟨_, s', D', e1, e2, e3, e4, e5, e6, e7⟩
    have hiM : i * M + M ≤ n * M := by
      have := Nat.mul_le_mul_right M hi
      rw [Nat.succ_mul] at this
      exact this
    refine (step i hi W s' D' e5 e2 (by omega) e4 e6 e7).mono ?_
    rintro e W' ⟨rfl, D2, h1, h2, h3⟩
    have hsn := S.all_snoc _ (dAt fs i) _ _ e1
    rw [← d_take fs i (by omega)] at hsn
    have hfr : Fr D w W' := e7.step h3 e6
    have hD2 : ∀ k, D2 k → D k ∨ w.heap.size ≤ k := fun k hk => by
      rcases h2 k hk with h | h
      · exact e6 k h
      · exact .inr (Nat.le_trans e7.size h)
    refine ⟨_, rfl, ?_⟩
    by_cases h0 : (dAt fs i s').2 = 0
    · refine .inl ⟨h0, hi, _, D2, hsn.trans (by rw [← h0]), (hgood i hi).fine _ e2, ?_, ⟨((hgood i hi).sz _).1.trans e4.1, ((hgood i hi).sz _).2.trans e4.2⟩, h1, hD2, hfr⟩
      have := (hgood i hi).deeds s'
      rw [Nat.succ_mul]
      omega
    · have hst : S.all fs s = dAt fs i s' := by
        have h4 := S.all_stop (fs.take (i + 1)) (fs.drop (i + 1)) s (by rw [hsn]; exact h0)
        rw [List.take_append_drop] at h4
        exact h4.trans hsn
      exact .inr ⟨h0, by rw [hst], D2, by rw [hst]; exact h1, hD2, hfr⟩
  · exact ⟨Nat.zero_le _, s, D, by rw [List.take_zero]; rfl, hf, by omega, ⟨rfl, rfl⟩, h, fun _ h => .inl h, Fr.refl _ _⟩
  · rintro e w' ⟨x, rfl, ⟨rfl, _, s', D', e1, e2, e3, e4, e5, e6, e7⟩ | ⟨_, rfl, h2⟩⟩
    · rw [List.take_of_length_le (by omega)] at e1
      rw [e1]
      exact ⟨rfl, D', e5, e6, e7⟩
    · exact ⟨rfl, h2⟩
end Go.Proofs.Ytabffjahelogkaa
