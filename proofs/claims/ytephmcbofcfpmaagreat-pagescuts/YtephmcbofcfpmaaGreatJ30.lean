/- What a Commit of pages makes of the blocks, in plain words. Conditions: none. The pages and a transaction with all that they lie in. Conditions: none. -/
import Derived.Test.YtephmcbofcfpmaaGreatJ29
set_option maxRecDepth 8000
set_option linter.unusedSimpArgs false
set_option linter.unusedVariables false
namespace Go.Dk
open Go.RowKit Go.Bs
theorem all_good {M : Nat} : ∀ (fs : List Dd1), (∀ f ∈ fs, GoodD M f) → ∀ s : S, (S.all fs s).1.deeds ≤ s.deeds + fs.length * M
  | [], _, s => by simp [S.all]
  | f :: fs, h, s => by
    have h1 := (h f (by simp)).deeds s
    have h2 := all_good fs (fun g hg => h g (by simp [hg])) (f s).1
    unfold S.all
    split
    · simp only [List.length_cons, Nat.succ_mul]; omega
    · simp only [List.length_cons, Nat.succ_mul]; omega
end Go.Dk
namespace Go.Proofs.YtephmcbofcfpmaaGreat
open Go.RowKit Go.Bs Go.Dk Rp

theorem comL_all (log : Nat) (l : List Ch) (h : l.length ≤ log) (s : S) : (S.all (comL log l) s).1.deeds ≤ s.deeds + 8 * (log + 1) := by
  have := all_good (M := log + 1) (comL log l) (fun f hf => by
    obtain ⟨i, hi, rfl⟩ := List.mem_iff_getElem.1 hf
    have h8 : i < 8 := hi
    have := comL_good log l (log + 1) (by omega) i h8
    unfold dAt at this
    rw [List.getD, List.getElem?_eq_getElem hi] at this
    exact this) s
  exact this
theorem commit_deeds (s : S) (log : Nat) (l : List Ch) : (s.commit log false l).1.deeds ≤ s.deeds + 8 * (log + 1) := by
  unfold S.commit
  rw [if_neg (by simp)]
  split
  · exact Nat.le_add_right _ _
  · rename_i h
    have h0 : chk (s.sectors - 1 - log) s.bytes log l = 0 := by simpa using h
    split
    · exact Nat.le_add_right _ _
    · exact comL_all log l (chk_zero h0).1 s
/-- the numbers of the blocks that turn. -/
def chgs (N Bz M : Nat) (L : Nat → List UInt8) (T : TX) : List Nat := (List.range N).filter (chgAt N Bz M L T)
def chgL (N Bz M : Nat) (L : Nat → List UInt8) (T : TX) : List Ch := (chgs N Bz M L T).map fun i : Nat => ((i : Int), T.L i)
theorem filter_split (p : Nat → Bool) (M d : Nat) : (List.range (M + 1 + d)).filter p = (List.range M).filter p ++ (if p M then [M] else []) ++ ((List.range d).map (M + 1 + ·)).filter p := by
  rw [List.range_add, List.filter_append, List.range_succ, List.filter_append]
  congr 2
  by_cases h : p M = true
  · simp [h]
  · simp [h]
theorem used_le {N Bz M : Nat} {L : Nat → List UInt8} {k : Nat} (h : k ≤ M) : usedP N Bz M L (k : Int) = false := by
  unfold usedP
  simp
  omega
theorem allTo_chg {w : World} {pp t N Bz M : Nat} {L : Nat → List UInt8} {T : TX} {K KV : Nat → Prop} {ld : Bool} {bv : Value} {mb ro : Nat} {F : Nat → Option Value} (ht : TxD w pp t N Bz M L T K KV ld bv mb ro F) (hd : Dm N Bz M L) : allTo N M L T F 3 = chgL N Bz M L T := by
  have hmn := hd.mn
  obtain ⟨d, rfl⟩ : ∃ d, N = M + 1 + d := ⟨N - (M + 1), by omega⟩
  have hk := ht.keys
  have h1 : (List.range M).filter (chgAt (M + 1 + d) Bz M L T) = (List.range M).filter (chg1 M L T) := by
    refine List.filter_congr fun i hi => ?_
    have := List.mem_range.1 hi
    unfold chgAt
    rw [used_le (by omega)]
    have : ¬ i = M := by omega
    simp [this]
  have h2 : chgAt (M + 1 + d) Bz M L T M = T.root := by
    unfold chgAt chg1
    rw [used_le (Nat.le_refl _)]
    simp
  have h3 : ((List.range d).map (M + 1 + ·)).filter (chgAt (M + 1 + d) Bz M L T) = ((List.range d).map (M + 1 + ·)).filter (fun k => (F k).isSome) := by
    refine List.filter_congr fun i hi => ?_
    obtain ⟨j, hj, rfl⟩ := List.mem_map.1 hi
    have hjd := List.mem_range.1 hj
    unfold chgAt chg1
    rw [hk _ (by omega)]
    have e1 : ¬ (M + 1 + j < M) := by omega
    have e2 : ¬ (M + 1 + j = M) := by omega
    simp [e1, e2]
  have h4 : keysOf (M + 1 + d) F = ((List.range d).map (M + 1 + ·)).filter (fun k => (F k).isSome) := by
    unfold keysOf
    rw [filter_split]
    have hno : ∀ k, k ≤ M → (F k).isSome = false := fun k hkM => by rw [hk k (by omega), used_le hkM]; rfl
    rw [List.filter_eq_nil_iff.2 (fun i hi => by have := List.mem_range.1 hi; rw [hno i (by omega)]; simp), hno M (Nat.le_refl _)]
    rfl
  unfold chgL chgs
  rw [filter_split, h1, h2, h3, ← h4]
  show (([] ++ partL (M + 1 + d) M L T F 0) ++ partL (M + 1 + d) M L T F 1) ++ partL (M + 1 + d) M L T F 2 = _
  unfold partL mapCh rootCh pageCh
  simp only [if_true, List.nil_append, Nat.succ_ne_self, if_false, List.map_append, show ¬ (1 = 0) by omega, show ¬ (2 = 0) by omega, show ¬ (2 = 1) by omega]
  congr 2
  cases T.root <;> rfl
theorem chgs_mem {N Bz M : Nat} {L : Nat → List UInt8} {T : TX} {k : Nat} : k ∈ chgs N Bz M L T ↔ k < N ∧ chgAt N Bz M L T k = true := by
  unfold chgs
  rw [List.mem_filter, List.mem_range]
theorem chgs_nodup (N Bz M : Nat) (L : Nat → List UInt8) (T : TX) : (chgs N Bz M L T).Nodup := List.Pairwise.filter _ List.nodup_range
theorem chgL_len (N Bz M : Nat) (L : Nat → List UInt8) (T : TX) : (chgL N Bz M L T).length = chgN N Bz M L T N := by
  unfold chgL chgs chgN
  rw [List.length_map]
theorem chgL_at {N Bz M : Nat} {L : Nat → List UInt8} {T : TX} {j : Nat} (hj : j < (chgs N Bz M L T).length) : chAt (chgL N Bz M L T) j = ((((chgs N Bz M L T)[j] : Nat) : Int), T.L (chgs N Bz M L T)[j]) := by
  unfold chAt chgL
  simp [List.getD, List.getElem?_eq_getElem hj]
theorem chgL_chk {N Bz M : Nat} {L : Nat → List UInt8} {T : TX} (h : Dm N Bz M T.L) (log : Nat) : chk N Bz log (chgL N Bz M L T) = if log < chgN N Bz M L T N then 8 else 0 := by
  rw [chk_good, chgL_len]
  intro j hj
  have hj' : j < (chgs N Bz M L T).length := by
    unfold chgL at hj
    rwa [List.length_map] at hj
  have hm := chgs_mem.1 (List.getElem_mem hj')
  unfold badAt
  rw [chgL_at hj']
  have h1 : decide ((((chgs N Bz M L T)[j] : Nat) : Int) ∈ ((chgL N Bz M L T).take j).map (·.1)) = false := by
    simp only [decide_eq_false_iff_not]
    intro hin
    unfold chgL at hin
    rw [← List.map_take, List.map_map] at hin
    obtain ⟨x, hx, e⟩ := List.mem_map.1 hin
    have e0 : (x : Int) = (((chgs N Bz M L T)[j] : Nat) : Int) := e
    have e' : x = (chgs N Bz M L T)[j] := by omega
    obtain ⟨i, hi, e2⟩ := List.mem_iff_getElem.1 hx
    rw [List.length_take] at hi
    rw [List.getElem_take] at e2
    exact (List.pairwise_iff_getElem.1 (chgs_nodup N Bz M L T)) i j (by omega) hj' (by omega) (e2.trans e')
  rw [h1]
  have h2 := h.len _ hm.1
  have h3 := hm.1
  simp [h2]
  exact h3
/-- the blocks behind the writes of a Commit. -/
theorem cur_wB (L0 : Nat → List UInt8) (log : Nat) (f : Nat → List UInt8) : ∀ (ls : List Nat) (k : Nat), cur L0 (wB log (ls.map fun i : Nat => ((i : Int), f i))) (1 + log + k) = if k ∈ ls then f k else L0 (1 + log + k) := by
  intro ls
  induction ls generalizing L0 with
  | nil => intro k; rfl
  | cons x ls ih =>
    intro k
    have hx : (1 + (log : Int) + (x : Int)).toNat = 1 + log + x := by omega
    have e : wB log ((x :: ls).map fun i : Nat => ((i : Int), f i)) = ((1 + (log : Int) + (x : Int)).toNat, f x) :: wB log (ls.map fun i : Nat => ((i : Int), f i)) := rfl
    rw [e, hx]
    show cur (upd L0 (1 + log + x) (f x)) _ _ = _
    rw [ih]
    by_cases h1 : k ∈ ls
    · rw [if_pos h1, if_pos (by simp [h1])]
    · rw [if_neg h1]
      by_cases h2 : k = x
      · subst h2
        rw [upd_same, if_pos (by simp)]
      · rw [upd_other _ _ _ _ (by omega), if_neg (by simp [h1, h2])]
theorem outK_at {N Bz M : Nat} {L : Nat → List UInt8} {T : TX} (k : Nat) (hk : k < N) : outK N Bz M L T N k = if k ∈ chgs N Bz M L T then T.L k else L k := by
  unfold outK
  by_cases h : chgAt N Bz M L T k = true
  · rw [if_pos (by simp [hk, h]), if_pos (chgs_mem.2 ⟨hk, h⟩)]
  · rw [if_neg (by simp [h]), if_neg (fun hm => h (chgs_mem.1 hm).2)]
/-- a Commit where no deed is cut. -/
theorem commit_whole {s : S} {log N Bz M : Nat} {L : Nat → List UInt8} {T : TX} (hok : s.Ok) (l1 : log + 1 < s.sectors) (l2 : 3 + 3 * log ≤ s.bytes) (hu : s.up = true) (hc : s.c = []) (hun : unset s.L) (hl0 : s.left = 0) (hN : nbl s log = N) (hB : s.bytes = Bz) (hL : ∀ k, k < N → L k = wl s log k) (hdT : Dm N Bz M T.L) (hdL : Dm N Bz M L) (hd : T.done = false) :
    (s.commit log false (chgL N Bz M L T)).2 = (T.commit N Bz M log L).2.2 ∧ (s.commit log false (chgL N Bz M L T)).1.up = true ∧ (s.commit log false (chgL N Bz M L T)).1.c = [] ∧ unset (s.commit log false (chgL N Bz M L T)).1.L ∧ (s.commit log false (chgL N Bz M L T)).1.left = 0 ∧
      (s.commit log false (chgL N Bz M L T)).1.sectors = s.sectors ∧ (s.commit log false (chgL N Bz M L T)).1.bytes = s.bytes ∧ (∀ k, k < N → (T.commit N Bz M log L).1 k = wl (s.commit log false (chgL N Bz M L T)).1 log k) ∧ (s.commit log false (chgL N Bz M L T)).2 ≠ 50 := by
  have hend : ∀ k, chgAt N Bz M L T.end_ k = chgAt N Bz M L T k := fun k => rfl
  have hcn : chgN N Bz M L T.end_ N = chgN N Bz M L T N := rfl
  have hck := chgL_chk (L := L) hdT log
  have hnb : s.sectors - 1 - log = N := hN
  unfold S.commit TX.commit
  rw [if_neg (by simp), hd, hnb, hB, hck, hcn]
  simp only [Bool.false_eq_true, if_false]
  by_cases hlt : log < chgN N Bz M L T N
  · rw [if_pos hlt, if_pos (by decide), if_pos hlt]
    exact ⟨rfl, hu, hc, hun, hl0, rfl, hB, hL, by simp⟩
  · rw [if_neg hlt, if_neg (by decide), if_neg hlt]
    by_cases h0 : (chgL N Bz M L T).length = 0
    · rw [if_pos h0]
      refine ⟨rfl, hu, hc, hun, hl0, rfl, hB, fun k hk => ?_, by simp⟩
      have hnil : chgs N Bz M L T = [] := by
        unfold chgL at h0
        rw [List.length_map] at h0
        exact List.eq_nil_of_length_eq_zero h0
      show outK N Bz M L T N k = _
      rw [outK_at k hk, hnil, if_neg (by simp)]
      exact hL k hk
    · rw [if_neg h0]
      have hF : Fit s log (chgL N Bz M L T) := Fit.of l1 l2 hok.s1 (by rw [hnb, hB, hck, if_neg hlt])
      obtain ⟨LF, hO, hnew⟩ := commit_cut s log (chgL N Bz M L T) hok.b0 hu hc hun hF
      rcases hO with ⟨k0, dd, ll, k1, k2⟩ | ⟨_, k1, _⟩
      · rw [k0, k1]
        refine ⟨rfl, hu, rfl, hnew.1, k2 hl0, rfl, hB, fun k hk => ?_, by simp⟩
        show outK N Bz M L T N k = cur LF [] (1 + log + k)
        have e1 : cur LF [] (1 + log + k) = LF (1 + log + k) := rfl
        rw [e1, hnew.2 (1 + log + k) (by omega), outK_at k hk]
        unfold chgL
        rw [cur_wB]
        congr 1
        rw [hL k hk]
        unfold wl
        rw [hc]
        rfl
      · exact absurd hl0 k1
end Go.Proofs.YtephmcbofcfpmaaGreat

set_option maxRecDepth 8000
set_option linter.unusedSimpArgs false
set_option linter.unusedVariables false
namespace Go.Proofs.YtephmcbofcfpmaaGreat
open Go.RowKit Go.Bs Go.Dk Rp

def Sy (w : World) (pp t q g : Nat) (s : S) (log N Bz M : Nat) (L : Nat → List UInt8) (T : TX) (D : Nat → Prop) : Prop :=
  ∃ Dw K, Pg w pp t q g s log N Bz M L T Dw K false ∧ (∀ k, Dw k ∨ K k ∨ k = q → D k) ∧ (∀ k, D k → k < w.heap.size)
def SyD (D : Nat → Prop) (pp t q g : Nat) (s : S) (log N Bz M : Nat) (L : Nat → List UInt8) (T : TX) (w w' : World) : Prop :=
  ∃ D', Sy w' pp t q g s log N Bz M L T D' ∧ (∀ k, D' k → D k ∨ w.heap.size ≤ k) ∧ Fr D w w'
def Sp (w : World) (pp q g : Nat) (s : S) (log N Bz M : Nat) (L : Nat → List UInt8) (D : Nat → Prop) : Prop :=
  ∃ Dw, Pp w pp q g s log N Bz M L Dw ∧ (∀ k, Dw k ∨ k = pp ∨ k = q → D k) ∧ (∀ k, D k → k < w.heap.size)
theorem Sy.sp {w : World} {pp t q g : Nat} {s : S} {log N Bz M : Nat} {L : Nat → List UInt8} {T : TX} {D : Nat → Prop} (h : Sy w pp t q g s log N Bz M L T D) : Sp w pp q g s log N Bz M L D := by
  obtain ⟨Dw, K, h1, h2, h3⟩ := h
  exact ⟨Dw, h1.pp, fun k hk => by
    rcases hk with hk | hk | hk
    · exact h2 k (.inl hk)
    · subst hk; exact h2 k (.inr (.inl h1.inK.1))
    · exact h2 k (.inr (.inr hk)), h3⟩
theorem Sy.lt {w : World} {pp t q g : Nat} {s : S} {log N Bz M : Nat} {L : Nat → List UInt8} {T : TX} {D : Nat → Prop} (h : Sy w pp t q g s log N Bz M L T D) : ∀ k, D k → k < w.heap.size := by
  obtain ⟨Dw, K, h1, h2, h3⟩ := h; exact h3
theorem Sp.lt {w : World} {pp q g : Nat} {s : S} {log N Bz M : Nat} {L : Nat → List UInt8} {D : Nat → Prop} (h : Sp w pp q g s log N Bz M L D) : ∀ k, D k → k < w.heap.size := by
  obtain ⟨Dw, h1, h2, h3⟩ := h; exact h3
theorem Sy.keep {w w' : World} {pp t q g : Nat} {s : S} {log N Bz M : Nat} {L : Nat → List UInt8} {T : TX} {D : Nat → Prop} (h : Sy w pp t q g s log N Bz M L T D) (hs : w.heap.size ≤ w'.heap.size) (hk : ∀ k, D k → w'.heap[k]? = w.heap[k]?) : Sy w' pp t q g s log N Bz M L T D := by
  obtain ⟨Dw, K, h1, h2, h3⟩ := h
  exact ⟨Dw, K, h1.keep (h1.wal.keepF hs fun k hk' => hk k (h2 k (hk'.imp (fun x => x) .inr))) hs (fun k hK => hk k (h2 k (.inr (.inl hK)))), h2, fun k hd => Nat.lt_of_lt_of_le (h3 k hd) hs⟩
theorem Sp.keep {w w' : World} {pp q g : Nat} {s : S} {log N Bz M : Nat} {L : Nat → List UInt8} {D : Nat → Prop} (h : Sp w pp q g s log N Bz M L D) (hs : w.heap.size ≤ w'.heap.size) (hk : ∀ k, D k → w'.heap[k]? = w.heap[k]?) : Sp w' pp q g s log N Bz M L D := by
  obtain ⟨Dw, h1, h2, h3⟩ := h
  obtain ⟨now, hp⟩ := h1.rowP
  exact ⟨Dw, ⟨h1.wal.keepF hs fun k hk' => hk k (h2 k (hk'.imp (fun x => x) .inr)), h1.up, h1.cc, h1.un, h1.hN, h1.hB, h1.hM, h1.hL, ⟨now, (hk pp (h2 pp (.inr (.inl rfl)))).trans hp⟩, h1.pD, h1.dL, h1.rootL⟩, h2, fun k hd => Nat.lt_of_lt_of_le (h3 k hd) hs⟩
theorem Sy.below {w w' : World} {pp t q g : Nat} {s : S} {log N Bz M : Nat} {L : Nat → List UInt8} {T : TX} {D : Nat → Prop} (h : Sy w pp t q g s log N Bz M L T D) (hb : Below w.heap.size w w') : Sy w' pp t q g s log N Bz M L T D := h.keep hb.size fun k hd => hb.block k (h.lt k hd)
theorem PgD.sy {w w' : World} {pp t q g : Nat} {s : S} {log N Bz M : Nat} {L : Nat → List UInt8} {T : TX} {Dw K D : Nat → Prop} (h : PgD pp t q g s log N Bz M L T Dw K false w w') (hD : ∀ k, Dw k ∨ K k ∨ k = q → D k) (hl : ∀ k, D k → k < w.heap.size) : SyD D pp t q g s log N Bz M L T w w' := by
  obtain ⟨K', h1, h2, h3⟩ := h
  have hs := h3.size
  refine ⟨fun k => D k ∨ K' k, ⟨Dw, K', h1, fun k hk => ?_, fun k hk => ?_⟩, fun k hk => ?_, h3.mono fun k hk => ?_⟩
  · rcases hk with hk | hk | hk
    · exact .inl (hD k (.inl hk))
    · exact .inr hk
    · exact .inl (hD k (.inr (.inr hk)))
  · rcases hk with hk | hk
    · have := hl k hk; omega
    · exact (h1.KD k hk).2.2
  · rcases hk with hk | hk
    · exact .inl hk
    · rcases h2 k hk with h | h
      · exact .inl (hD k (.inr (.inl h)))
      · exact .inr h
  · rcases hk with hk | hk
    · exact hD k (.inr (.inl hk))
    · exact hD k (.inr (.inr hk))
section
variable (w : World) (pp t q g : Nat) (s : S) (log N Bz M : Nat) (L : Nat → List UInt8) (T : TX) (D : Nat → Prop)
theorem sTake (h : Sy w pp t q g s log N Bz M L T D) :
    Calls Tryz.prog 19 #[.pointer (some ⟨t, 0, none⟩)] w fun e w' => e = .returned (.tuple #[.int .i64 (T.take N Bz M).2.1, .int .i64 (T.take N Bz M).2.2]) ∧ SyD D pp t q g s log N Bz M L (T.take N Bz M).1 w w' := by
  obtain ⟨Dw, K, h1, h2, h3⟩ := h
  refine (tTake_any w pp t q g s log N Bz M L T Dw K false h1).mono ?_
  rintro e w' ⟨rfl, hp⟩
  exact ⟨rfl, hp.sy h2 h3⟩
theorem sGive (h : Sy w pp t q g s log N Bz M L T D) (p : Int) :
    Calls Tryz.prog 21 #[.pointer (some ⟨t, 0, none⟩), .int .i64 p] w fun e w' => e = .returned (.int .i64 (T.give N Bz M p).2) ∧ SyD D pp t q g s log N Bz M L (T.give N Bz M p).1 w w' := by
  obtain ⟨Dw, K, h1, h2, h3⟩ := h
  refine (tGive_any w pp t q g s log N Bz M L T Dw K false h1 p).mono ?_
  rintro e w' ⟨rfl, hp⟩
  exact ⟨rfl, hp.sy h2 h3⟩
theorem sSetRoot (h : Sy w pp t q g s log N Bz M L T D) (p : Int) :
    Calls Tryz.prog 27 #[.pointer (some ⟨t, 0, none⟩), .int .i64 p] w fun e w' => e = .returned (.int .i64 (T.setRoot N Bz M p).2) ∧ SyD D pp t q g s log N Bz M L (T.setRoot N Bz M p).1 w w' := by
  obtain ⟨Dw, K, h1, h2, h3⟩ := h
  refine (SetRoot_any w pp t q g s log N Bz M L T Dw K false h1 p).mono ?_
  rintro e w' ⟨rfl, hp⟩
  exact ⟨rfl, hp.sy h2 h3⟩
theorem sRead (h : Sy w pp t q g s log N Bz M L T D) (p : Int) :
    Calls Tryz.prog 23 #[.pointer (some ⟨t, 0, none⟩), .int .i64 p] w fun e w' => ∃ v, e = .returned (.tuple #[v, .int .i64 (T.read N Bz M p).2]) ∧ RdW w w' v (T.read N Bz M p).1 ∧ SyD D pp t q g s log N Bz M L T w w' := by
  obtain ⟨Dw, K, h1, h2, h3⟩ := h
  refine (tRead_any w pp t q g s log N Bz M L T Dw K false h1 p).mono ?_
  rintro e w' ⟨v, rfl, hr, hp⟩
  exact ⟨v, rfl, hr, hp.sy h2 h3⟩
theorem sWrite (h : Sy w pp t q g s log N Bz M L T D) (p : Int) (A : Option Addr) (ln c : Nat) (bs : List UInt8) (hr : Rd w A ln c bs) (hA : 0 < ln → ∀ a, A = some a → ¬ D a.block) (hln : ln ≤ 100000) :
    Calls Tryz.prog 25 #[.pointer (some ⟨t, 0, none⟩), .int .i64 p, .slice A ln c] w fun e w' => e = .returned (.int .i64 (T.write N Bz M p bs).2) ∧ SyD D pp t q g s log N Bz M L (T.write N Bz M p bs).1 w w' := by
  obtain ⟨Dw, K, h1, h2, h3⟩ := h
  refine (tWrite_any w pp t q g s log N Bz M L T Dw K false h1 p A ln c bs hr (fun h0 a ha => ⟨fun hk => hA h0 a ha (h2 _ (.inr (.inl hk))), fun e => hA h0 a ha (h2 _ (.inr (.inr e)))⟩) hln).mono ?_
  rintro e w' ⟨rfl, hp⟩
  exact ⟨rfl, hp.sy h2 h3⟩
theorem sRoot (h : Sy w pp t q g s log N Bz M L T D) :
    Calls Tryz.prog 18 #[.pointer (some ⟨t, 0, none⟩)] w fun e w' => e = .returned (.tuple #[.int .i64 (rootV M T).1, .int .i64 (rootV M T).2]) ∧ SyD D pp t q g s log N Bz M L T w w' := by
  obtain ⟨Dw, K, h1, h2, h3⟩ := h
  refine (Root_any w pp t q g s log N Bz M L T Dw K false h1).mono ?_
  rintro e w' ⟨rfl, hp⟩
  exact ⟨rfl, hp.sy h2 h3⟩
theorem sBytes (h : Sy w pp t q g s log N Bz M L T D) :
    Calls Tryz.prog 35 #[.pointer (some ⟨t, 0, none⟩)] w fun e w' => e = .returned (.int .i64 (Bz : Int)) ∧ ∃ k, w' = w.drewN k := by
  obtain ⟨Dw, K, h1, h2, h3⟩ := h
  exact tBytes_any w pp t q g s log N Bz M L T Dw K false h1
theorem sSize (h : Sp w pp q g s log N Bz M L D) :
    Calls Tryz.prog 32 #[.pointer (some ⟨pp, 0, none⟩)] w fun e w' => e = .returned (.tuple #[.int .i64 ((N : Int) - (M + 1 : Nat)), .int .i64 (Bz : Int)]) ∧ ∃ k, w' = w.drewN k := by
  obtain ⟨Dw, h1, h2, h3⟩ := h
  obtain ⟨now, hp⟩ := h1.rowP
  have := pSize_any w pp q g now s log false Dw hp h1.wal
  rw [h1.hN, h1.hB, h1.hM] at this
  exact this
/-- how many are free; the pages are as they were. -/
theorem sFree (h : Sp w pp q g s log N Bz M L D) :
    Calls Tryz.prog 31 #[.pointer (some ⟨pp, 0, none⟩)] w fun e w' => e = .returned (.tuple #[.int .i64 (freeN N Bz M L N : Int), .int .i64 0]) ∧ Sp w' pp q g s log N Bz M L D ∧ Fr D w w' ∧ ∀ t T, Sy w pp t q g s log N Bz M L T D → Sy w' pp t q g s log N Bz M L T D := by
  obtain ⟨Dw, h1, h2, h3⟩ := h
  obtain ⟨now, hp⟩ := h1.rowP
  have hwd : Dm N Bz M (wl s log) := ⟨h1.dL.b0, h1.dL.b1, h1.dL.n1, h1.dL.m, h1.dL.mn, fun k _ => by rw [wl_len h1.wal.disk.ok]; exact h1.hB⟩
  have hfr : freeN N Bz M (wl s log) N = freeN N Bz M L N := by
    unfold freeN
    congr 1
    refine List.filter_congr fun i _ => ?_
    unfold freeAt
    rw [usedP_congr (L' := wl s log) h1.dL (fun k hk => (h1.hL k (by have := h1.dL.mn; omega)).symm)]
  refine (pFree_any w pp q g now s log Dw hp h1.wal h1.up N Bz M h1.hN h1.hB h1.hM hwd).mono ?_
  rw [hfr]
  rintro e w' ⟨rfl, hw, hf⟩
  refine ⟨rfl, ⟨Dw, ⟨hw, h1.up, h1.cc, h1.un, h1.hN, h1.hB, h1.hM, h1.hL, ⟨now, fr_row hf hp h1.pD.2⟩, h1.pD, h1.dL, h1.rootL⟩, h2, fun k hd => Nat.lt_of_lt_of_le (h3 k hd) hf.size⟩, hf.mono fun k e => h2 k (.inr (.inr e)), ?_⟩
  rintro t T ⟨Dw', K, k1, k2, k3⟩
  have hw' : WalAt w' q g s log false Dw' := by
    have hq := hf.size
    refine ⟨hw.row, k1.wal.disk.keep hf.size fun k hd => hf.block k (k1.wal.disk.lt k hd) (fun e => ?_), k1.wal.pD, k1.wal.l0, k1.wal.l1, k1.wal.l2⟩
    subst e
    exact k1.wal.pD hd
  exact ⟨Dw', K, k1.frq hw' hf, k2, fun k hd => Nat.lt_of_lt_of_le (k3 k hd) hf.size⟩
theorem sBegin (h : Sp w pp q g s log N Bz M L D) :
    Calls Tryz.prog 16 #[.pointer (some ⟨pp, 0, none⟩)] w fun e w' => ∃ t, e = .returned (.pointer (some ⟨t, 0, none⟩)) ∧ w.heap.size ≤ t ∧ SyD D pp t q g s log N Bz M L (TX.new L) w w' ∧ Fr (fun k => k = pp) w w' := by
  obtain ⟨Dw, h1, h2, h3⟩ := h
  refine (Begin_any w pp q g s log N Bz M L Dw h1).mono ?_
  rintro e w' ⟨t, K', rfl, hp, ht, hK, hf⟩
  have hs := hf.size
  refine ⟨t, rfl, ht, ⟨fun k => D k ∨ K' k, ⟨Dw, K', hp, fun k hk => ?_, fun k hk => ?_⟩, fun k hk => ?_, hf.mono fun k e => h2 k (.inr (.inl e))⟩, hf⟩
  · rcases hk with hk | hk | hk
    · exact .inl (h2 k (.inl hk))
    · exact .inr hk
    · exact .inl (h2 k (.inr (.inr hk)))
  · rcases hk with hk | hk
    · have := h3 k hk; omega
    · exact (hp.KD k hk).2.2
  · rcases hk with hk | hk
    · exact .inl hk
    · rcases hK k hk with e | e
      · exact .inl (h2 k (.inr (.inl e)))
      · exact .inr e
/-- a Commit where no deed is cut. -/
theorem sCommit (h : Sy w pp t q g s log N Bz M L T D) (hl0 : s.left = 0) (hdeeds : s.deeds + 8 * (log + 1) < 900000) :
    Calls Tryz.prog 29 #[.pointer (some ⟨t, 0, none⟩)] w fun e w' => e = .returned (.int .i64 (T.commit N Bz M log L).2.2) ∧ ∃ s', SyD D pp t q g s' log N Bz M (T.commit N Bz M log L).1 (T.commit N Bz M log L).2.1 w w' ∧ s'.left = 0 ∧ s'.deeds ≤ s.deeds + 8 * (log + 1) := by
  obtain ⟨Dw, K, h1, h2, h3⟩ := h
  cases hd : T.done
  · obtain ⟨KV, bv, mb, ro, F, ht⟩ := h1.tx hd
    have hW := commit_whole (T := T) (L := L) (M := M) h1.wal.disk.ok h1.wal.l1 h1.wal.l2 h1.up h1.cc h1.un hl0 h1.hN h1.hB h1.hL h1.dT h1.dL hd
    have hde := commit_deeds s log (chgL N Bz M L T)
    refine (tCommit_live w pp t q g s log N Bz M L T Dw K KV false bv mb ro F h1 hd ht hdeeds).mono ?_
    rw [allTo_chg ht h1.dL]
    obtain ⟨R, hR⟩ : ∃ R, s.commit log false (chgL N Bz M L T) = R := ⟨_, rfl⟩
    rw [hR] at hW hde ⊢
    obtain ⟨c1, c2, c3, c4, c5, c6, c7, c8, c9⟩ := hW
    rintro e w' ⟨rfl, Dw', hw, hDw, hrow, hcl, hrwT, hf⟩
    have hb50 : (R.2 == 50) = false := by simp [c9]
    rw [hb50] at hw
    have hsz := hf.size
    have hppl := h1.KD pp h1.inK.1
    have htl := h1.KD t h1.inK.2
    have hql := (Array.getElem?_eq_some_iff.1 h1.wal.row).1
    have hnot : ∀ k, ¬ Dw k → k < w.heap.size → ¬ Dw' k := fun k hn hl hd' => by
      rcases hDw k hd' with e | e
      · exact hn e
      · omega
    have hTe : (T.commit N Bz M log L).2.1 = T.end_ := by
      unfold TX.commit
      rw [hd]
      simp only [Bool.false_eq_true, if_false]
      split <;> rfl
    have hdo : Dm N Bz M (T.commit N Bz M log L).1 := by
      unfold TX.commit
      rw [hd]
      simp only [Bool.false_eq_true, if_false]
      split
      · exact h1.dL
      · exact outK_dm h1.dL h1.dT N
    have hrt : ∃ r, r ≤ 100000 ∧ (T.commit N Bz M log L).1 M = encR Bz r := by
      have hM : M < N := by have := h1.dL.mn; omega
      unfold TX.commit
      rw [hd]
      simp only [Bool.false_eq_true, if_false]
      split
      · exact h1.rootL
      · show ∃ r, r ≤ 100000 ∧ outK N Bz M L T N M = encR Bz r
        rw [outK_at M hM]
        split
        · obtain ⟨r, hr1, hr2, _, _⟩ := h1.le32 ht
          exact ⟨r, hr1, hr2⟩
        · exact h1.rootL
    refine ⟨by rw [c1], R.1, ⟨fun k => Dw' k ∨ k = pp ∨ k = t ∨ k = q, ⟨Dw', fun k => k = pp ∨ k = t, ?_, fun k hk => ?_, fun k hk => ?_⟩, fun k hk => ?_, hf.mono fun k hk => ?_⟩, c5, hde⟩
    · rw [hTe]
      have hdn : (T.end_).done = true := rfl
      refine ⟨hw, c2, c3, c4, by unfold nbl; rw [c6]; exact h1.hN, c7.trans h1.hB, h1.hM, c8, by unfold nowV; rw [hdn]; exact hrow, fun k hk => ?_, ⟨.inl rfl, .inr rfl⟩, hdo, h1.dT, hrt, hcl, hrwT, fun hx => ?_⟩
      · rcases hk with rfl | rfl
        · exact ⟨hnot k hppl.1 hppl.2.2, hppl.2.1, by omega⟩
        · exact ⟨hnot k htl.1 htl.2.2, htl.2.1, by omega⟩
      · rw [hdn] at hx; cases hx
    · rcases hk with hk | hk | hk
      · exact .inl hk
      · rcases hk with hk | hk
        · exact .inr (.inl hk)
        · exact .inr (.inr (.inl hk))
      · exact .inr (.inr (.inr hk))
    · rcases hk with hk | hk | hk | hk
      · exact hw.disk.lt k hk
      · have := hppl.2.2; omega
      · have := htl.2.2; omega
      · omega
    · rcases hk with hk | hk | hk | hk
      · rcases hDw k hk with e | e
        · exact .inl (h2 k (.inl e))
        · exact .inr e
      · subst hk; exact .inl (h2 k (.inr (.inl h1.inK.1)))
      · subst hk; exact .inl (h2 k (.inr (.inl h1.inK.2)))
      · exact .inl (h2 k (.inr (.inr hk)))
    · rcases hk with hk | hk | hk
      · exact h2 k (.inr (.inl hk))
      · exact h2 k (.inr (.inr hk))
      · exact h2 k (.inl hk)
  · refine (tCommit_done w pp t q g s log N Bz M L T Dw K false h1 hd).mono ?_
    rintro e w' ⟨rfl, rfl⟩
    have hc : T.commit N Bz M log L = (L, T, 1) := by unfold TX.commit; rw [hd]; rfl
    rw [hc]
    exact ⟨rfl, s, ⟨D, ⟨Dw, K, h1, h2, h3⟩, fun _ x => .inl x, Fr.refl _ _⟩, hl0, Nat.le_add_right _ _⟩
end
end Go.Proofs.YtephmcbofcfpmaaGreat

