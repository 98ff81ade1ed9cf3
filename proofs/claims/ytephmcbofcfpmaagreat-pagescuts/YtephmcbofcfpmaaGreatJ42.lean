/- Pages that are taken and given back, counted. Conditions: none. Which sizes are looked at; rows of numbers. Conditions: none. -/
import Derived.Test.YtephmcbofcfpmaaGreatJ31
set_option maxRecDepth 8000
set_option linter.unusedSimpArgs false
set_option linter.unusedVariables false
namespace Go.Proofs.YtephmcbofcfpmaaGreat.Rp
open Go.RowKit Go.Bs Go.Dk

/-- the pages from the first one on are used, so many. -/
structure Fst (N Bz M : Nat) (T : TX) (j : Nat) : Prop where
  live : T.done = false
  rt : T.root = false
  d : Dm N Bz M T.L
  used : ∀ p : Nat, usedP N Bz M T.L (p : Int) = (decide (M < p) && decide (p ≤ M + j))
  jN : M + 1 + j ≤ N
theorem free_used {N Bz M : Nat} {L : Nat → List UInt8} (k : Nat) : freeAt N Bz M L k = (decide (M < k) && !usedP N Bz M L (k : Int)) := by
  unfold freeAt
  congr 1
  exact decide_eq_decide.2 (by omega)
theorem zeros_used (N Bz M : Nat) (p : Nat) : usedP N Bz M (fun _ => zeros Bz) (p : Int) = false := by
  unfold usedP bitP
  have : ((zeros Bz).getD ((p : Int).toNat / 8 % Bz) 0) = 0 := by
    unfold zeros
    rw [List.getD, List.getElem?_replicate]
    split <;> rfl
  rw [this]
  simp
theorem Fst.new {N Bz M : Nat} (h : Dm N Bz M (fun _ => zeros Bz)) : Fst N Bz M (TX.new fun _ => zeros Bz) 0 :=
  ⟨rfl, rfl, h, fun p => by
    show usedP N Bz M (fun _ => zeros Bz) (p : Int) = _
    rw [zeros_used]
    by_cases h1 : M < p
    · have : ¬ p ≤ M + 0 := by omega
      simp [this]
    · simp [h1], by have := h.mn; omega⟩
theorem Fst.take {N Bz M : Nat} {T : TX} {j : Nat} (h : Fst N Bz M T j) : (M + 1 + j < N → (T.take N Bz M).2 = (((M + 1 + j : Nat) : Int), 0) ∧ Fst N Bz M (T.take N Bz M).1 (j + 1)) ∧ (M + 1 + j = N → T.take N Bz M = (T, 0, 6)) := by
  have hno : ∀ i, i < M + 1 + j → freeAt N Bz M T.L i = false := fun i hi => by
    rw [free_used, h.used]
    by_cases h1 : M < i
    · have : i ≤ M + j := by omega
      simp [h1, this]
    · simp [h1]
  constructor
  · intro hlt
    have hfr : freeAt N Bz M T.L (M + 1 + j) = true := by
      rw [free_used, h.used]
      have h1 : M < M + 1 + j := by omega
      have h2 : ¬ M + 1 + j ≤ M + j := by omega
      simp [h2]
      omega
    have hf := find_some hlt hno hfr
    have hp : M < M + 1 + j ∧ M + 1 + j < N := ⟨by omega, hlt⟩
    have hdt := h.d.turn (M + 1 + j) hlt
    unfold TX.take
    rw [h.live, hf]
    refine ⟨rfl, ⟨rfl, h.rt, hdt.upd _ _ (zeros_length _), fun p => ?_, by omega⟩⟩
    show usedP N Bz M (Dk.upd (turnP Bz T.L (M + 1 + j)) (M + 1 + j) (zeros Bz)) (p : Int) = _
    rw [usedP_congr hdt (fun k hk => upd_other _ _ _ _ (by omega)), usedP_turn h.d _ hp, h.used]
    by_cases e : p = M + 1 + j
    · subst e
      have h1 : M < M + 1 + j := by omega
      have h2 : ¬ M + 1 + j ≤ M + j := by omega
      have h3 : M + 1 + j ≤ M + (j + 1) := by omega
      simp [h1, h2, h3]
    · rw [if_neg (by omega)]
      have : decide (p ≤ M + j) = decide (p ≤ M + (j + 1)) := decide_eq_decide.2 (by omega)
      rw [this]
  · intro he
    have hf := find_none (fun i hi => hno i (by omega : i < M + 1 + j))
    unfold TX.take
    rw [h.live]
    rw [he] at hf
    rw [hf]
    rfl
theorem count_gt (N a : Nat) : ((List.range N).filter fun i => decide (a < i)).length = N - (a + 1) := by
  induction N with
  | zero => simp
  | succ N ih =>
    rw [List.range_succ, List.filter_append, List.length_append, ih]
    by_cases h : a < N
    · simp [h]; omega
    · simp [h]; omega
theorem free_fst {N Bz M j : Nat} {L : Nat → List UInt8} (h : ∀ p : Nat, usedP N Bz M L (p : Int) = (decide (M < p) && decide (p ≤ M + j))) : freeN N Bz M L N = N - (M + j + 1) := by
  unfold freeN
  rw [← count_gt N (M + j)]
  congr 1
  refine List.filter_congr fun i _ => ?_
  rw [free_used, h]
  by_cases h1 : M + j < i
  · have h2 : M < i := by omega
    have h3 : ¬ i ≤ M + j := by omega
    simp [h1, h2, h3]
  · by_cases h2 : M < i
    · have h3 : i ≤ M + j := by omega
      simp [h1, h2, h3]
    · simp [h1, h2]
/-- one more is free. -/
theorem count_flip {f f' : Nat → Bool} {N p : Nat} (hp : p < N) (h0 : f p = false) (h1 : f' p = true) (hs : ∀ k, k ≠ p → f' k = f k) : ((List.range N).filter f').length = ((List.range N).filter f).length + 1 := by
  induction N with
  | zero => omega
  | succ N ih =>
    rw [List.range_succ, List.filter_append, List.filter_append, List.length_append, List.length_append]
    by_cases e : p = N
    · subst e
      have : (List.range p).filter f' = (List.range p).filter f := List.filter_congr fun i hi => hs i (by have := List.mem_range.1 hi; omega)
      rw [this]
      simp [h0, h1]
    · rw [ih (by omega), List.filter_cons, List.filter_cons, hs N (by omega)]
      simp only [List.filter_nil]
      omega
theorem free_give {N Bz M : Nat} {L : Nat → List UInt8} (h : Dm N Bz M L) (p : Nat) (hp : M < p ∧ p < N) (hu : usedP N Bz M L (p : Int) = true) : freeN N Bz M (turnP Bz L p) N = freeN N Bz M L N + 1 := by
  unfold freeN
  refine count_flip hp.2 ?_ ?_ fun k hk => ?_
  · rw [free_used, hu]; simp
  · rw [free_used, usedP_turn h p hp, if_pos rfl, hu]; simp [hp.1]
  · rw [free_used, free_used, usedP_turn h p hp, if_neg (by omega)]
/-- behind a Commit the same pages are used. -/
theorem out_used {N Bz M : Nat} {L : Nat → List UInt8} {T : TX} (hd : Dm N Bz M T.L) (p : Int) : usedP N Bz M (outK N Bz M L T N) p = usedP N Bz M T.L p := by
  refine usedP_congr hd (fun k hk => ?_) p
  have hmn := hd.mn
  unfold outK
  split
  · rfl
  · rename_i h
    have h1 : chgAt N Bz M L T k = false := by
      cases hc : chgAt N Bz M L T k
      · rfl
      · exact absurd (by simp [hc]; omega) h
    unfold chgAt chg1 at h1
    have h2 : decide (k < M) = true := by simp [hk]
    rw [h2] at h1
    simp at h1
    exact h1.1.1.symm
structure Snd (N Bz M : Nat) (T : TX) (j n i first gone : Nat) : Prop where
  live : T.done = false
  rt : T.root = false
  d : Dm N Bz M T.L
  w : ∀ k, T.W k = false
  ro : le32 (T.L M) = 0
  hi : ∀ p : Nat, M + i < p → p ≤ M + j → usedP N Bz M T.L (p : Int) = true
  fr : freeN N Bz M T.L N = n + gone
  st : (first = 0 ∧ ∀ p : Nat, M < p → p ≤ M + j → usedP N Bz M T.L (p : Int) = true) ∨ (M < first ∧ first ≤ M + i ∧ usedP N Bz M T.L (first : Int) = false ∧ ∀ p : Nat, M < p → p < first → usedP N Bz M T.L (p : Int) = true)
  jN : M + 1 + j ≤ N
  ij : i ≤ j
theorem Snd.skip {N Bz M : Nat} {T : TX} {j n i first gone : Nat} (h : Snd N Bz M T j n i first gone) (hi : i < j) : Snd N Bz M T j n (i + 1) first gone :=
  ⟨h.live, h.rt, h.d, h.w, h.ro, fun p h1 h2 => h.hi p (by omega) h2, h.fr, h.st.imp (fun x => x) (fun x => ⟨x.1, by omega, x.2.2⟩), h.jN, hi⟩
theorem Snd.give {N Bz M : Nat} {T : TX} {j n i first gone : Nat} (h : Snd N Bz M T j n i first gone) (hi : i < j) : (T.give N Bz M ((M + 1 + i : Nat) : Int)).2 = 0 ∧ Snd N Bz M (T.give N Bz M ((M + 1 + i : Nat) : Int)).1 j n (i + 1) (if first = 0 then M + 1 + i else first) (gone + 1) := by
  have hu := h.hi (M + 1 + i) (by omega) (by omega)
  have hjN := h.jN
  have hp : M < M + 1 + i ∧ M + 1 + i < N := ⟨by omega, by omega⟩
  have hut := fun k => usedP_turn h.d (M + 1 + i) hp k
  have hnr : decide (((M + 1 + i : Nat) : Int) = ((0 : Nat) : Int)) = false := by simp; omega
  have hg : T.give N Bz M ((M + 1 + i : Nat) : Int) = ({ T with L := turnP Bz T.L (M + 1 + i) }, 0) := by
    unfold TX.give
    rw [h.live, hu, h.ro, hnr]
    rfl
  rw [hg]
  refine ⟨rfl, ⟨h.live, h.rt, h.d.turn _ hp.2, h.w, ?_, fun p h1 h2 => ?_, ?_, ?_, h.jN, hi⟩⟩
  · show le32 (turnP Bz T.L (M + 1 + i) M) = 0
    rw [turnP_hi h.d _ hp.2 M (Nat.le_refl _)]; exact h.ro
  · show usedP N Bz M (turnP Bz T.L (M + 1 + i)) (p : Int) = true
    rw [hut, if_neg (by omega)]; exact h.hi p (by omega) h2
  · show freeN N Bz M (turnP Bz T.L (M + 1 + i)) N = _
    rw [free_give h.d _ hp hu, h.fr, Nat.add_assoc]
  · right
    show M < _ ∧ _ ≤ M + (i + 1) ∧ usedP N Bz M (turnP Bz T.L (M + 1 + i)) _ = false ∧ ∀ p : Nat, M < p → p < _ → usedP N Bz M (turnP Bz T.L (M + 1 + i)) (p : Int) = true
    rcases h.st with ⟨e, hall⟩ | ⟨e1, e2, e3, e4⟩
    · rw [if_pos e]
      refine ⟨by omega, by omega, ?_, fun p h1 h2 => ?_⟩
      · rw [hut, if_pos rfl, hu]; rfl
      · rw [hut, if_neg (by omega)]; exact hall p h1 (by omega)
    · rw [if_neg (by omega)]
      refine ⟨e1, by omega, ?_, fun p h1 h2 => ?_⟩
      · rw [hut, if_neg (by omega)]; exact e3
      · rw [hut, if_neg (by omega)]; exact e4 p h1 h2
theorem Snd.chg {N Bz M : Nat} {T : TX} {L : Nat → List UInt8} {j n i first gone : Nat} (h : Snd N Bz M T j n i first gone) : chgN N Bz M L T N ≤ M := by
  unfold chgN
  have : (List.range N).filter (chgAt N Bz M L T) = (List.range N).filter (fun k => chg1 M L T k) := List.filter_congr fun k _ => by
    unfold chgAt
    rw [h.rt, h.w]
    simp
  rw [this]
  have h2 : ∀ K, ((List.range K).filter (fun k => chg1 M L T k)).length ≤ M := by
    intro K
    have : ((List.range K).filter (fun k => chg1 M L T k)).length ≤ ((List.range K).filter (fun k => decide (k < M))).length := by
      rw [← List.countP_eq_length_filter, ← List.countP_eq_length_filter]
      refine List.countP_mono_left fun k _ hk => ?_
      unfold chg1 at hk
      simp at hk ⊢
      exact hk.1
    refine Nat.le_trans this ?_
    induction K with
    | zero => simp
    | succ K ih =>
      rw [List.range_succ, List.filter_append, List.length_append]
      by_cases hK : K < M
      · have : ((List.range K).filter (fun k => decide (k < M))).length ≤ K := Nat.le_trans (List.length_filter_le _ _) (by simp)
        simp [hK]
        omega
      · simp [hK]
        exact ih (Nat.le_trans (by
          rw [← List.countP_eq_length_filter, ← List.countP_eq_length_filter]
          refine List.countP_mono_left fun k _ hk => ?_
          unfold chg1 at hk
          simp at hk ⊢
          exact hk.1) (Nat.le_refl _))
  exact h2 N
/-- the lowest that was given back is taken first. -/
theorem Snd.take {N Bz M : Nat} {T T' : TX} {j n i first gone : Nat} (h : Snd N Bz M T j n i first gone) (hf : first ≠ 0) (hd : T'.done = false) (hu : ∀ p : Int, usedP N Bz M T'.L p = usedP N Bz M T.L p) : (T'.take N Bz M).2 = ((first : Int), 0) := by
  rcases h.st with ⟨e, _⟩ | ⟨e1, e2, e3, e4⟩
  · exact absurd e hf
  · have hij := h.ij
    have hjN := h.jN
    have hfi := find_some (f := freeAt N Bz M T'.L) (N := N) (k := first) (by omega) (fun k hk => by
      rw [free_used, hu]
      by_cases h1 : M < k
      · rw [e4 k h1 hk]; simp
      · simp [h1]) (by rw [free_used, hu, e3]; simp [e1])
    unfold TX.take
    rw [hd, hfi]
    rfl
theorem Snd.start {N Bz M : Nat} {L : Nat → List UInt8} {j : Nat} (hd : Dm N Bz M L) (hj : M + 1 + j ≤ N) (hr : le32 (L M) = 0) (hu : ∀ p : Nat, usedP N Bz M L (p : Int) = (decide (M < p) && decide (p ≤ M + j))) (n : Nat) (hn : freeN N Bz M L N = n) : Snd N Bz M (TX.new L) j n 0 0 0 :=
  ⟨rfl, rfl, hd, fun _ => rfl, hr, fun p h1 h2 => by show usedP N Bz M L (p : Int) = true; rw [hu]; simp; omega, by show freeN N Bz M L N = _; rw [hn]; rfl, .inl ⟨rfl, fun p h1 h2 => by show usedP N Bz M L (p : Int) = true; rw [hu]; simp; omega⟩, hj, Nat.zero_le _⟩
end Go.Proofs.YtephmcbofcfpmaaGreat.Rp

set_option maxRecDepth 8000
set_option linter.unusedSimpArgs false
set_option linter.unusedVariables false
namespace Go.Proofs.YtephmcbofcfpmaaGreat
open Go.RowKit Go.Bs Go.Dk Rp

theorem small_yes (a b c : Int) (h1 : 3 ≤ a) (h2 : a ≤ 160) (h3 : 16 ≤ b) (h4 : b ≤ 40) (h5 : 1 ≤ c) (h6 : c ≤ 12) (h7 : 3 + 3 * c ≤ b) (w : World) : Calls Tryz.prog 10 #[.int .i64 a, .int .i64 b, .int .i64 c] w fun e w' => e = .returned (.bool true) ∧ w = w' := by
  go_enter Tryz.func10, Tryz.ntmps10
  go_wp2
  go_ret
  exact ⟨rfl, rfl⟩
set_option maxHeartbeats 1000000 in
theorem small_no (a b c : Int) (h : ¬ (3 ≤ a ∧ a ≤ 160 ∧ 16 ≤ b ∧ b ≤ 40)) (w : World) : Calls Tryz.prog 10 #[.int .i64 a, .int .i64 b, .int .i64 c] w fun e w' => e = .returned (.bool false) ∧ w = w' := by
  by_cases h1 : 3 ≤ a
  · by_cases h2 : a ≤ 160
    · by_cases h3 : 16 ≤ b
      · have h4 : ¬ b ≤ 40 := fun h4 => h ⟨h1, h2, h3, h4⟩
        clear h
        go_enter Tryz.func10, Tryz.ntmps10
        go_wp2
        go_ret
        exact ⟨rfl, rfl⟩
      · clear h
        go_enter Tryz.func10, Tryz.ntmps10
        go_wp2
        go_ret
        exact ⟨rfl, rfl⟩
    · clear h
      go_enter Tryz.func10, Tryz.ntmps10
      go_wp2
      go_ret
      exact ⟨rfl, rfl⟩
  · clear h
    go_enter Tryz.func10, Tryz.ntmps10
    go_wp2
    go_ret
    exact ⟨rfl, rfl⟩
theorem int_info : (Tryz.prog.info? 3).map (fun i => (i.zero, i.size, i.bytes)) = some (some (.int .i64 0), 1, 8) := by kernel_rfl
/-- a row of numbers of one's own. -/
def OwnI (w : World) (base : Nat) (v : Value) (ks : List Nat) : Prop := w.ownsRow base 3 1 v ks.length (ks.map fun k : Nat => Value.int .i64 (k : Int))
theorem OwnI.nil (w : World) (base : Nat) : OwnI w base (.slice none 0 0) [] := ⟨rfl, .inl ⟨rfl, rfl⟩⟩
theorem OwnI.block {w : World} {base : Nat} {v : Value} {ks : List Nat} (h : OwnI w base v ks) : ∀ k, v.ownBlock = some k → base ≤ k ∧ k < w.heap.size := fun k e => by
  rcases h.2 with ⟨rfl, _⟩ | ⟨g, cap, cur, rfl, hbg, hg, _⟩
  · cases e
  · have : g = k := by simpa [Value.ownBlock] using e
    subst this
    exact ⟨hbg, (Array.getElem?_eq_some_iff.1 hg).1⟩
theorem OwnI.keep {w w' : World} {base : Nat} {v : Value} {ks : List Nat} (h : OwnI w base v ks) (hk : ∀ k, v.ownBlock = some k → w'.heap[k]? = w.heap[k]?) : OwnI w' base v ks := ownsRow_keepB h hk
/-- one number more. -/
theorem OwnI.app {w : World} {base : Nat} {v : Value} {ks : List Nat} (h : OwnI w base v ks) (hbase : base ≤ w.heap.size) (hl : ks.length ≤ 100000) (x : Nat) (X : World) (hX : w.alloc (.cells #[.int .i64 (x : Int)] 3) = X) :
    ∃ v' w', (Builtin.append_ #[131, 131] 131 #[v, .slice (some ⟨w.heap.size, 0, none⟩) 1 1]).run Tryz.prog X = .ok v' w' ∧ OwnI w' base v' (ks ++ [x]) ∧ (∀ k, k < w.heap.size → v.ownBlock ≠ some k → w'.heap[k]? = w.heap[k]?) ∧ Below base w w' ∧ (∀ k, v'.ownBlock = some k → v.ownBlock = some k ∨ w.heap.size ≤ k) ∧ w.heap.size ≤ w'.heap.size := by
  obtain ⟨i0, hi, hz0, hz1, hz2⟩ := info_parts int_info
  have hXb : Below w.heap.size w X := by rw [← hX]; exact (Below.refl _ _).alloc (Nat.le_refl _) _
  have hXs : X.heap.size = w.heap.size + 1 := by rw [← hX, World.size_alloc]
  have hXn : X.heap[w.heap.size]? = some (.cells #[.int .i64 (x : Int)] 3 (0, 0)) := by rw [← hX]; exact heap_alloc_new w _
  have hX1 : OwnI X base v ks := h.keep fun k e => hXb.block k (h.block k e).2
  obtain ⟨g, cap, w', hrun, hown, hgr, hat, hlt⟩ := run_append_lies (P := Tryz.prog) X 131 131 base 3 i0 _ 1 8 Tryz.underlying131 hi hz0 hz1 hz2 rfl (by omega) v ks.length _ hX1 ⟨w.heap.size, 0, none⟩ 1 1 [.int .i64 (x : Int)] rfl
    (fun j u hj => by
      rw [addr_add, Nat.zero_add, cell_of_row X w.heap.size j _ 3 (0, 0) hXn, ← hj]
      exact List.getElem?_toArray) (by intro u hu; simp at hu; subst hu; rfl) (by omega) (by unfold maxLen; omega) (by omega) (by omega) _ rfl
  refine ⟨_, w', hrun, ?_, fun k hk hne => ?_, ?_, fun k e => ?_, by have := hgr.size; omega⟩
  · unfold OwnI
    rw [List.length_append, List.map_append]
    exact hown
  · exact (hgr.block k (by omega) (fun e => hne e.symm)).trans (hXb.block k hk)
  · exact ⟨hgr.os.trans hXb.os, hgr.tape.trans hXb.tape, hgr.output.trans hXb.output, Nat.le_trans hXb.size hgr.size, fun k hk => (hgr.block k (by omega) (fun e => by have := (h.block k e.symm).1; omega)).trans (hXb.block k (by omega))⟩
  · have e' : g = k := by simpa [Value.ownBlock] using e
    subst e'
    rcases hat with h1 | h1
    · exact .inl h1
    · exact .inr (by omega)
/-- the pages, with a row of numbers beside them; all lies above w0's memory. -/
def Si (w0 a : World) (pp t q g : Nat) (s : S) (log N Bz M : Nat) (L : Nat → List UInt8) (T : TX) (v : Value) (ks : List Nat) : Prop :=
  ∃ D, Sy a pp t q g s log N Bz M L T D ∧ (∀ k, D k → w0.heap.size ≤ k) ∧ Below w0.heap.size w0 a ∧ OwnI a w0.heap.size v ks ∧ ∀ k, v.ownBlock = some k → ¬ D k
theorem Si.step {w0 a b : World} {pp t t' q g : Nat} {s s' : S} {log N Bz M : Nat} {L L' : Nat → List UInt8} {T T' : TX} {D : Nat → Prop} {v : Value} {ks : List Nat} (h1 : Sy a pp t q g s log N Bz M L T D) (hD : ∀ k, D k → w0.heap.size ≤ k) (hb : Below w0.heap.size w0 a) (ho : OwnI a w0.heap.size v ks) (hn : ∀ k, v.ownBlock = some k → ¬ D k) (h : SyD D pp t' q g s' log N Bz M L' T' a b) : Si w0 b pp t' q g s' log N Bz M L' T' v ks := by
  obtain ⟨D', k1, k2, k3⟩ := h
  have hs := hb.size
  exact ⟨D', k1, fun k hk => (k2 k hk).elim (hD k) (fun e => by omega), hb.trans (k3.below hD hs), ho.keep (fun k e => k3.block k (ho.block k e).2 (hn k e)), fun k e hd => (k2 k hd).elim (hn k e) (fun e' => by have := (ho.block k e).2; omega)⟩
theorem Si.sp {w0 a : World} {pp t q g : Nat} {s : S} {log N Bz M : Nat} {L : Nat → List UInt8} {T : TX} {v : Value} {ks : List Nat} (h : Si w0 a pp t q g s log N Bz M L T v ks) : ∃ D, Sy a pp t q g s log N Bz M L T D ∧ Sp a pp q g s log N Bz M L D := by
  obtain ⟨D, h1, _⟩ := h
  exact ⟨D, h1, h1.sp⟩
section
variable (w0 a : World) (pp t q g : Nat) (s : S) (log N Bz M : Nat) (L : Nat → List UInt8) (T : TX) (v : Value) (ks : List Nat)
theorem iTake (h : Si w0 a pp t q g s log N Bz M L T v ks) : Calls Tryz.prog 19 #[.pointer (some ⟨t, 0, none⟩)] a fun e w' => e = .returned (.tuple #[.int .i64 (T.take N Bz M).2.1, .int .i64 (T.take N Bz M).2.2]) ∧ Si w0 w' pp t q g s log N Bz M L (T.take N Bz M).1 v ks := by
  obtain ⟨D, h1, h2, h3, h4, h5⟩ := h
  refine (sTake a pp t q g s log N Bz M L T D h1).mono ?_
  rintro e w' ⟨rfl, hp⟩
  exact ⟨rfl, Si.step h1 h2 h3 h4 h5 hp⟩
theorem iGive (h : Si w0 a pp t q g s log N Bz M L T v ks) (p : Int) : Calls Tryz.prog 21 #[.pointer (some ⟨t, 0, none⟩), .int .i64 p] a fun e w' => e = .returned (.int .i64 (T.give N Bz M p).2) ∧ Si w0 w' pp t q g s log N Bz M L (T.give N Bz M p).1 v ks := by
  obtain ⟨D, h1, h2, h3, h4, h5⟩ := h
  refine (sGive a pp t q g s log N Bz M L T D h1 p).mono ?_
  rintro e w' ⟨rfl, hp⟩
  exact ⟨rfl, Si.step h1 h2 h3 h4 h5 hp⟩
theorem iCommit (h : Si w0 a pp t q g s log N Bz M L T v ks) (hl0 : s.left = 0) (hdeeds : s.deeds + 8 * (log + 1) < 900000) : Calls Tryz.prog 29 #[.pointer (some ⟨t, 0, none⟩)] a fun e w' => e = .returned (.int .i64 (T.commit N Bz M log L).2.2) ∧ ∃ s', Si w0 w' pp t q g s' log N Bz M (T.commit N Bz M log L).1 (T.commit N Bz M log L).2.1 v ks ∧ s'.left = 0 ∧ s'.deeds ≤ s.deeds + 8 * (log + 1) := by
  obtain ⟨D, h1, h2, h3, h4, h5⟩ := h
  refine (sCommit a pp t q g s log N Bz M L T D h1 hl0 hdeeds).mono ?_
  rintro e w' ⟨rfl, s', hp, hx⟩
  exact ⟨rfl, s', Si.step h1 h2 h3 h4 h5 hp, hx⟩
theorem iBegin (h : Si w0 a pp t q g s log N Bz M L T v ks) : Calls Tryz.prog 16 #[.pointer (some ⟨pp, 0, none⟩)] a fun e w' => ∃ t', e = .returned (.pointer (some ⟨t', 0, none⟩)) ∧ Si w0 w' pp t' q g s log N Bz M L (TX.new L) v ks := by
  obtain ⟨D, h1, h2, h3, h4, h5⟩ := h
  refine (sBegin a pp q g s log N Bz M L D h1.sp).mono ?_
  rintro e w' ⟨t', rfl, _, hp, _⟩
  exact ⟨t', rfl, Si.step h1 h2 h3 h4 h5 hp⟩
theorem iFree (h : Si w0 a pp t q g s log N Bz M L T v ks) : Calls Tryz.prog 31 #[.pointer (some ⟨pp, 0, none⟩)] a fun e w' => e = .returned (.tuple #[.int .i64 (freeN N Bz M L N : Int), .int .i64 0]) ∧ Si w0 w' pp t q g s log N Bz M L T v ks := by
  obtain ⟨D, h1, h2, h3, h4, h5⟩ := h
  refine (sFree a pp q g s log N Bz M L D h1.sp).mono ?_
  rintro e w' ⟨rfl, _, hf, hy⟩
  exact ⟨rfl, D, hy t T h1, h2, h3.trans (hf.below h2 h3.size), h4.keep (fun k e => hf.block k (h4.block k e).2 (h5 k e)), h5⟩
/-- a number is put behind the row. -/
theorem Si.app {w0 a : World} {pp t q g : Nat} {s : S} {log N Bz M : Nat} {L : Nat → List UInt8} {T : TX} {v : Value} {ks : List Nat} (h : Si w0 a pp t q g s log N Bz M L T v ks) (hl : ks.length ≤ 100000) (x : Nat) (X : World) (hX : a.alloc (.cells #[.int .i64 (x : Int)] 3) = X) :
    ∃ v' w', (Builtin.append_ #[131, 131] 131 #[v, .slice (some ⟨a.heap.size, 0, none⟩) 1 1]).run Tryz.prog X = .ok v' w' ∧ Si w0 w' pp t q g s log N Bz M L T v' (ks ++ [x]) := by
  obtain ⟨D, h1, h2, h3, h4, h5⟩ := h
  obtain ⟨v', w', hrun, ho, hk, hb, hbk, hsz⟩ := h4.app h3.size hl x X hX
  refine ⟨v', w', hrun, D, h1.keep hsz (fun k hd => hk k (h1.lt k hd) (fun e => h5 k e hd)), h2, h3.trans hb, ho, fun k e hd => ?_⟩
  rcases hbk k e with h | h
  · exact h5 k h hd
  · have := h1.lt k hd; omega
end
theorem OwnI.rd {w : World} {base : Nat} {v : Value} {ks : List Nat} (h : OwnI w base v ks) : ∃ A c, v = .slice A ks.length c ∧ ks.length ≤ c ∧ (0 < ks.length → ∃ g, A = some ⟨g, 0, none⟩ ∧ base ≤ g ∧ g < w.heap.size ∧ ∀ j, j < ks.length → w.cell? ⟨g, j, none⟩ = some (.int .i64 ((ks.getD j 0 : Nat) : Int))) := ints_form h
end Go.Proofs.YtephmcbofcfpmaaGreat

